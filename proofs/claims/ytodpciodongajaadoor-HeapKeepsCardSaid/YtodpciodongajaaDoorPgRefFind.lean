/-
  Package pages' Find in whatever case, and the reference's Free and Find.
-/
import Derived.Test.YtodpciodongajaaDoorPgFind
namespace Go.Proofs.YtodpciodongajaaDoor.Cl
open Go.Proofs.YtodpciodongajaaDoor
set_option maxRecDepth 100000
open Go.RowKit

theorem isRun_no (c : Int) (w : World) (h : runB c = false) :
    Calls Tryd.prog 98 #[.int .i64 c] w fun e w' => e = .returned (.bool false) ∧ w = w' := by
  rw [← h]; exact isRun_any c w
theorem isRun_yes (c : Int) (w : World) (h : runB c = true) :
    Calls Tryd.prog 98 #[.int .i64 c] w fun e w' => e = .returned (.bool true) ∧ w = w' := by
  rw [← h]; exact isRun_any c w
theorem isClass_no (c : Int) (w : World) (h : clB c = false) :
    Calls Tryd.prog 97 #[.int .i64 c] w fun e w' => e = .returned (.bool false) ∧ w = w' := by
  rw [← h]; exact isClass_any c w
theorem isClass_yes (c : Int) (w : World) (h : clB c = true) :
    Calls Tryd.prog 97 #[.int .i64 c] w fun e w' => e = .returned (.bool true) ∧ w = w' := by
  rw [← h]; exact isClass_any c w

set_option maxHeartbeats 400000 in
theorem rfree_any (B : Nat) (A : Option Addr) (n c : Nat) (f : Nat → Int × Int) (a m : Nat) (w : World) (hn : n ≤ 1000) (ham : a + m ≤ n) (hr : PRow w B A n f) :
    Calls Tryd.prog 22 #[.slice A n c, .int .i64 a, .int .i64 m] w fun e w' => e = .returned (.bool (freeB f a m)) ∧ w = w' := by
  have HR := Lib.hid hr
  clear hr
  go_enter Tryd.func22, Tryd.ntmps22
  go_wp2
  go_loop [7] (fun i => ∃ q : Nat, a ≤ q ∧ q ≤ a + m ∧ i = .int .i64 q ∧ Open f a (q - a)) (fun i => a + m - (intOf i).toNat)
  case atStart => exact ⟨a, by omega, by omega, rfl, by rw [Nat.sub_self]; exact Open.zero f a⟩
  case round =>
    obtain ⟨q, hq1, hq2, rfl, ho⟩ := hrel
    have HO := Lib.hid ho
    clear ho
    by_cases hlt : q < a + m
    · obtain ⟨b, off, rfl, _, hc⟩ := HR.out (by omega)
      obtain ⟨c0, c1⟩ := hc q (by omega)
      have hd : decide ((q : Int) < a + m) = true := by simp; omega
      clear hc
      by_cases hf : (f q).1 = 0
      · have HO2 := Lib.hid (HO.out.next (by rw [show a + (q - a) = q by omega]; exact hf))
        have e0 : ((f q).1 != 0) = false := by simpa using hf
        clear hf
        go_wp2
        go_round
        case rel => exact ⟨q + 1, by omega, by omega, by go_num, by rw [show q + 1 - a = q - a + 1 by omega]; exact HO2.out⟩
        case measure => simp [intOf]; omega
      · have HF := Lib.hid (freeB_not (f := f) (a := a) (n := m) (j := q - a) (by omega) (by rw [show a + (q - a) = q by omega]; exact hf))
        have e0 : ((f q).1 != 0) = true := by simpa using hf
        clear hf
        go_wp2
        go_ret
        exact ⟨rint HF.out.symm, rfl⟩
    · have hd : decide ((q : Int) < a + m) = false := by simp; omega
      have HF := Lib.hid ((freeB_iff f a m).2 (by have := HO.out; rwa [show q - a = m by omega] at this))
      go_wp2
      go_ret
      exact ⟨rint HF.out.symm, rfl⟩
theorem rfree_yes (B : Nat) (A : Option Addr) (n c : Nat) (f : Nat → Int × Int) (a m : Nat) (w : World) (h : freeB f a m = true) (hn : n ≤ 1000) (ham : a + m ≤ n) (hr : PRow w B A n f) :
    Calls Tryd.prog 22 #[.slice A n c, .int .i64 a, .int .i64 m] w fun e w' => e = .returned (.bool true) ∧ w = w' := by
  rw [← h]; exact rfree_any B A n c f a m w hn ham hr
theorem rfree_no (B : Nat) (A : Option Addr) (n c : Nat) (f : Nat → Int × Int) (a m : Nat) (w : World) (h : freeB f a m = false) (hn : n ≤ 1000) (ham : a + m ≤ n) (hr : PRow w B A n f) :
    Calls Tryd.prog 22 #[.slice A n c, .int .i64 a, .int .i64 m] w fun e w' => e = .returned (.bool false) ∧ w = w' := by
  rw [← h]; exact rfree_any B A n c f a m w hn ham hr

end Go.Proofs.YtodpciodongajaaDoor.Cl
