/-
  Package pages' May: which pages may be.
-/
import Derived.Test.YtlmaeppckaempaaDoorPgMay
namespace Go.Proofs.YtlmaeppckaempaaDoor
open Go.RowKit

theorem pmay_yes (p : Int × Int) (w : World) (h : pmB p = true) :
    Calls Tryd.prog 35 #[.agg #[.int .i64 p.1, .int .i64 p.2]] w fun e w' => e = .returned (.bool true) ∧ Below w.heap.size w w' := by
  rw [← h]; exact pmay_any p w
theorem pmay_no (p : Int × Int) (w : World) (h : pmB p = false) :
    Calls Tryd.prog 35 #[.agg #[.int .i64 p.1, .int .i64 p.2]] w fun e w' => e = .returned (.bool false) ∧ Below w.heap.size w w' := by
  rw [← h]; exact pmay_any p w

/-- The first k pages are right. -/
def Good (f : Nat → Int × Int) (k : Nat) : Prop := ∀ j, j < k → okB f j = true
theorem Good.zero (f : Nat → Int × Int) : Good f 0 := fun j h => absurd h (by omega)
theorem Good.next {f : Nat → Int × Int} {k : Nat} (h : Good f k) (hk : okB f k = true) : Good f (k + 1) := fun j hj => by
  by_cases e : j = k
  · rw [e]; exact hk
  · exact h j (by omega)
theorem Good.st {f : Nat → Int × Int} {k : Nat} (h : Good f k) : 0 ≤ st f k ∧ st f k ≤ 3 := st_nonneg h k (Nat.le_refl _)
theorem okB_no {f : Nat → Int × Int} {k : Nat} (h : pmB (f k) = false) : okB f k = false := by simp [okB, h]
theorem okB_alone {f : Nat → Int × Int} {k : Nat} (h3 : (f k).1 = 3) (h : ¬ 0 < st f k) : okB f k = false := by simp [okB, h3]; omega
theorem okB_gap {f : Nat → Int × Int} {k : Nat} (h3 : (f k).1 ≠ 3) (h : 0 < st f k) : okB f k = false := by simp [okB, h3]; omega
theorem okB_yes {f : Nat → Int × Int} {k : Nat} (h : pmB (f k) = true) (h3 : (f k).1 = 3 ↔ 0 < st f k) : okB f k = true := (okB_iff f k).2 ⟨h, h3⟩
theorem st_large {f : Nat → Int × Int} {k : Nat} (h : (f k).1 = 2) : Go.Proofs.YtlmaeppckaempaaDoor.st f (k + 1) = (f k).2 - 1 := by
  show (if (f k).1 = 2 then _ else _) = _
  rw [if_pos h]
theorem st_rest {f : Nat → Int × Int} {k : Nat} (h : (f k).1 = 3) (hs : 0 < Go.Proofs.YtlmaeppckaempaaDoor.st f k) : Go.Proofs.YtlmaeppckaempaaDoor.st f (k + 1) = Go.Proofs.YtlmaeppckaempaaDoor.st f k - 1 := by
  show (if (f k).1 = 2 then _ else _) = _
  rw [if_neg (by omega), if_pos hs]
theorem st_same {f : Nat → Int × Int} {k : Nat} (h : (f k).1 ≠ 2) (hs : ¬ 0 < Go.Proofs.YtlmaeppckaempaaDoor.st f k) : Go.Proofs.YtlmaeppckaempaaDoor.st f (k + 1) = Go.Proofs.YtlmaeppckaempaaDoor.st f k := by
  show (if (f k).1 = 2 then _ else _) = _
  rw [if_neg h, if_neg hs]
theorem rint {a b : Bool} (h : a = b) : Ending.returned (.bool a) = .returned (.bool b) := by rw [h]
/-- A block of two numbers that was just laid, behind a call that left it. -/
theorem pair_kept {w w1 : World} {a b : Int} {t : TypeId} (hb : Below (w.alloc (.cells #[.int .i64 a, .int .i64 b] t)).heap.size (w.alloc (.cells #[.int .i64 a, .int .i64 b] t)) w1) :
    w1.cell? ⟨w.heap.size, 0, none⟩ = some (.int .i64 a) ∧ w1.cell? ⟨w.heap.size, 1, none⟩ = some (.int .i64 b) ∧ w.heap.size < w1.heap.size := by
  refine ⟨(hb.cell (p := ⟨w.heap.size, 0, none⟩) (by simp)).trans (by simp [go_sem]), (hb.cell (p := ⟨w.heap.size, 1, none⟩) (by simp)).trans (by simp [go_sem]), ?_⟩
  have := hb.size
  simp at this
  omega
theorem below_pair {w0 w w1 : World} {o : Obj} (h : Below w0.heap.size w0 w) (hb : Below (w.alloc o).heap.size (w.alloc o) w1) : Below w0.heap.size w0 w1 :=
  (h.alloc h.size o).trans (hb.mono (by have := h.size; simp; omega))

set_option maxHeartbeats 1000000 in
theorem may_any (B : Nat) (A : Option Addr) (n c : Nat) (f : Nat → Int × Int) (w : World) (hn : n ≤ 1000) (hr : PRow w B A n f) (hB : B ≤ w.heap.size) :
    Calls Tryd.prog 22 #[.slice A n c] w fun e w' => e = .returned (.bool (mayB f n)) ∧ Below w.heap.size w w' := by
  have HR := Lib.hid hr
  clear hr
  by_cases h1 : n < 1
  · have HM := Lib.hid (mayB_short (f := f) (n := n) (.inl h1))
    obtain rfl : n = 0 := by omega
    go_enter Tryd.func22, Tryd.ntmps22
    go_wp2
    go_ret
    exact ⟨rint HM.out.symm, Below.refl _ _⟩
  by_cases h2 : 64 < n
  · have HM := Lib.hid (mayB_short (f := f) (n := n) (.inr h2))
    go_enter Tryd.func22, Tryd.ntmps22
    go_wp2
    go_ret
    exact ⟨rint HM.out.symm, Below.refl _ _⟩
  go_enter Tryd.func22, Tryd.ntmps22
  go_wp2
  go_loopw [3, 16] (fun v i wr => ∃ k : Nat, k ≤ n ∧ i = .int .i64 k ∧ v = .int .i64 (st f k) ∧ Good f k ∧ Below w.heap.size w wr) (fun _ i _ => n - (intOf i).toNat)
  case atStart => exact ⟨0, Nat.zero_le _, rfl, rfl, Good.zero f, Below.refl _ _⟩
  case round =>
    obtain ⟨k, hk, rfl, rfl, hg, hb⟩ := hrel
    have hs := hg.st
    have HG := Lib.hid hg
    clear hg
    by_cases hlt : k < n
    · obtain ⟨b, off, rfl, hbB, hc⟩ := (HR.out.over hb hB) (by omega)
      obtain ⟨c0, c1⟩ := hc k hlt
      have HB := Lib.hid hb
      have hz := hb.size
      clear hb hc
      cases hp : pmB (f k)
      · have HM := Lib.hid (mayB_not hlt (okB_no hp))
        have HP := Lib.hid hp
        clear hp
        go_wp2_with fail
        refine (pmay_no _ _ HP.out).mono ?_
        rintro e w1 ⟨rfl, hb1⟩
        go_wp2
        go_ret
        exact ⟨rint HM.out.symm, below_pair HB.out hb1⟩
      · have HP := Lib.hid hp
        by_cases h3 : (f k).1 = 3
        · have e3 : ((f k).1 == 3) = true := by simpa using h3
          have e2 : ((f k).1 == 2) = false := by rw [h3]; decide
          by_cases hs0 : 0 < st f k
          · have HS := Lib.hid (st_rest h3 hs0)
            have HO := Lib.hid (okB_yes hp ⟨fun _ => hs0, fun _ => h3⟩)
            have hd : decide (0 < st f k) = true := by simpa using hs0
            clear hp h3
            go_wp2_with fail
            refine (pmay_yes _ _ HP.out).mono ?_
            rintro e w1 ⟨rfl, hb1⟩
            have HB1 := Lib.hid hb1
            obtain ⟨k0, k1, hz1⟩ := pair_kept hb1
            clear hb1
            go_wp2
            go_roundw
            case rel => exact ⟨k + 1, by omega, by go_num, by rw [HS.out], HG.out.next HO.out, below_pair HB.out HB1.out⟩
            case measure => simp [intOf]; omega
          · have HM := Lib.hid (mayB_not hlt (okB_alone h3 hs0))
            have hd : decide (0 < st f k) = false := by simpa using hs0
            clear hp h3
            go_wp2_with fail
            refine (pmay_yes _ _ HP.out).mono ?_
            rintro e w1 ⟨rfl, hb1⟩
            have HB1 := Lib.hid hb1
            obtain ⟨k0, k1, hz1⟩ := pair_kept hb1
            clear hb1
            go_wp2
            go_ret
            exact ⟨rint HM.out.symm, below_pair HB.out HB1.out⟩
        · have e3 : ((f k).1 == 3) = false := by simpa using h3
          by_cases hs0 : 0 < st f k
          · have HM := Lib.hid (mayB_not hlt (okB_gap h3 hs0))
            have hd : decide (0 < st f k) = true := by simpa using hs0
            clear hp h3
            go_wp2_with fail
            refine (pmay_yes _ _ HP.out).mono ?_
            rintro e w1 ⟨rfl, hb1⟩
            have HB1 := Lib.hid hb1
            obtain ⟨k0, k1, hz1⟩ := pair_kept hb1
            clear hb1
            go_wp2
            go_ret
            exact ⟨rint HM.out.symm, below_pair HB.out HB1.out⟩
          · have HO := Lib.hid (okB_yes hp ⟨fun h => absurd h h3, fun h => absurd h hs0⟩)
            have hd : decide (0 < st f k) = false := by simpa using hs0
            have ha : (f k).1 = 2 → 1 ≤ (f k).2 ∧ (f k).2 ≤ 4 := fun h => by have := (pmB_iff _).1 hp; omega
            by_cases h2' : (f k).1 = 2
            · have HS := Lib.hid (st_large h2')
              have e2 : ((f k).1 == 2) = true := by simpa using h2'
              obtain ⟨a1, a2⟩ := ha h2'
              clear hp h3 h2' ha
              go_wp2_with fail
              refine (pmay_yes _ _ HP.out).mono ?_
              rintro e w1 ⟨rfl, hb1⟩
              have HB1 := Lib.hid hb1
              obtain ⟨k0, k1, hz1⟩ := pair_kept hb1
              clear hb1
              go_wp2
              go_roundw
              case rel => exact ⟨k + 1, by omega, by go_num, by rw [HS.out], HG.out.next HO.out, below_pair HB.out HB1.out⟩
              case measure => simp [intOf]; omega
            · have HS := Lib.hid (st_same h2' hs0)
              have e2 : ((f k).1 == 2) = false := by simpa using h2'
              clear hp h3 h2' ha
              go_wp2_with fail
              refine (pmay_yes _ _ HP.out).mono ?_
              rintro e w1 ⟨rfl, hb1⟩
              have HB1 := Lib.hid hb1
              obtain ⟨k0, k1, hz1⟩ := pair_kept hb1
              clear hb1
              go_wp2
              go_roundw
              case rel => exact ⟨k + 1, by omega, by go_num, by rw [HS.out], HG.out.next HO.out, below_pair HB.out HB1.out⟩
              case measure => simp [intOf]; omega
    · obtain rfl : k = n := by omega
      by_cases h0 : st f k = 0
      · have HM := Lib.hid (mayB_mk (by omega) (by omega) HG.out h0)
        have hd : (st f k == 0) = true := by simpa using h0
        clear h0
        go_wp2
        go_ret
        exact ⟨rint HM.out.symm, hb⟩
      · have HM := Lib.hid (mayB_end h0)
        have hd : (st f k == 0) = false := by simpa using h0
        clear h0
        go_wp2
        go_ret
        exact ⟨rint HM.out.symm, hb⟩
theorem may_yes (B : Nat) (A : Option Addr) (n c : Nat) (f : Nat → Int × Int) (w : World) (h : mayB f n = true) (hr : PRow w B A n f) (hB : B ≤ w.heap.size) :
    Calls Tryd.prog 22 #[.slice A n c] w fun e w' => e = .returned (.bool true) ∧ Below w.heap.size w w' := by
  rw [← h]
  have := (mayB_iff f n).1 h
  exact may_any B A n c f w (by omega) hr hB
theorem may_no (B : Nat) (A : Option Addr) (n c : Nat) (f : Nat → Int × Int) (w : World) (h : mayB f n = false) (hn : n ≤ 1000) (hr : PRow w B A n f) (hB : B ≤ w.heap.size) :
    Calls Tryd.prog 22 #[.slice A n c] w fun e w' => e = .returned (.bool false) ∧ Below w.heap.size w w' := by
  rw [← h]
  exact may_any B A n c f w hn hr hB
end Go.Proofs.YtlmaeppckaempaaDoor
