/-
  The chapter's example, of package cells: a small page of class 2, and a large one of two.
-/
import Derived.Test.YtlmaeppckaempaaDoorClPlain
import Derived.Test.YtlmaeppckaempaaDoorClInts
namespace Go.Proofs.YtlmaeppckaempaaDoor
open Go.RowKit

def exC : Nat → Int × Int := fun i => if i = 0 then (1, 2) else if i = 1 then (2, 2) else (3, 0)
theorem start_is (B : Nat) (A : Option Addr) (n c : Nat) (f : Nat → Int × Int) (a : Int) (w : World) (k : Int) (s : Bool) (hv : (foundV (allL f n) (pIn a)).1 = k) (hs : foundS (allL f n) (pIn a) = s) (hn : n ≤ 1000) (hz : Sz w) (hr : PRow w B A n f) (hB : B ≤ w.heap.size) :
    Calls Tryd.prog 16 #[.slice A n c, .int .i64 a] w fun e w' => e = .returned (.tuple #[.int .i64 k, .bool s]) ∧ Below w.heap.size w w' := by
  rw [← hv, ← hs]
  exact start_any B A n c f a w hn hz hr hB
theorem room_is (B : Nat) (A : Option Addr) (n c : Nat) (f : Nat → Int × Int) (a : Int) (w : World) (k : Int) (hv : (foundV (allL f n) (pAt a)).2 = k) (hn : n ≤ 1000) (hz : Sz w) (hr : PRow w B A n f) (hB : B ≤ w.heap.size) :
    Calls Tryd.prog 20 #[.slice A n c, .int .i64 a] w fun e w' => e = .returned (.int .i64 k) ∧ Below w.heap.size w w' := by
  rw [← hv]
  exact room_any B A n c f a w hn hz hr hB
theorem next_is (B : Nat) (A : Option Addr) (n c : Nat) (f : Nat → Int × Int) (a : Int) (w : World) (k : Int) (s : Bool) (hv : (foundV (allL f n) (pUp a)).1 = k) (hs : foundS (allL f n) (pUp a) = s) (hn : n ≤ 1000) (hz : Sz w) (hr : PRow w B A n f) (hB : B ≤ w.heap.size) :
    Calls Tryd.prog 18 #[.slice A n c, .int .i64 a] w fun e w' => e = .returned (.tuple #[.int .i64 k, .bool s]) ∧ Below w.heap.size w w' := by
  rw [← hv, ← hs]
  exact next_any B A n c f a w hn hz hr hB
theorem all_is (B : Nat) (A : Option Addr) (n c : Nat) (f : Nat → Int × Int) (w : World) (xs : List Int) (hx : allS f n = xs) (hn : n ≤ 1000) (hz : Sz w) (hr : PRow w B A n f) (hB : B ≤ w.heap.size) :
    Calls Tryd.prog 14 #[.slice A n c] w (Listed w xs) := by
  rw [← hx]
  exact all_any B A n c f w hn hz hr hB
theorem row_lit3 (w : World) (a b c : Int) : Row (w.alloc (.cells #[.int .i64 a, .int .i64 b, .int .i64 c] 3)) (w.heap.size + 1) (some ⟨w.heap.size, 0, none⟩) 3 [a, b, c] := by
  refine ⟨rfl, fun _ => ⟨_, _, rfl, by omega, fun i hi => ?_⟩⟩
  match i, hi with
  | 0, _ => simp [go_sem]
  | 1, _ => simp [go_sem]
  | 2, _ => simp [go_sem]

theorem awake_yes (w : World) (hz : Sz w) :
    Calls Tryd.prog 10 #[] w fun e w' => e = .returned (.bool true) ∧ Below w.heap.size w w' := by
  have HA : Hid (PRow (w.alloc (.cells #[.int .i64 1, .int .i64 2, .int .i64 2, .int .i64 2, .int .i64 3, .int .i64 0] 34)) (w.heap.size + 1) (some ⟨w.heap.size, 0, none⟩) 3 exC) := Lib.hid fun _ => by
    refine ⟨_, _, rfl, by omega, fun i hi => ?_⟩
    match i, hi with
    | 0, _ => exact ⟨by simp [go_sem, exC], by simp [go_sem, exC]⟩
    | 1, _ => exact ⟨by simp [go_sem, exC], by simp [go_sem, exC]⟩
    | 2, _ => exact ⟨by simp [go_sem, exC], by simp [go_sem, exC]⟩
  have HW : Hid (Below w.heap.size w (w.alloc (.cells #[.int .i64 1, .int .i64 2, .int .i64 2, .int .i64 2, .int .i64 3, .int .i64 0] 34))) := Lib.hid ((Below.refl _ _).alloc (Nat.le_refl _) _)
  have HZ := Lib.hid hz
  have hp := hz.pos
  have HZ0 : Hid (Sz (w.alloc (.cells #[.int .i64 1, .int .i64 2, .int .i64 2, .int .i64 2, .int .i64 3, .int .i64 0] 34))) := Lib.hid (hz.alloc _)
  clear hz
  go_enter Tryd.func10, Tryd.ntmps10
  go_wp2_with fail
  refine (start_is (w.heap.size + 1) _ _ _ _ _ _ 32 true (by decide) (by decide) (by decide) HZ0.out HA.out (by simp)).mono ?_
  rintro e w1 ⟨rfl, hb1⟩
  have HA1 := Lib.hid (HA.out.over hb1 (by simp))
  have hz1 := hb1.size
  have HW1 := Lib.hid (HW.out.trans (hb1.mono (by simp)))
  have HZ1 := Lib.hid (HZ.out.over HW1.out hp)
  simp at hz1
  clear hb1
  go_wp2_with fail
  refine (all_is (w.heap.size + 1) _ _ _ _ _ [16, 24, 32] (by decide) (by decide) HZ1.out HA1.out (by omega)).mono ?_
  rintro e w2 ⟨a2, c2, rfl, hr2, _, _, hb2⟩
  have HR2 := Lib.hid (hr2.alloc (.cells #[.int .i64 16, .int .i64 24, .int .i64 32] 3) (Nat.le_refl _))
  have HL2 := Lib.hid (row_lit3 w2 16 24 32)
  have hz2 := hb2.size
  have HW2 := Lib.hid (HW1.out.trans (hb2.mono (by omega)))
  have HA2 := Lib.hid (HA1.out.over hb2 (by omega))
  clear hb2 hr2
  go_wp2_with fail
  refine (ints_same _ _ _ _ 3 _ _ [16, 24, 32] _ (by decide) HR2.out HL2.out).mono ?_
  rintro e w3 ⟨rfl, hb3⟩
  have hz3 := hb3.size
  have HW3 := Lib.hid (below_pair HW2.out hb3)
  have HA3 := Lib.hid ((HA2.out.alloc (.cells #[.int .i64 16, .int .i64 24, .int .i64 32] 3) (by omega)).over hb3 (by simp; omega))
  have HZ3 := Lib.hid (HZ.out.over HW3.out hp)
  simp at hz3
  clear hb3
  go_wp2_with fail
  refine (room_is (w.heap.size + 1) _ _ _ _ _ _ 32 (by decide) (by decide) HZ3.out HA3.out (by omega)).mono ?_
  rintro e w4 ⟨rfl, hb4⟩
  have HW4 := Lib.hid (HW3.out.trans (hb4.mono (by omega)))
  clear hb4
  go_wp2
  go_ret
  exact ⟨rfl, HW4.out⟩
end Go.Proofs.YtlmaeppckaempaaDoor
