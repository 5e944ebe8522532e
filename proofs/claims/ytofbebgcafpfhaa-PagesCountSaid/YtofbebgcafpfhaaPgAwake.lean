/-
  The chapter's example, of package pages: free, small, free, free: one page is found at 0, two at 2.
-/
import Derived.Test.YtofbebgcafpfhaaPgRefDrop
namespace Go.Proofs.Ytofbebgcafpfhaa
open Go.RowKit

theorem find_is (B : Nat) (A : Option Addr) (n c : Nat) (f : Nat → Int × Int) (m : Int) (w : World) (k : Int) (s : Bool) (hv : findV f n m = k) (hs : findS f n m = s) (hn : n ≤ 1000) (hnc : n ≤ c) (hr : PRow w B A n f) (hB : B ≤ w.heap.size) :
    Calls Try.prog 11 #[.slice A n c, .int .i64 m] w fun e w' => e = .returned (.tuple #[.int .i64 k, .bool s]) ∧ Below w.heap.size w w' := by
  rw [← hv, ← hs]
  exact find_any B A n c f m w hn hnc hr hB
/-- Pages were taken, or dropped. -/
def TDone (w : World) (n : Nat) (g : Nat → Int × Int) (e : Ending) (w' : World) : Prop :=
  ∃ A c, e = .returned (.tuple #[.slice A n c, .int .i64 0]) ∧ PRow w' w'.heap.size A n g ∧ n ≤ c ∧ Below w.heap.size w w'
/-- An error was told. -/
def TErr (w : World) (E : Int) (e : Ending) (w' : World) : Prop :=
  ∃ A c, e = .returned (.tuple #[.slice A 0 c, .int .i64 E]) ∧ Below w.heap.size w w'
theorem TOut.done {w w' : World} {E : Int} {n : Nat} {g : Nat → Int × Int} {e : Ending} (h : TOut w E n g e w') (h0 : E = 0) : TDone w n g e w' := by
  subst h0
  obtain ⟨A, c, h1, h2, h3, h4⟩ := h
  have e0 : outN 0 n = n := if_pos rfl
  rw [e0] at h1 h2 h3
  exact ⟨A, c, h1, h2, h3, h4⟩
theorem TOut.fails {w w' : World} {E : Int} {n : Nat} {g : Nat → Int × Int} {e : Ending} (h : TOut w E n g e w') (h0 : E ≠ 0) : TErr w E e w' := by
  obtain ⟨A, c, h1, h2, h3, h4⟩ := h
  have e0 : outN E n = 0 := if_neg h0
  rw [e0] at h1
  exact ⟨A, c, h1, h4⟩

def exF : Nat → Int × Int := fun i => if i = 1 then (1, 1) else (0, 0)
theorem awake_yes (w : World) :
    Calls Try.prog 10 #[] w fun e w' => e = .returned (.bool true) ∧ Below w.heap.size w w' := by
  have HA : Hid (PRow (w.alloc (.cells #[.int .i64 0, .int .i64 0, .int .i64 1, .int .i64 1, .int .i64 0, .int .i64 0, .int .i64 0, .int .i64 0] 36)) (w.heap.size + 1) (some ⟨w.heap.size, 0, none⟩) 4 exF) := Lib.hid fun _ => by
    refine ⟨_, _, rfl, by omega, fun i hi => ?_⟩
    match i, hi with
    | 0, _ => exact ⟨by simp [go_sem, exF], by simp [go_sem, exF]⟩
    | 1, _ => exact ⟨by simp [go_sem, exF], by simp [go_sem, exF]⟩
    | 2, _ => exact ⟨by simp [go_sem, exF], by simp [go_sem, exF]⟩
    | 3, _ => exact ⟨by simp [go_sem, exF], by simp [go_sem, exF]⟩
  have HW : Hid (Below w.heap.size w (w.alloc (.cells #[.int .i64 0, .int .i64 0, .int .i64 1, .int .i64 1, .int .i64 0, .int .i64 0, .int .i64 0, .int .i64 0] 36))) := Lib.hid ((Below.refl _ _).alloc (Nat.le_refl _) _)
  go_enter Try.func10, Try.ntmps10
  go_wp2_with fail
  refine (find_is (w.heap.size + 1) _ _ _ _ _ _ 0 true (by decide) (by decide) (by decide) (by decide) HA.out (by simp)).mono ?_
  rintro e w1 ⟨rfl, hb1⟩
  have HA1 := Lib.hid (HA.out.over hb1 (by simp))
  have hz1 := hb1.size
  have HW1 := Lib.hid (HW.out.trans (hb1.mono (by simp)))
  simp at hz1
  clear hb1
  go_wp2_with fail
  refine (find_is (w.heap.size + 1) _ _ _ _ _ _ 2 true (by decide) (by decide) (by decide) (by decide) HA1.out (by omega)).mono ?_
  rintro e w2 ⟨rfl, hb2⟩
  have HA2 := Lib.hid (HA1.out.over hb2 (by omega))
  have hz2 := hb2.size
  have HW2 := Lib.hid (HW1.out.trans (hb2.mono (by omega)))
  clear hb2
  go_wp2_with fail
  refine ((large_any (w.heap.size + 1) _ _ _ _ _ _ _ (by decide) (by decide) HA2.out (by omega)).mono fun _ _ h => h.done (by decide)).mono ?_
  rintro e w3 ⟨A, c, rfl, hrow, hle, hb3⟩
  have HR3 := Lib.hid hrow
  have hz3 := hb3.size
  have HW3 := Lib.hid (HW2.out.trans (hb3.mono (by omega)))
  clear hb3 hrow
  go_wp2_with fail
  refine (may_yes _ _ _ _ _ _ (by decide) HR3.out (Nat.le_refl _)).mono ?_
  rintro e w4 ⟨rfl, hb4⟩
  go_wp2
  go_ret
  exact ⟨rfl, HW3.out.trans (hb4.mono (by omega))⟩
end Go.Proofs.Ytofbebgcafpfhaa
