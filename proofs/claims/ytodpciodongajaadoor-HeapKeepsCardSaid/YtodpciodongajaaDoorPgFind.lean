/-
  Package pages' Find, and the reference's: the first place from which on so many pages are free.
-/
import Derived.Test.YtodpciodongajaaDoorHpZD
import Derived.Deep.LoopGhost
namespace Go.Proofs.YtodpciodongajaaDoor.Cl
open Go.Proofs.YtodpciodongajaaDoor
set_option maxRecDepth 100000
open Go.RowKit

def findO (f : Nat → Int × Int) (n : Nat) (m : Int) : Option Nat := if mayB f n && runB m then (List.range (n + 1 - m.toNat)).find? (fun k => freeB f k m.toNat) else none
def findV (f : Nat → Int × Int) (n : Nat) (m : Int) : Int := match findO f n m with | some k => k | none => 0
def findS (f : Nat → Int × Int) (n : Nat) (m : Int) : Bool := (findO f n m).isSome
theorem findO_some {f : Nat → Int × Int} {n : Nat} {m : Int} {k : Nat} : findO f n m = some k ↔ mayB f n = true ∧ runB m = true ∧ k + m.toNat ≤ n ∧ freeB f k m.toNat = true ∧ ∀ j, j < k → freeB f j m.toNat = false := by
  unfold findO
  by_cases h : mayB f n = true ∧ runB m = true
  · have hm := (runB_iff m).1 h.2
    rw [if_pos (by simp [h.1, h.2]), List.find?_range_eq_some]
    simp only [h.1, h.2, true_and, List.mem_range, Bool.not_eq_true', and_left_comm]
    constructor
    · rintro ⟨a, b, c⟩; exact ⟨by omega, by simpa using b, c⟩
    · rintro ⟨a, b, c⟩; exact ⟨by omega, by simpa using b, c⟩
  · rw [if_neg (by simpa using h)]
    constructor
    · intro h'; cases h'
    · rintro ⟨a, b, _⟩; exact absurd ⟨a, b⟩ h
theorem findO_none {f : Nat → Int × Int} {n : Nat} {m : Int} (h : ∀ k, k + m.toNat ≤ n → freeB f k m.toNat = false) : findO f n m = none := by
  cases e : findO f n m with
  | none => rfl
  | some k =>
    have := findO_some.1 e
    rw [h k this.2.2.1] at this
    exact absurd this.2.2.2.1 (by decide)
theorem findO_bad {f : Nat → Int × Int} {n : Nat} {m : Int} (h : mayB f n = false ∨ runB m = false) : findO f n m = none := by
  cases e : findO f n m with
  | none => rfl
  | some k =>
    have := findO_some.1 e
    rcases h with h | h <;> rw [h] at this <;> simp at this
theorem found {f : Nat → Int × Int} {n : Nat} {m : Int} {k : Nat} (h : findO f n m = some k) :
    Ending.returned (.tuple #[.int .i64 k, .bool true]) = .returned (.tuple #[.int .i64 (findV f n m), .bool (findS f n m)]) := by
  unfold findV findS; rw [h]; rfl
theorem nowhere {f : Nat → Int × Int} {n : Nat} {m : Int} (h : findO f n m = none) :
    Ending.returned (.tuple #[.int .i64 0, .bool false]) = .returned (.tuple #[.int .i64 (findV f n m), .bool (findS f n m)]) := by
  unfold findV findS; rw [h]; rfl

/-- None of the places before j serves. -/
def Passed (f : Nat → Int × Int) (m : Nat) (j : Nat) : Prop := ∀ i, i < j → freeB f i m = false
theorem Passed.zero (f : Nat → Int × Int) (m : Nat) : Passed f m 0 := fun i h => absurd h (by omega)
theorem Passed.next {f : Nat → Int × Int} {m j : Nat} (h : Passed f m j) (hj : freeB f j m = false) : Passed f m (j + 1) := fun i hi => by
  by_cases e : i = j
  · rw [e]; exact hj
  · exact h i (by omega)
/-- The first t pages from j on are free. -/
def Open (f : Nat → Int × Int) (j t : Nat) : Prop := ∀ i, i < t → (f (j + i)).1 = 0
theorem Open.zero (f : Nat → Int × Int) (j : Nat) : Open f j 0 := fun i h => absurd h (by omega)
theorem Open.next {f : Nat → Int × Int} {j t : Nat} (h : Open f j t) (ht : (f (j + t)).1 = 0) : Open f j (t + 1) := fun i hi => by
  by_cases e : i = t
  · rw [e]; exact ht
  · exact h i (by omega)

end Go.Proofs.YtodpciodongajaaDoor.Cl
