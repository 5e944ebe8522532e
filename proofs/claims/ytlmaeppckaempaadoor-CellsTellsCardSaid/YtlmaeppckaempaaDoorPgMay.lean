/-
  Package pages' isClass, isRun, may and May: which pages may be.
-/
import Derived.Test.YtlmaeppckaempaaDoorPgCount
namespace Go.Proofs.YtlmaeppckaempaaDoor
open Go.RowKit

/-- Is there such a class? May a large object have so many pages? -/
def clB (c : Int) : Bool := decide (0 ≤ c) && decide (c ≤ 2)
def runB (n : Int) : Bool := decide (1 ≤ n) && decide (n ≤ 4)
theorem clB_iff (c : Int) : clB c = true ↔ 0 ≤ c ∧ c ≤ 2 := by simp [clB]
theorem runB_iff (c : Int) : runB c = true ↔ 1 ≤ c ∧ c ≤ 4 := by simp [runB]
theorem clB_not {c : Int} (h : ¬ (0 ≤ c ∧ c ≤ 2)) : clB c = false := by
  rw [Bool.eq_false_iff]
  exact fun h' => h ((clB_iff c).1 h')
theorem runB_not {c : Int} (h : ¬ (1 ≤ c ∧ c ≤ 4)) : runB c = false := by
  rw [Bool.eq_false_iff]
  exact fun h' => h ((runB_iff c).1 h')

theorem isClass_any (c : Int) (w : World) :
    Calls Tryd.prog 36 #[.int .i64 c] w fun e w' => e = .returned (.bool (clB c)) ∧ w = w' := by
  by_cases h0 : 0 ≤ c
  · by_cases h1 : c ≤ 2
    · have e := Lib.hid ((clB_iff c).2 ⟨h0, h1⟩)
      have d0 : decide (c < 3) = true := by simp; omega
      go_enter Tryd.func36, Tryd.ntmps36
      go_wp2
      go_ret
      exact ⟨by rw [e.out]; rfl, rfl⟩
    · have e := Lib.hid (clB_not (c := c) (by omega))
      have d0 : decide (c < 3) = false := by simp; omega
      go_enter Tryd.func36, Tryd.ntmps36
      go_wp2
      go_ret
      exact ⟨by rw [e.out]; rfl, rfl⟩
  · have e := Lib.hid (clB_not (c := c) (by omega))
    have d0 : decide (0 ≤ c) = false := by simpa using h0
    go_enter Tryd.func36, Tryd.ntmps36
    go_wp2
    go_ret
    exact ⟨by rw [e.out]; rfl, rfl⟩
theorem isRun_any (c : Int) (w : World) :
    Calls Tryd.prog 43 #[.int .i64 c] w fun e w' => e = .returned (.bool (runB c)) ∧ w = w' := by
  by_cases h0 : 1 ≤ c
  · by_cases h1 : c ≤ 4
    · have e := Lib.hid ((runB_iff c).2 ⟨h0, h1⟩)
      have d0 : decide (c ≤ 4) = true := by simp; omega
      go_enter Tryd.func43, Tryd.ntmps43
      go_wp2
      go_ret
      exact ⟨by rw [e.out]; rfl, rfl⟩
    · have e := Lib.hid (runB_not (c := c) (by omega))
      have d0 : decide (c ≤ 4) = false := by simp; omega
      go_enter Tryd.func43, Tryd.ntmps43
      go_wp2
      go_ret
      exact ⟨by rw [e.out]; rfl, rfl⟩
  · have e := Lib.hid (runB_not (c := c) (by omega))
    have d0 : decide (1 ≤ c) = false := by simpa using h0
    go_enter Tryd.func43, Tryd.ntmps43
    go_wp2
    go_ret
    exact ⟨by rw [e.out]; rfl, rfl⟩

theorem pmB_small (b : Int) : pmB (1, b) = clB b := by simp [pmB, clB]
theorem pmB_large (b : Int) : pmB (2, b) = runB b := by simp [pmB, runB]
theorem pmB_free (b : Int) : pmB (0, b) = (b == 0) := by simp [pmB]
theorem pmB_rest (b : Int) : pmB (3, b) = (b == 0) := by simp [pmB]
theorem pmB_no (a b : Int) (h0 : a ≠ 0) (h1 : a ≠ 1) (h2 : a ≠ 2) (h3 : a ≠ 3) : pmB (a, b) = false := by simp [pmB, h0, h1, h2, h3]

theorem pmay_any (p : Int × Int) (w : World) :
    Calls Tryd.prog 35 #[.agg #[.int .i64 p.1, .int .i64 p.2]] w fun e w' => e = .returned (.bool (pmB p)) ∧ Below w.heap.size w w' := by
  obtain ⟨a, b⟩ := p
  show Calls Tryd.prog 35 #[.agg #[.int .i64 a, .int .i64 b]] w _
  by_cases h1 : a = 1
  · subst h1
    rw [pmB_small]
    go_enter Tryd.func35, Tryd.ntmps35
    go_wp2_with fail
    refine (isClass_any _ _).mono ?_
    rintro e w1 ⟨rfl, rfl⟩
    go_wp2
    go_ret
    exact ⟨rfl, (Below.refl _ _).alloc (Nat.le_refl _) _⟩
  by_cases h2 : a = 2
  · subst h2
    rw [pmB_large]
    go_enter Tryd.func35, Tryd.ntmps35
    go_wp2_with fail
    refine (isRun_any _ _).mono ?_
    rintro e w1 ⟨rfl, rfl⟩
    go_wp2
    go_ret
    exact ⟨rfl, (Below.refl _ _).alloc (Nat.le_refl _) _⟩
  by_cases h0 : a = 0
  · subst h0
    rw [pmB_free]
    go_enter Tryd.func35, Tryd.ntmps35
    go_wp2
    go_ret
    exact ⟨rfl, (Below.refl _ _).alloc (Nat.le_refl _) _⟩
  by_cases h3 : a = 3
  · subst h3
    rw [pmB_rest]
    go_enter Tryd.func35, Tryd.ntmps35
    go_wp2
    go_ret
    exact ⟨rfl, (Below.refl _ _).alloc (Nat.le_refl _) _⟩
  rw [pmB_no a b h0 h1 h2 h3]
  have e0 : (a == 0) = false := by simpa using h0
  have e1 : (a == 1) = false := by simpa using h1
  have e2 : (a == 2) = false := by simpa using h2
  have e3 : (a == 3) = false := by simpa using h3
  clear h0 h1 h2 h3
  go_enter Tryd.func35, Tryd.ntmps35
  go_wp2
  go_ret
  exact ⟨rfl, (Below.refl _ _).alloc (Nat.le_refl _) _⟩
end Go.Proofs.YtlmaeppckaempaaDoor
