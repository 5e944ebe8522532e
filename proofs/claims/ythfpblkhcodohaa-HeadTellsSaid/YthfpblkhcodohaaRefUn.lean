/-
  What the document's own answer for Unpack returns, for every number.
-/
import Derived.Test.YthfpblkhcodohaaRef
namespace Go.Proofs.Ythfpblkhcodohaa
open Go.RowKit

theorem runpack_zero (w : World) :
    Calls Try.prog 13 #[.int .i64 0] w fun r w' => r = .returned (.tuple #[.agg #[.bool false, .bool false, .bool false, .int .i64 0, .int .i64 0, .int .i64 0], .bool true]) ∧ Below w.heap.size w w' := by
  go_enter Try.func13, Try.ntmps13
  go_wp2
  refine bodyPost_ret (v := .tuple #[.agg #[.bool false, .bool false, .bool false, .int .i64 0, .int .i64 0, .int .i64 0], .bool true]) ?_ rfl ⟨rfl, (((Below.refl _ _).alloc (Nat.le_refl _) _).alloc (by simp) _)⟩
  simp [results, Try.results13, go_sem]
theorem runpack_less (x : Int) (w : World) (h : x < 0) :
    Calls Try.prog 13 #[.int .i64 x] w fun r w' => r = .returned (.tuple #[.agg #[.bool false, .bool false, .bool false, .int .i64 0, .int .i64 0, .int .i64 0], .bool false]) ∧ Below w.heap.size w w' := by
  go_enter Try.func13, Try.ntmps13
  go_wp2
  refine bodyPost_ret (v := .tuple #[.agg #[.bool false, .bool false, .bool false, .int .i64 0, .int .i64 0, .int .i64 0], .bool false]) ?_ rfl ⟨rfl, (((Below.refl _ _).alloc (Nat.le_refl _) _).alloc (by simp) _)⟩
  simp [results, Try.results13, go_sem]
theorem runpack_even (x : Int) (w : World) (x0 : 1 ≤ x) (x1 : x ≤ 9223372036854775807) (h : x % 2 = 0) :
    Calls Try.prog 13 #[.int .i64 x] w fun r w' => r = .returned (.tuple #[.agg #[.bool false, .bool false, .bool false, .int .i64 0, .int .i64 0, .int .i64 0], .bool false]) ∧ Below w.heap.size w w' := by
  go_enter Try.func13, Try.ntmps13
  go_wp2
  refine bodyPost_ret (v := .tuple #[.agg #[.bool false, .bool false, .bool false, .int .i64 0, .int .i64 0, .int .i64 0], .bool false]) ?_ rfl ⟨rfl, (((Below.refl _ _).alloc (Nat.le_refl _) _).alloc (by simp) _)⟩
  simp [results, Try.results13, go_sem]
theorem three_below {w w1 : World} {c c' c'' : Obj} (hb : Below (((w.alloc c).alloc c').alloc c'').heap.size (((w.alloc c).alloc c').alloc c'') w1) : Below w.heap.size w w1 :=
  ((((Below.refl _ _).alloc (Nat.le_refl _) _).alloc (by simp) _).alloc (by simp; omega) _).trans (hb.mono (by simp; omega))
theorem far_cells {w w1 : World} {c' c'' : Obj} {cs : Array Value} {t : TypeId} (hb : Below (((w.alloc (.cells cs t)).alloc c').alloc c'').heap.size (((w.alloc (.cells cs t)).alloc c').alloc c'') w1) (k : Nat) :
    w1.cell? ⟨w.heap.size, k, none⟩ = cs[k]? := by
  rw [old_cell hb _ _ (by simp; omega)]
  simp [go_sem]
theorem runpack_odd (x : Int) (o e : Bool) (n b m : Int) (w : World) (h : mayB true o e n b m = true) (x0 : 1 ≤ x) (x1 : x ≤ 9223372036854775807) (h1 : x % 2 = 1) (eo : (x / 2 % 2 == 1) = o) (ee : (x / 4 % 2 == 1) = e) (en : x / 8 % 128 = n) (eb : x / 1024 % 4194304 = b) (em : x / 4294967296 = m) :
    Calls Try.prog 13 #[.int .i64 x] w fun r w' => r = .returned (.tuple #[.agg #[.bool true, .bool o, .bool e, .int .i64 n, .int .i64 b, .int .i64 m], .bool true]) ∧ Below w.heap.size w w' := by
  have H := Lib.hid h
  clear h
  go_enter Try.func13, Try.ntmps13
  go_wp2_with fail
  refine (rmay_yes _ _ _ _ _ _ _ H.out).mono ?_
  rintro r w1 ⟨rfl, hb⟩
  have hc := old_cell hb; have hf := old_mark hb
  clear x0 x1 h1 eo ee en eb em
  have c0 := far_cells hb 0
  have c1 := far_cells hb 1
  have c2 := far_cells hb 2
  have c3 := far_cells hb 3
  have c4 := far_cells hb 4
  have c5 := far_cells hb 5
  simp at c0 c1 c2 c3 c4 c5
  go_wp2
  refine bodyPost_ret (v := .tuple #[.agg #[.bool true, .bool o, .bool e, .int .i64 n, .int .i64 b, .int .i64 m], .bool true]) ?_ rfl ⟨rfl, six_below (three_below hb) (Nat.le_refl _) _ _ _ _ _ _⟩
  simp [results, Try.results13, go_sem, c0, c1, c2, c3, c4, c5]
theorem runpack_bad (x : Int) (o e : Bool) (n b m : Int) (w : World) (h : mayB true o e n b m = false) (x0 : 1 ≤ x) (x1 : x ≤ 9223372036854775807) (h1 : x % 2 = 1) (eo : (x / 2 % 2 == 1) = o) (ee : (x / 4 % 2 == 1) = e) (en : x / 8 % 128 = n) (eb : x / 1024 % 4194304 = b) (em : x / 4294967296 = m) :
    Calls Try.prog 13 #[.int .i64 x] w fun r w' => r = .returned (.tuple #[.agg #[.bool false, .bool false, .bool false, .int .i64 0, .int .i64 0, .int .i64 0], .bool false]) ∧ Below w.heap.size w w' := by
  have H := Lib.hid h
  clear h
  go_enter Try.func13, Try.ntmps13
  go_wp2_with fail
  refine (rmay_no _ _ _ _ _ _ _ H.out).mono ?_
  rintro r w1 ⟨rfl, hb⟩
  have hc := old_cell hb; have hf := old_mark hb
  clear x0 x1 h1 eo ee en eb em
  have c0 := far_cells hb 0
  have c1 := far_cells hb 1
  have c2 := far_cells hb 2
  have c3 := far_cells hb 3
  have c4 := far_cells hb 4
  have c5 := far_cells hb 5
  simp at c0 c1 c2 c3 c4 c5
  go_wp2
  refine bodyPost_ret (v := .tuple #[.agg #[.bool false, .bool false, .bool false, .int .i64 0, .int .i64 0, .int .i64 0], .bool false]) ?_ rfl ⟨rfl, six_below (three_below hb) (Nat.le_refl _) _ _ _ _ _ _⟩
  simp [results, Try.results13, go_sem, c0, c1, c2, c3, c4, c5]
theorem beq_one (x : Int) : (x == 1) = decide (x = 1) := by
  rw [Bool.eq_iff_iff]; simp
theorem runpack_no (x : Int) (w : World) (x0 : -9223372036854775808 ≤ x) (x1 : x ≤ 9223372036854775807) (h : isWord x = false) :
    Calls Try.prog 13 #[.int .i64 x] w fun r w' => r = .returned (.tuple #[.agg #[.bool false, .bool false, .bool false, .int .i64 0, .int .i64 0, .int .i64 0], .bool false]) ∧ Below w.heap.size w w' := by
  by_cases h0 : x < 0
  · exact runpack_less x w h0
  · by_cases h1 : x % 2 = 1
    · unfold isWord at h
      rw [decide_eq_true h1] at h
      exact runpack_bad x _ _ _ _ _ w h (by omega) x1 h1 (beq_one _) (beq_one _) rfl rfl rfl
    · by_cases h2 : x = 0
      · subst h2
        cases h
      · exact runpack_even x w (by omega) x1 (by omega)
theorem runpack_word (u o e : Bool) (n b m : Int) (w : World) (h : mayB u o e n b m = true) :
    Calls Try.prog 13 #[.int .i64 (word u o e n b m)] w fun r w' => r = .returned (.tuple #[.agg #[.bool u, .bool o, .bool e, .int .i64 n, .int .i64 b, .int .i64 m], .bool true]) ∧ Below w.heap.size w w' := by
  cases u
  · obtain ⟨rfl, rfl, rfl, rfl, rfl⟩ := (may_free_iff _ _ _ _ _).1 h
    exact runpack_zero w
  · have r := word_range h
    obtain ⟨p1, p2, p3, p4, p5, p6⟩ := word_parts h
    refine runpack_odd _ o e n b m w h (by omega) (by omega) p1 ?_ ?_ p4 p5 p6
    · rw [beq_one, Bool.eq_iff_iff, decide_eq_true_iff]
      exact p2
    · rw [beq_one, Bool.eq_iff_iff, decide_eq_true_iff]
      exact p3
end Go.Proofs.Ythfpblkhcodohaa
