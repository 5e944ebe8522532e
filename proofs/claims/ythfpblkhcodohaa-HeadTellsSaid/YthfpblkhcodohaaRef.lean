/-
  What the document's own answers for layer 1 return: May, Word, Pack and Unpack of the reference, by the parts of the head.
-/
import Derived.Test.YthfpblkhcodohaaAwake
namespace Go.Proofs.Ythfpblkhcodohaa
open Go.RowKit

theorem rmay_used (o e : Bool) (n b m : Int) (w : World) (n0 : 0 ≤ n) (n1 : n ≤ 63) (b0 : 0 ≤ b) (b1 : b ≤ 1048576) (m0 : 0 ≤ m) (m1 : m ≤ 1048576) :
    Calls Try.prog 15 #[.agg #[.bool true, .bool o, .bool e, .int .i64 n, .int .i64 b, .int .i64 m]] w fun r w' => r = .returned (.bool true) ∧ Below w.heap.size w w' := by
  go_enter Try.func15, Try.ntmps15
  go_wp2
  go_ret
  exact ⟨rfl, (Below.refl _ _).alloc (Nat.le_refl _) _⟩
theorem rmay_free  (w : World)  :
    Calls Try.prog 15 #[.agg #[.bool false, .bool false, .bool false, .int .i64 0, .int .i64 0, .int .i64 0]] w fun r w' => r = .returned (.bool true) ∧ Below w.heap.size w w' := by
  go_enter Try.func15, Try.ntmps15
  go_wp2
  go_ret
  exact ⟨rfl, (Below.refl _ _).alloc (Nat.le_refl _) _⟩
theorem rno_n0 (u o e : Bool) (n b m : Int) (w : World) (h : n < 0) :
    Calls Try.prog 15 #[.agg #[.bool u, .bool o, .bool e, .int .i64 n, .int .i64 b, .int .i64 m]] w fun r w' => r = .returned (.bool false) ∧ Below w.heap.size w w' := by
  go_enter Try.func15, Try.ntmps15
  go_wp2
  go_ret
  exact ⟨rfl, (Below.refl _ _).alloc (Nat.le_refl _) _⟩
theorem rno_n1 (u o e : Bool) (n b m : Int) (w : World) (n0 : 0 ≤ n) (h : 63 < n) :
    Calls Try.prog 15 #[.agg #[.bool u, .bool o, .bool e, .int .i64 n, .int .i64 b, .int .i64 m]] w fun r w' => r = .returned (.bool false) ∧ Below w.heap.size w w' := by
  go_enter Try.func15, Try.ntmps15
  go_wp2
  go_ret
  exact ⟨rfl, (Below.refl _ _).alloc (Nat.le_refl _) _⟩
theorem rno_b0 (u o e : Bool) (n b m : Int) (w : World) (n0 : 0 ≤ n) (n1 : n ≤ 63) (h : b < 0) :
    Calls Try.prog 15 #[.agg #[.bool u, .bool o, .bool e, .int .i64 n, .int .i64 b, .int .i64 m]] w fun r w' => r = .returned (.bool false) ∧ Below w.heap.size w w' := by
  go_enter Try.func15, Try.ntmps15
  go_wp2
  go_ret
  exact ⟨rfl, (Below.refl _ _).alloc (Nat.le_refl _) _⟩
theorem rno_b1 (u o e : Bool) (n b m : Int) (w : World) (n0 : 0 ≤ n) (n1 : n ≤ 63) (b0 : 0 ≤ b) (h : 1048576 < b) :
    Calls Try.prog 15 #[.agg #[.bool u, .bool o, .bool e, .int .i64 n, .int .i64 b, .int .i64 m]] w fun r w' => r = .returned (.bool false) ∧ Below w.heap.size w w' := by
  go_enter Try.func15, Try.ntmps15
  go_wp2
  go_ret
  exact ⟨rfl, (Below.refl _ _).alloc (Nat.le_refl _) _⟩
theorem rno_m0 (u o e : Bool) (n b m : Int) (w : World) (n0 : 0 ≤ n) (n1 : n ≤ 63) (b0 : 0 ≤ b) (b1 : b ≤ 1048576) (h : m < 0) :
    Calls Try.prog 15 #[.agg #[.bool u, .bool o, .bool e, .int .i64 n, .int .i64 b, .int .i64 m]] w fun r w' => r = .returned (.bool false) ∧ Below w.heap.size w w' := by
  go_enter Try.func15, Try.ntmps15
  go_wp2
  go_ret
  exact ⟨rfl, (Below.refl _ _).alloc (Nat.le_refl _) _⟩
theorem rno_m1 (u o e : Bool) (n b m : Int) (w : World) (n0 : 0 ≤ n) (n1 : n ≤ 63) (b0 : 0 ≤ b) (b1 : b ≤ 1048576) (m0 : 0 ≤ m) (h : 1048576 < m) :
    Calls Try.prog 15 #[.agg #[.bool u, .bool o, .bool e, .int .i64 n, .int .i64 b, .int .i64 m]] w fun r w' => r = .returned (.bool false) ∧ Below w.heap.size w w' := by
  go_enter Try.func15, Try.ntmps15
  go_wp2
  go_ret
  exact ⟨rfl, (Below.refl _ _).alloc (Nat.le_refl _) _⟩
theorem rno_o (e : Bool) (n b m : Int) (w : World) (n0 : 0 ≤ n) (n1 : n ≤ 63) (b0 : 0 ≤ b) (b1 : b ≤ 1048576) (m0 : 0 ≤ m) (m1 : m ≤ 1048576) :
    Calls Try.prog 15 #[.agg #[.bool false, .bool true, .bool e, .int .i64 n, .int .i64 b, .int .i64 m]] w fun r w' => r = .returned (.bool false) ∧ Below w.heap.size w w' := by
  go_enter Try.func15, Try.ntmps15
  go_wp2
  go_ret
  exact ⟨rfl, (Below.refl _ _).alloc (Nat.le_refl _) _⟩
theorem rno_e (n b m : Int) (w : World) (n0 : 0 ≤ n) (n1 : n ≤ 63) (b0 : 0 ≤ b) (b1 : b ≤ 1048576) (m0 : 0 ≤ m) (m1 : m ≤ 1048576) :
    Calls Try.prog 15 #[.agg #[.bool false, .bool false, .bool true, .int .i64 n, .int .i64 b, .int .i64 m]] w fun r w' => r = .returned (.bool false) ∧ Below w.heap.size w w' := by
  go_enter Try.func15, Try.ntmps15
  go_wp2
  go_ret
  exact ⟨rfl, (Below.refl _ _).alloc (Nat.le_refl _) _⟩
theorem rno_n (n b m : Int) (w : World) (n0 : 0 ≤ n) (n1 : n ≤ 63) (b0 : 0 ≤ b) (b1 : b ≤ 1048576) (m0 : 0 ≤ m) (m1 : m ≤ 1048576) (h : (n == 0) = false) :
    Calls Try.prog 15 #[.agg #[.bool false, .bool false, .bool false, .int .i64 n, .int .i64 b, .int .i64 m]] w fun r w' => r = .returned (.bool false) ∧ Below w.heap.size w w' := by
  go_enter Try.func15, Try.ntmps15
  go_wp2
  go_ret
  exact ⟨rfl, (Below.refl _ _).alloc (Nat.le_refl _) _⟩
theorem rno_b (b m : Int) (w : World) (b0 : 0 ≤ b) (b1 : b ≤ 1048576) (m0 : 0 ≤ m) (m1 : m ≤ 1048576) (h : (b == 0) = false) :
    Calls Try.prog 15 #[.agg #[.bool false, .bool false, .bool false, .int .i64 0, .int .i64 b, .int .i64 m]] w fun r w' => r = .returned (.bool false) ∧ Below w.heap.size w w' := by
  go_enter Try.func15, Try.ntmps15
  go_wp2
  go_ret
  exact ⟨rfl, (Below.refl _ _).alloc (Nat.le_refl _) _⟩
theorem rno_m (m : Int) (w : World) (m0 : 0 ≤ m) (m1 : m ≤ 1048576) (h : (m == 0) = false) :
    Calls Try.prog 15 #[.agg #[.bool false, .bool false, .bool false, .int .i64 0, .int .i64 0, .int .i64 m]] w fun r w' => r = .returned (.bool false) ∧ Below w.heap.size w w' := by
  go_enter Try.func15, Try.ntmps15
  go_wp2
  go_ret
  exact ⟨rfl, (Below.refl _ _).alloc (Nat.le_refl _) _⟩
theorem rmay_yes (u o e : Bool) (n b m : Int) (w : World) (h : mayB u o e n b m = true) :
    Calls Try.prog 15 #[.agg #[.bool u, .bool o, .bool e, .int .i64 n, .int .i64 b, .int .i64 m]] w fun r w' => r = .returned (.bool true) ∧ Below w.heap.size w w' := by
  cases u
  · obtain ⟨rfl, rfl, rfl, rfl, rfl⟩ := (may_free_iff _ _ _ _ _).1 h
    exact rmay_free w
  · obtain ⟨a1, a2, a3, a4, a5, a6⟩ := (may_used_iff _ _ _ _ _).1 h
    exact rmay_used o e n b m w a1 a2 a3 a4 a5 a6
theorem rmay_no (u o e : Bool) (n b m : Int) (w : World) (h : mayB u o e n b m = false) :
    Calls Try.prog 15 #[.agg #[.bool u, .bool o, .bool e, .int .i64 n, .int .i64 b, .int .i64 m]] w fun r w' => r = .returned (.bool false) ∧ Below w.heap.size w w' := by
  by_cases n0 : 0 ≤ n
  · by_cases n1 : n ≤ 63
    · by_cases b0 : 0 ≤ b
      · by_cases b1 : b ≤ 1048576
        · by_cases m0 : 0 ≤ m
          · by_cases m1 : m ≤ 1048576
            · cases u
              · cases o
                · cases e
                  · by_cases z : n = 0
                    · subst z
                      by_cases z : b = 0
                      · subst z
                        have z : m ≠ 0 := fun z => by subst z; cases h
                        exact rno_m m w m0 m1 (beq_eq_false_iff_ne.2 z)
                      · exact rno_b b m w b0 b1 m0 m1 (beq_eq_false_iff_ne.2 z)
                    · exact rno_n n b m w n0 n1 b0 b1 m0 m1 (beq_eq_false_iff_ne.2 z)
                  · exact rno_e n b m w n0 n1 b0 b1 m0 m1
                · exact rno_o e n b m w n0 n1 b0 b1 m0 m1
              · have := (may_used_iff o e n b m).2 ⟨n0, n1, b0, b1, m0, m1⟩
                rw [this] at h
                cases h
            · exact rno_m1 u o e n b m w n0 n1 b0 b1 m0 (by omega)
          · exact rno_m0 u o e n b m w n0 n1 b0 b1 (by omega)
        · exact rno_b1 u o e n b m w n0 n1 b0 (by omega)
      · exact rno_b0 u o e n b m w n0 n1 (by omega)
    · exact rno_n1 u o e n b m w n0 (by omega)
  · exact rno_n0 u o e n b m w (by omega)

theorem rword_used (o e : Bool) (n b m : Int) (w : World) (n0 : 0 ≤ n) (n1 : n ≤ 63) (b0 : 0 ≤ b) (b1 : b ≤ 1048576) (m0 : 0 ≤ m) (m1 : m ≤ 1048576) :
    Calls Try.prog 17 #[.agg #[.bool true, .bool o, .bool e, .int .i64 n, .int .i64 b, .int .i64 m]] w fun r w' => r = .returned (.int .i64 (word true o e n b m)) ∧ Below w.heap.size w w' := by
  cases o <;> cases e
  all_goals
    go_enter Try.func17, Try.ntmps17
    go_wp2
    go_ret
    exact ⟨by simp only [word, bitOf, Ending.returned.injEq, if_true]; simp; omega, (Below.refl _ _).alloc (Nat.le_refl _) _⟩
theorem rword_free (w : World) :
    Calls Try.prog 17 #[.agg #[.bool false, .bool false, .bool false, .int .i64 0, .int .i64 0, .int .i64 0]] w fun r w' => r = .returned (.int .i64 0) ∧ Below w.heap.size w w' := by
  go_enter Try.func17, Try.ntmps17
  go_wp2
  go_ret
  exact ⟨rfl, (Below.refl _ _).alloc (Nat.le_refl _) _⟩
theorem rword_yes (u o e : Bool) (n b m : Int) (w : World) (h : mayB u o e n b m = true) :
    Calls Try.prog 17 #[.agg #[.bool u, .bool o, .bool e, .int .i64 n, .int .i64 b, .int .i64 m]] w fun r w' => r = .returned (.int .i64 (word u o e n b m)) ∧ Below w.heap.size w w' := by
  cases u
  · obtain ⟨rfl, rfl, rfl, rfl, rfl⟩ := (may_free_iff _ _ _ _ _).1 h
    exact rword_free w
  · obtain ⟨a1, a2, a3, a4, a5, a6⟩ := (may_used_iff _ _ _ _ _).1 h
    exact rword_used o e n b m w a1 a2 a3 a4 a5 a6
theorem rpack_no (u o e : Bool) (n b m : Int) (w : World) (h : mayB u o e n b m = false) :
    Calls Try.prog 11 #[.agg #[.bool u, .bool o, .bool e, .int .i64 n, .int .i64 b, .int .i64 m]] w fun r w' => r = .returned (.tuple #[.int .i64 0, .int .i64 1]) ∧ Below w.heap.size w w' := by
  have H := Lib.hid h
  clear h
  go_enter Try.func11, Try.ntmps11
  go_wp2_with fail
  refine (rmay_no _ _ _ _ _ _ _ H.out).mono ?_
  rintro r w1 ⟨rfl, hb⟩
  have hc := old_cell hb
  have hf := old_mark hb
  go_wp2
  go_ret2
  exact ⟨rfl, ((Below.refl _ _).alloc (Nat.le_refl _) _).trans (hb.mono (by simp))⟩
theorem rpack_yes (u o e : Bool) (n b m : Int) (w : World) (h : mayB u o e n b m = true) :
    Calls Try.prog 11 #[.agg #[.bool u, .bool o, .bool e, .int .i64 n, .int .i64 b, .int .i64 m]] w fun r w' => r = .returned (.tuple #[.int .i64 (word u o e n b m), .int .i64 0]) ∧ Below w.heap.size w w' := by
  have H := Lib.hid h
  clear h
  go_enter Try.func11, Try.ntmps11
  go_wp2_with fail
  refine (rmay_yes _ _ _ _ _ _ _ H.out).mono ?_
  rintro r w1 ⟨rfl, hb⟩
  have hc := old_cell hb
  have hf := old_mark hb
  have s1 := hb.size
  simp at s1
  have z1 : w.heap.size < w1.heap.size := by omega
  go_wp2_with fail
  refine (rword_yes _ _ _ _ _ _ _ H.out).mono ?_
  rintro r w2 ⟨rfl, hb2⟩
  go_wp2
  go_ret2
  exact ⟨rfl, (((Below.refl _ _).alloc (Nat.le_refl _) _).trans (hb.mono (by simp))).trans (hb2.mono (by omega))⟩
end Go.Proofs.Ythfpblkhcodohaa
