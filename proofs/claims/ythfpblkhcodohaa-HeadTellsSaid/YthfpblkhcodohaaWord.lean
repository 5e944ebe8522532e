/-
  Plain facts on heads and words: which heads may be, what a head's word is, and how its parts are told from it by dividing. No program is in sight.
-/
import Derived.Test.YthfpblkhcodohaaBits
namespace Go.Proofs.Ythfpblkhcodohaa

/-- May the head be? -/
def mayB (u o d : Bool) (n b m : Int) : Bool :=
  if u then decide (0 ≤ n ∧ n ≤ 63 ∧ 0 ≤ b ∧ b ≤ 1048576 ∧ 0 ≤ m ∧ m ≤ 1048576)
  else !o && !d && decide (n = 0 ∧ b = 0 ∧ m = 0)
def bitOf (u : Bool) (k : Int) : Int := if u then k else 0
/-- A head's word. -/
def word (u o d : Bool) (n b m : Int) : Int :=
  if u then 1 + bitOf o 2 + bitOf d 4 + n * 8 + b * 1024 + m * 4294967296 else 0

theorem may_used_iff (o d : Bool) (n b m : Int) : mayB true o d n b m = true ↔ (0 ≤ n ∧ n ≤ 63 ∧ 0 ≤ b ∧ b ≤ 1048576 ∧ 0 ≤ m ∧ m ≤ 1048576) := by
  simp [mayB]
theorem may_free_iff (o d : Bool) (n b m : Int) : mayB false o d n b m = true ↔ (o = false ∧ d = false ∧ n = 0 ∧ b = 0 ∧ m = 0) := by
  simp [mayB, and_assoc]

theorem bit_le (u : Bool) (k : Int) (h : 0 ≤ k) : 0 ≤ bitOf u k ∧ bitOf u k ≤ k := by
  unfold bitOf; split <;> omega
/-- The word of a head that may be is no negative number, and less than 2^53. -/
theorem word_range {u o d : Bool} {n b m : Int} (h : mayB u o d n b m = true) : 0 ≤ word u o d n b m ∧ word u o d n b m ≤ 4503600701112831 := by
  cases u
  · simp [word]
  · have h' := (may_used_iff o d n b m).1 h
    have h2 := bit_le o 2 (by decide)
    have h4 := bit_le d 4 (by decide)
    simp only [word, if_true]
    omega
theorem word_parts {o d : Bool} {n b m : Int} (h : mayB true o d n b m = true) :
    word true o d n b m % 2 = 1 ∧ (word true o d n b m / 2 % 2 = 1 ↔ o = true) ∧ (word true o d n b m / 4 % 2 = 1 ↔ d = true) ∧
    word true o d n b m / 8 % 128 = n ∧ word true o d n b m / 1024 % 4194304 = b ∧ word true o d n b m / 4294967296 = m := by
  have h' := (may_used_iff o d n b m).1 h
  cases o <;> cases d <;> simp [word, bitOf] <;> omega
theorem word_back (x : Int) (h1 : x % 2 = 1) :
    word true (decide (x / 2 % 2 = 1)) (decide (x / 4 % 2 = 1)) (x / 8 % 128) (x / 1024 % 4194304) (x / 4294967296) = x := by
  by_cases a : x / 2 % 2 = 1 <;> by_cases c : x / 4 % 2 = 1 <;> simp [word, bitOf, a, c] <;> omega

/-- What Unpack reads in a number, whatever it is. -/
def isWord (x : Int) : Bool := mayB (decide (x % 2 = 1)) (decide (x / 2 % 2 = 1)) (decide (x / 4 % 2 = 1)) (x / 8 % 128) (x / 1024 % 4194304) (x / 4294967296)

theorem isWord_word {u o d : Bool} {n b m : Int} (h : mayB u o d n b m = true) : isWord (word u o d n b m) = true := by
  cases u
  · rfl
  · obtain ⟨p1, p2, p3, p4, p5, p6⟩ := word_parts h
    unfold isWord
    rw [p4, p5, p6, decide_eq_true p1]
    exact (may_used_iff _ _ _ _ _).2 ((may_used_iff o d n b m).1 h)
theorem isWord_cases (x : Int) (h : isWord x = true) : ∃ u o d n b m, mayB u o d n b m = true ∧ x = word u o d n b m ∧
    u = decide (x % 2 = 1) ∧ o = decide (x / 2 % 2 = 1) ∧ d = decide (x / 4 % 2 = 1) ∧ n = x / 8 % 128 ∧ b = x / 1024 % 4194304 ∧ m = x / 4294967296 := by
  refine ⟨_, _, _, _, _, _, h, ?_, rfl, rfl, rfl, rfl, rfl, rfl⟩
  by_cases h1 : x % 2 = 1
  · rw [decide_eq_true h1]
    exact (word_back x h1).symm
  · unfold isWord at h
    rw [decide_eq_false h1] at h ⊢
    obtain ⟨_, _, e1, e2, e3⟩ := (may_free_iff _ _ _ _ _).1 h
    simp only [word]
    simp only [decide_eq_false_iff_not] at *
    simp
    omega
theorem isWord_odd {x : Int} (h : isWord x = true) (h1 : x % 2 = 1) : 0 ≤ x / 8 % 128 ∧ x / 8 % 128 ≤ 63 ∧ 0 ≤ x / 1024 % 4194304 ∧ x / 1024 % 4194304 ≤ 1048576 ∧ 0 ≤ x / 4294967296 ∧ x / 4294967296 ≤ 1048576 := by
  unfold isWord at h
  rw [decide_eq_true h1] at h
  exact (may_used_iff _ _ _ _ _).1 h
theorem isWord_even {x : Int} (h : isWord x = true) (h1 : ¬ x % 2 = 1) : x = 0 := by
  unfold isWord at h
  rw [decide_eq_false h1] at h
  obtain ⟨h2, h3, e1, e2, e3⟩ := (may_free_iff _ _ _ _ _).1 h
  simp only [decide_eq_false_iff_not] at h2 h3
  omega
/-- Two heads that may be with one word are the same. -/
theorem word_inj {u o d u' o' d' : Bool} {n b m n' b' m' : Int} (h : mayB u o d n b m = true) (h' : mayB u' o' d' n' b' m' = true) (e : word u o d n b m = word u' o' d' n' b' m') :
    u = u' ∧ o = o' ∧ d = d' ∧ n = n' ∧ b = b' ∧ m = m' := by
  cases u <;> cases u'
  · obtain ⟨rfl, rfl, rfl, rfl, rfl⟩ := (may_free_iff _ _ _ _ _).1 h
    obtain ⟨rfl, rfl, rfl, rfl, rfl⟩ := (may_free_iff _ _ _ _ _).1 h'
    exact ⟨rfl, rfl, rfl, rfl, rfl, rfl⟩
  · have := (word_parts h').1
    rw [← e] at this
    simp [word] at this
  · have := (word_parts h).1
    rw [e] at this
    simp [word] at this
  · obtain ⟨_, p2, p3, p4, p5, p6⟩ := word_parts h
    obtain ⟨_, q2, q3, q4, q5, q6⟩ := word_parts h'
    rw [e] at p2 p3 p4 p5 p6
    refine ⟨rfl, ?_, ?_, p4.symm.trans q4, p5.symm.trans q5, p6.symm.trans q6⟩
    · have := p2.symm.trans q2; cases o <;> cases o' <;> simp_all
    · have := p3.symm.trans q3; cases d <;> cases d' <;> simp_all
theorem bit_1 (x : Int) : (bits .and .i64 x 1 != 0) = decide (x % 2 = 1) := by
  rw [and_1, Bool.eq_iff_iff]; simp; omega
theorem bit_2 (x : Int) : (bits .and .i64 x 2 != 0) = decide (x / 2 % 2 = 1) := by
  rw [and_2, Bool.eq_iff_iff]; simp; omega
theorem bit_4 (x : Int) : (bits .and .i64 x 4 != 0) = decide (x / 4 % 2 = 1) := by
  rw [and_4, Bool.eq_iff_iff]; simp; omega
end Go.Proofs.Ythfpblkhcodohaa
