/-
  Plain mathematics of what is taken, and dropped again: it is as it was, may be, and so many fewer pages are free.
-/
import Derived.Test.YtofbebgcafpfhaaPgIns
namespace Go.Proofs.Ytofbebgcafpfhaa
open Go.RowKit

theorem PRow.next {w w' : World} {a : Option Addr} {n : Nat} {f : Nat → Int × Int} (h : PRow w w.heap.size a n f) (hb : Below w.heap.size w w') : PRow w' w'.heap.size a n f := (h.below hb).more hb.size
theorem count_is (B : Nat) (A : Option Addr) (n c : Nat) (f : Nat → Int × Int) (kind : Int) (w : World) (x : Int) (hx : cnt f kind n = x) (hn : n ≤ 1000) (hr : PRow w B A n f) (hB : B ≤ w.heap.size) :
    Calls Try.prog 15 #[.slice A n c, .int .i64 kind] w fun e w' => e = .returned (.int .i64 x) ∧ Below w.heap.size w w' := by
  rw [← hx]
  exact count_any B A n c f kind w hn hr hB

section
variable {f : Nat → Int × Int} {n k : Nat}
theorem large_at (m : Int) : large f k m k = (2, m) := if_pos rfl
theorem large_wide (m : Int) : wide (large f k m) k = m := by
  unfold wide
  rw [large_at]
  simp
theorem large_left {m : Int} {j : Nat} (h : j < k) : large f k m j = f j := by unfold large; rw [if_neg (by omega), if_neg (by omega)]
theorem large_right {m : Int} {j : Nat} (hm : 1 ≤ m) (h : (k : Int) + m ≤ j) : large f k m j = f j := by unfold large; rw [if_neg (by omega), if_neg (by omega)]
theorem large_drop {m : Nat} (h : mayB f n = true) (h1 : 1 ≤ m) (ha : k + m ≤ n) (hf : freeB f k m = true) (i : Nat) : f i = drop (large f k m) k i := by
  unfold drop
  rw [large_wide]
  by_cases hi : k ≤ i ∧ (i : Int) < k + m
  · rw [if_pos hi]
    have h0 := (freeB_iff f k m).1 hf (i - k) (by omega)
    rw [show k + (i - k) = i by omega] at h0
    exact (free_zero h (by omega) h0).1
  · rw [if_neg hi]
    by_cases hk : i < k
    · rw [large_left hk]
    · rw [large_right (by omega) (by omega)]
theorem small_wide (c : Int) : wide (put f k (1, c)) k = 1 := by
  unfold wide
  rw [put_eq]
  simp
theorem small_drop {c : Int} (h : mayB f n = true) (ha : k < n) (hf : (f k).1 = 0) (i : Nat) : f i = drop (put f k (1, c)) k i := by
  unfold drop
  rw [small_wide]
  by_cases hi : k ≤ i ∧ (i : Int) < k + 1
  · rw [if_pos hi]
    obtain rfl : i = k := by omega
    exact (free_zero h ha hf).1
  · rw [if_neg hi, put_ne (by omega)]
theorem large_count {m : Nat} (h1 : 1 ≤ m) (ha : k + m ≤ n) (hf : freeB f k m = true) : cnt (large f k m) 0 n = cnt f 0 n - m := by
  have h := cnt_changed (f := f) (g := large f k m) 0 (a := k) (m := m) (n := n) ha (fun j hj => large_left hj) (fun j hj => large_right (by omega) (by omega))
  rw [cnt_all (f := fun j => f (k + j)) ((freeB_iff f k m).1 hf)] at h
  rw [cnt_none (f := fun j => large f k m (k + j)) (kind := 0) (k := m) (fun j hj => by
    show (large f k m (k + j)).1 ≠ 0
    unfold large
    by_cases e : k + j = k
    · rw [if_pos e]; simp
    · rw [if_neg e, if_pos (by omega)]; simp)] at h
  omega
theorem small_count {c : Int} (ha : k < n) (hf : (f k).1 = 0) : cnt (put f k (1, c)) 0 n = cnt f 0 n - 1 := by
  have h := cnt_changed (f := f) (g := put f k (1, c)) 0 (a := k) (m := 1) (n := n) (by omega) (fun j hj => put_ne (by omega)) (fun j hj => put_ne (by omega))
  rw [cnt_all (f := fun j => f (k + j)) (kind := 0) (k := 1) (fun j hj => (show (f (k + j)).1 = 0 by rw [show k + j = k by omega]; exact hf))] at h
  rw [cnt_none (f := fun j => put f k (1, c) (k + j)) (kind := 0) (k := 1) (fun j hj => by
    show (put f k (1, c) (k + j)).1 ≠ 0
    rw [show k + j = k by omega, put_eq]; simp)] at h
  omega
theorem small_kind {c : Int} : (put f k (1, c) k).1 = 1 := by rw [put_eq]
theorem large_kind {m : Int} : (large f k m k).1 = 2 := by rw [large_at]
theorem first_free {m : Nat} (hm : 1 ≤ m) (hf : freeB f k m = true) : (f k).1 = 0 := by simpa using (freeB_iff f k m).1 hf 0 (by omega)
theorem smallE_ok {c : Int} (h : mayB f n = true) (hk : k < n) (hf : (f k).1 = 0) (hc : 0 ≤ c ∧ c ≤ 2) : smallE f n k c = 0 := by
  unfold smallE
  rw [if_pos ((clB_iff c).2 hc)]
  exact takeE_ok h (by omega) (by simpa [freeB, List.range_succ] using hf)
theorem largeE_ok {m : Nat} (h : mayB f n = true) (h1 : 1 ≤ m) (h4 : m ≤ 4) (hk : k + m ≤ n) (hf : freeB f k m = true) : largeE f n k m = 0 := by
  unfold largeE
  rw [if_pos ((runB_iff m).2 (by omega))]
  exact takeE_ok h (by omega) (by simpa using hf)
/-- At a place that was passed a large object has no room. -/
theorem largeE_passed {m : Nat} (h : mayB f n = true) (h1 : 1 ≤ m) (h4 : m ≤ 4) (hf : k + m ≤ n → freeB f k m = false) : largeE f n k m ≠ 0 := by
  unfold largeE
  rw [if_pos ((runB_iff m).2 (by omega))]
  by_cases hk : k + m ≤ n
  · rw [takeE_full h (by omega) (by simpa using hf hk)]; decide
  · rw [takeE_none h (by omega)]; decide
theorem free_less {m : Nat} (hf : freeB f k (m + 1) = true) : freeB f k m = true := (freeB_iff f k m).2 fun j hj => (freeB_iff f k (m + 1)).1 hf j (by omega)
/-- What has room for one more has room for so many, no further behind. -/
theorem find_less {m : Nat} (h : findO f n (m + 1 : Nat) = some k) (hm : 1 ≤ m) : ∃ j, j ≤ k ∧ findO f n m = some j := by
  obtain ⟨h1, h2, h3, h4, h5⟩ := findO_some.1 h
  have hm4 := (runB_iff _).1 h2
  rw [Int.toNat_natCast] at h3 h4
  cases e : findO f n m with
  | none =>
    exfalso
    have hn : ∀ j, j + m ≤ n → freeB f j m = false := fun j hj => by
      cases hf : freeB f j m
      · rfl
      · exfalso
        -- the least such place would be found
        have hex : ∃ i, i ≤ j ∧ freeB f i m = true ∧ ∀ l, l < i → freeB f l m = false := by
          clear e
          induction j using Nat.strongRecOn with
          | ind j ih =>
            by_cases hl : ∃ l, l < j ∧ freeB f l m = true
            · obtain ⟨l, hlj, hlf⟩ := hl
              obtain ⟨i, hi, hi2⟩ := ih l hlj (by omega) hlf
              exact ⟨i, by omega, hi2⟩
            · refine ⟨j, Nat.le_refl _, hf, fun l hl' => ?_⟩
              cases hx : freeB f l m
              · rfl
              · exact absurd ⟨l, hl', hx⟩ hl
        obtain ⟨i, hi, hif, hil⟩ := hex
        have : findO f n m = some i := findO_some.2 ⟨h1, (runB_iff _).2 (by omega), by simp; omega, by simpa using hif, fun l hl => by simpa using hil l hl⟩
        rw [e] at this
        cases this
    have := hn k (by omega)
    rw [free_less h4] at this
    cases this
  | some j =>
    obtain ⟨_, _, _, _, g5⟩ := findO_some.1 e
    refine ⟨j, ?_, rfl⟩
    by_cases hj : j ≤ k
    · exact hj
    · exfalso
      have := g5 k (by omega)
      rw [Int.toNat_natCast, free_less h4] at this
      cases this
theorem free_count_le {m : Nat} (ha : k + m ≤ n) (hf : freeB f k m = true) : (m : Int) ≤ cnt f 0 n := by
  obtain ⟨r, rfl⟩ : ∃ r, n = k + m + r := ⟨n - (k + m), by omega⟩
  rw [cnt_split f 0 (k + m) r, cnt_split f 0 k m, cnt_all (f := fun j => f (k + j)) ((freeB_iff f k m).1 hf)]
  have := (cnt_bd f 0 k).1
  have := (cnt_bd (fun j => f (k + m + j)) 0 r).1
  omega
theorem findV_some {m : Int} (h : findO f n m = some k) : findV f n m = k := by unfold findV; rw [h]
theorem findS_some {m : Int} (h : findO f n m = some k) : findS f n m = true := by unfold findS; rw [h]; rfl
theorem findV_none {m : Int} (h : findO f n m = none) : findV f n m = 0 := by unfold findV; rw [h]
theorem findS_none {m : Int} (h : findO f n m = none) : findS f n m = false := by unfold findS; rw [h]; rfl
/-- All pages are of some kind. -/
theorem cnt_kinds (h : ∀ i, i < n → pmB (f i) = true) : cnt f 0 n + cnt f 1 n + cnt f 2 n + cnt f 3 n = n := by
  induction n with
  | zero => simp [cnt]
  | succ n ih =>
    have hp := (pmB_iff _).1 (h n (by omega))
    have hi := ih (fun i hi => h i (by omega))
    rw [cnt_succ, cnt_succ, cnt_succ, cnt_succ]
    rcases hp with hp | hp | hp | hp <;> rw [hp.1] <;> simp <;> omega
/-- How many pages the large objects ahead of page k take, less one for each. -/
def rests (f : Nat → Int × Int) : Nat → Int
  | 0 => 0
  | k + 1 => if (f k).1 = 2 then rests f k + (f k).2 - 1 else rests f k
theorem rests_cnt (h : ∀ i, i < n → okB f i = true) : rests f n = cnt f 3 n + st f n := by
  induction n with
  | zero => simp [rests, cnt, st]
  | succ n ih =>
    have ho := (okB_iff f n).1 (h n (by omega))
    have hn := st_nonneg (fun i hi => h i (by omega) : ∀ i, i < n → okB f i = true) n (Nat.le_refl _)
    have hi := ih (fun i hi => h i (by omega))
    rw [cnt_succ]
    unfold rests st
    by_cases h2 : (f n).1 = 2
    · have : ¬ 0 < st f n := fun hs => by have := ho.2.2 hs; omega
      rw [if_pos h2, if_pos h2, if_neg (by omega)]
      omega
    · rw [if_neg h2, if_neg h2]
      by_cases h3 : (f n).1 = 3
      · have := ho.2.1 h3
        rw [if_pos h3, if_pos this]
        omega
      · have : ¬ 0 < st f n := fun hs => h3 (ho.2.2 hs)
        rw [if_neg h3, if_neg this]
        omega
theorem rests_bd (h : ∀ i, i < n → okB f i = true) : ∀ k, k ≤ n → 0 ≤ rests f k ∧ rests f k ≤ 3 * k := by
  intro k
  induction k with
  | zero => intro _; simp [rests]
  | succ k ih =>
    intro hk
    have hp := (pmB_iff _).1 ((okB_iff f k).1 (h k (by omega))).1
    have := ih (by omega)
    unfold rests
    split <;> omega
theorem cnt_never {kind : Int} (h : ∀ i, i < n → pmB (f i) = true) (hk : kind < 0 ∨ 3 < kind) : cnt f kind n = 0 :=
  cnt_none fun i hi => by
    have := (pmB_iff _).1 (h i hi)
    omega
theorem pm_all (h : mayB f n = true) : ∀ i, i < n → pmB (f i) = true := fun i hi => ((okB_iff f i).1 (((mayB_iff f n).1 h).2.2.1 i hi)).1
end
end Go.Proofs.Ytofbebgcafpfhaa
