/-
  Plain mathematics of pages: which may be, how many are of a kind, where some are free, what is taken and dropped. No program is spoken of.
-/
import Derived.Test.YtlmaeppckaempaaDoorPgRow
namespace Go.Proofs.YtlmaeppckaempaaDoor

/-- A page, seen alone. -/
def pmB (p : Int × Int) : Bool := (p.1 == 0 && p.2 == 0) || (p.1 == 1 && decide (0 ≤ p.2) && decide (p.2 ≤ 2)) || (p.1 == 2 && decide (1 ≤ p.2) && decide (p.2 ≤ 4)) || (p.1 == 3 && p.2 == 0)
theorem pmB_iff (p : Int × Int) : pmB p = true ↔ (p.1 = 0 ∧ p.2 = 0) ∨ (p.1 = 1 ∧ 0 ≤ p.2 ∧ p.2 ≤ 2) ∨ (p.1 = 2 ∧ 1 ≤ p.2 ∧ p.2 ≤ 4) ∨ (p.1 = 3 ∧ p.2 = 0) := by
  simp [pmB, or_assoc, and_assoc]

/-- How many pages the large object ahead of page k still asks for. -/
def st (f : Nat → Int × Int) : Nat → Int
  | 0 => 0
  | k + 1 => if (f k).1 = 2 then (f k).2 - 1 else if 0 < st f k then st f k - 1 else st f k
def okB (f : Nat → Int × Int) (k : Nat) : Bool := pmB (f k) && (decide ((f k).1 = 3) == decide (0 < st f k))
theorem okB_iff (f : Nat → Int × Int) (k : Nat) : okB f k = true ↔ pmB (f k) = true ∧ ((f k).1 = 3 ↔ 0 < st f k) := by
  simp [okB]
def mayB (f : Nat → Int × Int) (n : Nat) : Bool := decide (1 ≤ n) && decide (n ≤ 64) && (List.range n).all (okB f) && (st f n == 0)
theorem mayB_iff (f : Nat → Int × Int) (n : Nat) : mayB f n = true ↔ 1 ≤ n ∧ n ≤ 64 ∧ (∀ k, k < n → okB f k = true) ∧ st f n = 0 := by
  simp [mayB, and_assoc]
theorem mayB_short {f : Nat → Int × Int} {n : Nat} (h : n < 1 ∨ 64 < n) : mayB f n = false := by
  rw [Bool.eq_false_iff]
  intro h'
  have := (mayB_iff f n).1 h'
  omega
theorem mayB_not {f : Nat → Int × Int} {n k : Nat} (hk : k < n) (h : okB f k = false) : mayB f n = false := by
  rw [Bool.eq_false_iff]
  intro h'
  have := ((mayB_iff f n).1 h').2.2.1 k hk
  rw [h] at this
  cases this
theorem mayB_end {f : Nat → Int × Int} {n : Nat} (h : st f n ≠ 0) : mayB f n = false := by
  rw [Bool.eq_false_iff]
  intro h'
  exact h ((mayB_iff f n).1 h').2.2.2
theorem mayB_mk {f : Nat → Int × Int} {n : Nat} (h0 : 1 ≤ n) (h1 : n ≤ 64) (h2 : ∀ k, k < n → okB f k = true) (h3 : st f n = 0) : mayB f n = true := (mayB_iff f n).2 ⟨h0, h1, h2, h3⟩
theorem st_nonneg {f : Nat → Int × Int} {n : Nat} (h : ∀ k, k < n → okB f k = true) : ∀ k, k ≤ n → 0 ≤ st f k ∧ st f k ≤ 3
  | 0, _ => by simp [st]
  | k + 1, hk => by
    have hr := st_nonneg h k (by omega)
    have h1 := (okB_iff f k).1 (h k (by omega))
    have h2 := (pmB_iff _).1 h1.1
    unfold st
    split
    · omega
    · split <;> omega
theorem st_congr {f g : Nat → Int × Int} : ∀ k, (∀ j, j < k → g j = f j) → st g k = st f k
  | 0, _ => rfl
  | k + 1, h => by
    have hr := st_congr k (fun j hj => h j (by omega))
    unfold st
    rw [hr, h k (by omega)]
theorem st_on {f g : Nat → Int × Int} {a : Nat} (ha : st g a = st f a) : ∀ k, (∀ j, a ≤ j → j < a + k → g j = f j) → st g (a + k) = st f (a + k)
  | 0, _ => ha
  | k + 1, h => by
    have hr := st_on ha k (fun j hj hk => h j hj (by omega))
    show st g (a + k + 1) = st f (a + k + 1)
    unfold st
    rw [hr, h (a + k) (by omega) (by omega)]
/-- Pages changed from a to a + m alone: they may be, where what stands there now fits in. -/
theorem may_changed {f g : Nat → Int × Int} {n a m : Nat} (h : mayB f n = true) (hm : a + m ≤ n) (hl : ∀ j, j < a → g j = f j) (hr : ∀ j, a + m ≤ j → g j = f j)
    (hs : st g (a + m) = st f (a + m)) (hok : ∀ j, j < m → okB g (a + j) = true) : mayB g n = true := by
  obtain ⟨h0, h1, h2, h3⟩ := (mayB_iff f n).1 h
  refine mayB_mk h0 h1 (fun k hk => ?_) ?_
  · by_cases hka : k < a
    · have e := h2 k hk
      rw [okB_iff] at e ⊢
      rw [hl k hka, st_congr k (fun j hj => hl j (by omega))]
      exact e
    · by_cases hkm : k < a + m
      · have := hok (k - a) (by omega)
        rwa [show a + (k - a) = k by omega] at this
      · have e := h2 k hk
        rw [okB_iff] at e ⊢
        have es := st_on (f := f) (g := g) hs (k - (a + m)) (fun j hj _ => hr j hj)
        rw [show a + m + (k - (a + m)) = k by omega] at es
        rw [hr k (by omega), es]
        exact e
  · have es := st_on (f := f) (g := g) hs (n - (a + m)) (fun j hj _ => hr j hj)
    rw [show a + m + (n - (a + m)) = n by omega] at es
    rw [es, h3]

/-- n pages from page a on are free. -/
def freeB (f : Nat → Int × Int) (a n : Nat) : Bool := (List.range n).all fun j => (f (a + j)).1 == 0
theorem freeB_iff (f : Nat → Int × Int) (a n : Nat) : freeB f a n = true ↔ ∀ j, j < n → (f (a + j)).1 = 0 := by
  simp [freeB]
theorem freeB_not {f : Nat → Int × Int} {a n j : Nat} (hj : j < n) (h : (f (a + j)).1 ≠ 0) : freeB f a n = false := by
  rw [Bool.eq_false_iff]
  intro h'
  exact h ((freeB_iff f a n).1 h' j hj)
theorem freeB_ex {f : Nat → Int × Int} {a n : Nat} (h : freeB f a n = false) : ∃ j, j < n ∧ (f (a + j)).1 ≠ 0 := by
  by_cases he : ∃ j, j < n ∧ (f (a + j)).1 ≠ 0
  · exact he
  · have : freeB f a n = true := (freeB_iff f a n).2 (fun j hj => by
      by_cases e : (f (a + j)).1 = 0
      · exact e
      · exact absurd ⟨j, hj, e⟩ he)
    rw [h] at this
    cases this
theorem free_zero {f : Nat → Int × Int} {n k : Nat} (h : mayB f n = true) (hk : k < n) (hf : (f k).1 = 0) : f k = (0, 0) ∧ st f k = 0 := by
  obtain ⟨h0, h1, h2, h3⟩ := (mayB_iff f n).1 h
  have ho := (okB_iff f k).1 (h2 k hk)
  have hp := (pmB_iff _).1 ho.1
  have hn := st_nonneg h2 k (by omega)
  have hz : ¬ 0 < st f k := fun hh => by have := ho.2.2 hh; omega
  exact ⟨Prod.ext hf (by omega), by omega⟩
theorem free_st {f : Nat → Int × Int} {n a m : Nat} (h : mayB f n = true) (hm : a + m ≤ n) (h1 : 1 ≤ m) (hf : freeB f a m = true) : st f (a + m) = 0 := by
  have hz := free_zero h (k := a + (m - 1)) (by omega) ((freeB_iff f a m).1 hf (m - 1) (by omega))
  have : st f (a + (m - 1) + 1) = 0 := by
    unfold st
    rw [hz.1, hz.2]
    simp
  rwa [show a + (m - 1) + 1 = a + m by omega] at this

theorem put_ne {f : Nat → Int × Int} {a j : Nat} {p : Int × Int} (h : j ≠ a) : put f a p j = f j := if_neg h
theorem put_eq {f : Nat → Int × Int} {a : Nat} {p : Int × Int} : put f a p a = p := if_pos rfl
/-- A small page at a place. -/
theorem small_may {f : Nat → Int × Int} {n a : Nat} {c : Int} (h : mayB f n = true) (ha : a < n) (hf : (f a).1 = 0) (h0 : 0 ≤ c) (h1 : c ≤ 2) : mayB (put f a (1, c)) n = true := by
  obtain ⟨hz, hs⟩ := free_zero h ha hf
  have hg : st (put f a (1, c)) a = 0 := by rw [st_congr a (fun j hj => put_ne (by omega)), hs]
  refine may_changed (a := a) (m := 1) h (by omega) (fun j hj => put_ne (by omega)) (fun j hj => put_ne (by omega)) ?_ ?_
  · unfold st
    rw [hs, hg, hz]
    simp [put]
  · intro j hj
    obtain rfl : j = 0 := by omega
    rw [okB_iff]
    simp only [Nat.add_zero, hg]
    refine ⟨(pmB_iff _).2 (.inr (.inl ?_)), ?_⟩ <;> simp [put, h0, h1]

/-- A large object's m pages from a place on. -/
def large (f : Nat → Int × Int) (a : Nat) (m : Int) : Nat → Int × Int := fun j => if j = a then (2, m) else if a < j ∧ (j : Int) < a + m then (3, 0) else f j
theorem large_st {f : Nat → Int × Int} {a : Nat} {m : Int} (h1 : 1 ≤ m) : ∀ j : Nat, (j : Int) < m → st (large f a m) (a + j + 1) = m - j - 1
  | 0, _ => by
    unfold st
    simp [large]
  | j + 1, hj => by
    have hr := large_st (f := f) (a := a) h1 j (by omega)
    show st (large f a m) (a + j + 1 + 1) = _
    unfold st
    rw [hr]
    have e : large f a m (a + j + 1) = (3, 0) := by
      unfold large
      rw [if_neg (by omega), if_pos (by omega)]
    rw [e]
    simp
    rw [if_pos (by omega)]
    omega
theorem large_may {f : Nat → Int × Int} {n a : Nat} {m : Int} (h : mayB f n = true) (h1 : 1 ≤ m) (h4 : m ≤ 4) (ha : (a : Int) + m ≤ n) (hf : freeB f a m.toNat = true) : mayB (large f a m) n = true := by
  obtain ⟨k, rfl⟩ : ∃ k : Nat, m = k := ⟨m.toNat, by omega⟩
  simp only [Int.toNat_natCast] at hf
  have hst := free_st h (by omega) (by omega) hf
  obtain ⟨hz, hs⟩ := free_zero h (k := a) (by omega) (by simpa using (freeB_iff f a k).1 hf 0 (by omega))
  have hl : ∀ j, j < a → large f a k j = f j := fun j hj => by unfold large; rw [if_neg (by omega), if_neg (by omega)]
  have hg : st (large f a k) a = 0 := by rw [st_congr a hl, hs]
  refine may_changed (a := a) (m := k) h (by omega) hl (fun j hj => by unfold large; rw [if_neg (by omega), if_neg (by omega)]) ?_ ?_
  · have := large_st (f := f) (a := a) h1 (k - 1) (by omega)
    rw [show a + (k - 1) + 1 = a + k by omega] at this
    rw [this, hst]
    omega
  · intro j hj
    rw [okB_iff]
    match j, hj with
    | 0, _ =>
      simp only [Nat.add_zero, hg]
      refine ⟨(pmB_iff _).2 (.inr (.inr (.inl ?_))), ?_⟩
      · simp [large]; omega
      · simp [large]
    | j + 1, hj =>
      have e : large f a k (a + (j + 1)) = (3, 0) := by
        unfold large
        rw [if_neg (by omega), if_pos (by omega)]
      have es := large_st (f := f) (a := a) h1 j (by omega)
      rw [show a + (j + 1) = a + j + 1 by omega] at e ⊢
      rw [e, es]
      refine ⟨by decide, ?_⟩
      simp
      omega

/-- How many pages begin at page a, where a small or a large one does. -/
def wide (f : Nat → Int × Int) (a : Nat) : Int := if (f a).1 = 2 then (f a).2 else 1
def drop (f : Nat → Int × Int) (a : Nat) : Nat → Int × Int := fun j => if a ≤ j ∧ (j : Int) < a + wide f a then (0, 0) else f j
theorem wide_facts {f : Nat → Int × Int} {n a : Nat} (h : mayB f n = true) (ha : a < n) (hk : (f a).1 = 1 ∨ (f a).1 = 2) :
    1 ≤ wide f a ∧ wide f a ≤ 4 ∧ (a : Int) + wide f a ≤ n ∧ st f a = 0 ∧ (∀ j : Nat, (j : Int) < wide f a → st f (a + j + 1) = wide f a - j - 1 ∧ (0 < j → f (a + j) = (3, 0))) := by
  obtain ⟨h0, h1, h2, h3⟩ := (mayB_iff f n).1 h
  have ho := (okB_iff f a).1 (h2 a ha)
  have hp := (pmB_iff _).1 ho.1
  have hn := st_nonneg h2 a (by omega)
  have hz : ¬ 0 < st f a := fun hh => by have := ho.2.2 hh; omega
  have hw : 1 ≤ wide f a ∧ wide f a ≤ 4 := by
    unfold wide
    split <;> omega
  have hj : ∀ j : Nat, (j : Int) < wide f a → a + j < n → st f (a + j + 1) = wide f a - j - 1 ∧ (0 < j → f (a + j) = (3, 0)) := by
    intro j
    induction j with
    | zero =>
      intro _ _
      refine ⟨?_, fun hh => absurd hh (by omega)⟩
      show st f (a + 1) = _
      unfold st wide
      split
      · simp
      · omega
    | succ j ih =>
      intro hj hjn
      obtain ⟨e, _⟩ := ih (by omega) (by omega)
      have ho := (okB_iff f (a + j + 1)).1 (h2 (a + j + 1) (by omega))
      have h3' : (f (a + j + 1)).1 = 3 := ho.2.2 (by rw [e]; omega)
      have hp := (pmB_iff _).1 ho.1
      have ef : f (a + j + 1) = (3, 0) := Prod.ext h3' (by omega)
      refine ⟨?_, fun _ => ef⟩
      show st f (a + j + 1 + 1) = _
      unfold st
      rw [ef, e]
      simp
      rw [if_pos (by omega)]
      omega
  have hfit : (a : Int) + wide f a ≤ n := by
    by_cases hc : (a : Int) + wide f a ≤ n
    · exact hc
    · exfalso
      have := (hj (n - a - 1) (by omega) (by omega)).1
      rw [show a + (n - a - 1) + 1 = n by omega, h3] at this
      omega
  exact ⟨hw.1, hw.2, hfit, by omega, fun j hh => hj j hh (by omega)⟩
theorem drop_may {f : Nat → Int × Int} {n a : Nat} (h : mayB f n = true) (ha : a < n) (hk : (f a).1 = 1 ∨ (f a).1 = 2) : mayB (drop f a) n = true := by
  obtain ⟨h1, h4, hn, hz, hj⟩ := wide_facts h ha hk
  obtain ⟨k, ek⟩ : ∃ k : Nat, wide f a = k := ⟨(wide f a).toNat, by omega⟩
  have hl : ∀ j, j < a → drop f a j = f j := fun j hj => by unfold drop; rw [if_neg (by omega)]
  have hin : ∀ j, j < k → drop f a (a + j) = (0, 0) := fun j hj => by unfold drop; rw [if_pos (by omega)]
  have hg : ∀ j, j ≤ k → st (drop f a) (a + j) = 0 := by
    intro j
    induction j with
    | zero => intro _; rw [Nat.add_zero, st_congr a hl, hz]
    | succ j ih =>
      intro hj
      show st (drop f a) (a + j + 1) = 0
      unfold st
      rw [ih (by omega), hin j (by omega)]
      simp
  refine may_changed (a := a) (m := k) h (by omega) hl (fun j hj => by unfold drop; rw [if_neg (by omega)]) ?_ ?_
  · rw [hg k (Nat.le_refl _)]
    have := (hj (k - 1) (by omega)).1
    rw [show a + (k - 1) + 1 = a + k by omega, ek] at this
    omega
  · intro j hj
    rw [okB_iff, hin j hj, hg j (by omega)]
    exact ⟨by decide, by decide⟩

/-- How many of the first k pages are of a kind. -/
def cnt (f : Nat → Int × Int) (kind : Int) : Nat → Int
  | 0 => 0
  | k + 1 => if (f k).1 = kind then cnt f kind k + 1 else cnt f kind k
theorem cnt_succ (f : Nat → Int × Int) (kind : Int) (k : Nat) : cnt f kind (k + 1) = if (f k).1 = kind then cnt f kind k + 1 else cnt f kind k := rfl
theorem cnt_bd (f : Nat → Int × Int) (kind : Int) : ∀ k : Nat, 0 ≤ cnt f kind k ∧ cnt f kind k ≤ k
  | 0 => by simp [cnt]
  | k + 1 => by
    have := cnt_bd f kind k
    unfold cnt
    split <;> omega
theorem cnt_congr {f g : Nat → Int × Int} (kind : Int) : ∀ k, (∀ j, j < k → (g j).1 = (f j).1) → cnt g kind k = cnt f kind k
  | 0, _ => rfl
  | k + 1, h => by
    unfold cnt
    rw [cnt_congr kind k (fun j hj => h j (by omega)), h k (by omega)]
/-- Two runs of pages, which differ from a to a + m alone. -/
theorem cnt_split (f : Nat → Int × Int) (kind : Int) (a : Nat) : ∀ k, cnt f kind (a + k) = cnt f kind a + cnt (fun j => f (a + j)) kind k
  | 0 => by simp [cnt]
  | k + 1 => by
    show cnt f kind (a + k + 1) = _
    rw [cnt_succ, cnt_succ, cnt_split f kind a k]
    split <;> omega
theorem cnt_all {f : Nat → Int × Int} {kind : Int} : ∀ {k : Nat}, (∀ j, j < k → (f j).1 = kind) → cnt f kind k = k
  | 0, _ => by simp [cnt]
  | k + 1, h => by
    unfold cnt
    rw [if_pos (h k (by omega)), cnt_all (fun j hj => h j (by omega))]
    omega
theorem cnt_none {f : Nat → Int × Int} {kind : Int} : ∀ {k : Nat}, (∀ j, j < k → (f j).1 ≠ kind) → cnt f kind k = 0
  | 0, _ => by simp [cnt]
  | k + 1, h => by
    unfold cnt
    rw [if_neg (h k (by omega)), cnt_none (fun j hj => h j (by omega))]
theorem cnt_lt {f : Nat → Int × Int} {kind : Int} : ∀ {k : Nat}, (∃ j, j < k ∧ (f j).1 ≠ kind) → cnt f kind k < k
  | 0, ⟨_, h, _⟩ => absurd h (by omega)
  | k + 1, ⟨j, hj, hne⟩ => by
    have hb := cnt_bd f kind k
    unfold cnt
    split
    · next he =>
      have hjk : j ≠ k := fun e => hne (e ▸ he)
      have := cnt_lt (f := f) (kind := kind) (k := k) ⟨j, by omega, hne⟩
      omega
    · omega
theorem free_cnt (f : Nat → Int × Int) (a n : Nat) : freeB f a n = decide ((n : Int) ≤ cnt (fun j => f (a + j)) 0 n) := by
  cases h : freeB f a n
  · have := cnt_lt (f := fun j => f (a + j)) (kind := 0) (freeB_ex h)
    simp
    omega
  · have := cnt_all (f := fun j => f (a + j)) (kind := 0) (k := n) ((freeB_iff f a n).1 h)
    simp
    omega
/-- Pages changed from a to a + m alone: what that does to how many are of a kind. -/
theorem cnt_changed {f g : Nat → Int × Int} (kind : Int) {a m n : Nat} (hn : a + m ≤ n) (hl : ∀ j, j < a → g j = f j) (hr : ∀ j, a + m ≤ j → g j = f j) :
    cnt g kind n - cnt f kind n = cnt (fun j => g (a + j)) kind m - cnt (fun j => f (a + j)) kind m := by
  obtain ⟨r, rfl⟩ : ∃ r, n = a + m + r := ⟨n - (a + m), by omega⟩
  rw [cnt_split g kind (a + m) r, cnt_split f kind (a + m) r, cnt_split g kind a m, cnt_split f kind a m]
  rw [cnt_congr (f := f) (g := g) kind a (fun j hj => by rw [hl j hj])]
  rw [cnt_congr (f := fun j => f (a + m + j)) (g := fun j => g (a + m + j)) kind r (fun j _ => by rw [hr (a + m + j) (by omega)])]
  omega
end Go.Proofs.YtlmaeppckaempaaDoor
