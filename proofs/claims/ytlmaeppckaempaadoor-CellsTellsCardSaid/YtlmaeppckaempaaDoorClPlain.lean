/-
  Plain mathematics of cells: they lie behind each other, apart; which one is found. No program is spoken of.
-/
import Derived.Test.YtlmaeppckaempaaDoorClCalls
namespace Go.Proofs.YtlmaeppckaempaaDoor

/-- Each cell's room ends ahead of the next one's first word; each has two words at least; the first words are addresses. -/
def Apart (L : List (Int × Int)) : Prop := L.Pairwise (fun c d => c.1 + c.2 ≤ d.1) ∧ ∀ c ∈ L, 16 ≤ c.1 ∧ 2 ≤ c.2
theorem Apart.tail {c : Int × Int} {L : List (Int × Int)} (h : Apart (c :: L)) : Apart L := ⟨(List.pairwise_cons.1 h.1).2, fun d hd => h.2 d (List.mem_cons_of_mem _ hd)⟩
theorem Apart.head {c d : Int × Int} {L : List (Int × Int)} (h : Apart (c :: L)) (hd : d ∈ L) : c.1 + c.2 ≤ d.1 := (List.pairwise_cons.1 h.1).1 d hd

theorem pIn_iff {a : Int} {c : Int × Int} : pIn a c = true ↔ c.1 ≤ a ∧ a < c.1 + c.2 := by simp [pIn]
theorem pAt_iff {a : Int} {c : Int × Int} : pAt a c = true ↔ c.1 = a := by simp [pAt]
theorem pUp_iff {a : Int} {c : Int × Int} : pUp a c = true ↔ a < c.1 := by simp [pUp]

/-- Just one cell has a word. -/
theorem Apart.one : ∀ {L : List (Int × Int)}, Apart L → ∀ {x : Int} {c d : Int × Int}, c ∈ L → d ∈ L → pIn x c = true → pIn x d = true → c = d
  | [], _, _, _, _, hc, _, _, _ => by simp at hc
  | h :: t, ha, x, c, d, hc, hd, pc, pd => by
    rw [pIn_iff] at pc pd
    rcases List.mem_cons.1 hc with rfl | hc' <;> rcases List.mem_cons.1 hd with rfl | hd'
    · rfl
    · have := ha.head hd'
      omega
    · have := ha.head hc'
      omega
    · exact Apart.one ha.tail hc' hd' (pIn_iff.2 pc) (pIn_iff.2 pd)
theorem Apart.find_in {L : List (Int × Int)} (h : Apart L) {x : Int} {c : Int × Int} (hc : c ∈ L) (hp : pIn x c = true) : L.find? (pIn x) = some c := by
  cases e : L.find? (pIn x) with
  | none => exact absurd hp (List.find?_eq_none.1 e c hc)
  | some d => rw [h.one (List.mem_of_find?_eq_some e) hc (List.find?_some e) hp]
theorem Apart.in_at {L : List (Int × Int)} (h : Apart L) {x : Int} {c : Int × Int} (hc : c ∈ L) (hp : pAt x c = true) : pIn x c = true := by
  have := h.2 c hc
  rw [pAt_iff] at hp
  rw [pIn_iff]
  omega
theorem Apart.find_at {L : List (Int × Int)} (h : Apart L) {x : Int} {c : Int × Int} (hc : c ∈ L) (hp : c.1 = x) : L.find? (pAt x) = some c := by
  have hp' := pAt_iff.2 hp
  cases e : L.find? (pAt x) with
  | none => exact absurd hp' (List.find?_eq_none.1 e c hc)
  | some d => rw [h.one (List.mem_of_find?_eq_some e) hc (h.in_at (List.mem_of_find?_eq_some e) (List.find?_some e)) (h.in_at hc hp')]
/-- The next one behind a cell's first word. -/
theorem Apart.find_up : ∀ {L : List (Int × Int)}, Apart L → ∀ {i : Nat} {c : Int × Int}, L[i]? = some c → L.find? (pUp c.1) = L[i + 1]?
  | [], _, i, c, hc => by simp at hc
  | h :: t, ha, 0, c, hc => by
    obtain rfl : h = c := by simpa using hc
    have h0 : pUp h.1 h = false := by simp [pUp]
    rw [List.find?_cons, h0]
    cases t with
    | nil => rfl
    | cons d t =>
      have h1 : pUp h.1 d = true := by
        have := ha.head (d := d) (by simp)
        have := (ha.2 h (by simp)).2
        rw [pUp_iff]
        omega
      simp [h1]
  | h :: t, ha, i + 1, c, hc => by
    have hc' : t[i]? = some c := by simpa using hc
    have h0 : pUp c.1 h = false := by
      have := ha.head (List.mem_of_getElem? hc')
      have := (ha.2 h (by simp)).2
      simp [pUp]
      omega
    rw [List.find?_cons, h0]
    simpa using Apart.find_up ha.tail hc'
theorem Apart.find_first {L : List (Int × Int)} (h : Apart L) {x : Int} (hx : x < 16) : L.find? (pUp x) = L[0]? := by
  cases L with
  | nil => rfl
  | cons c t =>
    have h1 : pUp x c = true := by
      have := h.2 c (by simp)
      rw [pUp_iff]
      omega
    simp [h1]
/-- Places rise. -/
theorem Apart.rise {L : List (Int × Int)} (h : Apart L) {i j : Nat} {c d : Int × Int} (hij : i < j) (hc : L[i]? = some c) (hd : L[j]? = some d) : c.1 + c.2 ≤ d.1 := by
  obtain ⟨hi, rfl⟩ := List.getElem?_eq_some_iff.1 hc
  obtain ⟨hj, rfl⟩ := List.getElem?_eq_some_iff.1 hd
  exact List.pairwise_iff_getElem.1 h.1 i j hi hj hij

theorem mem_pageL {k num : Nat} {room : Int} {c : Int × Int} : c ∈ pageL k num room ↔ ∃ j : Nat, j < num ∧ c = (16 + k * 16 + j * room, room) := by
  unfold pageL
  rw [List.mem_map]
  constructor
  · rintro ⟨j, hj, rfl⟩
    exact ⟨j, List.mem_range.1 hj, rfl⟩
  · rintro ⟨j, hj, rfl⟩
    exact ⟨j, List.mem_range.2 hj, rfl⟩
theorem mul_step {i j : Nat} {room : Int} (h : i < j) (h0 : 0 ≤ room) : (i : Int) * room + room ≤ j * room := by
  have e : (i : Int) * room + room = ((i + 1 : Nat) : Int) * room := by rw [Int.natCast_add, Int.add_mul]; simp
  rw [e]
  exact Int.mul_le_mul_of_nonneg_right (by omega) h0
theorem pageL_apart {k num : Nat} {room : Int} (h2 : 2 ≤ room ∨ num = 0) : Apart (pageL k num room) := by
  rcases h2 with h2 | rfl
  · refine ⟨?_, fun c hc => ?_⟩
    · unfold pageL
      rw [List.pairwise_map]
      refine List.Pairwise.imp ?_ (List.pairwise_lt_range (n := num))
      intro i j hij
      have := mul_step hij (show 0 ≤ room by omega)
      simp only
      omega
    · obtain ⟨j, hj, rfl⟩ := mem_pageL.1 hc
      have : (0 : Int) ≤ j * room := Int.mul_nonneg (by omega) (by omega)
      simp only
      omega
  · exact ⟨by simp [pageL], by simp [pageL]⟩
theorem num_some {p : Int × Int} (h : pmB p = true) : 2 ≤ roomOf p ∨ numOf p = 0 := by
  rcases pm_cases h with rfl | rfl | rfl | rfl | rfl | rfl | rfl | rfl | rfl <;> decide
/-- How many words the cells have that begin on a page. -/
def wordsIn (p : Int × Int) : Int := if p.1 = 1 then 16 else if p.1 = 2 then 16 * p.2 else 0
theorem num_words {p : Int × Int} (h : pmB p = true) : (numOf p : Int) * roomOf p = wordsIn p := by
  rcases pm_cases h with rfl | rfl | rfl | rfl | rfl | rfl | rfl | rfl | rfl <;> decide
theorem num_kind {p : Int × Int} (h : pmB p = true) : 0 < numOf p ↔ p.1 = 1 ∨ p.1 = 2 := by
  rcases pm_cases h with rfl | rfl | rfl | rfl | rfl | rfl | rfl | rfl | rfl <;> decide

/-- Words told for: those of the first k pages, and what a large object ahead still asks for. -/
theorem st_words {f : Nat → Int × Int} {k : Nat} (h : okB f k = true) (hs : 0 ≤ st f k) (hk : (f k).1 ≠ 0) : wordsIn (f k) + 16 * st f k = 16 + 16 * st f (k + 1) := by
  obtain ⟨hp, h3⟩ := (okB_iff f k).1 h
  have hp := (pmB_iff _).1 hp
  unfold wordsIn
  by_cases e2 : (f k).1 = 2
  · rw [st_large e2]
    have : ¬ 0 < st f k := fun hh => by have := h3.2 hh; omega
    rw [if_neg (by omega), if_pos e2]
    omega
  · by_cases e3 : (f k).1 = 3
    · rw [st_rest e3 (h3.1 e3)]
      rw [if_neg (by omega), if_neg (by omega)]
      omega
    · have hns : ¬ 0 < st f k := fun hh => e3 (h3.2 hh)
      rw [st_same e2 hns, if_pos (by omega)]
theorem st_free {f : Nat → Int × Int} {k : Nat} (h : okB f k = true) (hs : 0 ≤ st f k) (hk : (f k).1 = 0) : st f k = 0 ∧ st f (k + 1) = 0 := by
  obtain ⟨hp, h3⟩ := (okB_iff f k).1 h
  have hns : ¬ 0 < st f k := fun hh => by have := h3.2 hh; omega
  have h0 : st f k = 0 := by omega
  exact ⟨h0, by rw [st_same (by omega) hns, h0]⟩
theorem st_some {f : Nat → Int × Int} {k : Nat} (h : okB f k = true) (hs : 0 ≤ st f k) (hk : 0 < numOf (f k)) : st f k = 0 := by
  obtain ⟨hp, h3⟩ := (okB_iff f k).1 h
  have := (num_kind hp).1 hk
  by_cases e : 0 < st f k
  · have := h3.2 e
    omega
  · omega

/-- The cells of the first k pages end where they may. -/
theorem cellsL_ends {f : Nat → Int × Int} {n : Nat} (hf : ∀ k, k < n → okB f k = true) : ∀ k, k ≤ n → Apart (cellsL f k) ∧ ∀ c ∈ cellsL f k, c.1 + c.2 ≤ 16 + 16 * k + 16 * st f k
  | 0, _ => ⟨⟨List.Pairwise.nil, by simp [cellsL]⟩, by simp [cellsL]⟩
  | k + 1, hk => by
    obtain ⟨ha, he⟩ := cellsL_ends hf k (by omega)
    have ho := hf k (by omega)
    have hp := ((okB_iff f k).1 ho).1
    have hs := (st_nonneg hf k (by omega)).1
    have hs1 := (st_nonneg hf (k + 1) hk).1
    have hpa := pageL_apart (k := k) (num_some hp)
    rw [cellsL_succ]
    refine ⟨⟨List.pairwise_append.2 ⟨ha.1, hpa.1, ?_⟩, fun c hc => ?_⟩, fun c hc => ?_⟩
    · intro c hc d hd
      obtain ⟨j, hj, rfl⟩ := mem_pageL.1 hd
      have h0 := st_some ho hs (by omega)
      have := he c hc
      have : (0 : Int) ≤ j * roomOf (f k) := Int.mul_nonneg (by omega) (num_room hp).2.1
      simp only
      omega
    · rcases List.mem_append.1 hc with hc | hc
      · exact ha.2 c hc
      · exact hpa.2 c hc
    · rcases List.mem_append.1 hc with hc | hc
      · have := he c hc
        by_cases e : (f k).1 = 0
        · have := st_free ho hs e
          omega
        · have := st_words ho hs e
          have : 0 ≤ wordsIn (f k) := by rw [← num_words hp]; exact Int.mul_nonneg (by omega) (num_room hp).2.1
          omega
      · obtain ⟨j, hj, rfl⟩ := mem_pageL.1 hc
        have h0 := st_some ho hs (by omega)
        have hk := (num_kind hp).1 (by omega)
        have := st_words ho hs (by omega)
        have := num_words hp
        have := mul_step hj (num_room hp).2.1
        simp only
        omega
theorem allL_apart (f : Nat → Int × Int) (n : Nat) : Apart (allL f n) := by
  unfold allL
  split
  · next h => exact (cellsL_ends ((mayB_iff f n).1 h).2.2.1 n (Nat.le_refl _)).1
  · exact ⟨List.Pairwise.nil, by simp⟩
theorem allL_may {f : Nat → Int × Int} {n : Nat} (h : mayB f n = true) : allL f n = cellsL f n := if_pos h
theorem allL_no {f : Nat → Int × Int} {n : Nat} (h : mayB f n = false) : allL f n = [] := if_neg (by rw [h]; decide)
theorem allL_end {f : Nat → Int × Int} {n : Nat} {c : Int × Int} (hc : c ∈ allL f n) : mayB f n = true ∧ c.1 + c.2 ≤ 16 + 16 * n := by
  cases h : mayB f n
  · rw [allL_no h] at hc
    simp at hc
  · rw [allL_may h] at hc
    obtain ⟨_, _, h2, h3⟩ := (mayB_iff f n).1 h
    have := (cellsL_ends h2 n (Nat.le_refl _)).2 c hc
    exact ⟨rfl, by omega⟩
theorem mem_cellsL {f : Nat → Int × Int} {c : Int × Int} : ∀ {n : Nat}, c ∈ cellsL f n → ∃ k j : Nat, k < n ∧ j < numOf (f k) ∧ c = (16 + k * 16 + j * roomOf (f k), roomOf (f k))
  | 0, h => by simp [cellsL] at h
  | n + 1, h => by
    rw [cellsL_succ] at h
    rcases List.mem_append.1 h with h | h
    · obtain ⟨k, j, h1, h2, h3⟩ := mem_cellsL h
      exact ⟨k, j, by omega, h2, h3⟩
    · obtain ⟨j, h1, h2⟩ := mem_pageL.1 h
      exact ⟨n, j, by omega, h1, h2⟩
/-- Cell j of page k, at its place. -/
theorem allL_get {f : Nat → Int × Int} {n k j : Nat} (h : mayB f n = true) (hk : k < n) (hj : j < numOf (f k)) : (allL f n)[(cellsL f k).length + j]? = some (16 + k * 16 + j * roomOf (f k), roomOf (f k)) := by
  rw [allL_may h]
  obtain ⟨t, ht⟩ := cellsL_prefix f (j := k + 1) (k := n) hk
  rw [← ht, cellsL_succ, List.append_assoc, List.getElem?_append_right (by omega), Nat.add_sub_cancel_left, List.getElem?_append_left (by rw [pageL_length]; exact hj)]
  exact pageL_get k _ _ j hj
theorem cellsL_len_succ (f : Nat → Int × Int) (k : Nat) : (cellsL f (k + 1)).length = (cellsL f k).length + numOf (f k) := by rw [cellsL_succ, List.length_append, pageL_length]
end Go.Proofs.YtlmaeppckaempaaDoor
