/-
  Plain mathematics of the reference's cells: by definition, word by word, a word begins the same cell.
-/
import Derived.Test.YtlmaeppckaempaaDoorClApp
namespace Go.Proofs.YtlmaeppckaempaaDoor

/-- How many words the cell has that begins at word r, on a page that is p. -/
def pg (p : Int × Int) (r : Int) : Int := if p.1 = 2 ∧ r % 16 = 0 then 16 * p.2 else if p.1 = 1 ∧ r % wordsOf p.2 = 0 then wordsOf p.2 else 0
def bg (f : Nat → Int × Int) (n : Nat) (a : Int) : Int := if mayB f n = true ∧ 16 ≤ a ∧ a < 16 + 16 * (n : Int) then pg (f (a / 16 - 1).toNat) a else 0
theorem bg_no {f : Nat → Int × Int} {n : Nat} {a : Int} (h : ¬ (mayB f n = true ∧ 16 ≤ a ∧ a < 16 + 16 * (n : Int))) : bg f n a = 0 := if_neg h
theorem bg_in {f : Nat → Int × Int} {n k : Nat} {a : Int} (h : mayB f n = true) (h0 : 16 ≤ a) (h1 : a < 16 + 16 * (n : Int)) (hk : a / 16 - 1 = k) : bg f n a = pg (f k) a := by
  unfold bg
  rw [if_pos ⟨h, h0, h1⟩, hk, Int.toNat_natCast]
theorem pg_shift {p : Int × Int} (h : pmB p = true) (k : Nat) (r : Int) : pg p (16 + k * 16 + r) = pg p r := by
  have e16 : (16 + (k : Int) * 16 + r) % 16 = r % 16 := by omega
  have e8 : (16 + (k : Int) * 16 + r) % 8 = r % 8 := by omega
  have e4 : (16 + (k : Int) * 16 + r) % 4 = r % 4 := by omega
  have e2 : (16 + (k : Int) * 16 + r) % 2 = r % 2 := by omega
  rcases pm_cases h with rfl | rfl | rfl | rfl | rfl | rfl | rfl | rfl | rfl <;> simp [pg, wordsOf, e16, e8, e4, e2]
theorem pg_cell {p : Int × Int} (h : pmB p = true) {j : Nat} (hj : j < numOf p) : pg p (j * roomOf p) = roomOf p := by
  have key : ∀ q : Int × Int, (∀ i, i < numOf q → pg q ((i : Nat) * roomOf q) = roomOf q) → p = q → pg p (j * roomOf p) = roomOf p := by
    rintro q hq rfl
    exact hq j hj
  rcases pm_cases h with e | e | e | e | e | e | e | e | e
  all_goals exact key _ (by decide) e
theorem pg_zero {p : Int × Int} (h : pmB p = true) {r : Nat} (hr : r < 16) : pg p r = 0 ∨ ∃ j, j < numOf p ∧ (r : Int) = (j : Nat) * roomOf p := by
  have key : ∀ q : Int × Int, (∀ r, r < 16 → pg q ((r : Nat) : Int) = 0 ∨ ∃ j, j < numOf q ∧ ((r : Nat) : Int) = (j : Nat) * roomOf q) → p = q → pg p r = 0 ∨ ∃ j, j < numOf p ∧ (r : Int) = (j : Nat) * roomOf p := by
    rintro q hq rfl
    exact hq r hr
  rcases pm_cases h with e | e | e | e | e | e | e | e | e
  all_goals exact key _ (by decide) e
theorem step_on {p : Int × Int} (h : pmB p = true) {j : Nat} (hj : j < numOf p) : (j : Int) * roomOf p < 16 := by
  rcases pm_cases h with rfl | rfl | rfl | rfl | rfl | rfl | rfl | rfl | rfl <;> simp [numOf, roomOf, wordsOf] at hj ⊢ <;> omega
/-- A cell lies on the page on which it begins. -/
theorem cell_page {f : Nat → Int × Int} {n : Nat} {c : Int × Int} (h : c ∈ allL f n) : mayB f n = true ∧ ∃ k j : Nat, k < n ∧ j < numOf (f k) ∧ pmB (f k) = true ∧ c = (16 + k * 16 + j * roomOf (f k), roomOf (f k)) ∧ 0 ≤ (j : Int) * roomOf (f k) ∧ (j : Int) * roomOf (f k) < 16 := by
  have hm := (allL_end h).1
  rw [allL_may hm] at h
  obtain ⟨k, j, hk, hj, hc⟩ := mem_cellsL h
  have hp := may_pm hm hk
  exact ⟨hm, k, j, hk, hj, hp, hc, Int.mul_nonneg (by omega) (num_room hp).2.1, step_on hp hj⟩
/-- Begins is Room. -/
theorem bg_room (f : Nat → Int × Int) (n : Nat) (a : Int) : (foundV (allL f n) (pAt a)).2 = bg f n a := by
  by_cases hex : ∃ c, c ∈ allL f n ∧ c.1 = a
  · obtain ⟨c, hc, rfl⟩ := hex
    have hf := (allL_apart f n).find_at hc rfl
    obtain ⟨hm, k, j, hk, hj, hp, rfl, h0, h1⟩ := cell_page hc
    rw [show (foundV (allL f n) (pAt (16 + (k : Int) * 16 + j * roomOf (f k), roomOf (f k)).1)).2 = roomOf (f k) by simp only [foundV, hf, Option.getD_some]]
    rw [bg_in (k := k) hm (by simp only; omega) (by simp only; omega) (by simp only; omega), pg_shift hp, pg_cell hp hj]
  · have hf : (allL f n).find? (pAt a) = none := by
      rw [List.find?_eq_none]
      intro c hc hp
      exact hex ⟨c, hc, pAt_iff.1 hp⟩
    rw [show (foundV (allL f n) (pAt a)).2 = 0 by simp [foundV, hf]]
    by_cases h : mayB f n = true ∧ 16 ≤ a ∧ a < 16 + 16 * (n : Int)
    · obtain ⟨hm, h0, h1⟩ := h
      obtain ⟨k, hk⟩ : ∃ k : Nat, a / 16 - 1 = k := ⟨(a / 16 - 1).toNat, by omega⟩
      obtain ⟨r, hr⟩ : ∃ r : Nat, a = 16 + k * 16 + r := ⟨(a - 16 - k * 16).toNat, by omega⟩
      have hp := may_pm hm (show k < n by omega)
      rw [bg_in hm h0 h1 hk, hr, pg_shift hp]
      rcases pg_zero hp (show r < 16 by omega) with h | ⟨j, hj, e⟩
      · exact h.symm
      · exfalso
        refine hex ⟨_, List.mem_of_getElem? (allL_get hm (show k < n by omega) hj), ?_⟩
        simp only
        omega
    · exact (bg_no h).symm
theorem bg_nonneg (f : Nat → Int × Int) (n : Nat) (a : Int) : 0 ≤ bg f n a ∧ bg f n a ≤ 100 := by
  rw [← bg_room]
  unfold foundV
  cases h : (allL f n).find? (pAt a) with
  | none => simp
  | some c =>
    have := allL_bounds f n c (List.mem_of_find?_eq_some h)
    simp only [Option.getD_some]
    omega
/-- Where Begins tells room, a cell begins; nowhere else. -/
theorem bg_some {f : Nat → Int × Int} {n : Nat} {a : Int} (h : 0 < bg f n a) : ∃ c, c ∈ allL f n ∧ c.1 = a := by
  rw [← bg_room] at h
  unfold foundV at h
  cases hf : (allL f n).find? (pAt a) with
  | none => rw [hf] at h; simp at h
  | some c => exact ⟨c, List.mem_of_find?_eq_some hf, pAt_iff.1 (List.find?_some hf)⟩
theorem bg_cell {f : Nat → Int × Int} {n : Nat} {c : Int × Int} (h : c ∈ allL f n) : bg f n c.1 = c.2 := by
  rw [← bg_room]
  unfold foundV
  rw [(allL_apart f n).find_at h rfl]
  rfl

/-- The cells of a page, among all. -/
theorem filter_pageL {k num : Nat} {room : Int} {a : Int} (h : ∀ j : Nat, j < num → 0 ≤ (j : Int) * room ∧ (j : Int) * room < 16) :
    (pageL k num room).filter (fun c => c.1 / 16 - 1 == a) = if (k : Int) = a then pageL k num room else [] := by
  split
  · next e =>
    rw [List.filter_eq_self]
    intro c hc
    obtain ⟨j, hj, rfl⟩ := mem_pageL.1 hc
    have := h j hj
    simp only [beq_iff_eq]
    omega
  · next e =>
    rw [List.filter_eq_nil_iff]
    intro c hc
    obtain ⟨j, hj, rfl⟩ := mem_pageL.1 hc
    have := h j hj
    simp only [beq_iff_eq]
    omega
theorem filter_cellsL {f : Nat → Int × Int} {a : Int} : ∀ {n : Nat}, (∀ k, k < n → pmB (f k) = true) →
    (cellsL f n).filter (fun c => c.1 / 16 - 1 == a) = if 0 ≤ a ∧ a < n then pageL a.toNat (numOf (f a.toNat)) (roomOf (f a.toNat)) else []
  | 0, _ => by rw [if_neg (by omega)]; rfl
  | n + 1, hp => by
    rw [cellsL_succ, List.filter_append, filter_cellsL (fun k hk => hp k (by omega)), filter_pageL (fun j hj => ⟨Int.mul_nonneg (by omega) (num_room (hp n (by omega))).2.1, step_on (hp n (by omega)) hj⟩)]
    by_cases e : (n : Int) = a
    · subst e
      rw [if_neg (by omega), if_pos rfl, if_pos (by omega), Int.toNat_natCast]
      rfl
    · rw [if_neg e, List.append_nil]
      by_cases h : 0 ≤ a ∧ a < (n : Int)
      · rw [if_pos h, if_pos (by omega)]
      · rw [if_neg h, if_neg (by omega)]
theorem filter_allS (f : Nat → Int × Int) (n : Nat) (a : Int) : (allS f n).filter (fun s => s / 16 - 1 == a) = onS f n a := by
  have e : (allS f n).filter (fun s => s / 16 - 1 == a) = ((allL f n).filter (fun c => c.1 / 16 - 1 == a)).map (·.1) := by
    unfold allS
    rw [List.filter_map]
    rfl
  rw [e]
  cases h : mayB f n
  · rw [allL_no h]
    unfold onS
    rw [if_neg (by rw [h]; simp)]
    rfl
  · rw [allL_may h, filter_cellsL (fun k hk => may_pm h hk)]
    unfold onS
    by_cases hr : 0 ≤ a ∧ a < (n : Int)
    · rw [if_pos hr, if_pos ⟨h, hr⟩]
    · rw [if_neg hr, if_neg (fun hh => hr hh.2)]
      rfl
end Go.Proofs.YtlmaeppckaempaaDoor
