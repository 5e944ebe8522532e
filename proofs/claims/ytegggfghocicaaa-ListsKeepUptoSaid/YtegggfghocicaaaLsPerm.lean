/-
  What is moved or parted is lost nowhere: the plain mathematics.
-/
import Derived.Test.YtegggfghocicaaaLsSame
namespace Go.Proofs.Ytegggfghocicaaa
open Go.RowKit

theorem mem_upTo3 {f : Nat → List Int} {x : Int} : x ∈ upTo f 3 ↔ ∃ j, j < 3 ∧ x ∈ f j := by
  simp [upTo]
theorem len_upTo3 (f : Nat → List Int) : (upTo f 3).length = cnt3 f := by rw [upTo3]; simp [cnt3]; omega
theorem moved_mem {f g : Nat → List Int} {k t : Nat} (hk : k < 3) : ∀ x, x ∈ upTo f 3 ++ upTo g 3 → x ∈ upTo (upd f k ((f k).take t)) 3 ++ upTo (upd g k (g k ++ ((f k).drop t).reverse)) 3 := by
  intro x hx
  rw [List.mem_append, mem_upTo3, mem_upTo3] at hx ⊢
  rcases hx with ⟨j, hj, hx⟩ | ⟨j, hj, hx⟩
  · by_cases e : j = k
    · subst e
      rw [← List.take_append_drop t (f j), List.mem_append] at hx
      rcases hx with hx | hx
      · exact .inl ⟨j, hj, by rw [upd_same]; exact hx⟩
      · exact .inr ⟨j, hj, by rw [upd_same]; simp [hx]⟩
    · exact .inl ⟨j, hj, by rw [upd_other _ _ e]; exact hx⟩
  · by_cases e : j = k
    · subst e
      exact .inr ⟨j, hj, by rw [upd_same]; simp [hx]⟩
    · exact .inr ⟨j, hj, by rw [upd_other _ _ e]; exact hx⟩
theorem moved_len {f g : Nat → List Int} {k t : Nat} (hk : k < 3) (ht : t ≤ (f k).length) : cnt3 (upd f k ((f k).take t)) + cnt3 (upd g k (g k ++ ((f k).drop t).reverse)) = cnt3 f + cnt3 g := by
  have h1 := cnt_upd f k hk ((f k).take t)
  have h2 := cnt_upd g k hk (g k ++ ((f k).drop t).reverse)
  simp only [List.length_take, List.length_append, List.length_reverse, List.length_drop] at h1 h2
  omega
theorem part_split (low high : Int) (xs : List Int) : (outOf low high xs).length + (inOf low high xs).length = xs.length := by
  unfold outOf inOf
  induction xs with
  | nil => rfl
  | cons a xs ih =>
    cases h : isIn low high a
    · simp only [List.filter_cons, h, Bool.not_false, if_true, List.length_cons]
      simp
      omega
    · simp only [List.filter_cons, h, Bool.not_true, if_true, List.length_cons]
      simp
      omega
theorem parted_mem {f : Nat → List Int} {k : Nat} {low high : Int} (hk : k < 3) : ∀ x, x ∈ upTo f 3 → x ∈ upTo (upd f k (outOf low high (f k))) 3 ++ inOf low high (f k) := by
  intro x hx
  rw [mem_upTo3] at hx
  rw [List.mem_append, mem_upTo3]
  obtain ⟨j, hj, hx⟩ := hx
  by_cases e : j = k
  · subst e
    cases h : isIn low high x
    · exact .inl ⟨j, hj, by rw [upd_same]; unfold outOf; rw [List.mem_filter]; exact ⟨hx, by rw [h]; rfl⟩⟩
    · exact .inr (by unfold inOf; rw [List.mem_filter]; exact ⟨hx, h⟩)
  · exact .inl ⟨j, hj, by rw [upd_other _ _ e]; exact hx⟩
theorem parted_len {f : Nat → List Int} {k : Nat} {low high : Int} (hk : k < 3) : cnt3 (upd f k (outOf low high (f k))) + (inOf low high (f k)).length = cnt3 f := by
  have h1 := cnt_upd f k hk (outOf low high (f k))
  have h2 := part_split low high (f k)
  omega
theorem in_low {low high : Int} {xs : List Int} {i : Nat} (hi : i < (inOf low high xs).length) : low ≤ (inOf low high xs).getD i 0 ∧ (inOf low high xs).getD i 0 < high := by
  have e : (inOf low high xs).getD i 0 = (inOf low high xs)[i] := by simp [List.getD, hi]
  rw [e]
  have := List.getElem_mem hi
  unfold inOf at this
  rw [List.mem_filter] at this
  have h := this.2
  exact of_decide_eq_true h
/-- Apart of one value of lists, of two. -/
theorem apart_two {w W : World} {bs : List (Nat × (Nat → Sl))} {ls : List ((Nat → Sl) × (Nat → List Int))} {rs : List (Sl × List Int)} (h : Has w W bs ls rs) {u v : Nat → Sl} {f g : Nat → List Int} (hm : (u, f) ∈ ls) (hm' : (v, g) ∈ ls) (hn : cnt3 f + cnt3 g ≤ 2000000) :
    Calls Try.prog 23 #[.slice (some ⟨W.heap.size, 0, none⟩) 2 2] (W.alloc (.cells #[.slice (u 0).a (u 0).n (u 0).c, .slice (u 1).a (u 1).n (u 1).c, .slice (u 2).a (u 2).n (u 2).c, .slice (v 0).a (v 0).n (v 0).c, .slice (v 1).a (v 1).n (v 1).c, .slice (v 2).a (v 2).n (v 2).c] 24))
      fun e w' => e = .returned (.bool (decide (upTo f 3 ++ upTo g 3).Nodup)) ∧ Has w w' bs ls rs := by
  have := apart_any _ _ 2 2 _ _ _ (two_lrow (h.of hm) (h.of hm') (Nat.le_refl _) 24) (by simp) (by decide) (by rw [cnt_two]; exact hn)
  rw [all_two] at this
  refine this.mono ?_
  rintro e w' ⟨rfl, hb⟩
  exact ⟨rfl, h.next (((Below.refl _ _).alloc (Nat.le_refl _) _).trans (hb.mono (by simp)))⟩
end Go.Proofs.Ytegggfghocicaaa
