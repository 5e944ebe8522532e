/-
  The reference's All, On, Start and Next of cells.
-/
import Derived.Test.YtcbnefjfoeanoaaDoorHpZF
namespace Go.Proofs.YtcbnefjfoeanoaaDoor.Cl
open Go.Proofs.YtcbnefjfoeanoaaDoor
set_option maxRecDepth 100000
open Go.RowKit

/-- The first i cells begin below q, the others not. -/
def CutAt (L : List (Int × Int)) (i : Nat) (q : Int) : Prop := (∀ j c, j < i → L[j]? = some c → c.1 < q) ∧ (∀ j c, i ≤ j → L[j]? = some c → q ≤ c.1)
theorem cut_hit {L : List (Int × Int)} (ha : Apart L) {i : Nat} {q : Int} (h : CutAt L i q) {c : Int × Int} (hc : c ∈ L) (hq : c.1 = q) : L[i]? = some c ∧ CutAt L (i + 1) (q + 1) := by
  obtain ⟨j, hj⟩ := List.getElem?_of_mem hc
  have hi : i ≤ j := by
    rcases Nat.lt_or_ge j i with hlt | hge
    · have := h.1 j c hlt hj
      omega
    · exact hge
  have e : i = j := by
    by_cases hlt : i < j
    · exfalso
      have hjl := (List.getElem?_eq_some_iff.1 hj).1
      obtain ⟨d, hd⟩ : ∃ d, L[i]? = some d := ⟨_, List.getElem?_eq_getElem (by omega)⟩
      have h1 := ha.rise hlt hd hj
      have h2 := h.2 i d (Nat.le_refl _) hd
      have h3 := (ha.2 d (List.mem_of_getElem? hd)).2
      omega
    · omega
  subst e
  refine ⟨hj, fun j' c' hj' hc' => ?_, fun j' c' hj' hc' => ?_⟩
  · by_cases e : j' = i
    · subst e
      rw [hj] at hc'
      cases hc'
      omega
    · have := h.1 j' c' (by omega) hc'
      omega
  · have h1 := ha.rise (by omega) hj hc'
    have h3 := (ha.2 c hc).2
    omega
theorem cut_miss {L : List (Int × Int)} {i : Nat} {q : Int} (h : CutAt L i q) (hn : ¬ ∃ c, c ∈ L ∧ c.1 = q) : CutAt L i (q + 1) := by
  refine ⟨fun j c hj hc => by have := h.1 j c hj hc; omega, fun j c hj hc => ?_⟩
  have h1 := h.2 j c hj hc
  have h2 : c.1 ≠ q := fun e => hn ⟨c, List.mem_of_getElem? hc, e⟩
  omega
theorem cut_end {L : List (Int × Int)} {i : Nat} {q : Int} (h : CutAt L i q) (hq : ∀ c ∈ L, c.1 < q) : L.length ≤ i := by
  rcases Nat.lt_or_ge i L.length with hlt | hge
  · have h1 := h.2 i _ (Nat.le_refl _) (List.getElem?_eq_getElem hlt)
    have h2 := hq _ (List.getElem_mem hlt)
    omega
  · exact hge
theorem allS_short (f : Nat → Int × Int) (n i : Nat) : ((allS f n).take i).length ≤ 512 := by
  have h1 : (allS f n).length = (allL f n).length := by simp [allS]
  have h2 := allL_length f n
  rw [List.length_take]
  omega
theorem allS_step {f : Nat → Int × Int} {n j : Nat} {c : Int × Int} (h : (allL f n)[j]? = some c) : (allS f n).take (j + 1) = (allS f n).take j ++ [c.1] := take_next (by simp [allS, h])
theorem allS_full {f : Nat → Int × Int} {n i : Nat} (h : (allL f n).length ≤ i) : (allS f n).take i = allS f n := List.take_of_length_le (by simp only [allS, List.length_map]; exact h)

section
variable (B : Nat) (A : Option Addr) (n c : Nat) (f : Nat → Int × Int) (a : Int) (w : World)

end
end Go.Proofs.YtcbnefjfoeanoaaDoor.Cl
