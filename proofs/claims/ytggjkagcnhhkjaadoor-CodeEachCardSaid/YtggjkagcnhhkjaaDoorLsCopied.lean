/-
  Package lists' isClass and copied: whether there is such a class; lists with memory of their own.
-/
import Derived.Test.YtggjkagcnhhkjaaDoorLsRow
namespace Go.Proofs.YtggjkagcnhhkjaaDoor.Ls
open Go.Proofs.YtggjkagcnhhkjaaDoor
set_option maxRecDepth 100000
open Go.RowKit

def isCl (k : Int) : Bool := decide (0 ≤ k ∧ k < 3)
theorem isCl_iff {k : Int} : isCl k = true ↔ 0 ≤ k ∧ k < 3 := by simp [isCl]
theorem isCl_no {k : Int} (h : isCl k = false) : k < 0 ∨ 2 < k := by
  have : ¬ (0 ≤ k ∧ k < 3) := fun c => by rw [isCl_iff.2 c] at h; cases h
  omega
/-- Lists of the call's own were returned. -/
def COut (w : World) (f : Nat → List Int) (e : Ending) (w' : World) : Prop := ∃ u, e = .returned (.agg #[.slice (u 0).a (u 0).n (u 0).c, .slice (u 1).a (u 1).n (u 1).c, .slice (u 2).a (u 2).n (u 2).c]) ∧ Own3 w' w.heap.size u f ∧ Below w.heap.size w w'

structure Copying (w wr : World) (u : Nat → Sl) (f : Nat → List Int) (k : Nat) (v : Nat → Sl) (g : Nat → Nat) : Prop where
  box : Box3 wr w.heap.size v
  res : Box3 wr (w.heap.size + 1) noSl
  is : ∀ j, j < k → v j = ⟨some ⟨g j, 0, none⟩, (u j).n, (u j).n⟩
  own : ∀ j, j < k → wr.ownsRow (w.heap.size + 2) 3 1 (.slice (some ⟨g j, 0, none⟩) (u j).n (u j).n) (u j).n ((f j).map (Value.int .i64))
  up : ∀ i j, i < j → j < k → g i < g j
  bel : Below w.heap.size w wr
theorem Copying.size {w wr : World} {u v : Nat → Sl} {f : Nat → List Int} {k : Nat} {g : Nat → Nat} (h : Copying w wr u f k v g) : w.heap.size + 2 ≤ wr.heap.size := by have := h.res.lt; omega

theorem Copying.step {w wr w1 w2 w3 : World} {u v : Nat → Sl} {f : Nat → List Int} {k : Nat} {g : Nat → Nat} (h : Copying w wr u f k v g) (hk : k < 3)
    (g1 : wr.grownBy w1 none) (e2 : w2 = w1.setCell ⟨w.heap.size, k, none⟩ (.slice (some ⟨wr.heap.size, 0, none⟩) (u k).n (u k).n))
    (ho : w3.ownsRow (w.heap.size + 2) 3 1 (.slice (some ⟨wr.heap.size, 0, none⟩) (u k).n (u k).n) (u k).n ((f k).map (Value.int .i64))) (g3 : w2.grownBy w3 (some wr.heap.size)) :
    Copying w w3 u f (k + 1) (upd v k ⟨some ⟨wr.heap.size, 0, none⟩, (u k).n, (u k).n⟩) (upd g k wr.heap.size) := by
  have hs := h.size
  have b2 : Below w.heap.size w w2 := by
    rw [e2]
    exact (h.bel.grown g1 (by omega) (by intro j hj; cases hj)).setCell (Nat.le_refl _) _
  have x2 : ∀ j, j < wr.heap.size → ¬ j = w.heap.size → w2.heap[j]? = wr.heap[j]? := fun j hj hn => by
    rw [e2]
    exact (Below.heap_setCell _ _ _ _ (by exact hn)).trans (g1.block j hj (by simp))
  have hs2 : wr.heap.size ≤ w2.heap.size := by
    rw [e2]
    simpa [World.setCell] using g1.size
  have x3 : ∀ j, j < wr.heap.size → ¬ j = w.heap.size → w3.heap[j]? = wr.heap[j]? := fun j hj hn => (g3.block j (by omega) (by simp; omega)).trans (x2 j hj hn)
  refine ⟨?_, ?_, fun j hj => ?_, fun j hj => ?_, fun i j hij hj => ?_, ?_⟩
  · have := (h.box.grown g1 (by simp)).set hk ⟨some ⟨wr.heap.size, 0, none⟩, (u k).n, (u k).n⟩
    rw [← e2] at this
    exact this.grown g3 (by simp; omega)
  · exact h.res.same (x3 _ h.res.lt (by omega)) (Nat.le_trans hs2 g3.size)
  · by_cases e : j = k
    · subst e; rw [upd_same, upd_same]
    · rw [upd_other _ _ e, upd_other _ _ e]; exact h.is j (by omega)
  · by_cases e : j = k
    · subst e; rw [upd_same]; exact ho
    · rw [upd_other _ _ e]
      have ho' := h.own j (by omega)
      have hl := ho'.lt (g j) rfl
      exact World.ownsRow.same ho' (fun q hq hlt => by
        have : q = g j := by simpa [Value.ownBlock] using hq.symm
        subst this
        exact x3 _ hlt (by omega))
  · by_cases e : j = k
    · subst e
      rw [upd_same, upd_other _ _ (by omega)]
      exact ((h.own i (by omega)).lt (g i) rfl).2
    · rw [upd_other _ _ e, upd_other _ _ (by omega)]
      exact h.up i j hij (by omega)
  · exact b2.grown g3 (by omega) (by intro j hj; cases hj; omega)

theorem Copying.own3 {w wr : World} {u v : Nat → Sl} {f : Nat → List Int} {g : Nat → Nat} (h : Copying w wr u f 3 v g) : Own3 wr (w.heap.size + 2) v f :=
  ⟨fun j hj => by rw [h.is j hj]; exact h.own j hj, fun i j hi hj hij x y hx hy => by
    rw [h.is i hi] at hx
    rw [h.is j hj] at hy
    simp only [Option.some.injEq] at hx hy
    subst hx hy
    rcases Nat.lt_or_gt_of_ne hij with hlt | hlt
    · have := h.up i j hlt hj
      show ¬ g i = g j
      omega
    · have := h.up j i hlt hi
      show ¬ g i = g j
      omega⟩
theorem Own3.less {w : World} {base base' : Nat} {u : Nat → Sl} {f : Nat → List Int} (h : Own3 w base u f) (hb : base' ≤ base) : Own3 w base' u f :=
  ⟨fun j hj => ⟨(h.own j hj).1, (h.own j hj).2.imp id (fun ⟨g, cap, cur, e, hg, r⟩ => ⟨g, cap, cur, e, Nat.le_trans hb hg, r⟩)⟩, h.apart⟩

end Go.Proofs.YtggjkagcnhhkjaaDoor.Ls
