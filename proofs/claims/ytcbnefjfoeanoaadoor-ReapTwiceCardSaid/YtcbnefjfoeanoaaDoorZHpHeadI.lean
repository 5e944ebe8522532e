/-
  The reference's Head of a heap, where a cell begins.
-/
import Derived.Test.YtcbnefjfoeanoaaDoorHpZI
namespace Go.Proofs.YtcbnefjfoeanoaaDoor
open Go.RowKit
set_option maxRecDepth 100000

theorem put6_size (w : World) (b : Nat) (v0 v1 v2 v3 v4 v5 : Value) : (put6 w b v0 v1 v2 v3 v4 v5).heap.size = w.heap.size := by simp [put6, World.setCell]
theorem put6_alloc {W : World} {b : Nat} (h : XBox W b) (v0 v1 v2 v3 v4 v5 : Value) (o : Obj) :
    ((put6 W b v0 v1 v2 v3 v4 v5).alloc o).cell? ⟨b, 0, none⟩ = some v0 ∧ ((put6 W b v0 v1 v2 v3 v4 v5).alloc o).cell? ⟨b, 1, none⟩ = some v1 ∧ ((put6 W b v0 v1 v2 v3 v4 v5).alloc o).cell? ⟨b, 2, none⟩ = some v2 ∧
    ((put6 W b v0 v1 v2 v3 v4 v5).alloc o).cell? ⟨b, 3, none⟩ = some v3 ∧ ((put6 W b v0 v1 v2 v3 v4 v5).alloc o).cell? ⟨b, 4, none⟩ = some v4 ∧ ((put6 W b v0 v1 v2 v3 v4 v5).alloc o).cell? ⟨b, 5, none⟩ = some v5 := by
  have h0 := h.cell 0 (by decide)
  have h1 := h.cell 1 (by decide)
  have h2 := h.cell 2 (by decide)
  have h3 := h.cell 3 (by decide)
  have h4 := h.cell 4 (by decide)
  have h5 := h.cell 5 (by decide)
  have hl := h.lt
  refine ⟨?_, ?_, ?_, ?_, ?_, ?_⟩ <;> (rw [World.cell?_alloc_past _ _ _ (by rw [put6_size]; exact hl)]; simp [put6, go_sem, h0, h1, h2, h3, h4, h5])

section
variable (s : Hs) (d : Hd_) (a : Int) (w : World)
end
end Go.Proofs.YtcbnefjfoeanoaaDoor
