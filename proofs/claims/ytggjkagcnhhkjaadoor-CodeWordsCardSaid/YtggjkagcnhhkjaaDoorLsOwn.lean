/-
  The reference's Own: lists with memory of their own.
-/
import Derived.Test.YtggjkagcnhhkjaaDoorLsCat
namespace Go.Proofs.YtggjkagcnhhkjaaDoor.Ls
open Go.Proofs.YtggjkagcnhhkjaaDoor
set_option maxRecDepth 100000
open Go.RowKit

structure Owning (w wr : World) (u : Nat → Sl) (f : Nat → List Int) (k : Nat) (v : Nat → Sl) : Prop where
  src : Box3 wr w.heap.size u
  res : Box3 wr (w.heap.size + 1) noSl
  box : Box3 wr (w.heap.size + 2) v
  own : OwnTo wr (w.heap.size + 3) k v f
  bel : Below w.heap.size w wr
theorem Owning.size {w wr : World} {u v : Nat → Sl} {f : Nat → List Int} {k : Nat} (h : Owning w wr u f k v) : w.heap.size + 3 ≤ wr.heap.size := by have := h.box.lt; omega
theorem Owning.step {w wr w1 w2 : World} {u v : Nat → Sl} {f : Nat → List Int} {k : Nat} (h : Owning w wr u f k v) (hk : k < 3) (s : Sl)
    (ho : w1.ownsRow wr.heap.size 3 1 (.slice s.a s.n s.c) s.n ((f k).map (Value.int .i64))) (hg : wr.grownBy w1 none) (e2 : w2 = w1.setCell ⟨w.heap.size + 2, k, none⟩ (.slice s.a s.n s.c)) : Owning w w2 u f (k + 1) (upd v k s) := by
  have hs := h.size
  have b1 : Below wr.heap.size wr w1 := (Below.refl _ _).grown hg (Nat.le_refl _) (by intro j hj; cases hj)
  subst e2
  refine ⟨(h.src.next b1).other (by simp) _, (h.res.next b1).other (by simp) _, (h.box.next b1).set hk s, ?_, (h.bel.trans (b1.mono h.bel.size)).setCell (p := ⟨w.heap.size + 2, k, none⟩) (by simp) _⟩
  refine h.own.step hs s (World.ownsRow.same ho (fun g hg' _ => Below.heap_setCell _ _ _ _ ?_)) (fun j hj hlt => (Below.heap_setCell _ _ _ _ (by show ¬ j = w.heap.size + 2; omega)).trans (b1.block j hlt))
  have := (ho.lt g hg').1
  show ¬ g = w.heap.size + 2
  omega

end Go.Proofs.YtggjkagcnhhkjaaDoor.Ls
