/-
  The reference's Few and Own of a thread.
-/
import Derived.Test.YtgmkomnoiffapaaDoorKRtPut
import Derived.Test.YtgmkomnoiffapaaDoorHpKA
namespace Go.Proofs.YtgmkomnoiffapaaDoor.Rt
open Go.Proofs.YtgmkomnoiffapaaDoor
open Go.RowKit
set_option maxRecDepth 100000

/-- The boxes of the argument, of the result, and of the copy. -/
structure On (w W : World) (t t' : Ts) : Prop where
  ft : Ft w W t
  out : Box W (w.heap.size + 2) (tv t')
section
variable {w W W' : World} {t t' : Ts} {F : Nat → List Int} {g : Nat → O4} {u : Nat → Ls.Sl} {o : Ls.Sl}
theorem On.next (h : On w W t t') (hb : Below W.heap.size W W') : On w W' t t' := ⟨h.ft.next hb, h.out.next hb⟩
theorem on_start {ty ty' ty2 : TypeId} (h : W = ((w.alloc (.cells #[.bool t.lv, .int .i64 (t.r 0), .int .i64 (t.r 1), .int .i64 (t.r 2), .int .i64 (t.r 3), .slice (t.u 0).a (t.u 0).n (t.u 0).c, .slice (t.u 1).a (t.u 1).n (t.u 1).c, .slice (t.u 2).a (t.u 2).n (t.u 2).c, .int .i64 t.ep, .int .i64 t.sg, .int .i64 t.rt, .slice t.o.a t.o.n t.o.c, .int .i64 t.pc, .int .i64 t.x, .int .i64 t.y] ty)).alloc (.cells (tv noT).toArray ty')).alloc (.cells #[.bool t.lv, .int .i64 (t.r 0), .int .i64 (t.r 1), .int .i64 (t.r 2), .int .i64 (t.r 3), .slice (t.u 0).a (t.u 0).n (t.u 0).c, .slice (t.u 1).a (t.u 1).n (t.u 1).c, .slice (t.u 2).a (t.u 2).n (t.u 2).c, .int .i64 t.ep, .int .i64 t.sg, .int .i64 t.rt, .slice t.o.a t.o.n t.o.c, .int .i64 t.pc, .int .i64 t.x, .int .i64 t.y] ty2)) : On w W t t := by
  obtain ⟨W2, h2⟩ : ∃ W2, W2 = (w.alloc (.cells #[.bool t.lv, .int .i64 (t.r 0), .int .i64 (t.r 1), .int .i64 (t.r 2), .int .i64 (t.r 3), .slice (t.u 0).a (t.u 0).n (t.u 0).c, .slice (t.u 1).a (t.u 1).n (t.u 1).c, .slice (t.u 2).a (t.u 2).n (t.u 2).c, .int .i64 t.ep, .int .i64 t.sg, .int .i64 t.rt, .slice t.o.a t.o.n t.o.c, .int .i64 t.pc, .int .i64 t.x, .int .i64 t.y] ty)).alloc (.cells (tv noT).toArray ty') := ⟨_, rfl⟩
  rw [← h2] at h
  have s2 : W2.heap.size = w.heap.size + 2 := by rw [h2]; simp
  have b3 : Below W2.heap.size W2 W := by rw [h]; exact (Below.refl _ _).alloc (Nat.le_refl _) _
  exact ⟨(ft_start h2).next b3, by rw [h, ← s2]; exact Box.new W2 (tv t) ty2⟩
end
end Go.Proofs.YtgmkomnoiffapaaDoor.Rt
