/-
  What a region of a law of regs keeps: two threads in their boxes.
-/
import Derived.Test.YtjppimabhefeeaaRtLaw
namespace Go.Proofs.Ytjppimabhefeeaa.Rt
open Go.Proofs.Ytjppimabhefeeaa
open Go.RowKit
set_option maxRecDepth 100000

section
variable {w W W' : World} {ts : List (Ts × (Nat → List Int) × (Nat → O4))} {rs : List (Ls.Sl × List Int)} {b k : Nat} {t t9 : Ts} {u : Nat → Ls.Sl} {o : Ls.Sl}
theorem may_tw (h : t9 = tw t u o) (hn : o.n = t.o.n) : mayT t9 = mayT t := by
  subst h
  unfold mayT
  simp only [tw, hn]
theorem ts_of (h : Box W b (tv t)) : b < W.heap.size ∧ W.cell? ⟨b, 0, none⟩ = some (.bool t.lv) ∧ W.cell? ⟨b, 1, none⟩ = some (.int .i64 (t.r 0)) ∧ W.cell? ⟨b, 2, none⟩ = some (.int .i64 (t.r 1)) ∧ W.cell? ⟨b, 3, none⟩ = some (.int .i64 (t.r 2)) ∧ W.cell? ⟨b, 4, none⟩ = some (.int .i64 (t.r 3)) ∧ W.cell? ⟨b, 5, none⟩ = some (.slice (t.u 0).a (t.u 0).n (t.u 0).c) ∧ W.cell? ⟨b, 6, none⟩ = some (.slice (t.u 1).a (t.u 1).n (t.u 1).c) ∧ W.cell? ⟨b, 7, none⟩ = some (.slice (t.u 2).a (t.u 2).n (t.u 2).c) ∧ W.cell? ⟨b, 8, none⟩ = some (.int .i64 t.ep) ∧ W.cell? ⟨b, 9, none⟩ = some (.int .i64 t.sg) ∧ W.cell? ⟨b, 10, none⟩ = some (.int .i64 t.rt) ∧ W.cell? ⟨b, 11, none⟩ = some (.slice t.o.a t.o.n t.o.c) ∧ W.cell? ⟨b, 12, none⟩ = some (.int .i64 t.pc) ∧ W.cell? ⟨b, 13, none⟩ = some (.int .i64 t.x) ∧ W.cell? ⟨b, 14, none⟩ = some (.int .i64 t.y) := by
  have k0 := (h).cel 0 (.bool t.lv) rfl
  have k1 := (h).cel 1 (.int .i64 (t.r 0)) rfl
  have k2 := (h).cel 2 (.int .i64 (t.r 1)) rfl
  have k3 := (h).cel 3 (.int .i64 (t.r 2)) rfl
  have k4 := (h).cel 4 (.int .i64 (t.r 3)) rfl
  have k5 := (h).cel 5 (.slice (t.u 0).a (t.u 0).n (t.u 0).c) rfl
  have k6 := (h).cel 6 (.slice (t.u 1).a (t.u 1).n (t.u 1).c) rfl
  have k7 := (h).cel 7 (.slice (t.u 2).a (t.u 2).n (t.u 2).c) rfl
  have k8 := (h).cel 8 (.int .i64 t.ep) rfl
  have k9 := (h).cel 9 (.int .i64 t.sg) rfl
  have k10 := (h).cel 10 (.int .i64 t.rt) rfl
  have k11 := (h).cel 11 (.slice t.o.a t.o.n t.o.c) rfl
  have k12 := (h).cel 12 (.int .i64 t.pc) rfl
  have k13 := (h).cel 13 (.int .i64 t.x) rfl
  have k14 := (h).cel 14 (.int .i64 t.y) rfl
  have kl := (h).lt
  exact ⟨kl, k0, k1, k2, k3, k4, k5, k6, k7, k8, k9, k10, k11, k12, k13, k14⟩
theorem lt_keep (hk : k < 4) (h : Lt w W [(b, tv t9), (w.heap.size, tv t)] ts rs ∧ True) (hb : Below W.heap.size W W') : (Lt w W' [(b, tv t9), (w.heap.size, tv t)] ts rs ∧ True) ∧ W'.cell? ⟨w.heap.size, 1 + k, none⟩ = some (.int .i64 (t.r k)) ∧ b < W'.heap.size ∧ W'.cell? ⟨b, 0, none⟩ = some (.bool t9.lv) ∧ W'.cell? ⟨b, 1, none⟩ = some (.int .i64 (t9.r 0)) ∧ W'.cell? ⟨b, 2, none⟩ = some (.int .i64 (t9.r 1)) ∧ W'.cell? ⟨b, 3, none⟩ = some (.int .i64 (t9.r 2)) ∧ W'.cell? ⟨b, 4, none⟩ = some (.int .i64 (t9.r 3)) ∧ W'.cell? ⟨b, 5, none⟩ = some (.slice (t9.u 0).a (t9.u 0).n (t9.u 0).c) ∧ W'.cell? ⟨b, 6, none⟩ = some (.slice (t9.u 1).a (t9.u 1).n (t9.u 1).c) ∧ W'.cell? ⟨b, 7, none⟩ = some (.slice (t9.u 2).a (t9.u 2).n (t9.u 2).c) ∧ W'.cell? ⟨b, 8, none⟩ = some (.int .i64 t9.ep) ∧ W'.cell? ⟨b, 9, none⟩ = some (.int .i64 t9.sg) ∧ W'.cell? ⟨b, 10, none⟩ = some (.int .i64 t9.rt) ∧ W'.cell? ⟨b, 11, none⟩ = some (.slice t9.o.a t9.o.n t9.o.c) ∧ W'.cell? ⟨b, 12, none⟩ = some (.int .i64 t9.pc) ∧ W'.cell? ⟨b, 13, none⟩ = some (.int .i64 t9.x) ∧ W'.cell? ⟨b, 14, none⟩ = some (.int .i64 t9.y) ∧ w.heap.size < W'.heap.size ∧ W'.cell? ⟨w.heap.size, 0, none⟩ = some (.bool t.lv) ∧ W'.cell? ⟨w.heap.size, 1, none⟩ = some (.int .i64 (t.r 0)) ∧ W'.cell? ⟨w.heap.size, 2, none⟩ = some (.int .i64 (t.r 1)) ∧ W'.cell? ⟨w.heap.size, 3, none⟩ = some (.int .i64 (t.r 2)) ∧ W'.cell? ⟨w.heap.size, 4, none⟩ = some (.int .i64 (t.r 3)) ∧ W'.cell? ⟨w.heap.size, 5, none⟩ = some (.slice (t.u 0).a (t.u 0).n (t.u 0).c) ∧ W'.cell? ⟨w.heap.size, 6, none⟩ = some (.slice (t.u 1).a (t.u 1).n (t.u 1).c) ∧ W'.cell? ⟨w.heap.size, 7, none⟩ = some (.slice (t.u 2).a (t.u 2).n (t.u 2).c) ∧ W'.cell? ⟨w.heap.size, 8, none⟩ = some (.int .i64 t.ep) ∧ W'.cell? ⟨w.heap.size, 9, none⟩ = some (.int .i64 t.sg) ∧ W'.cell? ⟨w.heap.size, 10, none⟩ = some (.int .i64 t.rt) ∧ W'.cell? ⟨w.heap.size, 11, none⟩ = some (.slice t.o.a t.o.n t.o.c) ∧ W'.cell? ⟨w.heap.size, 12, none⟩ = some (.int .i64 t.pc) ∧ W'.cell? ⟨w.heap.size, 13, none⟩ = some (.int .i64 t.x) ∧ W'.cell? ⟨w.heap.size, 14, none⟩ = some (.int .i64 t.y) := by
  have g := h.1.next hb
  have g1 := ts_of (g.bx b (tv t9) (by simp))
  have g2 := ts_of (g.bx w.heap.size (tv t) (by simp))
  have g3 := tbox_reg (g.bx w.heap.size (tv t) (by simp)) hk
  obtain ⟨p0, p1, p2, p3, p4, p5, p6, p7, p8, p9, p10, p11, p12, p13, p14, p15⟩ := g1
  exact ⟨⟨g, trivial⟩, g3, p0, p1, p2, p3, p4, p5, p6, p7, p8, p9, p10, p11, p12, p13, p14, p15, g2⟩
end
end Go.Proofs.Ytjppimabhefeeaa.Rt
