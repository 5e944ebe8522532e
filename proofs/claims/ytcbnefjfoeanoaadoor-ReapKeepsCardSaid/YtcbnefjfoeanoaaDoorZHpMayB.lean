/-
  The reference's May of a heap: the cells' first words, one by one; then what is told of as free; then whether all are apart.
-/
import Derived.Test.YtcbnefjfoeanoaaDoorZHpMay
import Derived.Deep.RegionHeld3
import Derived.Deep.DrawnRows
namespace Go.Proofs.YtcbnefjfoeanoaaDoor
open Go.RowKit
set_option maxRecDepth 100000
attribute [local go_sem ↓] Go.wp_at_zero Go.wp_at_succ

def cellAt (d : Hd_) (a : Int) : Bool := cellB (d.ws.getD (a - 16).toNat 0) (d.f (a / 16 - 1).toNat)
/-- In the midst of a walk through a heap's function: the box, all that was there. -/
structure HNow (w wr : World) (s : Hs) (d : Hd_) : Prop where
  box : HBox wr w.heap.size s
  bel : Below w.heap.size w wr
  hp : Hp wr w.heap.size s d
theorem HNow.next {w wr w' : World} {s : Hs} {d : Hd_} (h : HNow w wr s d) (hb : Below wr.heap.size wr w') : HNow w w' s d :=
  ⟨h.box.next hb, h.bel.trans (hb.mono h.bel.size), h.hp.below (hb.mono h.bel.size)⟩
theorem HNow.all {w wr : World} {s : Hs} {d : Hd_} (h : HNow w wr s d) : Hp wr wr.heap.size s d := h.hp.more h.bel.size
theorem allS_in {d : Hd_} {n : Nat} {a : Int} (h : a ∈ Cl.allS d.f n) : 16 ≤ a ∧ a < 16 + 16 * (n : Int) := by
  obtain ⟨c, hc, rfl⟩ := List.mem_map.1 h
  obtain ⟨_, k, j, hk, _, _, rfl, h0, h1⟩ := Cl.cell_page hc
  simp only
  omega
theorem hold_of {w wr : World} {s : Hs} {d : Hd_} {b : Nat} {o : Nat} {y : Int} (h : HNow w wr s d) (hy : wr.cell? ⟨b, o, none⟩ = some (.int .i64 y)) (hl : b < wr.heap.size) :
    (HNow w wr s d ∧ b < wr.heap.size) ∧ w.heap.size < wr.heap.size ∧ wr.cell? ⟨w.heap.size, 0, none⟩ = some (.slice s.w.a s.w.n s.w.c) ∧ wr.cell? ⟨w.heap.size, 1, none⟩ = some (.slice s.p.a s.p.n s.p.c) ∧ wr.cell? ⟨w.heap.size, 2, none⟩ = some (.slice (s.u 0).a (s.u 0).n (s.u 0).c) ∧ wr.cell? ⟨w.heap.size, 3, none⟩ = some (.slice (s.u 1).a (s.u 1).n (s.u 1).c) ∧ wr.cell? ⟨w.heap.size, 4, none⟩ = some (.slice (s.u 2).a (s.u 2).n (s.u 2).c) ∧ wr.cell? ⟨w.heap.size, 5, none⟩ = some (.slice s.c.a s.c.n s.c.c) ∧ wr.cell? ⟨b, o, none⟩ = some (.int .i64 y) :=
  ⟨⟨h, hl⟩, h.box.lt, h.box.c0, h.box.c1, h.box.c2, h.box.c3, h.box.c4, h.box.c5, hy⟩
theorem hold_next {w W W' : World} {s : Hs} {d : Hd_} {b : Nat} {O : Nat} {y : Int} (h : (HNow w W s d ∧ b < W.heap.size) ∧ w.heap.size < W.heap.size ∧ W.cell? ⟨w.heap.size, 0, none⟩ = some (.slice s.w.a s.w.n s.w.c) ∧ W.cell? ⟨w.heap.size, 1, none⟩ = some (.slice s.p.a s.p.n s.p.c) ∧ W.cell? ⟨w.heap.size, 2, none⟩ = some (.slice (s.u 0).a (s.u 0).n (s.u 0).c) ∧ W.cell? ⟨w.heap.size, 3, none⟩ = some (.slice (s.u 1).a (s.u 1).n (s.u 1).c) ∧ W.cell? ⟨w.heap.size, 4, none⟩ = some (.slice (s.u 2).a (s.u 2).n (s.u 2).c) ∧ W.cell? ⟨w.heap.size, 5, none⟩ = some (.slice s.c.a s.c.n s.c.c) ∧ W.cell? ⟨b, O, none⟩ = some (.int .i64 y)) (hb : Below W.heap.size W W') : (HNow w W' s d ∧ b < W'.heap.size) ∧ w.heap.size < W'.heap.size ∧ W'.cell? ⟨w.heap.size, 0, none⟩ = some (.slice s.w.a s.w.n s.w.c) ∧ W'.cell? ⟨w.heap.size, 1, none⟩ = some (.slice s.p.a s.p.n s.p.c) ∧ W'.cell? ⟨w.heap.size, 2, none⟩ = some (.slice (s.u 0).a (s.u 0).n (s.u 0).c) ∧ W'.cell? ⟨w.heap.size, 3, none⟩ = some (.slice (s.u 1).a (s.u 1).n (s.u 1).c) ∧ W'.cell? ⟨w.heap.size, 4, none⟩ = some (.slice (s.u 2).a (s.u 2).n (s.u 2).c) ∧ W'.cell? ⟨w.heap.size, 5, none⟩ = some (.slice s.c.a s.c.n s.c.c) ∧ W'.cell? ⟨b, O, none⟩ = some (.int .i64 y) :=
  hold_of (h.1.1.next hb) ((hb.cell (p := ⟨b, O, none⟩) h.1.2).trans h.2.2.2.2.2.2.2.2) (Nat.lt_of_lt_of_le h.1.2 hb.size)

theorem hold2_of {w W : World} {s : Hs} {d : Hd_} {b b2 o o2 : Nat} {v v2 : Value} (h : HNow w W s d) (h1 : W.cell? ⟨b, o, none⟩ = some v) (h2 : W.cell? ⟨b2, o2, none⟩ = some v2) (l1 : b < W.heap.size) (l2 : b2 < W.heap.size) : (HNow w W s d ∧ b < W.heap.size ∧ b2 < W.heap.size) ∧ w.heap.size < W.heap.size ∧ W.cell? ⟨w.heap.size, 0, none⟩ = some (.slice s.w.a s.w.n s.w.c) ∧ W.cell? ⟨w.heap.size, 1, none⟩ = some (.slice s.p.a s.p.n s.p.c) ∧ W.cell? ⟨w.heap.size, 2, none⟩ = some (.slice (s.u 0).a (s.u 0).n (s.u 0).c) ∧ W.cell? ⟨w.heap.size, 3, none⟩ = some (.slice (s.u 1).a (s.u 1).n (s.u 1).c) ∧ W.cell? ⟨w.heap.size, 4, none⟩ = some (.slice (s.u 2).a (s.u 2).n (s.u 2).c) ∧ W.cell? ⟨w.heap.size, 5, none⟩ = some (.slice s.c.a s.c.n s.c.c) ∧ W.cell? ⟨b, o, none⟩ = some v ∧ W.cell? ⟨b2, o2, none⟩ = some v2 :=
  ⟨⟨h, l1, l2⟩, h.box.lt, h.box.c0, h.box.c1, h.box.c2, h.box.c3, h.box.c4, h.box.c5, h1, h2⟩
theorem hold2_next {w W W' : World} {s : Hs} {d : Hd_} {b b2 o o2 : Nat} {v v2 : Value} (h : (HNow w W s d ∧ b < W.heap.size ∧ b2 < W.heap.size) ∧ w.heap.size < W.heap.size ∧ W.cell? ⟨w.heap.size, 0, none⟩ = some (.slice s.w.a s.w.n s.w.c) ∧ W.cell? ⟨w.heap.size, 1, none⟩ = some (.slice s.p.a s.p.n s.p.c) ∧ W.cell? ⟨w.heap.size, 2, none⟩ = some (.slice (s.u 0).a (s.u 0).n (s.u 0).c) ∧ W.cell? ⟨w.heap.size, 3, none⟩ = some (.slice (s.u 1).a (s.u 1).n (s.u 1).c) ∧ W.cell? ⟨w.heap.size, 4, none⟩ = some (.slice (s.u 2).a (s.u 2).n (s.u 2).c) ∧ W.cell? ⟨w.heap.size, 5, none⟩ = some (.slice s.c.a s.c.n s.c.c) ∧ W.cell? ⟨b, o, none⟩ = some v ∧ W.cell? ⟨b2, o2, none⟩ = some v2) (hb : Below W.heap.size W W') : (HNow w W' s d ∧ b < W'.heap.size ∧ b2 < W'.heap.size) ∧ w.heap.size < W'.heap.size ∧ W'.cell? ⟨w.heap.size, 0, none⟩ = some (.slice s.w.a s.w.n s.w.c) ∧ W'.cell? ⟨w.heap.size, 1, none⟩ = some (.slice s.p.a s.p.n s.p.c) ∧ W'.cell? ⟨w.heap.size, 2, none⟩ = some (.slice (s.u 0).a (s.u 0).n (s.u 0).c) ∧ W'.cell? ⟨w.heap.size, 3, none⟩ = some (.slice (s.u 1).a (s.u 1).n (s.u 1).c) ∧ W'.cell? ⟨w.heap.size, 4, none⟩ = some (.slice (s.u 2).a (s.u 2).n (s.u 2).c) ∧ W'.cell? ⟨w.heap.size, 5, none⟩ = some (.slice s.c.a s.c.n s.c.c) ∧ W'.cell? ⟨b, o, none⟩ = some v ∧ W'.cell? ⟨b2, o2, none⟩ = some v2 :=
  hold2_of (h.1.1.next hb) ((hb.cell (p := ⟨b, o, none⟩) h.1.2.1).trans h.2.2.2.2.2.2.2.2.1) ((hb.cell (p := ⟨b2, o2, none⟩) h.1.2.2).trans h.2.2.2.2.2.2.2.2.2) (Nat.lt_of_lt_of_le h.1.2.1 hb.size) (Nat.lt_of_lt_of_le h.1.2.2 hb.size)

end Go.Proofs.YtcbnefjfoeanoaaDoor
