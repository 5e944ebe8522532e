/-
  What the laws of heap that begin with Few know behind it; '==' of a head with itself.
-/
import Derived.Test.YtcbnefjfoeanoaaDoorHpZI
import Derived.Test.YtcbnefjfoeanoaaDoorZHpHeadP
namespace Go.Proofs.YtcbnefjfoeanoaaDoor
open Go.RowKit
set_option maxRecDepth 100000

theorem upTo3 (g : Nat → List Int) : (Ls.upTo g 3).length = (g 0).length + (g 1).length + (g 2).length := by
  simp [Ls.upTo, List.range_succ]
  omega
theorem few_parts {s : Hs} (h : fewH s = true) : s.w.n ≤ 130 ∧ s.p.n ≤ 9 ∧ s.c.n ≤ 20 ∧ lightB s.u = true := by
  unfold fewH at h
  simp only [Bool.and_eq_true, decide_eq_true_eq] at h
  exact h
theorem light_len {w : World} {B : Nat} {u : Nat → Ls.Sl} {F : Nat → List Int} (h : lightB u = true) (hl : Ls.L3 w B u F) : (Ls.upTo F 3).length ≤ 210 := by
  have h' := of_decide_eq_true h
  have e0 := hl.len 0 (by decide)
  have e1 := hl.len 1 (by decide)
  have e2 := hl.len 2 (by decide)
  rw [upTo3]
  omega
theorem fine_few {w : World} {B : Nat} {s : Hs} {d : Hd_} (h : fewH s = true) (hp : Hp w B s d) (hv : ∀ i, -9223372036854775808 ≤ d.ws.getD i 0 ∧ d.ws.getD i 0 ≤ 9223372036854775807) : Fine s d := by
  obtain ⟨h0, h1, h2, h3⟩ := few_parts h
  have := light_len h3 hp.free
  exact ⟨by omega, by omega, by omega, hv, by omega⟩
theorem ahead_len (g : Nat → List Int) (F : Nat → Nat → List Int) : ∀ m, (Ls.allOf (ahead g F) (1 + m)).length = (Ls.upTo g 3).length + (Ls.allOf F m).length
  | 0 => by simp [Ls.allOf, ahead]
  | m + 1 => by
    have := ahead_len g F m
    rw [show 1 + (m + 1) = 1 + m + 1 by omega, Ls.allOf_succ, Ls.allOf_succ, List.length_append, List.length_append, this]
    rw [show ahead g F (1 + m) = F m by rw [show 1 + m = m + 1 by omega]; rfl]
    omega
theorem all_light {F : Nat → Nat → List Int} : ∀ {m : Nat}, (∀ i, i < m → (Ls.upTo (F i) 3).length ≤ 210) → (Ls.allOf F m).length ≤ 210 * m
  | 0, _ => by simp [Ls.allOf]
  | m + 1, h => by
    have h1 := all_light (m := m) fun i hi => h i (by omega)
    have h2 := h m (by omega)
    rw [Ls.allOf_succ, List.length_append]
    omega
theorem head_form (s : Hs) (d : Hd_) (a : Int) : ∃ (u o e : Bool) (n b m : Int), headV s d a = .agg #[.bool u, .bool o, .bool e, .int .i64 n, .int .i64 b, .int .i64 m] := by
  unfold headV headOf noHead
  split
  · split <;> exact ⟨_, _, _, _, _, _, rfl⟩
  · exact ⟨_, _, _, _, _, _, rfl⟩
theorem eql_self (u o e : Bool) (n b m : Int) (w : World) :
    (binOp .eql 48 (.agg #[.bool u, .bool o, .bool e, .int .i64 n, .int .i64 b, .int .i64 m]) (.agg #[.bool u, .bool o, .bool e, .int .i64 n, .int .i64 b, .int .i64 m])).run Tryd.prog w = .ok (.bool true) w := by
  go_simp
/-- A head in its box. -/
structure X6 (W : World) (b : Nat) (x0 x1 x2 : Bool) (x3 x4 x5 : Int) : Prop where
  c0 : W.cell? ⟨b, 0, none⟩ = some (.bool x0)
  c1 : W.cell? ⟨b, 1, none⟩ = some (.bool x1)
  c2 : W.cell? ⟨b, 2, none⟩ = some (.bool x2)
  c3 : W.cell? ⟨b, 3, none⟩ = some (.int .i64 x3)
  c4 : W.cell? ⟨b, 4, none⟩ = some (.int .i64 x4)
  c5 : W.cell? ⟨b, 5, none⟩ = some (.int .i64 x5)
  lt : b < W.heap.size
theorem X6.new (w : World) (x0 x1 x2 : Bool) (x3 x4 x5 : Int) (t : TypeId) : X6 (w.alloc (.cells #[.bool x0, .bool x1, .bool x2, .int .i64 x3, .int .i64 x4, .int .i64 x5] t)) w.heap.size x0 x1 x2 x3 x4 x5 := by
  refine ⟨?_, ?_, ?_, ?_, ?_, ?_, by simp⟩ <;> simp [go_sem]
theorem X6.next {W W' : World} {b : Nat} {x0 x1 x2 : Bool} {x3 x4 x5 : Int} (h : X6 W b x0 x1 x2 x3 x4 x5) (hb : Below W.heap.size W W') : X6 W' b x0 x1 x2 x3 x4 x5 :=
  ⟨(hb.cell (p := ⟨b, 0, none⟩) h.lt).trans h.c0, (hb.cell (p := ⟨b, 1, none⟩) h.lt).trans h.c1, (hb.cell (p := ⟨b, 2, none⟩) h.lt).trans h.c2, (hb.cell (p := ⟨b, 3, none⟩) h.lt).trans h.c3, (hb.cell (p := ⟨b, 4, none⟩) h.lt).trans h.c4, (hb.cell (p := ⟨b, 5, none⟩) h.lt).trans h.c5, Nat.lt_of_lt_of_le h.lt hb.size⟩
/-- What a region with several calls keeps: the heap's box and two heads. -/
theorem tells_keep {w W W' : World} {s : Hs} {d : Hd_} {b1 b2 : Nat} {x0 x1 x2 : Bool} {x3 x4 x5 : Int} (h : HNow w W s d ∧ X6 W b1 x0 x1 x2 x3 x4 x5 ∧ X6 W b2 x0 x1 x2 x3 x4 x5) (hb : Below W.heap.size W W') :
    (HNow w W' s d ∧ X6 W' b1 x0 x1 x2 x3 x4 x5 ∧ X6 W' b2 x0 x1 x2 x3 x4 x5) ∧ w.heap.size < W'.heap.size ∧ b1 < W'.heap.size ∧ b2 < W'.heap.size ∧ W'.cell? ⟨w.heap.size, 0, none⟩ = some (.slice s.w.a s.w.n s.w.c) ∧ W'.cell? ⟨w.heap.size, 1, none⟩ = some (.slice s.p.a s.p.n s.p.c) ∧ W'.cell? ⟨w.heap.size, 2, none⟩ = some (.slice (s.u 0).a (s.u 0).n (s.u 0).c) ∧ W'.cell? ⟨w.heap.size, 3, none⟩ = some (.slice (s.u 1).a (s.u 1).n (s.u 1).c) ∧ W'.cell? ⟨w.heap.size, 4, none⟩ = some (.slice (s.u 2).a (s.u 2).n (s.u 2).c) ∧ W'.cell? ⟨w.heap.size, 5, none⟩ = some (.slice s.c.a s.c.n s.c.c) ∧ W'.cell? ⟨b1, 0, none⟩ = some (.bool x0) ∧ W'.cell? ⟨b1, 1, none⟩ = some (.bool x1) ∧ W'.cell? ⟨b1, 2, none⟩ = some (.bool x2) ∧ W'.cell? ⟨b1, 3, none⟩ = some (.int .i64 x3) ∧ W'.cell? ⟨b1, 4, none⟩ = some (.int .i64 x4) ∧ W'.cell? ⟨b1, 5, none⟩ = some (.int .i64 x5) ∧ W'.cell? ⟨b2, 0, none⟩ = some (.bool x0) ∧ W'.cell? ⟨b2, 1, none⟩ = some (.bool x1) ∧ W'.cell? ⟨b2, 2, none⟩ = some (.bool x2) ∧ W'.cell? ⟨b2, 3, none⟩ = some (.int .i64 x3) ∧ W'.cell? ⟨b2, 4, none⟩ = some (.int .i64 x4) ∧ W'.cell? ⟨b2, 5, none⟩ = some (.int .i64 x5) := by
  have g := h.1.next hb
  have x := h.2.1.next hb
  have y := h.2.2.next hb
  exact ⟨⟨g, x, y⟩, g.box.lt, x.lt, y.lt, g.box.c0, g.box.c1, g.box.c2, g.box.c3, g.box.c4, g.box.c5, x.c0, x.c1, x.c2, x.c3, x.c4, x.c5, y.c0, y.c1, y.c2, y.c3, y.c4, y.c5⟩
theorem box_keep {w W W' : World} {s : Hs} {d : Hd_} (h : HNow w W s d ∧ True) (hb : Below W.heap.size W W') : (HNow w W' s d ∧ True) ∧ w.heap.size < W'.heap.size ∧ W'.cell? ⟨w.heap.size, 0, none⟩ = some (.slice s.w.a s.w.n s.w.c) ∧ W'.cell? ⟨w.heap.size, 1, none⟩ = some (.slice s.p.a s.p.n s.p.c) ∧ W'.cell? ⟨w.heap.size, 2, none⟩ = some (.slice (s.u 0).a (s.u 0).n (s.u 0).c) ∧ W'.cell? ⟨w.heap.size, 3, none⟩ = some (.slice (s.u 1).a (s.u 1).n (s.u 1).c) ∧ W'.cell? ⟨w.heap.size, 4, none⟩ = some (.slice (s.u 2).a (s.u 2).n (s.u 2).c) ∧ W'.cell? ⟨w.heap.size, 5, none⟩ = some (.slice s.c.a s.c.n s.c.c) := by
  have g := h.1.next hb
  exact ⟨⟨g, trivial⟩, g.box.lt, g.box.c0, g.box.c1, g.box.c2, g.box.c3, g.box.c4, g.box.c5⟩
theorem used_len (s : Hs) (d : Hd_) : (usedL s d).length ≤ (Cl.allS d.f s.p.n).length := by
  unfold usedL usedF
  split
  · exact List.length_filter_le _ _
  · exact Nat.zero_le _
end Go.Proofs.YtcbnefjfoeanoaaDoor
