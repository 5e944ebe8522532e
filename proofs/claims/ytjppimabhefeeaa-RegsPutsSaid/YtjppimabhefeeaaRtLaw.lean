/-
  What a law of regs holds: threads in boxes, a collector in its box.
-/
import Derived.Test.YtjppimabhefeeaaRtAwake
import Derived.Test.YtjppimabhefeeaaRtArm
import Derived.Test.YtjppimabhefeeaaRtIns
namespace Go.Proofs.Ytjppimabhefeeaa.Rt
open Go.Proofs.Ytjppimabhefeeaa
open Go.RowKit
set_option maxRecDepth 100000

/-- A collector's cells. -/
def kv (k : Sh.Ks) : List Value := [.int .i64 k.ph, .int .i64 k.ep, .bool k.mj, .slice k.wk.a k.wk.n k.wk.c, .bool k.ov, .int .i64 k.pa, .int .i64 k.pf, .int .i64 k.ps, .int .i64 k.pc, .bool k.me]
structure Lt (w W : World) (bs : List (Nat × List Value)) (ts : List (Ts × (Nat → List Int) × (Nat → O4))) (rs : List (Ls.Sl × List Int)) : Prop where
  bel : Below w.heap.size w W
  box : ∀ x ∈ bs, Box W x.1 x.2
  th : ∀ x ∈ ts, Th W W.heap.size x.1 x.2.1 x.2.2
  row : ∀ x ∈ rs, Row W W.heap.size x.1.a x.1.n x.2
section
variable {w W W' : World} {bs : List (Nat × List Value)} {ts : List (Ts × (Nat → List Int) × (Nat → O4))} {rs : List (Ls.Sl × List Int)} {b : Nat} {vs : List Value} {t : Ts} {F : Nat → List Int} {g : Nat → O4} {s : Ls.Sl} {xs : List Int}
theorem Lt.next (h : Lt w W bs ts rs) (hb : Below W.heap.size W W') : Lt w W' bs ts rs := ⟨h.bel.trans (hb.mono h.bel.size), fun x hx => (h.box x hx).next hb, fun x hx => (h.th x hx).next hb, fun x hx => ((h.row x hx).below hb).more hb.size⟩
theorem Lt.start (w : World) : Lt w w [] [] [] := ⟨Below.refl _ _, fun x hx => (by cases hx), fun x hx => (by cases hx), fun x hx => (by cases hx)⟩
theorem Lt.bx (h : Lt w W bs ts rs) (b : Nat) (vs : List Value) (hm : (b, vs) ∈ bs) : Box W b vs := h.box _ hm
theorem Lt.tt (h : Lt w W bs ts rs) (t : Ts) (F : Nat → List Int) (g : Nat → O4) (hm : (t, F, g) ∈ ts) : Th W W.heap.size t F g := h.th _ hm
theorem Lt.rr (h : Lt w W bs ts rs) (s : Ls.Sl) (xs : List Int) (hm : (s, xs) ∈ rs) : Row W W.heap.size s.a s.n xs := h.row _ hm
/-- A box more is laid. -/
theorem Lt.lay (h : Lt w W bs ts rs) (vs : List Value) (ty : TypeId) : Lt w (W.alloc (.cells vs.toArray ty)) ((W.heap.size, vs) :: bs) ts rs := by
  have n := h.next ((Below.refl W.heap.size W).alloc (Nat.le_refl _) (.cells vs.toArray ty))
  exact ⟨n.bel, fun x hx => (by
    rcases List.mem_cons.1 hx with rfl | hx
    · exact Box.new W vs ty
    · exact n.box x hx), n.th, n.row⟩
theorem Lt.thread (h : Lt w W bs ts rs) (ht : Th W W.heap.size t F g) : Lt w W bs ((t, F, g) :: ts) rs := ⟨h.bel, h.box, fun x hx => (by
    rcases List.mem_cons.1 hx with rfl | hx
    · exact ht
    · exact h.th x hx), h.row⟩
theorem Lt.held (h : Lt w W bs ts rs) (hr : Row W W.heap.size s.a s.n xs) : Lt w W bs ts ((s, xs) :: rs) := ⟨h.bel, h.box, h.th, fun x hx => (by
    rcases List.mem_cons.1 hx with rfl | hx
    · exact hr
    · exact h.row x hx)⟩
theorem Lt.drewN (h : Lt w W bs ts rs) (d : Nat) : Lt w (W.drewN d) bs ts rs := h.next (Ls.below_drawn (Below.refl _ _) d)
theorem fewT_parts {t : Ts} (h : fewT t = true) : t.o.n ≤ 220 ∧ ∀ j, j < 3 → (t.u j).n ≤ 70 := by
  unfold fewT at h
  simp only [Bool.and_eq_true, decide_eq_true_eq] at h
  refine ⟨h.1, fun j hj => ?_⟩
  match j, hj with
  | 0, _ => exact h.2.1
  | 1, _ => exact h.2.2.1
  | 2, _ => exact h.2.2.2
theorem th_len {B : Nat} (h : Th w B t F g) (hf : ∀ j, j < 3 → (t.u j).n ≤ 70) : ∀ j, j < 3 → (F j).length ≤ 2000000 := fun j hj => by
  have h1 := h.c.len j hj
  have h2 := hf j hj
  omega
end
end Go.Proofs.Ytjppimabhefeeaa.Rt
