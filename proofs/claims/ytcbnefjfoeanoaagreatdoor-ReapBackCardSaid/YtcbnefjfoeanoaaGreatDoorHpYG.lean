/-
  Merged texts: RpEach, RpFlush.
-/
import Derived.Test.YtcbnefjfoeanoaaGreatDoorYRpCopied
import Derived.Test.YtcbnefjfoeanoaaGreatDoorHpYE
import Derived.Test.YtcbnefjfoeanoaaGreatDoorHpZJ
import Derived.Test.YtcbnefjfoeanoaaGreatDoorHpZG
section
namespace Go.Proofs.YtcbnefjfoeanoaaGreatDoor
open Go.RowKit
set_option maxRecDepth 100000

end Go.Proofs.YtcbnefjfoeanoaaGreatDoor
end
section
namespace Go.Proofs.YtcbnefjfoeanoaaGreatDoor
open Go.RowKit
set_option maxRecDepth 100000

/-- A heap was returned, or an error. -/
def RkOut (w : World) (er : Int) (wn pn cn : Nat) (d' : Hd_) (e : Ending) (w' : World) : Prop :=
  ∃ t : Hs, e = .returned (.tuple #[(.agg #[.slice t.w.a t.w.n t.w.c, .slice t.p.a t.p.n t.p.c, .slice (t.u 0).a (t.u 0).n (t.u 0).c, .slice (t.u 1).a (t.u 1).n (t.u 1).c, .slice (t.u 2).a (t.u 2).n (t.u 2).c, .slice t.c.a t.c.n t.c.c]), .int .i64 er]) ∧ Hp w' w'.heap.size t d' ∧ (t.w.n = wn ∧ t.p.n = pn ∧ t.c.n = cn) ∧ Below w.heap.size w w'
theorem hp_none (W : World) : Hp W W.heap.size noHs dNone := ⟨Row.none_ _ _, fun h => absurd h (Nat.lt_irrefl 0), Ls.L3.none_ _ _, fun h => absurd h (Nat.lt_irrefl 0)⟩
theorem rk_end {w W : World} {rb : Nat} {t t0 : Hs} {d : Hd_} (er : Int) (hb : Below w.heap.size w W) (hp : Hp W W.heap.size t d) (hr : Rm W rb t0) (hi : w.heap.size ≤ rb) {wn pn cn : Nat} (hl : t.w.n = wn ∧ t.p.n = pn ∧ t.c.n = cn) : RkOut w er wn pn cn d (.returned (.tuple #[(.agg #[.slice t.w.a t.w.n t.w.c, .slice t.p.a t.p.n t.p.c, .slice (t.u 0).a (t.u 0).n (t.u 0).c, .slice (t.u 1).a (t.u 1).n (t.u 1).c, .slice (t.u 2).a (t.u 2).n (t.u 2).c, .slice t.c.a t.c.n t.c.c]), .int .i64 er])) (put6 W rb (.slice t.w.a t.w.n t.w.c) (.slice t.p.a t.p.n t.p.c) (.slice (t.u 0).a (t.u 0).n (t.u 0).c) (.slice (t.u 1).a (t.u 1).n (t.u 1).c) (.slice (t.u 2).a (t.u 2).n (t.u 2).c) (.slice t.c.a t.c.n t.c.c)) :=
  ⟨t, rfl, hp_turn hr.sl hp (fun _ hi => put6_other _ _ _ _ _ _ _ _ hi) (put6_size _ _ _ _ _ _ _ _).symm, hl, below_put6 hb hi _ _ _ _ _ _⟩
/-- What a walk through Flush has in memory. -/
structure Fl (w W : World) (s : Hs) (d : Hd_) (u : Nat → Ls.Sl) (G : Nat → List Int) : Prop where
  bel : Below w.heap.size w W
  hb : HBox W w.heap.size s
  cb : Ls.Box3 W (w.heap.size + 1) u
  rm : Rm W (w.heap.size + 2) noHs
  hp : Hp W W.heap.size s d
  l3 : Ls.L3 W W.heap.size u G
section
variable {w W W' : World} {s t : Hs} {d : Hd_} {u : Nat → Ls.Sl} {G : Nat → List Int} {k bb : Nat}
theorem Fl.next (h : Fl w W s d u G) (hb : Below W.heap.size W W') : Fl w W' s d u G := ⟨h.bel.trans (hb.mono h.bel.size), h.hb.next hb, h.cb.next hb, h.rm.next hb, h.hp.next hb, h.l3.next hb⟩
/-- What stands at the head of Flush's loop. -/
structure FlAt (w wr : World) (s : Hs) (d : Hd_) (u : Nat → Ls.Sl) (G : Nat → List Int) (bb k : Nat) (t : Hs) : Prop where
  ro : Ro w wr bb t (joinTo d G k)
  rm : Rm wr (w.heap.size + 2) noHs
  l3 : Ls.L3 wr wr.heap.size u G
  ln : t.w.n = s.w.n ∧ t.p.n = s.p.n ∧ t.c.n = s.c.n
  lo : w.heap.size + 3 ≤ bb
theorem FlAt.next {wr w1 : World} (h : FlAt w wr s d u G bb k t) (hb : Below wr.heap.size wr w1) : FlAt w w1 s d u G bb k t := ⟨h.ro.next hb, h.rm.next hb, h.l3.next hb, h.ln, h.lo⟩
theorem FlAt.step {wr : World} (h : FlAt w wr s d u G bb k t) (v : Nat → Ls.Sl) (hv : Ls.L3 wr wr.heap.size v (joinTo d G (k + 1)).F) : FlAt w (((wr.setCell ⟨bb, 2, none⟩ (.slice (v 0).a (v 0).n (v 0).c)).setCell ⟨bb, 3, none⟩ (.slice (v 1).a (v 1).n (v 1).c)).setCell ⟨bb, 4, none⟩ (.slice (v 2).a (v 2).n (v 2).c)) s d u G bb (k + 1) ⟨t.w, t.p, v, t.c⟩ :=
  ⟨h.ro.free3 v _ hv, h.rm.same (set3_others _ (by have := h.lo; omega)) (by simp), l3_turn h.ro.rm.sl h.l3 set3_others (by simp), h.ln, h.lo⟩
end
section
variable (s : Hs) (u : Nat → Ls.Sl) (d : Hd_) (G : Nat → List Int) (w : World)
end
/-- What Flush tells. -/
structure Rk where
  er : Int
  wn : Nat
  pn : Nat
  cn : Nat
  d : Hd_
def rkNo (er : Int) : Rk := ⟨er, 0, 0, 0, dNone⟩
def RkO (w : World) (r : Rk) : Ending → World → Prop := RkOut w r.er r.wn r.pn r.cn r.d
end Go.Proofs.YtcbnefjfoeanoaaGreatDoor
end
