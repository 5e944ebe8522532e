/-
  A heap with memory of its own, as package alloc's Take has it.
-/
import Derived.Test.YtdmclfolooiccaaGreatDoorHpAP
namespace Go.Proofs.YtdmclfolooiccaaGreatDoor
open Go.RowKit
set_option maxRecDepth 100000

/-- A copy was returned. -/
def ACopyOut (w : World) (s : Hs) (d : Hd_) (e : Ending) (w' : World) : Prop :=
  ∃ t : Hs, e = .returned (.agg #[.slice t.w.a t.w.n t.w.c, .slice t.p.a t.p.n t.p.c, .slice (t.u 0).a (t.u 0).n (t.u 0).c, .slice (t.u 1).a (t.u 1).n (t.u 1).c, .slice (t.u 2).a (t.u 2).n (t.u 2).c, .slice t.c.a t.c.n t.c.c]) ∧ Hp w' w'.heap.size t d ∧ Lens s t ∧ t.p.n ≤ t.p.c ∧ Below w.heap.size w w'
theorem acopied_any (s : Hs) (d : Hd_) (w : World) (hp : Hp w w.heap.size s d) (hf : Fine s d) (hfb : firstB s d = true) : Calls Tryz.prog 20 #[(.agg #[.slice s.w.a s.w.n s.w.c, .slice s.p.a s.p.n s.p.c, .slice (s.u 0).a (s.u 0).n (s.u 0).c, .slice (s.u 1).a (s.u 1).n (s.u 1).c, .slice (s.u 2).a (s.u 2).n (s.u 2).c, .slice s.c.a s.c.n s.c.c])] w (ACopyOut w s d) :=
  (fresh_any s d w hp hf hfb).mono fun _ _ ⟨t, h1, h2, h3, _, h5, h6, _⟩ => ⟨t, h1, h2, h3, h5, h6⟩
end Go.Proofs.YtdmclfolooiccaaGreatDoor
