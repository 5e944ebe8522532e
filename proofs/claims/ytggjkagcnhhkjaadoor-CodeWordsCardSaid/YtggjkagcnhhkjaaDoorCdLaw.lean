/-
  What the laws' walks share: an operation of a slice that came in.
-/
import Derived.Test.YtggjkagcnhhkjaaDoorCdAwake
import Derived.Test.YtggjkagcnhhkjaaDoorCdRefC
import Derived.Test.YtggjkagcnhhkjaaDoorCdIns
import Derived.Deep.RegionHeld3
namespace Go.Proofs.YtggjkagcnhhkjaaDoor.Cd
open Go.Proofs.YtggjkagcnhhkjaaDoor Go.Proofs.YtggjkagcnhhkjaaDoor.Rt
open Go.RowKit
set_option maxRecDepth 100000

/-- An operation lies there. -/
def OpAt (w : World) (b o : Nat) (x : O4) : Prop := b < w.heap.size ∧ w.cell? ⟨b, o, none⟩ = some (.int .i64 x.k) ∧ w.cell? ⟨b, o + 1, none⟩ = some (.int .i64 x.a) ∧ w.cell? ⟨b, o + 2, none⟩ = some (.int .i64 x.b) ∧ w.cell? ⟨b, o + 3, none⟩ = some (.int .i64 x.c)
theorem OpAt.next {w W : World} {b o : Nat} {x : O4} (h : OpAt w b o x) (hb : Below w.heap.size w W) : OpAt W b o x := by
  obtain ⟨h0, h1, h2, h3, h4⟩ := h
  exact ⟨Nat.lt_of_lt_of_le h0 hb.size, (hb.cell (p := ⟨b, o, none⟩) h0).trans h1, (hb.cell (p := ⟨b, o + 1, none⟩) h0).trans h2, (hb.cell (p := ⟨b, o + 2, none⟩) h0).trans h3, (hb.cell (p := ⟨b, o + 3, none⟩) h0).trans h4⟩
/-- The i-th of a list that came in. -/
theorem op_of {w : World} {a : Option Addr} {l : List O4} (h : ORow w w.heap.size a l.length (gl l)) (hn : 0 < l.length) : ∃ b off, a = some ⟨b, off, none⟩ ∧ ∀ i (hi : i < l.length), OpAt w b (off + i * 4) l[i] := by
  obtain ⟨b, off, e, hb, hc⟩ := h hn
  refine ⟨b, off, e, fun i hi => ?_⟩
  have := hc i hi
  rw [gl_at hi] at this
  exact ⟨hb, this⟩
theorem s_step {w W W' : World} {b o : Nat} {x : O4} (hx : OpAt w b o x) (h : Below w.heap.size w W ∧ True) (hb : Below W.heap.size W W') : (Below w.heap.size w W' ∧ True) ∧ b < W'.heap.size ∧ W'.cell? ⟨b, o, none⟩ = some (.int .i64 x.k) ∧ W'.cell? ⟨b, o + 1, none⟩ = some (.int .i64 x.a) ∧ W'.cell? ⟨b, o + 2, none⟩ = some (.int .i64 x.b) ∧ W'.cell? ⟨b, o + 3, none⟩ = some (.int .i64 x.c) :=
  ⟨⟨h.1.trans (hb.mono h.1.size), trivial⟩, hx.next (h.1.trans (hb.mono h.1.size))⟩
theorem below_draws {B : Nat} {w W : World} (h : Below B w W) (k : Nat) : Below B w (W.drewN k) := h.trans ⟨rfl, rfl, rfl, Nat.le_refl _, fun _ _ => rfl⟩
end Go.Proofs.YtggjkagcnhhkjaaDoor.Cd
