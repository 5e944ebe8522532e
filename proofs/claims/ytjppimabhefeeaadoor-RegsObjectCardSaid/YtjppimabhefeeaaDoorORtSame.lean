/-
  The reference's Same, of two threads that are the same.
-/
import Derived.Test.YtjppimabhefeeaaDoorORtRef
import Derived.Test.YtjppimabhefeeaaDoorHpOF
import Derived.Deep.QuietTactic
import Derived.BigQuiet
namespace Go.Proofs.YtjppimabhefeeaaDoor.Rt
open Go.Proofs.YtjppimabhefeeaaDoor
open Go.RowKit
set_option maxRecDepth 100000

structure Tw (w W : World) (t t' : Ts) : Prop where
  bel : Below w.heap.size w W
  one : Box W w.heap.size (tv t)
  two : Box W (w.heap.size + 1) (tv t')
theorem Tw.next {w W W' : World} {t t' : Ts} (h : Tw w W t t') (hb : Below W.heap.size W W') : Tw w W' t t' := ⟨h.bel.trans (hb.mono h.bel.size), h.one.next hb, h.two.next hb⟩
end Go.Proofs.YtjppimabhefeeaaDoor.Rt
