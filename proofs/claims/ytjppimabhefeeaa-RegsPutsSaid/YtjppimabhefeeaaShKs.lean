/-
  A collector's parts.
-/
import Derived.Test.YtjppimabhefeeaaLsRow
namespace Go.Proofs.Ytjppimabhefeeaa.Sh
open Go.Proofs.Ytjppimabhefeeaa

/-- A collector. -/
structure Ks where
  ph : Int
  ep : Int
  mj : Bool
  wk : Ls.Sl
  ov : Bool
  pa : Int
  pf : Int
  ps : Int
  pc : Int
  me : Bool
end Go.Proofs.Ytjppimabhefeeaa.Sh
