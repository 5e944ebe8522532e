/-
  What a seat without lists.Apart and lists.Pop lacks.
-/
import Derived.Test.YtjppimabhefeeaaLsAll
import Derived.Lib.SliceRun
import Derived.Deep.Upon
namespace Go.Proofs.Ytjppimabhefeeaa.Ls
open Go.Proofs.Ytjppimabhefeeaa
open Go.RowKit
theorem rint {a b : Bool} (h : a = b) : Ending.returned (.bool a) = .returned (.bool b) := by rw [h]
def Tells (w : World) (p : Bool) (e : Ending) (w' : World) : Prop := e = .returned (.bool p) ∧ Below w.heap.size w w'
theorem two_below (w : World) (o p : Obj) : Below w.heap.size w ((w.alloc o).alloc p) := ((Below.refl _ _).alloc (Nat.le_refl _) _).alloc (by simp) _
end Go.Proofs.Ytjppimabhefeeaa.Ls
