/-
  Package regs: Put.
-/
import Derived.Test.YtgmkomnoiffapaaGreatDoorBRtFresh
import Derived.Deep.Cut
import Derived.Deep.CutRange
import Derived.Deep.RegionHeld3
namespace Go.Proofs.YtgmkomnoiffapaaGreatDoor.Rt
open Go.Proofs.YtgmkomnoiffapaaGreatDoor
open Go.RowKit
set_option maxRecDepth 100000

section
variable {w W W' w5 : World} {t t5 t7 : Ts} {F : Nat → List Int} {g : Nat → O4} {u : Nat → Ls.Sl} {o : Ls.Sl} {k b : Nat} {a : Int}
theorem row_same {B n : Nat} {A : Option Addr} {xs : List Int} (h : Row w B A n xs) (hs : ∀ x, A = some x → W.heap[x.block]? = w.heap[x.block]?) : Row W B A n xs :=
  ⟨h.1, fun hn => by
    obtain ⟨b, off, e, hlt, hc⟩ := h.2 hn
    exact ⟨b, off, e, hlt, fun i hi => (World.cell?_of_block (w := w) (w' := W) (a := ⟨b, off + i, none⟩) (show W.heap[b]? = w.heap[b]? from hs _ e)).trans (hc i hi)⟩⟩
end
end Go.Proofs.YtgmkomnoiffapaaGreatDoor.Rt
