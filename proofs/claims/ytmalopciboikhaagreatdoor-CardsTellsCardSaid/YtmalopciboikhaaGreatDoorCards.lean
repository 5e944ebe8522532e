/-
  DERIVED. GIVEN WITH THE SEED: THE CARDS: each row of YtmalopciboikhaaGreatDoorRows.lean that lists a variable, with what it lists TIED to the program's text (the seventh form; the later family's looks); each row that meets fmt, with fmt's text TOLD by the authors' own Lean function (tested against real Go, not proved from fmt's source: count such statements apart). THE CARD IS WHAT COUNTS. Prove the row's statement (the work); the ties are given (YtmalopciboikhaaGreatDoorTie.lean); close each card by the builder's one call (the guide's Derived/Test/ToyasCard.lean, 'card_holds'). Laid BY PROGRAM, IN A SANDBOX (cutbox-door.mjs). By AI agents, Wed Nov 11 2026. No macro, syntax, notation, axiom, sorry.
-/
import Derived.Test.YtmalopciboikhaaGreatDoorRows
import GoSem.ClaimSeven
namespace Go.Proofs.YtmalopciboikhaaGreatDoor
namespace Rows

/-- THE TIED CARD OF 'ragpickerlaw08.AllocTakes'. -/
def allocTakesCard : Claim7 := { stood := { row := allocTakesRow, standIns := [], harness := (true, "f18771c1809a2e19fd1441a0eace1a2fe274a841e5858c5bb6408136901a4fe5"), looks := false }, kinds := [], alts := [], laidByText := true, laidKinds := [.data], laidTests := true, laidLooks := .later }
def AllocTakesCardSaid : Prop := Claim7.holds Tryz.pinned (.plain (OpenSpec.ofChange allocTakesSpec)) allocTakesCard

/-- THE TIED CARD OF 'ragpickerlaw09.ReapFrees'. -/
def reapFreesCard : Claim7 := { stood := { row := reapFreesRow, standIns := [], harness := (true, "f18771c1809a2e19fd1441a0eace1a2fe274a841e5858c5bb6408136901a4fe5"), looks := false }, kinds := [], alts := [], laidByText := true, laidKinds := [.data], laidTests := true, laidLooks := .later }
def ReapFreesCardSaid : Prop := Claim7.holds Tryz.pinned (.plain (OpenSpec.ofChange reapFreesSpec)) reapFreesCard

/-- THE TIED CARD OF 'ragpickerlaw10.CardsTells'. -/
def cardsTellsCard : Claim7 := { stood := { row := cardsTellsRow, standIns := [], harness := (true, "f18771c1809a2e19fd1441a0eace1a2fe274a841e5858c5bb6408136901a4fe5"), looks := false }, kinds := [], alts := [], laidByText := true, laidKinds := [.data], laidTests := true, laidLooks := .later }
def CardsTellsCardSaid : Prop := Claim7.holds Tryz.pinned (.plain (OpenSpec.ofChange cardsTellsSpec)) cardsTellsCard

/-- THE SECOND FORM's CARD OF 'ragpickerlaw08.AllocTakes'. -/
def allocTakesUptoCard : Claim7 := { stood := { row := allocTakesUptoRow, standIns := [], harness := (true, "f18771c1809a2e19fd1441a0eace1a2fe274a841e5858c5bb6408136901a4fe5"), looks := false }, kinds := [], alts := [], laidByText := true, laidKinds := [.data], laidTests := true, laidLooks := .later }
def AllocTakesUptoCardSaid : Prop := Claim7.holds Tryz.pinned (.plain (OpenSpec.upto allocTakesSpec)) allocTakesUptoCard

/-- THE SECOND FORM's CARD OF 'ragpickerlaw09.ReapFrees'. -/
def reapFreesUptoCard : Claim7 := { stood := { row := reapFreesUptoRow, standIns := [], harness := (true, "f18771c1809a2e19fd1441a0eace1a2fe274a841e5858c5bb6408136901a4fe5"), looks := false }, kinds := [], alts := [], laidByText := true, laidKinds := [.data], laidTests := true, laidLooks := .later }
def ReapFreesUptoCardSaid : Prop := Claim7.holds Tryz.pinned (.plain (OpenSpec.upto reapFreesSpec)) reapFreesUptoCard

/-- THE SECOND FORM's CARD OF 'ragpickerlaw10.CardsTells'. -/
def cardsTellsUptoCard : Claim7 := { stood := { row := cardsTellsUptoRow, standIns := [], harness := (true, "f18771c1809a2e19fd1441a0eace1a2fe274a841e5858c5bb6408136901a4fe5"), looks := false }, kinds := [], alts := [], laidByText := true, laidKinds := [.data], laidTests := true, laidLooks := .later }
def CardsTellsUptoCardSaid : Prop := Claim7.holds Tryz.pinned (.plain (OpenSpec.upto cardsTellsSpec)) cardsTellsUptoCard
end Rows
end Go.Proofs.YtmalopciboikhaaGreatDoor
