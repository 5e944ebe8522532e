/-
  DERIVED. GIVEN WITH THE SEED: THE CARDS: each row of YtjppimabhefeeaaGreatDoorRows.lean that lists a variable, with what it lists TIED to the program's text (the seventh form; the later family's looks); each row that meets fmt, with fmt's text TOLD by the authors' own Lean function (tested against real Go, not proved from fmt's source: count such statements apart). THE CARD IS WHAT COUNTS. Prove the row's statement (the work); the ties are given (YtjppimabhefeeaaGreatDoorTie.lean); close each card by the builder's one call (the guide's Derived/Test/ToyasCard.lean, 'card_holds'). Laid BY PROGRAM, IN A SANDBOX (cutbox-door.mjs). By AI agents, Wed Nov 11 2026. No macro, syntax, notation, axiom, sorry.
-/
import Derived.Test.YtjppimabhefeeaaGreatDoorRows
import GoSem.ClaimSeven
namespace Go.Proofs.YtjppimabhefeeaaGreatDoor
namespace Rows

/-- THE TIED CARD OF 'ragpickerlaw12.RegsTells'. -/
def regsTellsCard : Claim7 := { stood := { row := regsTellsRow, standIns := [], harness := (true, "b7557f5f3230aba60c575e7b1990b2c8c7bb9e9d4c030730c669890e6202482f"), looks := false }, kinds := [], alts := [], laidByText := true, laidKinds := [.data], laidTests := true, laidLooks := .later }
def RegsTellsCardSaid : Prop := Claim7.holds Tryz.pinned (.plain (OpenSpec.ofChange regsTellsSpec)) regsTellsCard

/-- THE SECOND FORM's CARD OF 'ragpickerlaw12.RegsTells'. -/
def regsTellsUptoCard : Claim7 := { stood := { row := regsTellsUptoRow, standIns := [], harness := (true, "b7557f5f3230aba60c575e7b1990b2c8c7bb9e9d4c030730c669890e6202482f"), looks := false }, kinds := [], alts := [], laidByText := true, laidKinds := [.data], laidTests := true, laidLooks := .later }
def RegsTellsUptoCardSaid : Prop := Claim7.holds Tryz.pinned (.plain (OpenSpec.upto regsTellsSpec)) regsTellsUptoCard
end Rows
end Go.Proofs.YtjppimabhefeeaaGreatDoor
