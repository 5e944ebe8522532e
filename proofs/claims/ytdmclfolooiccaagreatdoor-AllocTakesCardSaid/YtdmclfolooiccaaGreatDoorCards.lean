/-
  DERIVED. GIVEN WITH THE SEED: THE CARDS: each row of YtdmclfolooiccaaGreatDoorRows.lean that lists a variable, with what it lists TIED to the program's text (the seventh form; the later family's looks); each row that meets fmt, with fmt's text TOLD by the authors' own Lean function (tested against real Go, not proved from fmt's source: count such statements apart). THE CARD IS WHAT COUNTS. Prove the row's statement (the work); the ties are given (YtdmclfolooiccaaGreatDoorTie.lean); close each card by the builder's one call (the guide's Derived/Test/ToyasCard.lean, 'card_holds'). Laid BY PROGRAM, IN A SANDBOX (cutbox-door.mjs). By AI agents, Wed Nov 11 2026. No macro, syntax, notation, axiom, sorry.
-/
import Derived.Test.YtdmclfolooiccaaGreatDoorRows
import GoSem.ClaimSeven
namespace Go.Proofs.YtdmclfolooiccaaGreatDoor
namespace Rows

/-- THE TIED CARD OF 'ragpickerlaw08.AllocTakes'. -/
def allocTakesCard : Claim7 := { stood := { row := allocTakesRow, standIns := [], harness := (true, "a489a6815a2e1f9252555b3efb5b4ac0c3aca2fc31412b47aa638c6c9d49df17"), looks := false }, kinds := [], alts := [], laidByText := true, laidKinds := [.data], laidTests := true, laidLooks := .later }
def AllocTakesCardSaid : Prop := Claim7.holds Tryz.pinned (.plain (OpenSpec.ofChange allocTakesSpec)) allocTakesCard

/-- THE SECOND FORM's CARD OF 'ragpickerlaw08.AllocTakes'. -/
def allocTakesUptoCard : Claim7 := { stood := { row := allocTakesUptoRow, standIns := [], harness := (true, "a489a6815a2e1f9252555b3efb5b4ac0c3aca2fc31412b47aa638c6c9d49df17"), looks := false }, kinds := [], alts := [], laidByText := true, laidKinds := [.data], laidTests := true, laidLooks := .later }
def AllocTakesUptoCardSaid : Prop := Claim7.holds Tryz.pinned (.plain (OpenSpec.upto allocTakesSpec)) allocTakesUptoCard
end Rows
end Go.Proofs.YtdmclfolooiccaaGreatDoor
