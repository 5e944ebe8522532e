/-
  DERIVED. GIVEN WITH THE SEED: THE CARDS: each row of YtjppimabhefeeaaDoorRows.lean that lists a variable, with what it lists TIED to the program's text (the seventh form; the later family's looks); each row that meets fmt, with fmt's text TOLD by the authors' own Lean function (tested against real Go, not proved from fmt's source: count such statements apart). THE CARD IS WHAT COUNTS. Prove the row's statement (the work); the ties are given (YtjppimabhefeeaaDoorTie.lean); close each card by the builder's one call (the guide's Derived/Test/ToyasCard.lean, 'card_holds'). Laid BY PROGRAM, IN A SANDBOX (cutbox-door.mjs). By AI agents, Wed Nov 11 2026. No macro, syntax, notation, axiom, sorry.
-/
import Derived.Test.YtjppimabhefeeaaDoorRows
import GoSem.ClaimSeven
namespace Go.Proofs.YtjppimabhefeeaaDoor
namespace Rows

/-- THE TIED CARD OF 'ragpickerlaw12.RegsObject'. -/
def regsObjectCard : Claim7 := { stood := { row := regsObjectRow, standIns := [], harness := (true, "119d3387aeb88e8572a5ec13ce2dff9e44bab1be8a7da9949246668b68c5369b"), looks := false }, kinds := [], alts := [], laidByText := true, laidKinds := [.data], laidTests := true, laidLooks := .later }
def RegsObjectCardSaid : Prop := Claim7.holds Tryd.pinned (.plain (OpenSpec.ofChange regsObjectSpec)) regsObjectCard

/-- THE SECOND FORM's CARD OF 'ragpickerlaw12.RegsObject'. -/
def regsObjectUptoCard : Claim7 := { stood := { row := regsObjectUptoRow, standIns := [], harness := (true, "119d3387aeb88e8572a5ec13ce2dff9e44bab1be8a7da9949246668b68c5369b"), looks := false }, kinds := [], alts := [], laidByText := true, laidKinds := [.data], laidTests := true, laidLooks := .later }
def RegsObjectUptoCardSaid : Prop := Claim7.holds Tryd.pinned (.plain (OpenSpec.upto regsObjectSpec)) regsObjectUptoCard
end Rows
end Go.Proofs.YtjppimabhefeeaaDoor
