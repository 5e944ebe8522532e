/-
  DERIVED. GIVEN WITH THE SEED: THE CARDS: each row of YtgmkomnoiffapaaDoorRows.lean that lists a variable, with what it lists TIED to the program's text (the seventh form; the later family's looks); each row that meets fmt, with fmt's text TOLD by the authors' own Lean function (tested against real Go, not proved from fmt's source: count such statements apart). THE CARD IS WHAT COUNTS. Prove the row's statement (the work); the ties are given (YtgmkomnoiffapaaDoorTie.lean); close each card by the builder's one call (the guide's Derived/Test/ToyasCard.lean, 'card_holds'). Laid BY PROGRAM, IN A SANDBOX (cutbox-door.mjs). By AI agents, Wed Nov 11 2026. No macro, syntax, notation, axiom, sorry.
-/
import Derived.Test.YtgmkomnoiffapaaDoorRows
import GoSem.ClaimSeven
namespace Go.Proofs.YtgmkomnoiffapaaDoor
namespace Rows

/-- THE TIED CARD OF 'ragpickerlaw15.HandAll'. -/
def handAllCard : Claim7 := { stood := { row := handAllRow, standIns := [], harness := (true, "bb2b185e9d277396f50b17eb96779973ac18f11decade627362bc1cd5b96fe6c"), looks := false }, kinds := [], alts := [], laidByText := true, laidKinds := [.data], laidTests := true, laidLooks := .later }
def HandAllCardSaid : Prop := Claim7.holds Tryd.pinned (.plain (OpenSpec.ofChange handAllSpec)) handAllCard

/-- THE SECOND FORM's CARD OF 'ragpickerlaw15.HandAll'. -/
def handAllUptoCard : Claim7 := { stood := { row := handAllUptoRow, standIns := [], harness := (true, "bb2b185e9d277396f50b17eb96779973ac18f11decade627362bc1cd5b96fe6c"), looks := false }, kinds := [], alts := [], laidByText := true, laidKinds := [.data], laidTests := true, laidLooks := .later }
def HandAllUptoCardSaid : Prop := Claim7.holds Tryd.pinned (.plain (OpenSpec.upto handAllSpec)) handAllUptoCard
end Rows
end Go.Proofs.YtgmkomnoiffapaaDoor
