/-
  DERIVED. GIVEN WITH THE SEED: THE CARDS: each row of YtfjhhfncapmnmaaGreatDoorRows.lean that lists a variable, with what it lists TIED to the program's text (the seventh form; the later family's looks); each row that meets fmt, with fmt's text TOLD by the authors' own Lean function (tested against real Go, not proved from fmt's source: count such statements apart). THE CARD IS WHAT COUNTS. Prove the row's statement (the work); the ties are given (YtfjhhfncapmnmaaGreatDoorTie.lean); close each card by the builder's one call (the guide's Derived/Test/ToyasCard.lean, 'card_holds'). Laid BY PROGRAM, IN A SANDBOX (cutbox-door.mjs). By AI agents, Wed Nov 11 2026. No macro, syntax, notation, axiom, sorry.
-/
import Derived.Test.YtfjhhfncapmnmaaGreatDoorRows
import GoSem.ClaimSeven
namespace Go.Proofs.YtfjhhfncapmnmaaGreatDoor
namespace Rows

/-- THE TIED CARD OF 'ragpickerlaw14.MutateSteps'. -/
def mutateStepsCard : Claim7 := { stood := { row := mutateStepsRow, standIns := [], harness := (true, "b2e299b683205c33ffa884075986b3c94d7250c9387a6f2726f42f61f4cacce5"), looks := false }, kinds := [], alts := [], laidByText := true, laidKinds := [.data], laidTests := true, laidLooks := .later }
def MutateStepsCardSaid : Prop := Claim7.holds Tryz.pinned (.plain (OpenSpec.ofChange mutateStepsSpec)) mutateStepsCard

/-- THE TIED CARD OF 'ragpickerlaw14.MutateKeeps'. -/
def mutateKeepsCard : Claim7 := { stood := { row := mutateKeepsRow, standIns := [], harness := (true, "b2e299b683205c33ffa884075986b3c94d7250c9387a6f2726f42f61f4cacce5"), looks := false }, kinds := [], alts := [], laidByText := true, laidKinds := [.data], laidTests := true, laidLooks := .later }
def MutateKeepsCardSaid : Prop := Claim7.holds Tryz.pinned (.plain (OpenSpec.ofChange mutateKeepsSpec)) mutateKeepsCard

/-- THE TIED CARD OF 'ragpickerlaw14.MutateErrors'. -/
def mutateErrorsCard : Claim7 := { stood := { row := mutateErrorsRow, standIns := [], harness := (true, "b2e299b683205c33ffa884075986b3c94d7250c9387a6f2726f42f61f4cacce5"), looks := false }, kinds := [], alts := [], laidByText := true, laidKinds := [.data], laidTests := true, laidLooks := .later }
def MutateErrorsCardSaid : Prop := Claim7.holds Tryz.pinned (.plain (OpenSpec.ofChange mutateErrorsSpec)) mutateErrorsCard

/-- THE TIED CARD OF 'ragpickerlaw14.MutateEnds'. -/
def mutateEndsCard : Claim7 := { stood := { row := mutateEndsRow, standIns := [], harness := (true, "b2e299b683205c33ffa884075986b3c94d7250c9387a6f2726f42f61f4cacce5"), looks := false }, kinds := [], alts := [], laidByText := true, laidKinds := [.data], laidTests := true, laidLooks := .later }
def MutateEndsCardSaid : Prop := Claim7.holds Tryz.pinned (.plain (OpenSpec.ofChange mutateEndsSpec)) mutateEndsCard

/-- THE TIED CARD OF 'ragpickerlaw14.MutateReads'. -/
def mutateReadsCard : Claim7 := { stood := { row := mutateReadsRow, standIns := [], harness := (true, "b2e299b683205c33ffa884075986b3c94d7250c9387a6f2726f42f61f4cacce5"), looks := false }, kinds := [], alts := [], laidByText := true, laidKinds := [.data], laidTests := true, laidLooks := .later }
def MutateReadsCardSaid : Prop := Claim7.holds Tryz.pinned (.plain (OpenSpec.ofChange mutateReadsSpec)) mutateReadsCard

/-- THE TIED CARD OF 'ragpickerlaw14.MutateStores'. -/
def mutateStoresCard : Claim7 := { stood := { row := mutateStoresRow, standIns := [], harness := (true, "b2e299b683205c33ffa884075986b3c94d7250c9387a6f2726f42f61f4cacce5"), looks := false }, kinds := [], alts := [], laidByText := true, laidKinds := [.data], laidTests := true, laidLooks := .later }
def MutateStoresCardSaid : Prop := Claim7.holds Tryz.pinned (.plain (OpenSpec.ofChange mutateStoresSpec)) mutateStoresCard

/-- THE TIED CARD OF 'ragpickerlaw14.MutateNew'. -/
def mutateNewCard : Claim7 := { stood := { row := mutateNewRow, standIns := [], harness := (true, "b2e299b683205c33ffa884075986b3c94d7250c9387a6f2726f42f61f4cacce5"), looks := false }, kinds := [], alts := [], laidByText := true, laidKinds := [.data], laidTests := true, laidLooks := .later }
def MutateNewCardSaid : Prop := Claim7.holds Tryz.pinned (.plain (OpenSpec.ofChange mutateNewSpec)) mutateNewCard

/-- THE SECOND FORM's CARD OF 'ragpickerlaw14.MutateSteps'. -/
def mutateStepsUptoCard : Claim7 := { stood := { row := mutateStepsUptoRow, standIns := [], harness := (true, "b2e299b683205c33ffa884075986b3c94d7250c9387a6f2726f42f61f4cacce5"), looks := false }, kinds := [], alts := [], laidByText := true, laidKinds := [.data], laidTests := true, laidLooks := .later }
def MutateStepsUptoCardSaid : Prop := Claim7.holds Tryz.pinned (.plain (OpenSpec.upto mutateStepsSpec)) mutateStepsUptoCard

/-- THE SECOND FORM's CARD OF 'ragpickerlaw14.MutateKeeps'. -/
def mutateKeepsUptoCard : Claim7 := { stood := { row := mutateKeepsUptoRow, standIns := [], harness := (true, "b2e299b683205c33ffa884075986b3c94d7250c9387a6f2726f42f61f4cacce5"), looks := false }, kinds := [], alts := [], laidByText := true, laidKinds := [.data], laidTests := true, laidLooks := .later }
def MutateKeepsUptoCardSaid : Prop := Claim7.holds Tryz.pinned (.plain (OpenSpec.upto mutateKeepsSpec)) mutateKeepsUptoCard

/-- THE SECOND FORM's CARD OF 'ragpickerlaw14.MutateErrors'. -/
def mutateErrorsUptoCard : Claim7 := { stood := { row := mutateErrorsUptoRow, standIns := [], harness := (true, "b2e299b683205c33ffa884075986b3c94d7250c9387a6f2726f42f61f4cacce5"), looks := false }, kinds := [], alts := [], laidByText := true, laidKinds := [.data], laidTests := true, laidLooks := .later }
def MutateErrorsUptoCardSaid : Prop := Claim7.holds Tryz.pinned (.plain (OpenSpec.upto mutateErrorsSpec)) mutateErrorsUptoCard

/-- THE SECOND FORM's CARD OF 'ragpickerlaw14.MutateEnds'. -/
def mutateEndsUptoCard : Claim7 := { stood := { row := mutateEndsUptoRow, standIns := [], harness := (true, "b2e299b683205c33ffa884075986b3c94d7250c9387a6f2726f42f61f4cacce5"), looks := false }, kinds := [], alts := [], laidByText := true, laidKinds := [.data], laidTests := true, laidLooks := .later }
def MutateEndsUptoCardSaid : Prop := Claim7.holds Tryz.pinned (.plain (OpenSpec.upto mutateEndsSpec)) mutateEndsUptoCard

/-- THE SECOND FORM's CARD OF 'ragpickerlaw14.MutateReads'. -/
def mutateReadsUptoCard : Claim7 := { stood := { row := mutateReadsUptoRow, standIns := [], harness := (true, "b2e299b683205c33ffa884075986b3c94d7250c9387a6f2726f42f61f4cacce5"), looks := false }, kinds := [], alts := [], laidByText := true, laidKinds := [.data], laidTests := true, laidLooks := .later }
def MutateReadsUptoCardSaid : Prop := Claim7.holds Tryz.pinned (.plain (OpenSpec.upto mutateReadsSpec)) mutateReadsUptoCard

/-- THE SECOND FORM's CARD OF 'ragpickerlaw14.MutateStores'. -/
def mutateStoresUptoCard : Claim7 := { stood := { row := mutateStoresUptoRow, standIns := [], harness := (true, "b2e299b683205c33ffa884075986b3c94d7250c9387a6f2726f42f61f4cacce5"), looks := false }, kinds := [], alts := [], laidByText := true, laidKinds := [.data], laidTests := true, laidLooks := .later }
def MutateStoresUptoCardSaid : Prop := Claim7.holds Tryz.pinned (.plain (OpenSpec.upto mutateStoresSpec)) mutateStoresUptoCard

/-- THE SECOND FORM's CARD OF 'ragpickerlaw14.MutateNew'. -/
def mutateNewUptoCard : Claim7 := { stood := { row := mutateNewUptoRow, standIns := [], harness := (true, "b2e299b683205c33ffa884075986b3c94d7250c9387a6f2726f42f61f4cacce5"), looks := false }, kinds := [], alts := [], laidByText := true, laidKinds := [.data], laidTests := true, laidLooks := .later }
def MutateNewUptoCardSaid : Prop := Claim7.holds Tryz.pinned (.plain (OpenSpec.upto mutateNewSpec)) mutateNewUptoCard
end Rows
end Go.Proofs.YtfjhhfncapmnmaaGreatDoor
