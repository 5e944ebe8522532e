/-
  DERIVED. GIVEN WITH THE SEED: THE CARDS: each row of YtccjelpfmkbmiaaGreatDoorRows.lean that lists a variable, with what it lists TIED to the program's text (the seventh form; the later family's looks); each row that meets fmt, with fmt's text TOLD by the authors' own Lean function (tested against real Go, not proved from fmt's source: count such statements apart). THE CARD IS WHAT COUNTS. Prove the row's statement (the work); the ties are given (YtccjelpfmkbmiaaGreatDoorTie.lean); close each card by the builder's one call (the guide's Derived/Test/ToyasCard.lean, 'card_holds'). Laid BY PROGRAM, IN A SANDBOX (cutbox-door.mjs). By AI agents, Wed Nov 11 2026. No macro, syntax, notation, axiom, sorry.
-/
import Derived.Test.YtccjelpfmkbmiaaGreatDoorRows
import GoSem.ClaimSeven
namespace Go.Proofs.YtccjelpfmkbmiaaGreatDoor
namespace Rows

/-- THE TIED CARD OF 'ragpickerlaw15.HandTells'. -/
def handTellsCard : Claim7 := { stood := { row := handTellsRow, standIns := [], harness := (true, "2ddf9d829f7fd69262511aef9e48bb6bea01848d583512c10f6b45da2e1b01a8"), looks := false }, kinds := [], alts := [], laidByText := true, laidKinds := [.data], laidTests := true, laidLooks := .later }
def HandTellsCardSaid : Prop := Claim7.holds Tryz.pinned (.plain (OpenSpec.ofChange handTellsSpec)) handTellsCard

/-- THE TIED CARD OF 'ragpickerlaw16.TraceKnows'. -/
def traceKnowsCard : Claim7 := { stood := { row := traceKnowsRow, standIns := [], harness := (true, "2ddf9d829f7fd69262511aef9e48bb6bea01848d583512c10f6b45da2e1b01a8"), looks := false }, kinds := [], alts := [], laidByText := true, laidKinds := [.data], laidTests := true, laidLooks := .later }
def TraceKnowsCardSaid : Prop := Claim7.holds Tryz.pinned (.plain (OpenSpec.ofChange traceKnowsSpec)) traceKnowsCard

/-- THE TIED CARD OF 'ragpickerlaw16.TraceEnds'. -/
def traceEndsCard : Claim7 := { stood := { row := traceEndsRow, standIns := [], harness := (true, "2ddf9d829f7fd69262511aef9e48bb6bea01848d583512c10f6b45da2e1b01a8"), looks := false }, kinds := [], alts := [], laidByText := true, laidKinds := [.data], laidTests := true, laidLooks := .later }
def TraceEndsCardSaid : Prop := Claim7.holds Tryz.pinned (.plain (OpenSpec.ofChange traceEndsSpec)) traceEndsCard

/-- THE TIED CARD OF 'ragpickerlaw16.TraceKeeps'. -/
def traceKeepsCard : Claim7 := { stood := { row := traceKeepsRow, standIns := [], harness := (true, "2ddf9d829f7fd69262511aef9e48bb6bea01848d583512c10f6b45da2e1b01a8"), looks := false }, kinds := [], alts := [], laidByText := true, laidKinds := [.data], laidTests := true, laidLooks := .later }
def TraceKeepsCardSaid : Prop := Claim7.holds Tryz.pinned (.plain (OpenSpec.ofChange traceKeepsSpec)) traceKeepsCard

/-- THE TIED CARD OF 'ragpickerlaw16.TraceReach'. -/
def traceReachCard : Claim7 := { stood := { row := traceReachRow, standIns := [], harness := (true, "2ddf9d829f7fd69262511aef9e48bb6bea01848d583512c10f6b45da2e1b01a8"), looks := false }, kinds := [], alts := [], laidByText := true, laidKinds := [.data], laidTests := true, laidLooks := .later }
def TraceReachCardSaid : Prop := Claim7.holds Tryz.pinned (.plain (OpenSpec.ofChange traceReachSpec)) traceReachCard

/-- THE TIED CARD OF 'ragpickerlaw16.TraceIdle'. -/
def traceIdleCard : Claim7 := { stood := { row := traceIdleRow, standIns := [], harness := (true, "2ddf9d829f7fd69262511aef9e48bb6bea01848d583512c10f6b45da2e1b01a8"), looks := false }, kinds := [], alts := [], laidByText := true, laidKinds := [.data], laidTests := true, laidLooks := .later }
def TraceIdleCardSaid : Prop := Claim7.holds Tryz.pinned (.plain (OpenSpec.ofChange traceIdleSpec)) traceIdleCard

/-- THE SECOND FORM's CARD OF 'ragpickerlaw15.HandTells'. -/
def handTellsUptoCard : Claim7 := { stood := { row := handTellsUptoRow, standIns := [], harness := (true, "2ddf9d829f7fd69262511aef9e48bb6bea01848d583512c10f6b45da2e1b01a8"), looks := false }, kinds := [], alts := [], laidByText := true, laidKinds := [.data], laidTests := true, laidLooks := .later }
def HandTellsUptoCardSaid : Prop := Claim7.holds Tryz.pinned (.plain (OpenSpec.upto handTellsSpec)) handTellsUptoCard

/-- THE SECOND FORM's CARD OF 'ragpickerlaw16.TraceKnows'. -/
def traceKnowsUptoCard : Claim7 := { stood := { row := traceKnowsUptoRow, standIns := [], harness := (true, "2ddf9d829f7fd69262511aef9e48bb6bea01848d583512c10f6b45da2e1b01a8"), looks := false }, kinds := [], alts := [], laidByText := true, laidKinds := [.data], laidTests := true, laidLooks := .later }
def TraceKnowsUptoCardSaid : Prop := Claim7.holds Tryz.pinned (.plain (OpenSpec.upto traceKnowsSpec)) traceKnowsUptoCard

/-- THE SECOND FORM's CARD OF 'ragpickerlaw16.TraceEnds'. -/
def traceEndsUptoCard : Claim7 := { stood := { row := traceEndsUptoRow, standIns := [], harness := (true, "2ddf9d829f7fd69262511aef9e48bb6bea01848d583512c10f6b45da2e1b01a8"), looks := false }, kinds := [], alts := [], laidByText := true, laidKinds := [.data], laidTests := true, laidLooks := .later }
def TraceEndsUptoCardSaid : Prop := Claim7.holds Tryz.pinned (.plain (OpenSpec.upto traceEndsSpec)) traceEndsUptoCard

/-- THE SECOND FORM's CARD OF 'ragpickerlaw16.TraceKeeps'. -/
def traceKeepsUptoCard : Claim7 := { stood := { row := traceKeepsUptoRow, standIns := [], harness := (true, "2ddf9d829f7fd69262511aef9e48bb6bea01848d583512c10f6b45da2e1b01a8"), looks := false }, kinds := [], alts := [], laidByText := true, laidKinds := [.data], laidTests := true, laidLooks := .later }
def TraceKeepsUptoCardSaid : Prop := Claim7.holds Tryz.pinned (.plain (OpenSpec.upto traceKeepsSpec)) traceKeepsUptoCard

/-- THE SECOND FORM's CARD OF 'ragpickerlaw16.TraceReach'. -/
def traceReachUptoCard : Claim7 := { stood := { row := traceReachUptoRow, standIns := [], harness := (true, "2ddf9d829f7fd69262511aef9e48bb6bea01848d583512c10f6b45da2e1b01a8"), looks := false }, kinds := [], alts := [], laidByText := true, laidKinds := [.data], laidTests := true, laidLooks := .later }
def TraceReachUptoCardSaid : Prop := Claim7.holds Tryz.pinned (.plain (OpenSpec.upto traceReachSpec)) traceReachUptoCard

/-- THE SECOND FORM's CARD OF 'ragpickerlaw16.TraceIdle'. -/
def traceIdleUptoCard : Claim7 := { stood := { row := traceIdleUptoRow, standIns := [], harness := (true, "2ddf9d829f7fd69262511aef9e48bb6bea01848d583512c10f6b45da2e1b01a8"), looks := false }, kinds := [], alts := [], laidByText := true, laidKinds := [.data], laidTests := true, laidLooks := .later }
def TraceIdleUptoCardSaid : Prop := Claim7.holds Tryz.pinned (.plain (OpenSpec.upto traceIdleSpec)) traceIdleUptoCard
end Rows
end Go.Proofs.YtccjelpfmkbmiaaGreatDoor
