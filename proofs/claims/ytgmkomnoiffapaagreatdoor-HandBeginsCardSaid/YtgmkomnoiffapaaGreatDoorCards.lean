/-
  DERIVED. GIVEN WITH THE SEED: THE CARDS: each row of YtgmkomnoiffapaaGreatDoorRows.lean that lists a variable, with what it lists TIED to the program's text (the seventh form; the later family's looks); each row that meets fmt, with fmt's text TOLD by the authors' own Lean function (tested against real Go, not proved from fmt's source: count such statements apart). THE CARD IS WHAT COUNTS. Prove the row's statement (the work); the ties are given (YtgmkomnoiffapaaGreatDoorTie.lean); close each card by the builder's one call (the guide's Derived/Test/ToyasCard.lean, 'card_holds'). Laid BY PROGRAM, IN A SANDBOX (cutbox-door.mjs). By AI agents, Wed Nov 11 2026. No macro, syntax, notation, axiom, sorry.
-/
import Derived.Test.YtgmkomnoiffapaaGreatDoorRows
import GoSem.ClaimSeven
namespace Go.Proofs.YtgmkomnoiffapaaGreatDoor
namespace Rows

/-- THE TIED CARD OF 'ragpickerlaw14.MutateStores'. -/
def mutateStoresCard : Claim7 := { stood := { row := mutateStoresRow, standIns := [], harness := (true, "add64a7ee2e60378e6911120dddf18743d2ada5da6d1d26276bd01b091154e95"), looks := false }, kinds := [], alts := [], laidByText := true, laidKinds := [.data], laidTests := true, laidLooks := .later }
def MutateStoresCardSaid : Prop := Claim7.holds Tryz.pinned (.plain (OpenSpec.ofChange mutateStoresSpec)) mutateStoresCard

/-- THE TIED CARD OF 'ragpickerlaw14.MutateNew'. -/
def mutateNewCard : Claim7 := { stood := { row := mutateNewRow, standIns := [], harness := (true, "add64a7ee2e60378e6911120dddf18743d2ada5da6d1d26276bd01b091154e95"), looks := false }, kinds := [], alts := [], laidByText := true, laidKinds := [.data], laidTests := true, laidLooks := .later }
def MutateNewCardSaid : Prop := Claim7.holds Tryz.pinned (.plain (OpenSpec.ofChange mutateNewSpec)) mutateNewCard

/-- THE TIED CARD OF 'ragpickerlaw15.HandTells'. -/
def handTellsCard : Claim7 := { stood := { row := handTellsRow, standIns := [], harness := (true, "add64a7ee2e60378e6911120dddf18743d2ada5da6d1d26276bd01b091154e95"), looks := false }, kinds := [], alts := [], laidByText := true, laidKinds := [.data], laidTests := true, laidLooks := .later }
def HandTellsCardSaid : Prop := Claim7.holds Tryz.pinned (.plain (OpenSpec.ofChange handTellsSpec)) handTellsCard

/-- THE TIED CARD OF 'ragpickerlaw15.HandEnds'. -/
def handEndsCard : Claim7 := { stood := { row := handEndsRow, standIns := [], harness := (true, "add64a7ee2e60378e6911120dddf18743d2ada5da6d1d26276bd01b091154e95"), looks := false }, kinds := [], alts := [], laidByText := true, laidKinds := [.data], laidTests := true, laidLooks := .later }
def HandEndsCardSaid : Prop := Claim7.holds Tryz.pinned (.plain (OpenSpec.ofChange handEndsSpec)) handEndsCard

/-- THE TIED CARD OF 'ragpickerlaw15.HandRoots'. -/
def handRootsCard : Claim7 := { stood := { row := handRootsRow, standIns := [], harness := (true, "add64a7ee2e60378e6911120dddf18743d2ada5da6d1d26276bd01b091154e95"), looks := false }, kinds := [], alts := [], laidByText := true, laidKinds := [.data], laidTests := true, laidLooks := .later }
def HandRootsCardSaid : Prop := Claim7.holds Tryz.pinned (.plain (OpenSpec.ofChange handRootsSpec)) handRootsCard

/-- THE TIED CARD OF 'ragpickerlaw15.HandBegins'. -/
def handBeginsCard : Claim7 := { stood := { row := handBeginsRow, standIns := [], harness := (true, "add64a7ee2e60378e6911120dddf18743d2ada5da6d1d26276bd01b091154e95"), looks := false }, kinds := [], alts := [], laidByText := true, laidKinds := [.data], laidTests := true, laidLooks := .later }
def HandBeginsCardSaid : Prop := Claim7.holds Tryz.pinned (.plain (OpenSpec.ofChange handBeginsSpec)) handBeginsCard

/-- THE TIED CARD OF 'ragpickerlaw15.HandStays'. -/
def handStaysCard : Claim7 := { stood := { row := handStaysRow, standIns := [], harness := (true, "add64a7ee2e60378e6911120dddf18743d2ada5da6d1d26276bd01b091154e95"), looks := false }, kinds := [], alts := [], laidByText := true, laidKinds := [.data], laidTests := true, laidLooks := .later }
def HandStaysCardSaid : Prop := Claim7.holds Tryz.pinned (.plain (OpenSpec.ofChange handStaysSpec)) handStaysCard

/-- THE TIED CARD OF 'ragpickerlaw15.HandOnce'. -/
def handOnceCard : Claim7 := { stood := { row := handOnceRow, standIns := [], harness := (true, "add64a7ee2e60378e6911120dddf18743d2ada5da6d1d26276bd01b091154e95"), looks := false }, kinds := [], alts := [], laidByText := true, laidKinds := [.data], laidTests := true, laidLooks := .later }
def HandOnceCardSaid : Prop := Claim7.holds Tryz.pinned (.plain (OpenSpec.ofChange handOnceSpec)) handOnceCard

/-- THE SECOND FORM's CARD OF 'ragpickerlaw14.MutateStores'. -/
def mutateStoresUptoCard : Claim7 := { stood := { row := mutateStoresUptoRow, standIns := [], harness := (true, "add64a7ee2e60378e6911120dddf18743d2ada5da6d1d26276bd01b091154e95"), looks := false }, kinds := [], alts := [], laidByText := true, laidKinds := [.data], laidTests := true, laidLooks := .later }
def MutateStoresUptoCardSaid : Prop := Claim7.holds Tryz.pinned (.plain (OpenSpec.upto mutateStoresSpec)) mutateStoresUptoCard

/-- THE SECOND FORM's CARD OF 'ragpickerlaw14.MutateNew'. -/
def mutateNewUptoCard : Claim7 := { stood := { row := mutateNewUptoRow, standIns := [], harness := (true, "add64a7ee2e60378e6911120dddf18743d2ada5da6d1d26276bd01b091154e95"), looks := false }, kinds := [], alts := [], laidByText := true, laidKinds := [.data], laidTests := true, laidLooks := .later }
def MutateNewUptoCardSaid : Prop := Claim7.holds Tryz.pinned (.plain (OpenSpec.upto mutateNewSpec)) mutateNewUptoCard

/-- THE SECOND FORM's CARD OF 'ragpickerlaw15.HandTells'. -/
def handTellsUptoCard : Claim7 := { stood := { row := handTellsUptoRow, standIns := [], harness := (true, "add64a7ee2e60378e6911120dddf18743d2ada5da6d1d26276bd01b091154e95"), looks := false }, kinds := [], alts := [], laidByText := true, laidKinds := [.data], laidTests := true, laidLooks := .later }
def HandTellsUptoCardSaid : Prop := Claim7.holds Tryz.pinned (.plain (OpenSpec.upto handTellsSpec)) handTellsUptoCard

/-- THE SECOND FORM's CARD OF 'ragpickerlaw15.HandEnds'. -/
def handEndsUptoCard : Claim7 := { stood := { row := handEndsUptoRow, standIns := [], harness := (true, "add64a7ee2e60378e6911120dddf18743d2ada5da6d1d26276bd01b091154e95"), looks := false }, kinds := [], alts := [], laidByText := true, laidKinds := [.data], laidTests := true, laidLooks := .later }
def HandEndsUptoCardSaid : Prop := Claim7.holds Tryz.pinned (.plain (OpenSpec.upto handEndsSpec)) handEndsUptoCard

/-- THE SECOND FORM's CARD OF 'ragpickerlaw15.HandRoots'. -/
def handRootsUptoCard : Claim7 := { stood := { row := handRootsUptoRow, standIns := [], harness := (true, "add64a7ee2e60378e6911120dddf18743d2ada5da6d1d26276bd01b091154e95"), looks := false }, kinds := [], alts := [], laidByText := true, laidKinds := [.data], laidTests := true, laidLooks := .later }
def HandRootsUptoCardSaid : Prop := Claim7.holds Tryz.pinned (.plain (OpenSpec.upto handRootsSpec)) handRootsUptoCard

/-- THE SECOND FORM's CARD OF 'ragpickerlaw15.HandBegins'. -/
def handBeginsUptoCard : Claim7 := { stood := { row := handBeginsUptoRow, standIns := [], harness := (true, "add64a7ee2e60378e6911120dddf18743d2ada5da6d1d26276bd01b091154e95"), looks := false }, kinds := [], alts := [], laidByText := true, laidKinds := [.data], laidTests := true, laidLooks := .later }
def HandBeginsUptoCardSaid : Prop := Claim7.holds Tryz.pinned (.plain (OpenSpec.upto handBeginsSpec)) handBeginsUptoCard

/-- THE SECOND FORM's CARD OF 'ragpickerlaw15.HandStays'. -/
def handStaysUptoCard : Claim7 := { stood := { row := handStaysUptoRow, standIns := [], harness := (true, "add64a7ee2e60378e6911120dddf18743d2ada5da6d1d26276bd01b091154e95"), looks := false }, kinds := [], alts := [], laidByText := true, laidKinds := [.data], laidTests := true, laidLooks := .later }
def HandStaysUptoCardSaid : Prop := Claim7.holds Tryz.pinned (.plain (OpenSpec.upto handStaysSpec)) handStaysUptoCard

/-- THE SECOND FORM's CARD OF 'ragpickerlaw15.HandOnce'. -/
def handOnceUptoCard : Claim7 := { stood := { row := handOnceUptoRow, standIns := [], harness := (true, "add64a7ee2e60378e6911120dddf18743d2ada5da6d1d26276bd01b091154e95"), looks := false }, kinds := [], alts := [], laidByText := true, laidKinds := [.data], laidTests := true, laidLooks := .later }
def HandOnceUptoCardSaid : Prop := Claim7.holds Tryz.pinned (.plain (OpenSpec.upto handOnceSpec)) handOnceUptoCard
end Rows
end Go.Proofs.YtgmkomnoiffapaaGreatDoor
