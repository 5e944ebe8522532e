/-
  DERIVED. GIVEN WITH THE SEED: THE CARDS: each row of YtcbnefjfoeanoaaGreatDoorRows.lean that lists a variable, with what it lists TIED to the program's text (the seventh form; the later family's looks); each row that meets fmt, with fmt's text TOLD by the authors' own Lean function (tested against real Go, not proved from fmt's source: count such statements apart). THE CARD IS WHAT COUNTS. Prove the row's statement (the work); the ties are given (YtcbnefjfoeanoaaGreatDoorTie.lean); close each card by the builder's one call (the guide's Derived/Test/ToyasCard.lean, 'card_holds'). Laid BY PROGRAM, IN A SANDBOX (cutbox-door.mjs). By AI agents, Wed Nov 11 2026. No macro, syntax, notation, axiom, sorry.
-/
import Derived.Test.YtcbnefjfoeanoaaGreatDoorRows
import GoSem.ClaimSeven
namespace Go.Proofs.YtcbnefjfoeanoaaGreatDoor
namespace Rows

/-- THE TIED CARD OF 'ragpickerlaw08.AllocTakes'. -/
def allocTakesCard : Claim7 := { stood := { row := allocTakesRow, standIns := [], harness := (true, "4ac453e865154946ab60f8a3e406d338019731527c52e2645a8199da8919b4d4"), looks := false }, kinds := [], alts := [], laidByText := true, laidKinds := [.data], laidTests := true, laidLooks := .later }
def AllocTakesCardSaid : Prop := Claim7.holds Tryz.pinned (.plain (OpenSpec.ofChange allocTakesSpec)) allocTakesCard

/-- THE TIED CARD OF 'ragpickerlaw08.AllocKeeps'. -/
def allocKeepsCard : Claim7 := { stood := { row := allocKeepsRow, standIns := [], harness := (true, "4ac453e865154946ab60f8a3e406d338019731527c52e2645a8199da8919b4d4"), looks := false }, kinds := [], alts := [], laidByText := true, laidKinds := [.data], laidTests := true, laidLooks := .later }
def AllocKeepsCardSaid : Prop := Claim7.holds Tryz.pinned (.plain (OpenSpec.ofChange allocKeepsSpec)) allocKeepsCard

/-- THE TIED CARD OF 'ragpickerlaw09.ReapFrees'. -/
def reapFreesCard : Claim7 := { stood := { row := reapFreesRow, standIns := [], harness := (true, "4ac453e865154946ab60f8a3e406d338019731527c52e2645a8199da8919b4d4"), looks := false }, kinds := [], alts := [], laidByText := true, laidKinds := [.data], laidTests := true, laidLooks := .later }
def ReapFreesCardSaid : Prop := Claim7.holds Tryz.pinned (.plain (OpenSpec.ofChange reapFreesSpec)) reapFreesCard

/-- THE TIED CARD OF 'ragpickerlaw09.ReapBack'. -/
def reapBackCard : Claim7 := { stood := { row := reapBackRow, standIns := [], harness := (true, "4ac453e865154946ab60f8a3e406d338019731527c52e2645a8199da8919b4d4"), looks := false }, kinds := [], alts := [], laidByText := true, laidKinds := [.data], laidTests := true, laidLooks := .later }
def ReapBackCardSaid : Prop := Claim7.holds Tryz.pinned (.plain (OpenSpec.ofChange reapBackSpec)) reapBackCard

/-- THE TIED CARD OF 'ragpickerlaw09.ReapRoom'. -/
def reapRoomCard : Claim7 := { stood := { row := reapRoomRow, standIns := [], harness := (true, "4ac453e865154946ab60f8a3e406d338019731527c52e2645a8199da8919b4d4"), looks := false }, kinds := [], alts := [], laidByText := true, laidKinds := [.data], laidTests := true, laidLooks := .later }
def ReapRoomCardSaid : Prop := Claim7.holds Tryz.pinned (.plain (OpenSpec.ofChange reapRoomSpec)) reapRoomCard

/-- THE SECOND FORM's CARD OF 'ragpickerlaw08.AllocTakes'. -/
def allocTakesUptoCard : Claim7 := { stood := { row := allocTakesUptoRow, standIns := [], harness := (true, "4ac453e865154946ab60f8a3e406d338019731527c52e2645a8199da8919b4d4"), looks := false }, kinds := [], alts := [], laidByText := true, laidKinds := [.data], laidTests := true, laidLooks := .later }
def AllocTakesUptoCardSaid : Prop := Claim7.holds Tryz.pinned (.plain (OpenSpec.upto allocTakesSpec)) allocTakesUptoCard

/-- THE SECOND FORM's CARD OF 'ragpickerlaw08.AllocKeeps'. -/
def allocKeepsUptoCard : Claim7 := { stood := { row := allocKeepsUptoRow, standIns := [], harness := (true, "4ac453e865154946ab60f8a3e406d338019731527c52e2645a8199da8919b4d4"), looks := false }, kinds := [], alts := [], laidByText := true, laidKinds := [.data], laidTests := true, laidLooks := .later }
def AllocKeepsUptoCardSaid : Prop := Claim7.holds Tryz.pinned (.plain (OpenSpec.upto allocKeepsSpec)) allocKeepsUptoCard

/-- THE SECOND FORM's CARD OF 'ragpickerlaw09.ReapFrees'. -/
def reapFreesUptoCard : Claim7 := { stood := { row := reapFreesUptoRow, standIns := [], harness := (true, "4ac453e865154946ab60f8a3e406d338019731527c52e2645a8199da8919b4d4"), looks := false }, kinds := [], alts := [], laidByText := true, laidKinds := [.data], laidTests := true, laidLooks := .later }
def ReapFreesUptoCardSaid : Prop := Claim7.holds Tryz.pinned (.plain (OpenSpec.upto reapFreesSpec)) reapFreesUptoCard

/-- THE SECOND FORM's CARD OF 'ragpickerlaw09.ReapBack'. -/
def reapBackUptoCard : Claim7 := { stood := { row := reapBackUptoRow, standIns := [], harness := (true, "4ac453e865154946ab60f8a3e406d338019731527c52e2645a8199da8919b4d4"), looks := false }, kinds := [], alts := [], laidByText := true, laidKinds := [.data], laidTests := true, laidLooks := .later }
def ReapBackUptoCardSaid : Prop := Claim7.holds Tryz.pinned (.plain (OpenSpec.upto reapBackSpec)) reapBackUptoCard

/-- THE SECOND FORM's CARD OF 'ragpickerlaw09.ReapRoom'. -/
def reapRoomUptoCard : Claim7 := { stood := { row := reapRoomUptoRow, standIns := [], harness := (true, "4ac453e865154946ab60f8a3e406d338019731527c52e2645a8199da8919b4d4"), looks := false }, kinds := [], alts := [], laidByText := true, laidKinds := [.data], laidTests := true, laidLooks := .later }
def ReapRoomUptoCardSaid : Prop := Claim7.holds Tryz.pinned (.plain (OpenSpec.upto reapRoomSpec)) reapRoomUptoCard
end Rows
end Go.Proofs.YtcbnefjfoeanoaaGreatDoor
