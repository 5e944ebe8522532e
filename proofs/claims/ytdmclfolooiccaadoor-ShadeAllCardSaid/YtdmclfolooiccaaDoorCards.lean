/-
  DERIVED. GIVEN WITH THE SEED: THE CARDS: each row of YtdmclfolooiccaaDoorRows.lean that lists a variable, with what it lists TIED to the program's text (the seventh form; the later family's looks); each row that meets fmt, with fmt's text TOLD by the authors' own Lean function (tested against real Go, not proved from fmt's source: count such statements apart). THE CARD IS WHAT COUNTS. Prove the row's statement (the work); the ties are given (YtdmclfolooiccaaDoorTie.lean); close each card by the builder's one call (the guide's Derived/Test/ToyasCard.lean, 'card_holds'). Laid BY PROGRAM, IN A SANDBOX (cutbox-door.mjs). By AI agents, Wed Nov 11 2026. No macro, syntax, notation, axiom, sorry.
-/
import Derived.Test.YtdmclfolooiccaaDoorRows
import GoSem.ClaimSeven
namespace Go.Proofs.YtdmclfolooiccaaDoor
namespace Rows

/-- THE TIED CARD OF 'ragpickerlaw11.ShadeKeeps'. -/
def shadeKeepsCard : Claim7 := { stood := { row := shadeKeepsRow, standIns := [], harness := (true, "7d7f4ae73dc69bd4d5d02aa91be8c4c7cfd4ee26f427ad1589bf0789ea3f6cd5"), looks := false }, kinds := [], alts := [], laidByText := true, laidKinds := [.data], laidTests := true, laidLooks := .later }
def ShadeKeepsCardSaid : Prop := Claim7.holds Tryd.pinned (.plain (OpenSpec.ofChange shadeKeepsSpec)) shadeKeepsCard

/-- THE TIED CARD OF 'ragpickerlaw11.ShadeAll'. -/
def shadeAllCard : Claim7 := { stood := { row := shadeAllRow, standIns := [], harness := (true, "7d7f4ae73dc69bd4d5d02aa91be8c4c7cfd4ee26f427ad1589bf0789ea3f6cd5"), looks := false }, kinds := [], alts := [], laidByText := true, laidKinds := [.data], laidTests := true, laidLooks := .later }
def ShadeAllCardSaid : Prop := Claim7.holds Tryd.pinned (.plain (OpenSpec.ofChange shadeAllSpec)) shadeAllCard

/-- THE TIED CARD OF 'ragpickerlaw11.ShadeEpoch'. -/
def shadeEpochCard : Claim7 := { stood := { row := shadeEpochRow, standIns := [], harness := (true, "7d7f4ae73dc69bd4d5d02aa91be8c4c7cfd4ee26f427ad1589bf0789ea3f6cd5"), looks := false }, kinds := [], alts := [], laidByText := true, laidKinds := [.data], laidTests := true, laidLooks := .later }
def ShadeEpochCardSaid : Prop := Claim7.holds Tryd.pinned (.plain (OpenSpec.ofChange shadeEpochSpec)) shadeEpochCard

/-- THE TIED CARD OF 'ragpickerlaw11.ShadeNone'. -/
def shadeNoneCard : Claim7 := { stood := { row := shadeNoneRow, standIns := [], harness := (true, "7d7f4ae73dc69bd4d5d02aa91be8c4c7cfd4ee26f427ad1589bf0789ea3f6cd5"), looks := false }, kinds := [], alts := [], laidByText := true, laidKinds := [.data], laidTests := true, laidLooks := .later }
def ShadeNoneCardSaid : Prop := Claim7.holds Tryd.pinned (.plain (OpenSpec.ofChange shadeNoneSpec)) shadeNoneCard

/-- THE SECOND FORM's CARD OF 'ragpickerlaw11.ShadeKeeps'. -/
def shadeKeepsUptoCard : Claim7 := { stood := { row := shadeKeepsUptoRow, standIns := [], harness := (true, "7d7f4ae73dc69bd4d5d02aa91be8c4c7cfd4ee26f427ad1589bf0789ea3f6cd5"), looks := false }, kinds := [], alts := [], laidByText := true, laidKinds := [.data], laidTests := true, laidLooks := .later }
def ShadeKeepsUptoCardSaid : Prop := Claim7.holds Tryd.pinned (.plain (OpenSpec.upto shadeKeepsSpec)) shadeKeepsUptoCard

/-- THE SECOND FORM's CARD OF 'ragpickerlaw11.ShadeAll'. -/
def shadeAllUptoCard : Claim7 := { stood := { row := shadeAllUptoRow, standIns := [], harness := (true, "7d7f4ae73dc69bd4d5d02aa91be8c4c7cfd4ee26f427ad1589bf0789ea3f6cd5"), looks := false }, kinds := [], alts := [], laidByText := true, laidKinds := [.data], laidTests := true, laidLooks := .later }
def ShadeAllUptoCardSaid : Prop := Claim7.holds Tryd.pinned (.plain (OpenSpec.upto shadeAllSpec)) shadeAllUptoCard

/-- THE SECOND FORM's CARD OF 'ragpickerlaw11.ShadeEpoch'. -/
def shadeEpochUptoCard : Claim7 := { stood := { row := shadeEpochUptoRow, standIns := [], harness := (true, "7d7f4ae73dc69bd4d5d02aa91be8c4c7cfd4ee26f427ad1589bf0789ea3f6cd5"), looks := false }, kinds := [], alts := [], laidByText := true, laidKinds := [.data], laidTests := true, laidLooks := .later }
def ShadeEpochUptoCardSaid : Prop := Claim7.holds Tryd.pinned (.plain (OpenSpec.upto shadeEpochSpec)) shadeEpochUptoCard

/-- THE SECOND FORM's CARD OF 'ragpickerlaw11.ShadeNone'. -/
def shadeNoneUptoCard : Claim7 := { stood := { row := shadeNoneUptoRow, standIns := [], harness := (true, "7d7f4ae73dc69bd4d5d02aa91be8c4c7cfd4ee26f427ad1589bf0789ea3f6cd5"), looks := false }, kinds := [], alts := [], laidByText := true, laidKinds := [.data], laidTests := true, laidLooks := .later }
def ShadeNoneUptoCardSaid : Prop := Claim7.holds Tryd.pinned (.plain (OpenSpec.upto shadeNoneSpec)) shadeNoneUptoCard
end Rows
end Go.Proofs.YtdmclfolooiccaaDoor
