/-
  DERIVED. GIVEN WITH THE SEED: THE CARDS: each row of YtmalopciboikhaaDoorRows.lean that lists a variable, with what it lists TIED to the program's text (the seventh form; the later family's looks); each row that meets fmt, with fmt's text TOLD by the authors' own Lean function (tested against real Go, not proved from fmt's source: count such statements apart). THE CARD IS WHAT COUNTS. Prove the row's statement (the work); the ties are given (YtmalopciboikhaaDoorTie.lean); close each card by the builder's one call (the guide's Derived/Test/ToyasCard.lean, 'card_holds'). Laid BY PROGRAM, IN A SANDBOX (cutbox-door.mjs). By AI agents, Wed Nov 11 2026. No macro, syntax, notation, axiom, sorry.
-/
import Derived.Test.YtmalopciboikhaaDoorRows
import GoSem.ClaimSeven
namespace Go.Proofs.YtmalopciboikhaaDoor
namespace Rows

/-- THE TIED CARD OF 'ragpickerlaw10.CardsKeep'. -/
def cardsKeepCard : Claim7 := { stood := { row := cardsKeepRow, standIns := [], harness := (true, "bdc9b21572135a01b8824cb19a6372f363b8911e89822dd0d045e90dca0b0422"), looks := false }, kinds := [], alts := [], laidByText := true, laidKinds := [.data], laidTests := true, laidLooks := .later }
def CardsKeepCardSaid : Prop := Claim7.holds Tryd.pinned (.plain (OpenSpec.ofChange cardsKeepSpec)) cardsKeepCard

/-- THE TIED CARD OF 'ragpickerlaw10.CardsAll'. -/
def cardsAllCard : Claim7 := { stood := { row := cardsAllRow, standIns := [], harness := (true, "bdc9b21572135a01b8824cb19a6372f363b8911e89822dd0d045e90dca0b0422"), looks := false }, kinds := [], alts := [], laidByText := true, laidKinds := [.data], laidTests := true, laidLooks := .later }
def CardsAllCardSaid : Prop := Claim7.holds Tryd.pinned (.plain (OpenSpec.ofChange cardsAllSpec)) cardsAllCard

/-- THE TIED CARD OF 'ragpickerlaw10.CardsTwice'. -/
def cardsTwiceCard : Claim7 := { stood := { row := cardsTwiceRow, standIns := [], harness := (true, "bdc9b21572135a01b8824cb19a6372f363b8911e89822dd0d045e90dca0b0422"), looks := false }, kinds := [], alts := [], laidByText := true, laidKinds := [.data], laidTests := true, laidLooks := .later }
def CardsTwiceCardSaid : Prop := Claim7.holds Tryd.pinned (.plain (OpenSpec.ofChange cardsTwiceSpec)) cardsTwiceCard

/-- THE TIED CARD OF 'ragpickerlaw10.CardsWords'. -/
def cardsWordsCard : Claim7 := { stood := { row := cardsWordsRow, standIns := [], harness := (true, "bdc9b21572135a01b8824cb19a6372f363b8911e89822dd0d045e90dca0b0422"), looks := false }, kinds := [], alts := [], laidByText := true, laidKinds := [.data], laidTests := true, laidLooks := .later }
def CardsWordsCardSaid : Prop := Claim7.holds Tryd.pinned (.plain (OpenSpec.ofChange cardsWordsSpec)) cardsWordsCard

/-- THE TIED CARD OF 'ragpickerlaw10.CardsNone'. -/
def cardsNoneCard : Claim7 := { stood := { row := cardsNoneRow, standIns := [], harness := (true, "bdc9b21572135a01b8824cb19a6372f363b8911e89822dd0d045e90dca0b0422"), looks := false }, kinds := [], alts := [], laidByText := true, laidKinds := [.data], laidTests := true, laidLooks := .later }
def CardsNoneCardSaid : Prop := Claim7.holds Tryd.pinned (.plain (OpenSpec.ofChange cardsNoneSpec)) cardsNoneCard

/-- THE SECOND FORM's CARD OF 'ragpickerlaw10.CardsKeep'. -/
def cardsKeepUptoCard : Claim7 := { stood := { row := cardsKeepUptoRow, standIns := [], harness := (true, "bdc9b21572135a01b8824cb19a6372f363b8911e89822dd0d045e90dca0b0422"), looks := false }, kinds := [], alts := [], laidByText := true, laidKinds := [.data], laidTests := true, laidLooks := .later }
def CardsKeepUptoCardSaid : Prop := Claim7.holds Tryd.pinned (.plain (OpenSpec.upto cardsKeepSpec)) cardsKeepUptoCard

/-- THE SECOND FORM's CARD OF 'ragpickerlaw10.CardsAll'. -/
def cardsAllUptoCard : Claim7 := { stood := { row := cardsAllUptoRow, standIns := [], harness := (true, "bdc9b21572135a01b8824cb19a6372f363b8911e89822dd0d045e90dca0b0422"), looks := false }, kinds := [], alts := [], laidByText := true, laidKinds := [.data], laidTests := true, laidLooks := .later }
def CardsAllUptoCardSaid : Prop := Claim7.holds Tryd.pinned (.plain (OpenSpec.upto cardsAllSpec)) cardsAllUptoCard

/-- THE SECOND FORM's CARD OF 'ragpickerlaw10.CardsTwice'. -/
def cardsTwiceUptoCard : Claim7 := { stood := { row := cardsTwiceUptoRow, standIns := [], harness := (true, "bdc9b21572135a01b8824cb19a6372f363b8911e89822dd0d045e90dca0b0422"), looks := false }, kinds := [], alts := [], laidByText := true, laidKinds := [.data], laidTests := true, laidLooks := .later }
def CardsTwiceUptoCardSaid : Prop := Claim7.holds Tryd.pinned (.plain (OpenSpec.upto cardsTwiceSpec)) cardsTwiceUptoCard

/-- THE SECOND FORM's CARD OF 'ragpickerlaw10.CardsWords'. -/
def cardsWordsUptoCard : Claim7 := { stood := { row := cardsWordsUptoRow, standIns := [], harness := (true, "bdc9b21572135a01b8824cb19a6372f363b8911e89822dd0d045e90dca0b0422"), looks := false }, kinds := [], alts := [], laidByText := true, laidKinds := [.data], laidTests := true, laidLooks := .later }
def CardsWordsUptoCardSaid : Prop := Claim7.holds Tryd.pinned (.plain (OpenSpec.upto cardsWordsSpec)) cardsWordsUptoCard

/-- THE SECOND FORM's CARD OF 'ragpickerlaw10.CardsNone'. -/
def cardsNoneUptoCard : Claim7 := { stood := { row := cardsNoneUptoRow, standIns := [], harness := (true, "bdc9b21572135a01b8824cb19a6372f363b8911e89822dd0d045e90dca0b0422"), looks := false }, kinds := [], alts := [], laidByText := true, laidKinds := [.data], laidTests := true, laidLooks := .later }
def CardsNoneUptoCardSaid : Prop := Claim7.holds Tryd.pinned (.plain (OpenSpec.upto cardsNoneSpec)) cardsNoneUptoCard
end Rows
end Go.Proofs.YtmalopciboikhaaDoor
