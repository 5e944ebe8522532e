/-
  DERIVED. GIVEN WITH THE SEED: THE CARDS: each row of YtodpciodongajaaDoorRows.lean that lists a variable, with what it lists TIED to the program's text (the seventh form; the later family's looks); each row that meets fmt, with fmt's text TOLD by the authors' own Lean function (tested against real Go, not proved from fmt's source: count such statements apart). THE CARD IS WHAT COUNTS. Prove the row's statement (the work); the ties are given (YtodpciodongajaaDoorTie.lean); close each card by the builder's one call (the guide's Derived/Test/ToyasCard.lean, 'card_holds'). Laid BY PROGRAM, IN A SANDBOX (cutbox-door.mjs). By AI agents, Wed Nov 11 2026. No macro, syntax, notation, axiom, sorry.
-/
import Derived.Test.YtodpciodongajaaDoorRows
import GoSem.ClaimSeven
namespace Go.Proofs.YtodpciodongajaaDoor
namespace Rows

/-- THE TIED CARD OF 'ragpickerlaw07.HeapTells'. -/
def heapTellsCard : Claim7 := { stood := { row := heapTellsRow, standIns := [], harness := (true, "1ff21fb1046e6f6648a553383708c1e64c29f23b6c9c4e723e9314f321b28f8f"), looks := false }, kinds := [], alts := [], laidByText := true, laidKinds := [.data], laidTests := true, laidLooks := .later }
def HeapTellsCardSaid : Prop := Claim7.holds Tryd.pinned (.plain (OpenSpec.ofChange heapTellsSpec)) heapTellsCard

/-- THE TIED CARD OF 'ragpickerlaw07.HeapWords'. -/
def heapWordsCard : Claim7 := { stood := { row := heapWordsRow, standIns := [], harness := (true, "1ff21fb1046e6f6648a553383708c1e64c29f23b6c9c4e723e9314f321b28f8f"), looks := false }, kinds := [], alts := [], laidByText := true, laidKinds := [.data], laidTests := true, laidLooks := .later }
def HeapWordsCardSaid : Prop := Claim7.holds Tryd.pinned (.plain (OpenSpec.ofChange heapWordsSpec)) heapWordsCard

/-- THE TIED CARD OF 'ragpickerlaw07.HeapKeeps'. -/
def heapKeepsCard : Claim7 := { stood := { row := heapKeepsRow, standIns := [], harness := (true, "1ff21fb1046e6f6648a553383708c1e64c29f23b6c9c4e723e9314f321b28f8f"), looks := false }, kinds := [], alts := [], laidByText := true, laidKinds := [.data], laidTests := true, laidLooks := .later }
def HeapKeepsCardSaid : Prop := Claim7.holds Tryd.pinned (.plain (OpenSpec.ofChange heapKeepsSpec)) heapKeepsCard

/-- THE TIED CARD OF 'ragpickerlaw07.HeapNew'. -/
def heapNewCard : Claim7 := { stood := { row := heapNewRow, standIns := [], harness := (true, "1ff21fb1046e6f6648a553383708c1e64c29f23b6c9c4e723e9314f321b28f8f"), looks := false }, kinds := [], alts := [], laidByText := true, laidKinds := [.data], laidTests := true, laidLooks := .later }
def HeapNewCardSaid : Prop := Claim7.holds Tryd.pinned (.plain (OpenSpec.ofChange heapNewSpec)) heapNewCard

/-- THE TIED CARD OF 'ragpickerlaw07.HeapUsed'. -/
def heapUsedCard : Claim7 := { stood := { row := heapUsedRow, standIns := [], harness := (true, "1ff21fb1046e6f6648a553383708c1e64c29f23b6c9c4e723e9314f321b28f8f"), looks := false }, kinds := [], alts := [], laidByText := true, laidKinds := [.data], laidTests := true, laidLooks := .later }
def HeapUsedCardSaid : Prop := Claim7.holds Tryd.pinned (.plain (OpenSpec.ofChange heapUsedSpec)) heapUsedCard

/-- THE TIED CARD OF 'ragpickerlaw07.HeapLess'. -/
def heapLessCard : Claim7 := { stood := { row := heapLessRow, standIns := [], harness := (true, "1ff21fb1046e6f6648a553383708c1e64c29f23b6c9c4e723e9314f321b28f8f"), looks := false }, kinds := [], alts := [], laidByText := true, laidKinds := [.data], laidTests := true, laidLooks := .later }
def HeapLessCardSaid : Prop := Claim7.holds Tryd.pinned (.plain (OpenSpec.ofChange heapLessSpec)) heapLessCard

/-- THE SECOND FORM's CARD OF 'ragpickerlaw07.HeapTells'. -/
def heapTellsUptoCard : Claim7 := { stood := { row := heapTellsUptoRow, standIns := [], harness := (true, "1ff21fb1046e6f6648a553383708c1e64c29f23b6c9c4e723e9314f321b28f8f"), looks := false }, kinds := [], alts := [], laidByText := true, laidKinds := [.data], laidTests := true, laidLooks := .later }
def HeapTellsUptoCardSaid : Prop := Claim7.holds Tryd.pinned (.plain (OpenSpec.upto heapTellsSpec)) heapTellsUptoCard

/-- THE SECOND FORM's CARD OF 'ragpickerlaw07.HeapWords'. -/
def heapWordsUptoCard : Claim7 := { stood := { row := heapWordsUptoRow, standIns := [], harness := (true, "1ff21fb1046e6f6648a553383708c1e64c29f23b6c9c4e723e9314f321b28f8f"), looks := false }, kinds := [], alts := [], laidByText := true, laidKinds := [.data], laidTests := true, laidLooks := .later }
def HeapWordsUptoCardSaid : Prop := Claim7.holds Tryd.pinned (.plain (OpenSpec.upto heapWordsSpec)) heapWordsUptoCard

/-- THE SECOND FORM's CARD OF 'ragpickerlaw07.HeapKeeps'. -/
def heapKeepsUptoCard : Claim7 := { stood := { row := heapKeepsUptoRow, standIns := [], harness := (true, "1ff21fb1046e6f6648a553383708c1e64c29f23b6c9c4e723e9314f321b28f8f"), looks := false }, kinds := [], alts := [], laidByText := true, laidKinds := [.data], laidTests := true, laidLooks := .later }
def HeapKeepsUptoCardSaid : Prop := Claim7.holds Tryd.pinned (.plain (OpenSpec.upto heapKeepsSpec)) heapKeepsUptoCard

/-- THE SECOND FORM's CARD OF 'ragpickerlaw07.HeapNew'. -/
def heapNewUptoCard : Claim7 := { stood := { row := heapNewUptoRow, standIns := [], harness := (true, "1ff21fb1046e6f6648a553383708c1e64c29f23b6c9c4e723e9314f321b28f8f"), looks := false }, kinds := [], alts := [], laidByText := true, laidKinds := [.data], laidTests := true, laidLooks := .later }
def HeapNewUptoCardSaid : Prop := Claim7.holds Tryd.pinned (.plain (OpenSpec.upto heapNewSpec)) heapNewUptoCard

/-- THE SECOND FORM's CARD OF 'ragpickerlaw07.HeapUsed'. -/
def heapUsedUptoCard : Claim7 := { stood := { row := heapUsedUptoRow, standIns := [], harness := (true, "1ff21fb1046e6f6648a553383708c1e64c29f23b6c9c4e723e9314f321b28f8f"), looks := false }, kinds := [], alts := [], laidByText := true, laidKinds := [.data], laidTests := true, laidLooks := .later }
def HeapUsedUptoCardSaid : Prop := Claim7.holds Tryd.pinned (.plain (OpenSpec.upto heapUsedSpec)) heapUsedUptoCard

/-- THE SECOND FORM's CARD OF 'ragpickerlaw07.HeapLess'. -/
def heapLessUptoCard : Claim7 := { stood := { row := heapLessUptoRow, standIns := [], harness := (true, "1ff21fb1046e6f6648a553383708c1e64c29f23b6c9c4e723e9314f321b28f8f"), looks := false }, kinds := [], alts := [], laidByText := true, laidKinds := [.data], laidTests := true, laidLooks := .later }
def HeapLessUptoCardSaid : Prop := Claim7.holds Tryd.pinned (.plain (OpenSpec.upto heapLessSpec)) heapLessUptoCard
end Rows
end Go.Proofs.YtodpciodongajaaDoor
