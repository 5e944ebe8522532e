/-
  NARROWER THAN 'FOR EVERY INPUT', by the rows' own cells (each row's printed sentence says how): CardsKeep: laid · CardsAll: laid · CardsTwice: laid · CardsWords: laid · CardsNone: laid.
  DERIVED. THE GIVEN ROWS OF THIS SEAT. 5 by the template 'for every input the law returns true; each argument reads behind the call as it read before'; 0 by the template 'total and deterministic' (their statements: YtmalopciboikhaaDoorTotals.lean).
  GIVEN WITH THE SEED: the statements are not yours to turn. If you find one false, say at which input.
  Laid BY PROGRAM, IN A SANDBOX (cutbox-rows.mjs): the forced cells as the released guide's own fill.sh prints them over the translation ad9a3114efe7e315… (all of the seat's roots in one cut). By AI agents, Wed Nov 11 2026. No macro, syntax, notation, axiom, sorry.
-/
import Derived.Test.YtmalopciboikhaaDoorChecked
import GoSem.Claim
import GoSem.ClaimJoined
import GoSem.ClaimMapViews
import Derived.JoinedTies
import Derived.KernelRfl
namespace Go.Proofs.YtmalopciboikhaaDoor
/- THE CELL 'sum', in the pinned program and in every row, IS THE sha256 OF THE DUMP (.gsa) THAT YtmalopciboikhaaDoorProg.lean LOADS. Nothing in Lean hashes anything: it is a label: what it is worth is what the hold of that sum in a sandbox is worth. -/
noncomputable def Tryd.pinned : Pinned := { name := "ytmalopciboikhaadoor", sum := "ad9a3114efe7e315a0d31c3a9655e036e6e44219088d92d48b1ce36df1a22189", checked := Tryd.checked }
namespace Rows
def none {H : Type} : Left H := { results := [], args := [] }

/- WHAT THE LISTED PACKAGE-LEVEL VARIABLES READ AS WHEN THE CALL BEGINS. Each datum BY PROGRAM (the guide's laid-datum.mjs) off the statement by which the dump's own 'gosem.cut.vars' lays the variable. In a bare row this is a premise. The card (YtmalopciboikhaaDoorCards.lean) ties it to the program's text. -/
def laid_ragpicker_class_sizes {H : Type} : DataW H := .agg [.lit (.int .i64 2), .lit (.int .i64 4), .lit (.int .i64 8)]

/-- 'ragpickerlaw10.CardsKeep': WHATEVER THE INPUT: true; the input reads as it did. -/
def cardsKeepSpec : ChangeSpec := { name := "cardsKeep", fn := fun _ => fun
  | [d1, d2] => { results := [.lit (.bool true)], args := [d1, d2] }
  | _ => none }
def cardsKeepRow : OpenClaim := { program := "ytmalopciboikhaadoor", sum := "ad9a3114efe7e315a0d31c3a9655e036e6e44219088d92d48b1ce36df1a22189", func := "ragpicker/ragpickerlaw10.CardsKeep", spec := "cardsKeep", unfollowed := true, recurses := true, named := ["ragpicker/class.sizes"], apart := false, laid := [("ragpicker/class.sizes", laid_ragpicker_class_sizes)] }
def CardsKeepSaid : Prop := cardsKeepRow.holds Tryd.pinned (OpenSpec.ofChange cardsKeepSpec)

/-- ITS FALSE NEIGHBOUR: 'it returns false'. Refute it at one input. -/
def cardsKeepWrong : ChangeSpec := { name := "cardsKeep", fn := fun _ => fun
  | [d1, d2] => { results := [.lit (.bool false)], args := [d1, d2] }
  | _ => none }
def CardsKeepWrongFalsely : Prop := cardsKeepRow.holds Tryd.pinned (OpenSpec.ofChange cardsKeepWrong)

/-- 'ragpickerlaw10.CardsAll': WHATEVER THE INPUT: true; the input reads as it did. -/
def cardsAllSpec : ChangeSpec := { name := "cardsAll", fn := fun _ => fun
  | [d1, d2] => { results := [.lit (.bool true)], args := [d1, d2] }
  | _ => none }
def cardsAllRow : OpenClaim := { program := "ytmalopciboikhaadoor", sum := "ad9a3114efe7e315a0d31c3a9655e036e6e44219088d92d48b1ce36df1a22189", func := "ragpicker/ragpickerlaw10.CardsAll", spec := "cardsAll", unfollowed := true, recurses := true, named := ["ragpicker/class.sizes"], apart := false, laid := [("ragpicker/class.sizes", laid_ragpicker_class_sizes)] }
def CardsAllSaid : Prop := cardsAllRow.holds Tryd.pinned (OpenSpec.ofChange cardsAllSpec)

/-- ITS FALSE NEIGHBOUR: 'it returns false'. Refute it at one input. -/
def cardsAllWrong : ChangeSpec := { name := "cardsAll", fn := fun _ => fun
  | [d1, d2] => { results := [.lit (.bool false)], args := [d1, d2] }
  | _ => none }
def CardsAllWrongFalsely : Prop := cardsAllRow.holds Tryd.pinned (OpenSpec.ofChange cardsAllWrong)

/-- 'ragpickerlaw10.CardsTwice': WHATEVER THE INPUT: true; the input reads as it did. -/
def cardsTwiceSpec : ChangeSpec := { name := "cardsTwice", fn := fun _ => fun
  | [d1, d2, d3] => { results := [.lit (.bool true)], args := [d1, d2, d3] }
  | _ => none }
def cardsTwiceRow : OpenClaim := { program := "ytmalopciboikhaadoor", sum := "ad9a3114efe7e315a0d31c3a9655e036e6e44219088d92d48b1ce36df1a22189", func := "ragpicker/ragpickerlaw10.CardsTwice", spec := "cardsTwice", unfollowed := true, recurses := true, named := ["ragpicker/class.sizes"], apart := false, laid := [("ragpicker/class.sizes", laid_ragpicker_class_sizes)] }
def CardsTwiceSaid : Prop := cardsTwiceRow.holds Tryd.pinned (OpenSpec.ofChange cardsTwiceSpec)

/-- ITS FALSE NEIGHBOUR: 'it returns false'. Refute it at one input. -/
def cardsTwiceWrong : ChangeSpec := { name := "cardsTwice", fn := fun _ => fun
  | [d1, d2, d3] => { results := [.lit (.bool false)], args := [d1, d2, d3] }
  | _ => none }
def CardsTwiceWrongFalsely : Prop := cardsTwiceRow.holds Tryd.pinned (OpenSpec.ofChange cardsTwiceWrong)

/-- 'ragpickerlaw10.CardsWords': WHATEVER THE INPUT: true; the input reads as it did. -/
def cardsWordsSpec : ChangeSpec := { name := "cardsWords", fn := fun _ => fun
  | [d1, d2, d3, d4] => { results := [.lit (.bool true)], args := [d1, d2, d3, d4] }
  | _ => none }
def cardsWordsRow : OpenClaim := { program := "ytmalopciboikhaadoor", sum := "ad9a3114efe7e315a0d31c3a9655e036e6e44219088d92d48b1ce36df1a22189", func := "ragpicker/ragpickerlaw10.CardsWords", spec := "cardsWords", unfollowed := true, recurses := true, named := ["ragpicker/class.sizes"], apart := false, laid := [("ragpicker/class.sizes", laid_ragpicker_class_sizes)] }
def CardsWordsSaid : Prop := cardsWordsRow.holds Tryd.pinned (OpenSpec.ofChange cardsWordsSpec)

/-- ITS FALSE NEIGHBOUR: 'it returns false'. Refute it at one input. -/
def cardsWordsWrong : ChangeSpec := { name := "cardsWords", fn := fun _ => fun
  | [d1, d2, d3, d4] => { results := [.lit (.bool false)], args := [d1, d2, d3, d4] }
  | _ => none }
def CardsWordsWrongFalsely : Prop := cardsWordsRow.holds Tryd.pinned (OpenSpec.ofChange cardsWordsWrong)

/-- 'ragpickerlaw10.CardsNone': WHATEVER THE INPUT: true; the input reads as it did. -/
def cardsNoneSpec : ChangeSpec := { name := "cardsNone", fn := fun _ => fun
  | [d1, d2, d3] => { results := [.lit (.bool true)], args := [d1, d2, d3] }
  | _ => none }
def cardsNoneRow : OpenClaim := { program := "ytmalopciboikhaadoor", sum := "ad9a3114efe7e315a0d31c3a9655e036e6e44219088d92d48b1ce36df1a22189", func := "ragpicker/ragpickerlaw10.CardsNone", spec := "cardsNone", unfollowed := true, recurses := true, named := ["ragpicker/class.sizes"], apart := false, laid := [("ragpicker/class.sizes", laid_ragpicker_class_sizes)] }
def CardsNoneSaid : Prop := cardsNoneRow.holds Tryd.pinned (OpenSpec.ofChange cardsNoneSpec)

/-- ITS FALSE NEIGHBOUR: 'it returns false'. Refute it at one input. -/
def cardsNoneWrong : ChangeSpec := { name := "cardsNone", fn := fun _ => fun
  | [d1, d2, d3] => { results := [.lit (.bool false)], args := [d1, d2, d3] }
  | _ => none }
def CardsNoneWrongFalsely : Prop := cardsNoneRow.holds Tryd.pinned (OpenSpec.ofChange cardsNoneWrong)

/- THE SECOND FORM. 'bulk': how many values and letters a reading holds, each counted each time it is reached (what is shared counts as often as it is met; a slice's spare places count too). A statement '..UptoSaid' is the law's where the arguments, and the package variables that the reading takes, are together of bulk at most 1048576: NARROWER than '..Said'. Prove '..Said' where nothing that the law and all that it calls make is longer than what came in: it says more and counts as full. Else prove '..UptoSaid'. A law counts once. -/
mutual
def uptoBulk {H : Type} : DataW H → Nat
  | .lit (.string bytes) => bytes.length + 1
  | .lit _ => 1
  | .nil => 1
  | .ptr d => uptoBulk d + 1
  | .slice elems spare => uptoBulkAll elems + uptoBulkAll spare + 1
  | .agg parts => uptoBulkAll parts + 1
  | .iface _ d => uptoBulk d + 1
  | .map entries => uptoBulkEntries entries + 1
  | .held _ => 1
def uptoBulkAll {H : Type} : List (DataW H) → Nat
  | [] => 0
  | d :: r => uptoBulk d + uptoBulkAll r
def uptoBulkEntries {H : Type} : List (Lit × DataW H) → Nat
  | [] => 0
  | x :: r => uptoBulkEntry x + uptoBulkEntries r
def uptoBulkEntry {H : Type} : Lit × DataW H → Nat
  | (.string bytes, d) => bytes.length + uptoBulk d + 1
  | (_, d) => uptoBulk d + 1
 end
def uptoSmall : (H : Type) → List (DataW H) → Bool := fun _ ds => decide (uptoBulkAll ds ≤ 1048576)
def OpenSpec.upto (s : _root_.Go.ChangeSpec) : _root_.Go.OpenSpec := { _root_.Go.OpenSpec.ofChange s with cond := some uptoSmall }

/-- 'ragpickerlaw10.CardsKeep', WHERE WHAT IT READS IS OF BULK AT MOST 1048576: true; the input reads as it did. -/
def cardsKeepUptoRow : OpenClaim := { program := "ytmalopciboikhaadoor", sum := "ad9a3114efe7e315a0d31c3a9655e036e6e44219088d92d48b1ce36df1a22189", func := "ragpicker/ragpickerlaw10.CardsKeep", spec := "cardsKeep", unfollowed := true, recurses := true, named := ["ragpicker/class.sizes"], apart := false, laid := [("ragpicker/class.sizes", laid_ragpicker_class_sizes)], narrowed := true }
def CardsKeepUptoSaid : Prop := cardsKeepUptoRow.holds Tryd.pinned (OpenSpec.upto cardsKeepSpec)

/-- 'ragpickerlaw10.CardsAll', WHERE WHAT IT READS IS OF BULK AT MOST 1048576: true; the input reads as it did. -/
def cardsAllUptoRow : OpenClaim := { program := "ytmalopciboikhaadoor", sum := "ad9a3114efe7e315a0d31c3a9655e036e6e44219088d92d48b1ce36df1a22189", func := "ragpicker/ragpickerlaw10.CardsAll", spec := "cardsAll", unfollowed := true, recurses := true, named := ["ragpicker/class.sizes"], apart := false, laid := [("ragpicker/class.sizes", laid_ragpicker_class_sizes)], narrowed := true }
def CardsAllUptoSaid : Prop := cardsAllUptoRow.holds Tryd.pinned (OpenSpec.upto cardsAllSpec)

/-- 'ragpickerlaw10.CardsTwice', WHERE WHAT IT READS IS OF BULK AT MOST 1048576: true; the input reads as it did. -/
def cardsTwiceUptoRow : OpenClaim := { program := "ytmalopciboikhaadoor", sum := "ad9a3114efe7e315a0d31c3a9655e036e6e44219088d92d48b1ce36df1a22189", func := "ragpicker/ragpickerlaw10.CardsTwice", spec := "cardsTwice", unfollowed := true, recurses := true, named := ["ragpicker/class.sizes"], apart := false, laid := [("ragpicker/class.sizes", laid_ragpicker_class_sizes)], narrowed := true }
def CardsTwiceUptoSaid : Prop := cardsTwiceUptoRow.holds Tryd.pinned (OpenSpec.upto cardsTwiceSpec)

/-- 'ragpickerlaw10.CardsWords', WHERE WHAT IT READS IS OF BULK AT MOST 1048576: true; the input reads as it did. -/
def cardsWordsUptoRow : OpenClaim := { program := "ytmalopciboikhaadoor", sum := "ad9a3114efe7e315a0d31c3a9655e036e6e44219088d92d48b1ce36df1a22189", func := "ragpicker/ragpickerlaw10.CardsWords", spec := "cardsWords", unfollowed := true, recurses := true, named := ["ragpicker/class.sizes"], apart := false, laid := [("ragpicker/class.sizes", laid_ragpicker_class_sizes)], narrowed := true }
def CardsWordsUptoSaid : Prop := cardsWordsUptoRow.holds Tryd.pinned (OpenSpec.upto cardsWordsSpec)

/-- 'ragpickerlaw10.CardsNone', WHERE WHAT IT READS IS OF BULK AT MOST 1048576: true; the input reads as it did. -/
def cardsNoneUptoRow : OpenClaim := { program := "ytmalopciboikhaadoor", sum := "ad9a3114efe7e315a0d31c3a9655e036e6e44219088d92d48b1ce36df1a22189", func := "ragpicker/ragpickerlaw10.CardsNone", spec := "cardsNone", unfollowed := true, recurses := true, named := ["ragpicker/class.sizes"], apart := false, laid := [("ragpicker/class.sizes", laid_ragpicker_class_sizes)], narrowed := true }
def CardsNoneUptoSaid : Prop := cardsNoneUptoRow.holds Tryd.pinned (OpenSpec.upto cardsNoneSpec)

end Rows
end Go.Proofs.YtmalopciboikhaaDoor
