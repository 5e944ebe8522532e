/-
  NARROWER THAN 'FOR EVERY INPUT', by the rows' own cells (each row's printed sentence says how): HeapTells: laid · HeapWords: laid · HeapKeeps: laid · HeapNew: laid · HeapUsed: laid · HeapLess: laid.
  DERIVED. THE GIVEN ROWS OF THIS SEAT. 6 by the template 'for every input the law returns true; each argument reads behind the call as it read before'; 0 by the template 'total and deterministic' (their statements: YtodpciodongajaaDoorTotals.lean).
  GIVEN WITH THE SEED: the statements are not yours to turn. If you find one false, say at which input.
  Laid BY PROGRAM, IN A SANDBOX (cutbox-rows.mjs): the forced cells as the released guide's own fill.sh prints them over the translation e274184f9d46bd49… (all of the seat's roots in one cut). By AI agents, Wed Nov 11 2026. No macro, syntax, notation, axiom, sorry.
-/
import Derived.Test.YtodpciodongajaaDoorChecked
import GoSem.Claim
import GoSem.ClaimJoined
import GoSem.ClaimMapViews
import Derived.JoinedTies
import Derived.KernelRfl
namespace Go.Proofs.YtodpciodongajaaDoor
/- THE CELL 'sum', in the pinned program and in every row, IS THE sha256 OF THE DUMP (.gsa) THAT YtodpciodongajaaDoorProg.lean LOADS. Nothing in Lean hashes anything: it is a label: what it is worth is what the hold of that sum in a sandbox is worth. -/
noncomputable def Tryd.pinned : Pinned := { name := "ytodpciodongajaadoor", sum := "e274184f9d46bd49385c93d09a8cc6ac2c5d474183de5e0f6c6e30cece6835a8", checked := Tryd.checked }
namespace Rows
def none {H : Type} : Left H := { results := [], args := [] }

/- WHAT THE LISTED PACKAGE-LEVEL VARIABLES READ AS WHEN THE CALL BEGINS. Each datum BY PROGRAM (the guide's laid-datum.mjs) off the statement by which the dump's own 'gosem.cut.vars' lays the variable. In a bare row this is a premise. The card (YtodpciodongajaaDoorCards.lean) ties it to the program's text. -/
def laid_ragpicker_class_sizes {H : Type} : DataW H := .agg [.lit (.int .i64 2), .lit (.int .i64 4), .lit (.int .i64 8)]

/-- 'ragpickerlaw07.HeapTells': WHATEVER THE INPUT: true; the input reads as it did. -/
def heapTellsSpec : ChangeSpec := { name := "heapTells", fn := fun _ => fun
  | [d1, d2, d3] => { results := [.lit (.bool true)], args := [d1, d2, d3] }
  | _ => none }
def heapTellsRow : OpenClaim := { program := "ytodpciodongajaadoor", sum := "e274184f9d46bd49385c93d09a8cc6ac2c5d474183de5e0f6c6e30cece6835a8", func := "ragpicker/ragpickerlaw07.HeapTells", spec := "heapTells", unfollowed := true, recurses := true, named := ["ragpicker/class.sizes"], apart := false, laid := [("ragpicker/class.sizes", laid_ragpicker_class_sizes)] }
def HeapTellsSaid : Prop := heapTellsRow.holds Tryd.pinned (OpenSpec.ofChange heapTellsSpec)

/-- ITS FALSE NEIGHBOUR: 'it returns false'. Refute it at one input. -/
def heapTellsWrong : ChangeSpec := { name := "heapTells", fn := fun _ => fun
  | [d1, d2, d3] => { results := [.lit (.bool false)], args := [d1, d2, d3] }
  | _ => none }
def HeapTellsWrongFalsely : Prop := heapTellsRow.holds Tryd.pinned (OpenSpec.ofChange heapTellsWrong)

/-- 'ragpickerlaw07.HeapWords': WHATEVER THE INPUT: true; the input reads as it did. -/
def heapWordsSpec : ChangeSpec := { name := "heapWords", fn := fun _ => fun
  | [d1, d2] => { results := [.lit (.bool true)], args := [d1, d2] }
  | _ => none }
def heapWordsRow : OpenClaim := { program := "ytodpciodongajaadoor", sum := "e274184f9d46bd49385c93d09a8cc6ac2c5d474183de5e0f6c6e30cece6835a8", func := "ragpicker/ragpickerlaw07.HeapWords", spec := "heapWords", unfollowed := true, recurses := true, named := ["ragpicker/class.sizes"], apart := false, laid := [("ragpicker/class.sizes", laid_ragpicker_class_sizes)] }
def HeapWordsSaid : Prop := heapWordsRow.holds Tryd.pinned (OpenSpec.ofChange heapWordsSpec)

/-- ITS FALSE NEIGHBOUR: 'it returns false'. Refute it at one input. -/
def heapWordsWrong : ChangeSpec := { name := "heapWords", fn := fun _ => fun
  | [d1, d2] => { results := [.lit (.bool false)], args := [d1, d2] }
  | _ => none }
def HeapWordsWrongFalsely : Prop := heapWordsRow.holds Tryd.pinned (OpenSpec.ofChange heapWordsWrong)

/-- 'ragpickerlaw07.HeapKeeps': WHATEVER THE INPUT: true; the input reads as it did. -/
def heapKeepsSpec : ChangeSpec := { name := "heapKeeps", fn := fun _ => fun
  | [d1, d2, d3] => { results := [.lit (.bool true)], args := [d1, d2, d3] }
  | _ => none }
def heapKeepsRow : OpenClaim := { program := "ytodpciodongajaadoor", sum := "e274184f9d46bd49385c93d09a8cc6ac2c5d474183de5e0f6c6e30cece6835a8", func := "ragpicker/ragpickerlaw07.HeapKeeps", spec := "heapKeeps", unfollowed := true, recurses := true, named := ["ragpicker/class.sizes"], apart := false, laid := [("ragpicker/class.sizes", laid_ragpicker_class_sizes)] }
def HeapKeepsSaid : Prop := heapKeepsRow.holds Tryd.pinned (OpenSpec.ofChange heapKeepsSpec)

/-- ITS FALSE NEIGHBOUR: 'it returns false'. Refute it at one input. -/
def heapKeepsWrong : ChangeSpec := { name := "heapKeeps", fn := fun _ => fun
  | [d1, d2, d3] => { results := [.lit (.bool false)], args := [d1, d2, d3] }
  | _ => none }
def HeapKeepsWrongFalsely : Prop := heapKeepsRow.holds Tryd.pinned (OpenSpec.ofChange heapKeepsWrong)

/-- 'ragpickerlaw07.HeapNew': WHATEVER THE INPUT: true; the input reads as it did. -/
def heapNewSpec : ChangeSpec := { name := "heapNew", fn := fun _ => fun
  | [d] => { results := [.lit (.bool true)], args := [d] }
  | _ => none }
def heapNewRow : OpenClaim := { program := "ytodpciodongajaadoor", sum := "e274184f9d46bd49385c93d09a8cc6ac2c5d474183de5e0f6c6e30cece6835a8", func := "ragpicker/ragpickerlaw07.HeapNew", spec := "heapNew", unfollowed := true, recurses := true, named := ["ragpicker/class.sizes"], apart := false, laid := [("ragpicker/class.sizes", laid_ragpicker_class_sizes)] }
def HeapNewSaid : Prop := heapNewRow.holds Tryd.pinned (OpenSpec.ofChange heapNewSpec)

/-- ITS FALSE NEIGHBOUR: 'it returns false'. Refute it at one input. -/
def heapNewWrong : ChangeSpec := { name := "heapNew", fn := fun _ => fun
  | [d] => { results := [.lit (.bool false)], args := [d] }
  | _ => none }
def HeapNewWrongFalsely : Prop := heapNewRow.holds Tryd.pinned (OpenSpec.ofChange heapNewWrong)

/-- 'ragpickerlaw07.HeapUsed': WHATEVER THE INPUT: true; the input reads as it did. -/
def heapUsedSpec : ChangeSpec := { name := "heapUsed", fn := fun _ => fun
  | [d] => { results := [.lit (.bool true)], args := [d] }
  | _ => none }
def heapUsedRow : OpenClaim := { program := "ytodpciodongajaadoor", sum := "e274184f9d46bd49385c93d09a8cc6ac2c5d474183de5e0f6c6e30cece6835a8", func := "ragpicker/ragpickerlaw07.HeapUsed", spec := "heapUsed", unfollowed := true, recurses := true, named := ["ragpicker/class.sizes"], apart := false, laid := [("ragpicker/class.sizes", laid_ragpicker_class_sizes)] }
def HeapUsedSaid : Prop := heapUsedRow.holds Tryd.pinned (OpenSpec.ofChange heapUsedSpec)

/-- ITS FALSE NEIGHBOUR: 'it returns false'. Refute it at one input. -/
def heapUsedWrong : ChangeSpec := { name := "heapUsed", fn := fun _ => fun
  | [d] => { results := [.lit (.bool false)], args := [d] }
  | _ => none }
def HeapUsedWrongFalsely : Prop := heapUsedRow.holds Tryd.pinned (OpenSpec.ofChange heapUsedWrong)

/-- 'ragpickerlaw07.HeapLess': WHATEVER THE INPUT: true; the input reads as it did. -/
def heapLessSpec : ChangeSpec := { name := "heapLess", fn := fun _ => fun
  | [d1, d2] => { results := [.lit (.bool true)], args := [d1, d2] }
  | _ => none }
def heapLessRow : OpenClaim := { program := "ytodpciodongajaadoor", sum := "e274184f9d46bd49385c93d09a8cc6ac2c5d474183de5e0f6c6e30cece6835a8", func := "ragpicker/ragpickerlaw07.HeapLess", spec := "heapLess", unfollowed := true, recurses := true, named := ["ragpicker/class.sizes"], apart := false, laid := [("ragpicker/class.sizes", laid_ragpicker_class_sizes)] }
def HeapLessSaid : Prop := heapLessRow.holds Tryd.pinned (OpenSpec.ofChange heapLessSpec)

/-- ITS FALSE NEIGHBOUR: 'it returns false'. Refute it at one input. -/
def heapLessWrong : ChangeSpec := { name := "heapLess", fn := fun _ => fun
  | [d1, d2] => { results := [.lit (.bool false)], args := [d1, d2] }
  | _ => none }
def HeapLessWrongFalsely : Prop := heapLessRow.holds Tryd.pinned (OpenSpec.ofChange heapLessWrong)

/- THE SECOND FORM. 'bulk': how many values and letters a reading holds, each counted each time it is reached (what is shared counts as often as it is met; a slice's spare places count too). A statement '..UptoSaid' is the law's where the arguments, and the package variables that the reading takes, are together of bulk at most 1048576: NARROWER than '..Said'. Prove '..Said' where nothing that the law and all that it calls make is longer than what came in: it says more and counts as full. Else prove '..UptoSaid'. A law counts once. -/
mutual
def uptoBulk {H : Type} : DataW H → Nat
  | .lit (.string bytes) => bytes.length + 1
  | .lit _ => 1
  | .nil => 1
  | .ptr d => uptoBulk d + 1
  | .slice elems spare => uptoBulkAll elems + uptoBulkAll spare + 1
  | .agg parts => uptoBulkAll parts + 1
  | .iface _ d => uptoBulk d + 1
  | .map entries => uptoBulkEntries entries + 1
  | .held _ => 1
def uptoBulkAll {H : Type} : List (DataW H) → Nat
  | [] => 0
  | d :: r => uptoBulk d + uptoBulkAll r
def uptoBulkEntries {H : Type} : List (Lit × DataW H) → Nat
  | [] => 0
  | x :: r => uptoBulkEntry x + uptoBulkEntries r
def uptoBulkEntry {H : Type} : Lit × DataW H → Nat
  | (.string bytes, d) => bytes.length + uptoBulk d + 1
  | (_, d) => uptoBulk d + 1
 end
def uptoSmall : (H : Type) → List (DataW H) → Bool := fun _ ds => decide (uptoBulkAll ds ≤ 1048576)
def OpenSpec.upto (s : _root_.Go.ChangeSpec) : _root_.Go.OpenSpec := { _root_.Go.OpenSpec.ofChange s with cond := some uptoSmall }

/-- 'ragpickerlaw07.HeapTells', WHERE WHAT IT READS IS OF BULK AT MOST 1048576: true; the input reads as it did. -/
def heapTellsUptoRow : OpenClaim := { program := "ytodpciodongajaadoor", sum := "e274184f9d46bd49385c93d09a8cc6ac2c5d474183de5e0f6c6e30cece6835a8", func := "ragpicker/ragpickerlaw07.HeapTells", spec := "heapTells", unfollowed := true, recurses := true, named := ["ragpicker/class.sizes"], apart := false, laid := [("ragpicker/class.sizes", laid_ragpicker_class_sizes)], narrowed := true }
def HeapTellsUptoSaid : Prop := heapTellsUptoRow.holds Tryd.pinned (OpenSpec.upto heapTellsSpec)

/-- 'ragpickerlaw07.HeapWords', WHERE WHAT IT READS IS OF BULK AT MOST 1048576: true; the input reads as it did. -/
def heapWordsUptoRow : OpenClaim := { program := "ytodpciodongajaadoor", sum := "e274184f9d46bd49385c93d09a8cc6ac2c5d474183de5e0f6c6e30cece6835a8", func := "ragpicker/ragpickerlaw07.HeapWords", spec := "heapWords", unfollowed := true, recurses := true, named := ["ragpicker/class.sizes"], apart := false, laid := [("ragpicker/class.sizes", laid_ragpicker_class_sizes)], narrowed := true }
def HeapWordsUptoSaid : Prop := heapWordsUptoRow.holds Tryd.pinned (OpenSpec.upto heapWordsSpec)

/-- 'ragpickerlaw07.HeapKeeps', WHERE WHAT IT READS IS OF BULK AT MOST 1048576: true; the input reads as it did. -/
def heapKeepsUptoRow : OpenClaim := { program := "ytodpciodongajaadoor", sum := "e274184f9d46bd49385c93d09a8cc6ac2c5d474183de5e0f6c6e30cece6835a8", func := "ragpicker/ragpickerlaw07.HeapKeeps", spec := "heapKeeps", unfollowed := true, recurses := true, named := ["ragpicker/class.sizes"], apart := false, laid := [("ragpicker/class.sizes", laid_ragpicker_class_sizes)], narrowed := true }
def HeapKeepsUptoSaid : Prop := heapKeepsUptoRow.holds Tryd.pinned (OpenSpec.upto heapKeepsSpec)

/-- 'ragpickerlaw07.HeapNew', WHERE WHAT IT READS IS OF BULK AT MOST 1048576: true; the input reads as it did. -/
def heapNewUptoRow : OpenClaim := { program := "ytodpciodongajaadoor", sum := "e274184f9d46bd49385c93d09a8cc6ac2c5d474183de5e0f6c6e30cece6835a8", func := "ragpicker/ragpickerlaw07.HeapNew", spec := "heapNew", unfollowed := true, recurses := true, named := ["ragpicker/class.sizes"], apart := false, laid := [("ragpicker/class.sizes", laid_ragpicker_class_sizes)], narrowed := true }
def HeapNewUptoSaid : Prop := heapNewUptoRow.holds Tryd.pinned (OpenSpec.upto heapNewSpec)

/-- 'ragpickerlaw07.HeapUsed', WHERE WHAT IT READS IS OF BULK AT MOST 1048576: true; the input reads as it did. -/
def heapUsedUptoRow : OpenClaim := { program := "ytodpciodongajaadoor", sum := "e274184f9d46bd49385c93d09a8cc6ac2c5d474183de5e0f6c6e30cece6835a8", func := "ragpicker/ragpickerlaw07.HeapUsed", spec := "heapUsed", unfollowed := true, recurses := true, named := ["ragpicker/class.sizes"], apart := false, laid := [("ragpicker/class.sizes", laid_ragpicker_class_sizes)], narrowed := true }
def HeapUsedUptoSaid : Prop := heapUsedUptoRow.holds Tryd.pinned (OpenSpec.upto heapUsedSpec)

/-- 'ragpickerlaw07.HeapLess', WHERE WHAT IT READS IS OF BULK AT MOST 1048576: true; the input reads as it did. -/
def heapLessUptoRow : OpenClaim := { program := "ytodpciodongajaadoor", sum := "e274184f9d46bd49385c93d09a8cc6ac2c5d474183de5e0f6c6e30cece6835a8", func := "ragpicker/ragpickerlaw07.HeapLess", spec := "heapLess", unfollowed := true, recurses := true, named := ["ragpicker/class.sizes"], apart := false, laid := [("ragpicker/class.sizes", laid_ragpicker_class_sizes)], narrowed := true }
def HeapLessUptoSaid : Prop := heapLessUptoRow.holds Tryd.pinned (OpenSpec.upto heapLessSpec)

end Rows
end Go.Proofs.YtodpciodongajaaDoor
