/-
  NARROWER THAN 'FOR EVERY INPUT', by the rows' own cells (each row's printed sentence says how): HeapSets: laid · AllocTakes: laid · AllocKeeps: laid · AllocFull: laid · AllocLeast: laid · AllocTwice: laid · AllocHeads: laid.
  DERIVED. THE GIVEN ROWS OF THIS SEAT. 7 by the template 'for every input the law returns true; each argument reads behind the call as it read before'; 0 by the template 'total and deterministic' (their statements: YthgcaehhjiccbaaGreatDoorTotals.lean).
  GIVEN WITH THE SEED: the statements are not yours to turn. If you find one false, say at which input.
  Laid BY PROGRAM, IN A SANDBOX (cutbox-rows.mjs): the forced cells as the released guide's own fill.sh prints them over the translation 688f6e46b0406d50… (all of the seat's roots in one cut). By AI agents, Wed Nov 11 2026. No macro, syntax, notation, axiom, sorry.
-/
import Derived.Test.YthgcaehhjiccbaaGreatDoorChecked
import GoSem.Claim
import GoSem.ClaimJoined
import GoSem.ClaimMapViews
import Derived.JoinedTies
import Derived.KernelRfl
namespace Go.Proofs.YthgcaehhjiccbaaGreatDoor
/- THE CELL 'sum', in the pinned program and in every row, IS THE sha256 OF THE DUMP (.gsa) THAT YthgcaehhjiccbaaGreatDoorProg.lean LOADS. Nothing in Lean hashes anything: it is a label: what it is worth is what the hold of that sum in a sandbox is worth. -/
noncomputable def Tryz.pinned : Pinned := { name := "ythgcaehhjiccbaagreatdoor", sum := "688f6e46b0406d507bfb86a8018fbb3e125aa9fc4ec445429c6761f6d9cd69d4", checked := Tryz.checked }
namespace Rows
def none {H : Type} : Left H := { results := [], args := [] }

/- WHAT THE LISTED PACKAGE-LEVEL VARIABLES READ AS WHEN THE CALL BEGINS. Each datum BY PROGRAM (the guide's laid-datum.mjs) off the statement by which the dump's own 'gosem.cut.vars' lays the variable. In a bare row this is a premise. The card (YthgcaehhjiccbaaGreatDoorCards.lean) ties it to the program's text. -/
def laid_ragpicker_class_sizes {H : Type} : DataW H := .agg [.lit (.int .i64 2), .lit (.int .i64 4), .lit (.int .i64 8)]

/-- 'ragpickerlaw07.HeapSets': WHATEVER THE INPUT: true; the input reads as it did. -/
def heapSetsSpec : ChangeSpec := { name := "heapSets", fn := fun _ => fun
  | [d1, d2, d3, d4] => { results := [.lit (.bool true)], args := [d1, d2, d3, d4] }
  | _ => none }
def heapSetsRow : OpenClaim := { program := "ythgcaehhjiccbaagreatdoor", sum := "688f6e46b0406d507bfb86a8018fbb3e125aa9fc4ec445429c6761f6d9cd69d4", func := "ragpicker/ragpickerlaw07.HeapSets", spec := "heapSets", unfollowed := true, recurses := true, named := ["ragpicker/class.sizes"], apart := false, laid := [("ragpicker/class.sizes", laid_ragpicker_class_sizes)] }
def HeapSetsSaid : Prop := heapSetsRow.holds Tryz.pinned (OpenSpec.ofChange heapSetsSpec)

/-- ITS FALSE NEIGHBOUR: 'it returns false'. Refute it at one input. -/
def heapSetsWrong : ChangeSpec := { name := "heapSets", fn := fun _ => fun
  | [d1, d2, d3, d4] => { results := [.lit (.bool false)], args := [d1, d2, d3, d4] }
  | _ => none }
def HeapSetsWrongFalsely : Prop := heapSetsRow.holds Tryz.pinned (OpenSpec.ofChange heapSetsWrong)

/-- 'ragpickerlaw08.AllocTakes': WHATEVER THE INPUT: true; the input reads as it did. -/
def allocTakesSpec : ChangeSpec := { name := "allocTakes", fn := fun _ => fun
  | [d1, d2, d3] => { results := [.lit (.bool true)], args := [d1, d2, d3] }
  | _ => none }
def allocTakesRow : OpenClaim := { program := "ythgcaehhjiccbaagreatdoor", sum := "688f6e46b0406d507bfb86a8018fbb3e125aa9fc4ec445429c6761f6d9cd69d4", func := "ragpicker/ragpickerlaw08.AllocTakes", spec := "allocTakes", unfollowed := true, recurses := true, named := ["ragpicker/class.sizes"], apart := false, laid := [("ragpicker/class.sizes", laid_ragpicker_class_sizes)] }
def AllocTakesSaid : Prop := allocTakesRow.holds Tryz.pinned (OpenSpec.ofChange allocTakesSpec)

/-- ITS FALSE NEIGHBOUR: 'it returns false'. Refute it at one input. -/
def allocTakesWrong : ChangeSpec := { name := "allocTakes", fn := fun _ => fun
  | [d1, d2, d3] => { results := [.lit (.bool false)], args := [d1, d2, d3] }
  | _ => none }
def AllocTakesWrongFalsely : Prop := allocTakesRow.holds Tryz.pinned (OpenSpec.ofChange allocTakesWrong)

/-- 'ragpickerlaw08.AllocKeeps': WHATEVER THE INPUT: true; the input reads as it did. -/
def allocKeepsSpec : ChangeSpec := { name := "allocKeeps", fn := fun _ => fun
  | [d1, d2, d3] => { results := [.lit (.bool true)], args := [d1, d2, d3] }
  | _ => none }
def allocKeepsRow : OpenClaim := { program := "ythgcaehhjiccbaagreatdoor", sum := "688f6e46b0406d507bfb86a8018fbb3e125aa9fc4ec445429c6761f6d9cd69d4", func := "ragpicker/ragpickerlaw08.AllocKeeps", spec := "allocKeeps", unfollowed := true, recurses := true, named := ["ragpicker/class.sizes"], apart := false, laid := [("ragpicker/class.sizes", laid_ragpicker_class_sizes)] }
def AllocKeepsSaid : Prop := allocKeepsRow.holds Tryz.pinned (OpenSpec.ofChange allocKeepsSpec)

/-- ITS FALSE NEIGHBOUR: 'it returns false'. Refute it at one input. -/
def allocKeepsWrong : ChangeSpec := { name := "allocKeeps", fn := fun _ => fun
  | [d1, d2, d3] => { results := [.lit (.bool false)], args := [d1, d2, d3] }
  | _ => none }
def AllocKeepsWrongFalsely : Prop := allocKeepsRow.holds Tryz.pinned (OpenSpec.ofChange allocKeepsWrong)

/-- 'ragpickerlaw08.AllocFull': WHATEVER THE INPUT: true; the input reads as it did. -/
def allocFullSpec : ChangeSpec := { name := "allocFull", fn := fun _ => fun
  | [d1, d2, d3] => { results := [.lit (.bool true)], args := [d1, d2, d3] }
  | _ => none }
def allocFullRow : OpenClaim := { program := "ythgcaehhjiccbaagreatdoor", sum := "688f6e46b0406d507bfb86a8018fbb3e125aa9fc4ec445429c6761f6d9cd69d4", func := "ragpicker/ragpickerlaw08.AllocFull", spec := "allocFull", unfollowed := true, recurses := true, named := ["ragpicker/class.sizes"], apart := false, laid := [("ragpicker/class.sizes", laid_ragpicker_class_sizes)] }
def AllocFullSaid : Prop := allocFullRow.holds Tryz.pinned (OpenSpec.ofChange allocFullSpec)

/-- ITS FALSE NEIGHBOUR: 'it returns false'. Refute it at one input. -/
def allocFullWrong : ChangeSpec := { name := "allocFull", fn := fun _ => fun
  | [d1, d2, d3] => { results := [.lit (.bool false)], args := [d1, d2, d3] }
  | _ => none }
def AllocFullWrongFalsely : Prop := allocFullRow.holds Tryz.pinned (OpenSpec.ofChange allocFullWrong)

/-- 'ragpickerlaw08.AllocLeast': WHATEVER THE INPUT: true; the input reads as it did. -/
def allocLeastSpec : ChangeSpec := { name := "allocLeast", fn := fun _ => fun
  | [d1, d2, d3] => { results := [.lit (.bool true)], args := [d1, d2, d3] }
  | _ => none }
def allocLeastRow : OpenClaim := { program := "ythgcaehhjiccbaagreatdoor", sum := "688f6e46b0406d507bfb86a8018fbb3e125aa9fc4ec445429c6761f6d9cd69d4", func := "ragpicker/ragpickerlaw08.AllocLeast", spec := "allocLeast", unfollowed := true, recurses := true, named := ["ragpicker/class.sizes"], apart := false, laid := [("ragpicker/class.sizes", laid_ragpicker_class_sizes)] }
def AllocLeastSaid : Prop := allocLeastRow.holds Tryz.pinned (OpenSpec.ofChange allocLeastSpec)

/-- ITS FALSE NEIGHBOUR: 'it returns false'. Refute it at one input. -/
def allocLeastWrong : ChangeSpec := { name := "allocLeast", fn := fun _ => fun
  | [d1, d2, d3] => { results := [.lit (.bool false)], args := [d1, d2, d3] }
  | _ => none }
def AllocLeastWrongFalsely : Prop := allocLeastRow.holds Tryz.pinned (OpenSpec.ofChange allocLeastWrong)

/-- 'ragpickerlaw08.AllocTwice': WHATEVER THE INPUT: true; the input reads as it did. -/
def allocTwiceSpec : ChangeSpec := { name := "allocTwice", fn := fun _ => fun
  | [d1, d2, d3, d4] => { results := [.lit (.bool true)], args := [d1, d2, d3, d4] }
  | _ => none }
def allocTwiceRow : OpenClaim := { program := "ythgcaehhjiccbaagreatdoor", sum := "688f6e46b0406d507bfb86a8018fbb3e125aa9fc4ec445429c6761f6d9cd69d4", func := "ragpicker/ragpickerlaw08.AllocTwice", spec := "allocTwice", unfollowed := true, recurses := true, named := ["ragpicker/class.sizes"], apart := false, laid := [("ragpicker/class.sizes", laid_ragpicker_class_sizes)] }
def AllocTwiceSaid : Prop := allocTwiceRow.holds Tryz.pinned (OpenSpec.ofChange allocTwiceSpec)

/-- ITS FALSE NEIGHBOUR: 'it returns false'. Refute it at one input. -/
def allocTwiceWrong : ChangeSpec := { name := "allocTwice", fn := fun _ => fun
  | [d1, d2, d3, d4] => { results := [.lit (.bool false)], args := [d1, d2, d3, d4] }
  | _ => none }
def AllocTwiceWrongFalsely : Prop := allocTwiceRow.holds Tryz.pinned (OpenSpec.ofChange allocTwiceWrong)

/-- 'ragpickerlaw08.AllocHeads': WHATEVER THE INPUT: true; the input reads as it did. -/
def allocHeadsSpec : ChangeSpec := { name := "allocHeads", fn := fun _ => fun
  | [d1, d2, d3] => { results := [.lit (.bool true)], args := [d1, d2, d3] }
  | _ => none }
def allocHeadsRow : OpenClaim := { program := "ythgcaehhjiccbaagreatdoor", sum := "688f6e46b0406d507bfb86a8018fbb3e125aa9fc4ec445429c6761f6d9cd69d4", func := "ragpicker/ragpickerlaw08.AllocHeads", spec := "allocHeads", unfollowed := true, recurses := true, named := ["ragpicker/class.sizes"], apart := false, laid := [("ragpicker/class.sizes", laid_ragpicker_class_sizes)] }
def AllocHeadsSaid : Prop := allocHeadsRow.holds Tryz.pinned (OpenSpec.ofChange allocHeadsSpec)

/-- ITS FALSE NEIGHBOUR: 'it returns false'. Refute it at one input. -/
def allocHeadsWrong : ChangeSpec := { name := "allocHeads", fn := fun _ => fun
  | [d1, d2, d3] => { results := [.lit (.bool false)], args := [d1, d2, d3] }
  | _ => none }
def AllocHeadsWrongFalsely : Prop := allocHeadsRow.holds Tryz.pinned (OpenSpec.ofChange allocHeadsWrong)

/- THE SECOND FORM. 'bulk': how many values and letters a reading holds, each counted each time it is reached (what is shared counts as often as it is met; a slice's spare places count too). A statement '..UptoSaid' is the law's where the arguments, and the package variables that the reading takes, are together of bulk at most 1048576: NARROWER than '..Said'. Prove '..Said' where nothing that the law and all that it calls make is longer than what came in: it says more and counts as full. Else prove '..UptoSaid'. A law counts once. -/
mutual
def uptoBulk {H : Type} : DataW H → Nat
  | .lit (.string bytes) => bytes.length + 1
  | .lit _ => 1
  | .nil => 1
  | .ptr d => uptoBulk d + 1
  | .slice elems spare => uptoBulkAll elems + uptoBulkAll spare + 1
  | .agg parts => uptoBulkAll parts + 1
  | .iface _ d => uptoBulk d + 1
  | .map entries => uptoBulkEntries entries + 1
  | .held _ => 1
def uptoBulkAll {H : Type} : List (DataW H) → Nat
  | [] => 0
  | d :: r => uptoBulk d + uptoBulkAll r
def uptoBulkEntries {H : Type} : List (Lit × DataW H) → Nat
  | [] => 0
  | x :: r => uptoBulkEntry x + uptoBulkEntries r
def uptoBulkEntry {H : Type} : Lit × DataW H → Nat
  | (.string bytes, d) => bytes.length + uptoBulk d + 1
  | (_, d) => uptoBulk d + 1
 end
def uptoSmall : (H : Type) → List (DataW H) → Bool := fun _ ds => decide (uptoBulkAll ds ≤ 1048576)
def OpenSpec.upto (s : _root_.Go.ChangeSpec) : _root_.Go.OpenSpec := { _root_.Go.OpenSpec.ofChange s with cond := some uptoSmall }

/-- 'ragpickerlaw07.HeapSets', WHERE WHAT IT READS IS OF BULK AT MOST 1048576: true; the input reads as it did. -/
def heapSetsUptoRow : OpenClaim := { program := "ythgcaehhjiccbaagreatdoor", sum := "688f6e46b0406d507bfb86a8018fbb3e125aa9fc4ec445429c6761f6d9cd69d4", func := "ragpicker/ragpickerlaw07.HeapSets", spec := "heapSets", unfollowed := true, recurses := true, named := ["ragpicker/class.sizes"], apart := false, laid := [("ragpicker/class.sizes", laid_ragpicker_class_sizes)], narrowed := true }
def HeapSetsUptoSaid : Prop := heapSetsUptoRow.holds Tryz.pinned (OpenSpec.upto heapSetsSpec)

/-- 'ragpickerlaw08.AllocTakes', WHERE WHAT IT READS IS OF BULK AT MOST 1048576: true; the input reads as it did. -/
def allocTakesUptoRow : OpenClaim := { program := "ythgcaehhjiccbaagreatdoor", sum := "688f6e46b0406d507bfb86a8018fbb3e125aa9fc4ec445429c6761f6d9cd69d4", func := "ragpicker/ragpickerlaw08.AllocTakes", spec := "allocTakes", unfollowed := true, recurses := true, named := ["ragpicker/class.sizes"], apart := false, laid := [("ragpicker/class.sizes", laid_ragpicker_class_sizes)], narrowed := true }
def AllocTakesUptoSaid : Prop := allocTakesUptoRow.holds Tryz.pinned (OpenSpec.upto allocTakesSpec)

/-- 'ragpickerlaw08.AllocKeeps', WHERE WHAT IT READS IS OF BULK AT MOST 1048576: true; the input reads as it did. -/
def allocKeepsUptoRow : OpenClaim := { program := "ythgcaehhjiccbaagreatdoor", sum := "688f6e46b0406d507bfb86a8018fbb3e125aa9fc4ec445429c6761f6d9cd69d4", func := "ragpicker/ragpickerlaw08.AllocKeeps", spec := "allocKeeps", unfollowed := true, recurses := true, named := ["ragpicker/class.sizes"], apart := false, laid := [("ragpicker/class.sizes", laid_ragpicker_class_sizes)], narrowed := true }
def AllocKeepsUptoSaid : Prop := allocKeepsUptoRow.holds Tryz.pinned (OpenSpec.upto allocKeepsSpec)

/-- 'ragpickerlaw08.AllocFull', WHERE WHAT IT READS IS OF BULK AT MOST 1048576: true; the input reads as it did. -/
def allocFullUptoRow : OpenClaim := { program := "ythgcaehhjiccbaagreatdoor", sum := "688f6e46b0406d507bfb86a8018fbb3e125aa9fc4ec445429c6761f6d9cd69d4", func := "ragpicker/ragpickerlaw08.AllocFull", spec := "allocFull", unfollowed := true, recurses := true, named := ["ragpicker/class.sizes"], apart := false, laid := [("ragpicker/class.sizes", laid_ragpicker_class_sizes)], narrowed := true }
def AllocFullUptoSaid : Prop := allocFullUptoRow.holds Tryz.pinned (OpenSpec.upto allocFullSpec)

/-- 'ragpickerlaw08.AllocLeast', WHERE WHAT IT READS IS OF BULK AT MOST 1048576: true; the input reads as it did. -/
def allocLeastUptoRow : OpenClaim := { program := "ythgcaehhjiccbaagreatdoor", sum := "688f6e46b0406d507bfb86a8018fbb3e125aa9fc4ec445429c6761f6d9cd69d4", func := "ragpicker/ragpickerlaw08.AllocLeast", spec := "allocLeast", unfollowed := true, recurses := true, named := ["ragpicker/class.sizes"], apart := false, laid := [("ragpicker/class.sizes", laid_ragpicker_class_sizes)], narrowed := true }
def AllocLeastUptoSaid : Prop := allocLeastUptoRow.holds Tryz.pinned (OpenSpec.upto allocLeastSpec)

/-- 'ragpickerlaw08.AllocTwice', WHERE WHAT IT READS IS OF BULK AT MOST 1048576: true; the input reads as it did. -/
def allocTwiceUptoRow : OpenClaim := { program := "ythgcaehhjiccbaagreatdoor", sum := "688f6e46b0406d507bfb86a8018fbb3e125aa9fc4ec445429c6761f6d9cd69d4", func := "ragpicker/ragpickerlaw08.AllocTwice", spec := "allocTwice", unfollowed := true, recurses := true, named := ["ragpicker/class.sizes"], apart := false, laid := [("ragpicker/class.sizes", laid_ragpicker_class_sizes)], narrowed := true }
def AllocTwiceUptoSaid : Prop := allocTwiceUptoRow.holds Tryz.pinned (OpenSpec.upto allocTwiceSpec)

/-- 'ragpickerlaw08.AllocHeads', WHERE WHAT IT READS IS OF BULK AT MOST 1048576: true; the input reads as it did. -/
def allocHeadsUptoRow : OpenClaim := { program := "ythgcaehhjiccbaagreatdoor", sum := "688f6e46b0406d507bfb86a8018fbb3e125aa9fc4ec445429c6761f6d9cd69d4", func := "ragpicker/ragpickerlaw08.AllocHeads", spec := "allocHeads", unfollowed := true, recurses := true, named := ["ragpicker/class.sizes"], apart := false, laid := [("ragpicker/class.sizes", laid_ragpicker_class_sizes)], narrowed := true }
def AllocHeadsUptoSaid : Prop := allocHeadsUptoRow.holds Tryz.pinned (OpenSpec.upto allocHeadsSpec)

end Rows
end Go.Proofs.YthgcaehhjiccbaaGreatDoor
