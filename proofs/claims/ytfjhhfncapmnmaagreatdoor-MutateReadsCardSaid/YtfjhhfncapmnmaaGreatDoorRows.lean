/-
  NARROWER THAN 'FOR EVERY INPUT', by the rows' own cells (each row's printed sentence says how): MutateSteps: laid · MutateKeeps: laid · MutateErrors: laid · MutateEnds: laid · MutateReads: laid · MutateStores: laid · MutateNew: laid.
  DERIVED. THE GIVEN ROWS OF THIS SEAT. 7 by the template 'for every input the law returns true; each argument reads behind the call as it read before'; 0 by the template 'total and deterministic' (their statements: YtfjhhfncapmnmaaGreatDoorTotals.lean).
  GIVEN WITH THE SEED: the statements are not yours to turn. If you find one false, say at which input.
  Laid BY PROGRAM, IN A SANDBOX (cutbox-rows.mjs): the forced cells as the released guide's own fill.sh prints them over the translation c8660ef5ee34021c… (all of the seat's roots in one cut). By AI agents, Wed Nov 11 2026. No macro, syntax, notation, axiom, sorry.
-/
import Derived.Test.YtfjhhfncapmnmaaGreatDoorChecked
import GoSem.Claim
import GoSem.ClaimJoined
import GoSem.ClaimMapViews
import Derived.JoinedTies
import Derived.KernelRfl
namespace Go.Proofs.YtfjhhfncapmnmaaGreatDoor
/- THE CELL 'sum', in the pinned program and in every row, IS THE sha256 OF THE DUMP (.gsa) THAT YtfjhhfncapmnmaaGreatDoorProg.lean LOADS. Nothing in Lean hashes anything: it is a label: what it is worth is what the hold of that sum in a sandbox is worth. -/
noncomputable def Tryz.pinned : Pinned := { name := "ytfjhhfncapmnmaagreatdoor", sum := "c8660ef5ee34021cf7e610ee9229c08c68ebc35ea5c042756ba2400da76a2ee2", checked := Tryz.checked }
namespace Rows
def none {H : Type} : Left H := { results := [], args := [] }

/- WHAT THE LISTED PACKAGE-LEVEL VARIABLES READ AS WHEN THE CALL BEGINS. Each datum BY PROGRAM (the guide's laid-datum.mjs) off the statement by which the dump's own 'gosem.cut.vars' lays the variable. In a bare row this is a premise. The card (YtfjhhfncapmnmaaGreatDoorCards.lean) ties it to the program's text. -/
def laid_ragpicker_class_sizes {H : Type} : DataW H := .agg [.lit (.int .i64 2), .lit (.int .i64 4), .lit (.int .i64 8)]

/-- 'ragpickerlaw14.MutateSteps': WHATEVER THE INPUT: true; the input reads as it did. -/
def mutateStepsSpec : ChangeSpec := { name := "mutateSteps", fn := fun _ => fun
  | [d1, d2, d3] => { results := [.lit (.bool true)], args := [d1, d2, d3] }
  | _ => none }
def mutateStepsRow : OpenClaim := { program := "ytfjhhfncapmnmaagreatdoor", sum := "c8660ef5ee34021cf7e610ee9229c08c68ebc35ea5c042756ba2400da76a2ee2", func := "ragpicker/ragpickerlaw14.MutateSteps", spec := "mutateSteps", unfollowed := true, recurses := true, named := ["ragpicker/class.sizes"], apart := false, laid := [("ragpicker/class.sizes", laid_ragpicker_class_sizes)] }
def MutateStepsSaid : Prop := mutateStepsRow.holds Tryz.pinned (OpenSpec.ofChange mutateStepsSpec)

/-- ITS FALSE NEIGHBOUR: 'it returns false'. Refute it at one input. -/
def mutateStepsWrong : ChangeSpec := { name := "mutateSteps", fn := fun _ => fun
  | [d1, d2, d3] => { results := [.lit (.bool false)], args := [d1, d2, d3] }
  | _ => none }
def MutateStepsWrongFalsely : Prop := mutateStepsRow.holds Tryz.pinned (OpenSpec.ofChange mutateStepsWrong)

/-- 'ragpickerlaw14.MutateKeeps': WHATEVER THE INPUT: true; the input reads as it did. -/
def mutateKeepsSpec : ChangeSpec := { name := "mutateKeeps", fn := fun _ => fun
  | [d1, d2, d3, d4] => { results := [.lit (.bool true)], args := [d1, d2, d3, d4] }
  | _ => none }
def mutateKeepsRow : OpenClaim := { program := "ytfjhhfncapmnmaagreatdoor", sum := "c8660ef5ee34021cf7e610ee9229c08c68ebc35ea5c042756ba2400da76a2ee2", func := "ragpicker/ragpickerlaw14.MutateKeeps", spec := "mutateKeeps", unfollowed := true, recurses := true, named := ["ragpicker/class.sizes"], apart := false, laid := [("ragpicker/class.sizes", laid_ragpicker_class_sizes)] }
def MutateKeepsSaid : Prop := mutateKeepsRow.holds Tryz.pinned (OpenSpec.ofChange mutateKeepsSpec)

/-- ITS FALSE NEIGHBOUR: 'it returns false'. Refute it at one input. -/
def mutateKeepsWrong : ChangeSpec := { name := "mutateKeeps", fn := fun _ => fun
  | [d1, d2, d3, d4] => { results := [.lit (.bool false)], args := [d1, d2, d3, d4] }
  | _ => none }
def MutateKeepsWrongFalsely : Prop := mutateKeepsRow.holds Tryz.pinned (OpenSpec.ofChange mutateKeepsWrong)

/-- 'ragpickerlaw14.MutateErrors': WHATEVER THE INPUT: true; the input reads as it did. -/
def mutateErrorsSpec : ChangeSpec := { name := "mutateErrors", fn := fun _ => fun
  | [d1, d2, d3] => { results := [.lit (.bool true)], args := [d1, d2, d3] }
  | _ => none }
def mutateErrorsRow : OpenClaim := { program := "ytfjhhfncapmnmaagreatdoor", sum := "c8660ef5ee34021cf7e610ee9229c08c68ebc35ea5c042756ba2400da76a2ee2", func := "ragpicker/ragpickerlaw14.MutateErrors", spec := "mutateErrors", unfollowed := true, recurses := true, named := ["ragpicker/class.sizes"], apart := false, laid := [("ragpicker/class.sizes", laid_ragpicker_class_sizes)] }
def MutateErrorsSaid : Prop := mutateErrorsRow.holds Tryz.pinned (OpenSpec.ofChange mutateErrorsSpec)

/-- ITS FALSE NEIGHBOUR: 'it returns false'. Refute it at one input. -/
def mutateErrorsWrong : ChangeSpec := { name := "mutateErrors", fn := fun _ => fun
  | [d1, d2, d3] => { results := [.lit (.bool false)], args := [d1, d2, d3] }
  | _ => none }
def MutateErrorsWrongFalsely : Prop := mutateErrorsRow.holds Tryz.pinned (OpenSpec.ofChange mutateErrorsWrong)

/-- 'ragpickerlaw14.MutateEnds': WHATEVER THE INPUT: true; the input reads as it did. -/
def mutateEndsSpec : ChangeSpec := { name := "mutateEnds", fn := fun _ => fun
  | [d1, d2, d3] => { results := [.lit (.bool true)], args := [d1, d2, d3] }
  | _ => none }
def mutateEndsRow : OpenClaim := { program := "ytfjhhfncapmnmaagreatdoor", sum := "c8660ef5ee34021cf7e610ee9229c08c68ebc35ea5c042756ba2400da76a2ee2", func := "ragpicker/ragpickerlaw14.MutateEnds", spec := "mutateEnds", unfollowed := true, recurses := true, named := ["ragpicker/class.sizes"], apart := false, laid := [("ragpicker/class.sizes", laid_ragpicker_class_sizes)] }
def MutateEndsSaid : Prop := mutateEndsRow.holds Tryz.pinned (OpenSpec.ofChange mutateEndsSpec)

/-- ITS FALSE NEIGHBOUR: 'it returns false'. Refute it at one input. -/
def mutateEndsWrong : ChangeSpec := { name := "mutateEnds", fn := fun _ => fun
  | [d1, d2, d3] => { results := [.lit (.bool false)], args := [d1, d2, d3] }
  | _ => none }
def MutateEndsWrongFalsely : Prop := mutateEndsRow.holds Tryz.pinned (OpenSpec.ofChange mutateEndsWrong)

/-- 'ragpickerlaw14.MutateReads': WHATEVER THE INPUT: true; the input reads as it did. -/
def mutateReadsSpec : ChangeSpec := { name := "mutateReads", fn := fun _ => fun
  | [d1, d2, d3] => { results := [.lit (.bool true)], args := [d1, d2, d3] }
  | _ => none }
def mutateReadsRow : OpenClaim := { program := "ytfjhhfncapmnmaagreatdoor", sum := "c8660ef5ee34021cf7e610ee9229c08c68ebc35ea5c042756ba2400da76a2ee2", func := "ragpicker/ragpickerlaw14.MutateReads", spec := "mutateReads", unfollowed := true, recurses := true, named := ["ragpicker/class.sizes"], apart := false, laid := [("ragpicker/class.sizes", laid_ragpicker_class_sizes)] }
def MutateReadsSaid : Prop := mutateReadsRow.holds Tryz.pinned (OpenSpec.ofChange mutateReadsSpec)

/-- ITS FALSE NEIGHBOUR: 'it returns false'. Refute it at one input. -/
def mutateReadsWrong : ChangeSpec := { name := "mutateReads", fn := fun _ => fun
  | [d1, d2, d3] => { results := [.lit (.bool false)], args := [d1, d2, d3] }
  | _ => none }
def MutateReadsWrongFalsely : Prop := mutateReadsRow.holds Tryz.pinned (OpenSpec.ofChange mutateReadsWrong)

/-- 'ragpickerlaw14.MutateStores': WHATEVER THE INPUT: true; the input reads as it did. -/
def mutateStoresSpec : ChangeSpec := { name := "mutateStores", fn := fun _ => fun
  | [d1, d2, d3] => { results := [.lit (.bool true)], args := [d1, d2, d3] }
  | _ => none }
def mutateStoresRow : OpenClaim := { program := "ytfjhhfncapmnmaagreatdoor", sum := "c8660ef5ee34021cf7e610ee9229c08c68ebc35ea5c042756ba2400da76a2ee2", func := "ragpicker/ragpickerlaw14.MutateStores", spec := "mutateStores", unfollowed := true, recurses := true, named := ["ragpicker/class.sizes"], apart := false, laid := [("ragpicker/class.sizes", laid_ragpicker_class_sizes)] }
def MutateStoresSaid : Prop := mutateStoresRow.holds Tryz.pinned (OpenSpec.ofChange mutateStoresSpec)

/-- ITS FALSE NEIGHBOUR: 'it returns false'. Refute it at one input. -/
def mutateStoresWrong : ChangeSpec := { name := "mutateStores", fn := fun _ => fun
  | [d1, d2, d3] => { results := [.lit (.bool false)], args := [d1, d2, d3] }
  | _ => none }
def MutateStoresWrongFalsely : Prop := mutateStoresRow.holds Tryz.pinned (OpenSpec.ofChange mutateStoresWrong)

/-- 'ragpickerlaw14.MutateNew': WHATEVER THE INPUT: true; the input reads as it did. -/
def mutateNewSpec : ChangeSpec := { name := "mutateNew", fn := fun _ => fun
  | [d1, d2, d3] => { results := [.lit (.bool true)], args := [d1, d2, d3] }
  | _ => none }
def mutateNewRow : OpenClaim := { program := "ytfjhhfncapmnmaagreatdoor", sum := "c8660ef5ee34021cf7e610ee9229c08c68ebc35ea5c042756ba2400da76a2ee2", func := "ragpicker/ragpickerlaw14.MutateNew", spec := "mutateNew", unfollowed := true, recurses := true, named := ["ragpicker/class.sizes"], apart := false, laid := [("ragpicker/class.sizes", laid_ragpicker_class_sizes)] }
def MutateNewSaid : Prop := mutateNewRow.holds Tryz.pinned (OpenSpec.ofChange mutateNewSpec)

/-- ITS FALSE NEIGHBOUR: 'it returns false'. Refute it at one input. -/
def mutateNewWrong : ChangeSpec := { name := "mutateNew", fn := fun _ => fun
  | [d1, d2, d3] => { results := [.lit (.bool false)], args := [d1, d2, d3] }
  | _ => none }
def MutateNewWrongFalsely : Prop := mutateNewRow.holds Tryz.pinned (OpenSpec.ofChange mutateNewWrong)

/- THE SECOND FORM. 'bulk': how many values and letters a reading holds, each counted each time it is reached (what is shared counts as often as it is met; a slice's spare places count too). A statement '..UptoSaid' is the law's where the arguments, and the package variables that the reading takes, are together of bulk at most 1048576: NARROWER than '..Said'. Prove '..Said' where nothing that the law and all that it calls make is longer than what came in: it says more and counts as full. Else prove '..UptoSaid'. A law counts once. -/
mutual
def uptoBulk {H : Type} : DataW H → Nat
  | .lit (.string bytes) => bytes.length + 1
  | .lit _ => 1
  | .nil => 1
  | .ptr d => uptoBulk d + 1
  | .slice elems spare => uptoBulkAll elems + uptoBulkAll spare + 1
  | .agg parts => uptoBulkAll parts + 1
  | .iface _ d => uptoBulk d + 1
  | .map entries => uptoBulkEntries entries + 1
  | .held _ => 1
def uptoBulkAll {H : Type} : List (DataW H) → Nat
  | [] => 0
  | d :: r => uptoBulk d + uptoBulkAll r
def uptoBulkEntries {H : Type} : List (Lit × DataW H) → Nat
  | [] => 0
  | x :: r => uptoBulkEntry x + uptoBulkEntries r
def uptoBulkEntry {H : Type} : Lit × DataW H → Nat
  | (.string bytes, d) => bytes.length + uptoBulk d + 1
  | (_, d) => uptoBulk d + 1
 end
def uptoSmall : (H : Type) → List (DataW H) → Bool := fun _ ds => decide (uptoBulkAll ds ≤ 1048576)
def OpenSpec.upto (s : _root_.Go.ChangeSpec) : _root_.Go.OpenSpec := { _root_.Go.OpenSpec.ofChange s with cond := some uptoSmall }

/-- 'ragpickerlaw14.MutateSteps', WHERE WHAT IT READS IS OF BULK AT MOST 1048576: true; the input reads as it did. -/
def mutateStepsUptoRow : OpenClaim := { program := "ytfjhhfncapmnmaagreatdoor", sum := "c8660ef5ee34021cf7e610ee9229c08c68ebc35ea5c042756ba2400da76a2ee2", func := "ragpicker/ragpickerlaw14.MutateSteps", spec := "mutateSteps", unfollowed := true, recurses := true, named := ["ragpicker/class.sizes"], apart := false, laid := [("ragpicker/class.sizes", laid_ragpicker_class_sizes)], narrowed := true }
def MutateStepsUptoSaid : Prop := mutateStepsUptoRow.holds Tryz.pinned (OpenSpec.upto mutateStepsSpec)

/-- 'ragpickerlaw14.MutateKeeps', WHERE WHAT IT READS IS OF BULK AT MOST 1048576: true; the input reads as it did. -/
def mutateKeepsUptoRow : OpenClaim := { program := "ytfjhhfncapmnmaagreatdoor", sum := "c8660ef5ee34021cf7e610ee9229c08c68ebc35ea5c042756ba2400da76a2ee2", func := "ragpicker/ragpickerlaw14.MutateKeeps", spec := "mutateKeeps", unfollowed := true, recurses := true, named := ["ragpicker/class.sizes"], apart := false, laid := [("ragpicker/class.sizes", laid_ragpicker_class_sizes)], narrowed := true }
def MutateKeepsUptoSaid : Prop := mutateKeepsUptoRow.holds Tryz.pinned (OpenSpec.upto mutateKeepsSpec)

/-- 'ragpickerlaw14.MutateErrors', WHERE WHAT IT READS IS OF BULK AT MOST 1048576: true; the input reads as it did. -/
def mutateErrorsUptoRow : OpenClaim := { program := "ytfjhhfncapmnmaagreatdoor", sum := "c8660ef5ee34021cf7e610ee9229c08c68ebc35ea5c042756ba2400da76a2ee2", func := "ragpicker/ragpickerlaw14.MutateErrors", spec := "mutateErrors", unfollowed := true, recurses := true, named := ["ragpicker/class.sizes"], apart := false, laid := [("ragpicker/class.sizes", laid_ragpicker_class_sizes)], narrowed := true }
def MutateErrorsUptoSaid : Prop := mutateErrorsUptoRow.holds Tryz.pinned (OpenSpec.upto mutateErrorsSpec)

/-- 'ragpickerlaw14.MutateEnds', WHERE WHAT IT READS IS OF BULK AT MOST 1048576: true; the input reads as it did. -/
def mutateEndsUptoRow : OpenClaim := { program := "ytfjhhfncapmnmaagreatdoor", sum := "c8660ef5ee34021cf7e610ee9229c08c68ebc35ea5c042756ba2400da76a2ee2", func := "ragpicker/ragpickerlaw14.MutateEnds", spec := "mutateEnds", unfollowed := true, recurses := true, named := ["ragpicker/class.sizes"], apart := false, laid := [("ragpicker/class.sizes", laid_ragpicker_class_sizes)], narrowed := true }
def MutateEndsUptoSaid : Prop := mutateEndsUptoRow.holds Tryz.pinned (OpenSpec.upto mutateEndsSpec)

/-- 'ragpickerlaw14.MutateReads', WHERE WHAT IT READS IS OF BULK AT MOST 1048576: true; the input reads as it did. -/
def mutateReadsUptoRow : OpenClaim := { program := "ytfjhhfncapmnmaagreatdoor", sum := "c8660ef5ee34021cf7e610ee9229c08c68ebc35ea5c042756ba2400da76a2ee2", func := "ragpicker/ragpickerlaw14.MutateReads", spec := "mutateReads", unfollowed := true, recurses := true, named := ["ragpicker/class.sizes"], apart := false, laid := [("ragpicker/class.sizes", laid_ragpicker_class_sizes)], narrowed := true }
def MutateReadsUptoSaid : Prop := mutateReadsUptoRow.holds Tryz.pinned (OpenSpec.upto mutateReadsSpec)

/-- 'ragpickerlaw14.MutateStores', WHERE WHAT IT READS IS OF BULK AT MOST 1048576: true; the input reads as it did. -/
def mutateStoresUptoRow : OpenClaim := { program := "ytfjhhfncapmnmaagreatdoor", sum := "c8660ef5ee34021cf7e610ee9229c08c68ebc35ea5c042756ba2400da76a2ee2", func := "ragpicker/ragpickerlaw14.MutateStores", spec := "mutateStores", unfollowed := true, recurses := true, named := ["ragpicker/class.sizes"], apart := false, laid := [("ragpicker/class.sizes", laid_ragpicker_class_sizes)], narrowed := true }
def MutateStoresUptoSaid : Prop := mutateStoresUptoRow.holds Tryz.pinned (OpenSpec.upto mutateStoresSpec)

/-- 'ragpickerlaw14.MutateNew', WHERE WHAT IT READS IS OF BULK AT MOST 1048576: true; the input reads as it did. -/
def mutateNewUptoRow : OpenClaim := { program := "ytfjhhfncapmnmaagreatdoor", sum := "c8660ef5ee34021cf7e610ee9229c08c68ebc35ea5c042756ba2400da76a2ee2", func := "ragpicker/ragpickerlaw14.MutateNew", spec := "mutateNew", unfollowed := true, recurses := true, named := ["ragpicker/class.sizes"], apart := false, laid := [("ragpicker/class.sizes", laid_ragpicker_class_sizes)], narrowed := true }
def MutateNewUptoSaid : Prop := mutateNewUptoRow.holds Tryz.pinned (OpenSpec.upto mutateNewSpec)

end Rows
end Go.Proofs.YtfjhhfncapmnmaaGreatDoor
