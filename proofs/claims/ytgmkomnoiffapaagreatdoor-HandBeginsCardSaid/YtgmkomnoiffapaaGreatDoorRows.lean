/-
  NARROWER THAN 'FOR EVERY INPUT', by the rows' own cells (each row's printed sentence says how): MutateStores: laid · MutateNew: laid · HandTells: laid · HandEnds: laid · HandRoots: laid · HandBegins: laid · HandStays: laid · HandOnce: laid.
  DERIVED. THE GIVEN ROWS OF THIS SEAT. 8 by the template 'for every input the law returns true; each argument reads behind the call as it read before'; 0 by the template 'total and deterministic' (their statements: YtgmkomnoiffapaaGreatDoorTotals.lean).
  GIVEN WITH THE SEED: the statements are not yours to turn. If you find one false, say at which input.
  Laid BY PROGRAM, IN A SANDBOX (cutbox-rows.mjs): the forced cells as the released guide's own fill.sh prints them over the translation 538e6788b89efce1… (all of the seat's roots in one cut). By AI agents, Wed Nov 11 2026. No macro, syntax, notation, axiom, sorry.
-/
import Derived.Test.YtgmkomnoiffapaaGreatDoorChecked
import GoSem.Claim
import GoSem.ClaimJoined
import GoSem.ClaimMapViews
import Derived.JoinedTies
import Derived.KernelRfl
namespace Go.Proofs.YtgmkomnoiffapaaGreatDoor
/- THE CELL 'sum', in the pinned program and in every row, IS THE sha256 OF THE DUMP (.gsa) THAT YtgmkomnoiffapaaGreatDoorProg.lean LOADS. Nothing in Lean hashes anything: it is a label: what it is worth is what the hold of that sum in a sandbox is worth. -/
noncomputable def Tryz.pinned : Pinned := { name := "ytgmkomnoiffapaagreatdoor", sum := "538e6788b89efce1e2fc781193d7d298c5611b272b9fc9e9e356f2d9af3d357a", checked := Tryz.checked }
namespace Rows
def none {H : Type} : Left H := { results := [], args := [] }

/- WHAT THE LISTED PACKAGE-LEVEL VARIABLES READ AS WHEN THE CALL BEGINS. Each datum BY PROGRAM (the guide's laid-datum.mjs) off the statement by which the dump's own 'gosem.cut.vars' lays the variable. In a bare row this is a premise. The card (YtgmkomnoiffapaaGreatDoorCards.lean) ties it to the program's text. -/
def laid_ragpicker_class_sizes {H : Type} : DataW H := .agg [.lit (.int .i64 2), .lit (.int .i64 4), .lit (.int .i64 8)]

/-- 'ragpickerlaw14.MutateStores': WHATEVER THE INPUT: true; the input reads as it did. -/
def mutateStoresSpec : ChangeSpec := { name := "mutateStores", fn := fun _ => fun
  | [d1, d2, d3] => { results := [.lit (.bool true)], args := [d1, d2, d3] }
  | _ => none }
def mutateStoresRow : OpenClaim := { program := "ytgmkomnoiffapaagreatdoor", sum := "538e6788b89efce1e2fc781193d7d298c5611b272b9fc9e9e356f2d9af3d357a", func := "ragpicker/ragpickerlaw14.MutateStores", spec := "mutateStores", unfollowed := true, recurses := true, named := ["ragpicker/class.sizes"], apart := false, laid := [("ragpicker/class.sizes", laid_ragpicker_class_sizes)] }
def MutateStoresSaid : Prop := mutateStoresRow.holds Tryz.pinned (OpenSpec.ofChange mutateStoresSpec)

/-- ITS FALSE NEIGHBOUR: 'it returns false'. Refute it at one input. -/
def mutateStoresWrong : ChangeSpec := { name := "mutateStores", fn := fun _ => fun
  | [d1, d2, d3] => { results := [.lit (.bool false)], args := [d1, d2, d3] }
  | _ => none }
def MutateStoresWrongFalsely : Prop := mutateStoresRow.holds Tryz.pinned (OpenSpec.ofChange mutateStoresWrong)

/-- 'ragpickerlaw14.MutateNew': WHATEVER THE INPUT: true; the input reads as it did. -/
def mutateNewSpec : ChangeSpec := { name := "mutateNew", fn := fun _ => fun
  | [d1, d2, d3] => { results := [.lit (.bool true)], args := [d1, d2, d3] }
  | _ => none }
def mutateNewRow : OpenClaim := { program := "ytgmkomnoiffapaagreatdoor", sum := "538e6788b89efce1e2fc781193d7d298c5611b272b9fc9e9e356f2d9af3d357a", func := "ragpicker/ragpickerlaw14.MutateNew", spec := "mutateNew", unfollowed := true, recurses := true, named := ["ragpicker/class.sizes"], apart := false, laid := [("ragpicker/class.sizes", laid_ragpicker_class_sizes)] }
def MutateNewSaid : Prop := mutateNewRow.holds Tryz.pinned (OpenSpec.ofChange mutateNewSpec)

/-- ITS FALSE NEIGHBOUR: 'it returns false'. Refute it at one input. -/
def mutateNewWrong : ChangeSpec := { name := "mutateNew", fn := fun _ => fun
  | [d1, d2, d3] => { results := [.lit (.bool false)], args := [d1, d2, d3] }
  | _ => none }
def MutateNewWrongFalsely : Prop := mutateNewRow.holds Tryz.pinned (OpenSpec.ofChange mutateNewWrong)

/-- 'ragpickerlaw15.HandTells': WHATEVER THE INPUT: true; the input reads as it did. -/
def handTellsSpec : ChangeSpec := { name := "handTells", fn := fun _ => fun
  | [d1, d2, d3, d4] => { results := [.lit (.bool true)], args := [d1, d2, d3, d4] }
  | _ => none }
def handTellsRow : OpenClaim := { program := "ytgmkomnoiffapaagreatdoor", sum := "538e6788b89efce1e2fc781193d7d298c5611b272b9fc9e9e356f2d9af3d357a", func := "ragpicker/ragpickerlaw15.HandTells", spec := "handTells", unfollowed := true, recurses := true, named := ["ragpicker/class.sizes"], apart := false, laid := [("ragpicker/class.sizes", laid_ragpicker_class_sizes)] }
def HandTellsSaid : Prop := handTellsRow.holds Tryz.pinned (OpenSpec.ofChange handTellsSpec)

/-- ITS FALSE NEIGHBOUR: 'it returns false'. Refute it at one input. -/
def handTellsWrong : ChangeSpec := { name := "handTells", fn := fun _ => fun
  | [d1, d2, d3, d4] => { results := [.lit (.bool false)], args := [d1, d2, d3, d4] }
  | _ => none }
def HandTellsWrongFalsely : Prop := handTellsRow.holds Tryz.pinned (OpenSpec.ofChange handTellsWrong)

/-- 'ragpickerlaw15.HandEnds': WHATEVER THE INPUT: true; the input reads as it did. -/
def handEndsSpec : ChangeSpec := { name := "handEnds", fn := fun _ => fun
  | [d1, d2, d3] => { results := [.lit (.bool true)], args := [d1, d2, d3] }
  | _ => none }
def handEndsRow : OpenClaim := { program := "ytgmkomnoiffapaagreatdoor", sum := "538e6788b89efce1e2fc781193d7d298c5611b272b9fc9e9e356f2d9af3d357a", func := "ragpicker/ragpickerlaw15.HandEnds", spec := "handEnds", unfollowed := true, recurses := true, named := ["ragpicker/class.sizes"], apart := false, laid := [("ragpicker/class.sizes", laid_ragpicker_class_sizes)] }
def HandEndsSaid : Prop := handEndsRow.holds Tryz.pinned (OpenSpec.ofChange handEndsSpec)

/-- ITS FALSE NEIGHBOUR: 'it returns false'. Refute it at one input. -/
def handEndsWrong : ChangeSpec := { name := "handEnds", fn := fun _ => fun
  | [d1, d2, d3] => { results := [.lit (.bool false)], args := [d1, d2, d3] }
  | _ => none }
def HandEndsWrongFalsely : Prop := handEndsRow.holds Tryz.pinned (OpenSpec.ofChange handEndsWrong)

/-- 'ragpickerlaw15.HandRoots': WHATEVER THE INPUT: true; the input reads as it did. -/
def handRootsSpec : ChangeSpec := { name := "handRoots", fn := fun _ => fun
  | [d1, d2, d3] => { results := [.lit (.bool true)], args := [d1, d2, d3] }
  | _ => none }
def handRootsRow : OpenClaim := { program := "ytgmkomnoiffapaagreatdoor", sum := "538e6788b89efce1e2fc781193d7d298c5611b272b9fc9e9e356f2d9af3d357a", func := "ragpicker/ragpickerlaw15.HandRoots", spec := "handRoots", unfollowed := true, recurses := true, named := ["ragpicker/class.sizes"], apart := false, laid := [("ragpicker/class.sizes", laid_ragpicker_class_sizes)] }
def HandRootsSaid : Prop := handRootsRow.holds Tryz.pinned (OpenSpec.ofChange handRootsSpec)

/-- ITS FALSE NEIGHBOUR: 'it returns false'. Refute it at one input. -/
def handRootsWrong : ChangeSpec := { name := "handRoots", fn := fun _ => fun
  | [d1, d2, d3] => { results := [.lit (.bool false)], args := [d1, d2, d3] }
  | _ => none }
def HandRootsWrongFalsely : Prop := handRootsRow.holds Tryz.pinned (OpenSpec.ofChange handRootsWrong)

/-- 'ragpickerlaw15.HandBegins': WHATEVER THE INPUT: true; the input reads as it did. -/
def handBeginsSpec : ChangeSpec := { name := "handBegins", fn := fun _ => fun
  | [d1, d2, d3] => { results := [.lit (.bool true)], args := [d1, d2, d3] }
  | _ => none }
def handBeginsRow : OpenClaim := { program := "ytgmkomnoiffapaagreatdoor", sum := "538e6788b89efce1e2fc781193d7d298c5611b272b9fc9e9e356f2d9af3d357a", func := "ragpicker/ragpickerlaw15.HandBegins", spec := "handBegins", unfollowed := true, recurses := true, named := ["ragpicker/class.sizes"], apart := false, laid := [("ragpicker/class.sizes", laid_ragpicker_class_sizes)] }
def HandBeginsSaid : Prop := handBeginsRow.holds Tryz.pinned (OpenSpec.ofChange handBeginsSpec)

/-- ITS FALSE NEIGHBOUR: 'it returns false'. Refute it at one input. -/
def handBeginsWrong : ChangeSpec := { name := "handBegins", fn := fun _ => fun
  | [d1, d2, d3] => { results := [.lit (.bool false)], args := [d1, d2, d3] }
  | _ => none }
def HandBeginsWrongFalsely : Prop := handBeginsRow.holds Tryz.pinned (OpenSpec.ofChange handBeginsWrong)

/-- 'ragpickerlaw15.HandStays': WHATEVER THE INPUT: true; the input reads as it did. -/
def handStaysSpec : ChangeSpec := { name := "handStays", fn := fun _ => fun
  | [d1, d2, d3] => { results := [.lit (.bool true)], args := [d1, d2, d3] }
  | _ => none }
def handStaysRow : OpenClaim := { program := "ytgmkomnoiffapaagreatdoor", sum := "538e6788b89efce1e2fc781193d7d298c5611b272b9fc9e9e356f2d9af3d357a", func := "ragpicker/ragpickerlaw15.HandStays", spec := "handStays", unfollowed := true, recurses := true, named := ["ragpicker/class.sizes"], apart := false, laid := [("ragpicker/class.sizes", laid_ragpicker_class_sizes)] }
def HandStaysSaid : Prop := handStaysRow.holds Tryz.pinned (OpenSpec.ofChange handStaysSpec)

/-- ITS FALSE NEIGHBOUR: 'it returns false'. Refute it at one input. -/
def handStaysWrong : ChangeSpec := { name := "handStays", fn := fun _ => fun
  | [d1, d2, d3] => { results := [.lit (.bool false)], args := [d1, d2, d3] }
  | _ => none }
def HandStaysWrongFalsely : Prop := handStaysRow.holds Tryz.pinned (OpenSpec.ofChange handStaysWrong)

/-- 'ragpickerlaw15.HandOnce': WHATEVER THE INPUT: true; the input reads as it did. -/
def handOnceSpec : ChangeSpec := { name := "handOnce", fn := fun _ => fun
  | [d1, d2, d3] => { results := [.lit (.bool true)], args := [d1, d2, d3] }
  | _ => none }
def handOnceRow : OpenClaim := { program := "ytgmkomnoiffapaagreatdoor", sum := "538e6788b89efce1e2fc781193d7d298c5611b272b9fc9e9e356f2d9af3d357a", func := "ragpicker/ragpickerlaw15.HandOnce", spec := "handOnce", unfollowed := true, recurses := true, named := ["ragpicker/class.sizes"], apart := false, laid := [("ragpicker/class.sizes", laid_ragpicker_class_sizes)] }
def HandOnceSaid : Prop := handOnceRow.holds Tryz.pinned (OpenSpec.ofChange handOnceSpec)

/-- ITS FALSE NEIGHBOUR: 'it returns false'. Refute it at one input. -/
def handOnceWrong : ChangeSpec := { name := "handOnce", fn := fun _ => fun
  | [d1, d2, d3] => { results := [.lit (.bool false)], args := [d1, d2, d3] }
  | _ => none }
def HandOnceWrongFalsely : Prop := handOnceRow.holds Tryz.pinned (OpenSpec.ofChange handOnceWrong)

/- THE SECOND FORM. 'bulk': how many values and letters a reading holds, each counted each time it is reached (what is shared counts as often as it is met; a slice's spare places count too). A statement '..UptoSaid' is the law's where the arguments, and the package variables that the reading takes, are together of bulk at most 1048576: NARROWER than '..Said'. Prove '..Said' where nothing that the law and all that it calls make is longer than what came in: it says more and counts as full. Else prove '..UptoSaid'. A law counts once. -/
mutual
def uptoBulk {H : Type} : DataW H → Nat
  | .lit (.string bytes) => bytes.length + 1
  | .lit _ => 1
  | .nil => 1
  | .ptr d => uptoBulk d + 1
  | .slice elems spare => uptoBulkAll elems + uptoBulkAll spare + 1
  | .agg parts => uptoBulkAll parts + 1
  | .iface _ d => uptoBulk d + 1
  | .map entries => uptoBulkEntries entries + 1
  | .held _ => 1
def uptoBulkAll {H : Type} : List (DataW H) → Nat
  | [] => 0
  | d :: r => uptoBulk d + uptoBulkAll r
def uptoBulkEntries {H : Type} : List (Lit × DataW H) → Nat
  | [] => 0
  | x :: r => uptoBulkEntry x + uptoBulkEntries r
def uptoBulkEntry {H : Type} : Lit × DataW H → Nat
  | (.string bytes, d) => bytes.length + uptoBulk d + 1
  | (_, d) => uptoBulk d + 1
 end
def uptoSmall : (H : Type) → List (DataW H) → Bool := fun _ ds => decide (uptoBulkAll ds ≤ 1048576)
def OpenSpec.upto (s : _root_.Go.ChangeSpec) : _root_.Go.OpenSpec := { _root_.Go.OpenSpec.ofChange s with cond := some uptoSmall }

/-- 'ragpickerlaw14.MutateStores', WHERE WHAT IT READS IS OF BULK AT MOST 1048576: true; the input reads as it did. -/
def mutateStoresUptoRow : OpenClaim := { program := "ytgmkomnoiffapaagreatdoor", sum := "538e6788b89efce1e2fc781193d7d298c5611b272b9fc9e9e356f2d9af3d357a", func := "ragpicker/ragpickerlaw14.MutateStores", spec := "mutateStores", unfollowed := true, recurses := true, named := ["ragpicker/class.sizes"], apart := false, laid := [("ragpicker/class.sizes", laid_ragpicker_class_sizes)], narrowed := true }
def MutateStoresUptoSaid : Prop := mutateStoresUptoRow.holds Tryz.pinned (OpenSpec.upto mutateStoresSpec)

/-- 'ragpickerlaw14.MutateNew', WHERE WHAT IT READS IS OF BULK AT MOST 1048576: true; the input reads as it did. -/
def mutateNewUptoRow : OpenClaim := { program := "ytgmkomnoiffapaagreatdoor", sum := "538e6788b89efce1e2fc781193d7d298c5611b272b9fc9e9e356f2d9af3d357a", func := "ragpicker/ragpickerlaw14.MutateNew", spec := "mutateNew", unfollowed := true, recurses := true, named := ["ragpicker/class.sizes"], apart := false, laid := [("ragpicker/class.sizes", laid_ragpicker_class_sizes)], narrowed := true }
def MutateNewUptoSaid : Prop := mutateNewUptoRow.holds Tryz.pinned (OpenSpec.upto mutateNewSpec)

/-- 'ragpickerlaw15.HandTells', WHERE WHAT IT READS IS OF BULK AT MOST 1048576: true; the input reads as it did. -/
def handTellsUptoRow : OpenClaim := { program := "ytgmkomnoiffapaagreatdoor", sum := "538e6788b89efce1e2fc781193d7d298c5611b272b9fc9e9e356f2d9af3d357a", func := "ragpicker/ragpickerlaw15.HandTells", spec := "handTells", unfollowed := true, recurses := true, named := ["ragpicker/class.sizes"], apart := false, laid := [("ragpicker/class.sizes", laid_ragpicker_class_sizes)], narrowed := true }
def HandTellsUptoSaid : Prop := handTellsUptoRow.holds Tryz.pinned (OpenSpec.upto handTellsSpec)

/-- 'ragpickerlaw15.HandEnds', WHERE WHAT IT READS IS OF BULK AT MOST 1048576: true; the input reads as it did. -/
def handEndsUptoRow : OpenClaim := { program := "ytgmkomnoiffapaagreatdoor", sum := "538e6788b89efce1e2fc781193d7d298c5611b272b9fc9e9e356f2d9af3d357a", func := "ragpicker/ragpickerlaw15.HandEnds", spec := "handEnds", unfollowed := true, recurses := true, named := ["ragpicker/class.sizes"], apart := false, laid := [("ragpicker/class.sizes", laid_ragpicker_class_sizes)], narrowed := true }
def HandEndsUptoSaid : Prop := handEndsUptoRow.holds Tryz.pinned (OpenSpec.upto handEndsSpec)

/-- 'ragpickerlaw15.HandRoots', WHERE WHAT IT READS IS OF BULK AT MOST 1048576: true; the input reads as it did. -/
def handRootsUptoRow : OpenClaim := { program := "ytgmkomnoiffapaagreatdoor", sum := "538e6788b89efce1e2fc781193d7d298c5611b272b9fc9e9e356f2d9af3d357a", func := "ragpicker/ragpickerlaw15.HandRoots", spec := "handRoots", unfollowed := true, recurses := true, named := ["ragpicker/class.sizes"], apart := false, laid := [("ragpicker/class.sizes", laid_ragpicker_class_sizes)], narrowed := true }
def HandRootsUptoSaid : Prop := handRootsUptoRow.holds Tryz.pinned (OpenSpec.upto handRootsSpec)

/-- 'ragpickerlaw15.HandBegins', WHERE WHAT IT READS IS OF BULK AT MOST 1048576: true; the input reads as it did. -/
def handBeginsUptoRow : OpenClaim := { program := "ytgmkomnoiffapaagreatdoor", sum := "538e6788b89efce1e2fc781193d7d298c5611b272b9fc9e9e356f2d9af3d357a", func := "ragpicker/ragpickerlaw15.HandBegins", spec := "handBegins", unfollowed := true, recurses := true, named := ["ragpicker/class.sizes"], apart := false, laid := [("ragpicker/class.sizes", laid_ragpicker_class_sizes)], narrowed := true }
def HandBeginsUptoSaid : Prop := handBeginsUptoRow.holds Tryz.pinned (OpenSpec.upto handBeginsSpec)

/-- 'ragpickerlaw15.HandStays', WHERE WHAT IT READS IS OF BULK AT MOST 1048576: true; the input reads as it did. -/
def handStaysUptoRow : OpenClaim := { program := "ytgmkomnoiffapaagreatdoor", sum := "538e6788b89efce1e2fc781193d7d298c5611b272b9fc9e9e356f2d9af3d357a", func := "ragpicker/ragpickerlaw15.HandStays", spec := "handStays", unfollowed := true, recurses := true, named := ["ragpicker/class.sizes"], apart := false, laid := [("ragpicker/class.sizes", laid_ragpicker_class_sizes)], narrowed := true }
def HandStaysUptoSaid : Prop := handStaysUptoRow.holds Tryz.pinned (OpenSpec.upto handStaysSpec)

/-- 'ragpickerlaw15.HandOnce', WHERE WHAT IT READS IS OF BULK AT MOST 1048576: true; the input reads as it did. -/
def handOnceUptoRow : OpenClaim := { program := "ytgmkomnoiffapaagreatdoor", sum := "538e6788b89efce1e2fc781193d7d298c5611b272b9fc9e9e356f2d9af3d357a", func := "ragpicker/ragpickerlaw15.HandOnce", spec := "handOnce", unfollowed := true, recurses := true, named := ["ragpicker/class.sizes"], apart := false, laid := [("ragpicker/class.sizes", laid_ragpicker_class_sizes)], narrowed := true }
def HandOnceUptoSaid : Prop := handOnceUptoRow.holds Tryz.pinned (OpenSpec.upto handOnceSpec)

end Rows
end Go.Proofs.YtgmkomnoiffapaaGreatDoor
