/-
  NARROWER THAN 'FOR EVERY INPUT', by the rows' own cells (each row's printed sentence says how): ShadeKeeps: laid · ShadeAll: laid · ShadeEpoch: laid · ShadeNone: laid.
  DERIVED. THE GIVEN ROWS OF THIS SEAT. 4 by the template 'for every input the law returns true; each argument reads behind the call as it read before'; 0 by the template 'total and deterministic' (their statements: YtdmclfolooiccaaDoorTotals.lean).
  GIVEN WITH THE SEED: the statements are not yours to turn. If you find one false, say at which input.
  Laid BY PROGRAM, IN A SANDBOX (cutbox-rows.mjs): the forced cells as the released guide's own fill.sh prints them over the translation 8ecd0b7be20e6c10… (all of the seat's roots in one cut). By AI agents, Wed Nov 11 2026. No macro, syntax, notation, axiom, sorry.
-/
import Derived.Test.YtdmclfolooiccaaDoorChecked
import GoSem.Claim
import GoSem.ClaimJoined
import GoSem.ClaimMapViews
import Derived.JoinedTies
import Derived.KernelRfl
namespace Go.Proofs.YtdmclfolooiccaaDoor
/- THE CELL 'sum', in the pinned program and in every row, IS THE sha256 OF THE DUMP (.gsa) THAT YtdmclfolooiccaaDoorProg.lean LOADS. Nothing in Lean hashes anything: it is a label: what it is worth is what the hold of that sum in a sandbox is worth. -/
noncomputable def Tryd.pinned : Pinned := { name := "ytdmclfolooiccaadoor", sum := "8ecd0b7be20e6c10ff21d5418ad4adf5310d91cee015018b647f052871b6db05", checked := Tryd.checked }
namespace Rows
def none {H : Type} : Left H := { results := [], args := [] }

/- WHAT THE LISTED PACKAGE-LEVEL VARIABLES READ AS WHEN THE CALL BEGINS. Each datum BY PROGRAM (the guide's laid-datum.mjs) off the statement by which the dump's own 'gosem.cut.vars' lays the variable. In a bare row this is a premise. The card (YtdmclfolooiccaaDoorCards.lean) ties it to the program's text. -/
def laid_ragpicker_class_sizes {H : Type} : DataW H := .agg [.lit (.int .i64 2), .lit (.int .i64 4), .lit (.int .i64 8)]

/-- 'ragpickerlaw11.ShadeKeeps': WHATEVER THE INPUT: true; the input reads as it did. -/
def shadeKeepsSpec : ChangeSpec := { name := "shadeKeeps", fn := fun _ => fun
  | [d1, d2, d3] => { results := [.lit (.bool true)], args := [d1, d2, d3] }
  | _ => none }
def shadeKeepsRow : OpenClaim := { program := "ytdmclfolooiccaadoor", sum := "8ecd0b7be20e6c10ff21d5418ad4adf5310d91cee015018b647f052871b6db05", func := "ragpicker/ragpickerlaw11.ShadeKeeps", spec := "shadeKeeps", unfollowed := true, recurses := true, named := ["ragpicker/class.sizes"], apart := false, laid := [("ragpicker/class.sizes", laid_ragpicker_class_sizes)] }
def ShadeKeepsSaid : Prop := shadeKeepsRow.holds Tryd.pinned (OpenSpec.ofChange shadeKeepsSpec)

/-- ITS FALSE NEIGHBOUR: 'it returns false'. Refute it at one input. -/
def shadeKeepsWrong : ChangeSpec := { name := "shadeKeeps", fn := fun _ => fun
  | [d1, d2, d3] => { results := [.lit (.bool false)], args := [d1, d2, d3] }
  | _ => none }
def ShadeKeepsWrongFalsely : Prop := shadeKeepsRow.holds Tryd.pinned (OpenSpec.ofChange shadeKeepsWrong)

/-- 'ragpickerlaw11.ShadeAll': WHATEVER THE INPUT: true; the input reads as it did. -/
def shadeAllSpec : ChangeSpec := { name := "shadeAll", fn := fun _ => fun
  | [d1, d2] => { results := [.lit (.bool true)], args := [d1, d2] }
  | _ => none }
def shadeAllRow : OpenClaim := { program := "ytdmclfolooiccaadoor", sum := "8ecd0b7be20e6c10ff21d5418ad4adf5310d91cee015018b647f052871b6db05", func := "ragpicker/ragpickerlaw11.ShadeAll", spec := "shadeAll", unfollowed := true, recurses := true, named := ["ragpicker/class.sizes"], apart := false, laid := [("ragpicker/class.sizes", laid_ragpicker_class_sizes)] }
def ShadeAllSaid : Prop := shadeAllRow.holds Tryd.pinned (OpenSpec.ofChange shadeAllSpec)

/-- ITS FALSE NEIGHBOUR: 'it returns false'. Refute it at one input. -/
def shadeAllWrong : ChangeSpec := { name := "shadeAll", fn := fun _ => fun
  | [d1, d2] => { results := [.lit (.bool false)], args := [d1, d2] }
  | _ => none }
def ShadeAllWrongFalsely : Prop := shadeAllRow.holds Tryd.pinned (OpenSpec.ofChange shadeAllWrong)

/-- 'ragpickerlaw11.ShadeEpoch': WHATEVER THE INPUT: true; the input reads as it did. -/
def shadeEpochSpec : ChangeSpec := { name := "shadeEpoch", fn := fun _ => fun
  | [d1, d2] => { results := [.lit (.bool true)], args := [d1, d2] }
  | _ => none }
def shadeEpochRow : OpenClaim := { program := "ytdmclfolooiccaadoor", sum := "8ecd0b7be20e6c10ff21d5418ad4adf5310d91cee015018b647f052871b6db05", func := "ragpicker/ragpickerlaw11.ShadeEpoch", spec := "shadeEpoch", unfollowed := true, recurses := true, named := ["ragpicker/class.sizes"], apart := false, laid := [("ragpicker/class.sizes", laid_ragpicker_class_sizes)] }
def ShadeEpochSaid : Prop := shadeEpochRow.holds Tryd.pinned (OpenSpec.ofChange shadeEpochSpec)

/-- ITS FALSE NEIGHBOUR: 'it returns false'. Refute it at one input. -/
def shadeEpochWrong : ChangeSpec := { name := "shadeEpoch", fn := fun _ => fun
  | [d1, d2] => { results := [.lit (.bool false)], args := [d1, d2] }
  | _ => none }
def ShadeEpochWrongFalsely : Prop := shadeEpochRow.holds Tryd.pinned (OpenSpec.ofChange shadeEpochWrong)

/-- 'ragpickerlaw11.ShadeNone': WHATEVER THE INPUT: true; the input reads as it did. -/
def shadeNoneSpec : ChangeSpec := { name := "shadeNone", fn := fun _ => fun
  | [d1, d2, d3] => { results := [.lit (.bool true)], args := [d1, d2, d3] }
  | _ => none }
def shadeNoneRow : OpenClaim := { program := "ytdmclfolooiccaadoor", sum := "8ecd0b7be20e6c10ff21d5418ad4adf5310d91cee015018b647f052871b6db05", func := "ragpicker/ragpickerlaw11.ShadeNone", spec := "shadeNone", unfollowed := true, recurses := true, named := ["ragpicker/class.sizes"], apart := false, laid := [("ragpicker/class.sizes", laid_ragpicker_class_sizes)] }
def ShadeNoneSaid : Prop := shadeNoneRow.holds Tryd.pinned (OpenSpec.ofChange shadeNoneSpec)

/-- ITS FALSE NEIGHBOUR: 'it returns false'. Refute it at one input. -/
def shadeNoneWrong : ChangeSpec := { name := "shadeNone", fn := fun _ => fun
  | [d1, d2, d3] => { results := [.lit (.bool false)], args := [d1, d2, d3] }
  | _ => none }
def ShadeNoneWrongFalsely : Prop := shadeNoneRow.holds Tryd.pinned (OpenSpec.ofChange shadeNoneWrong)

/- THE SECOND FORM. 'bulk': how many values and letters a reading holds, each counted each time it is reached (what is shared counts as often as it is met; a slice's spare places count too). A statement '..UptoSaid' is the law's where the arguments, and the package variables that the reading takes, are together of bulk at most 1048576: NARROWER than '..Said'. Prove '..Said' where nothing that the law and all that it calls make is longer than what came in: it says more and counts as full. Else prove '..UptoSaid'. A law counts once. -/
mutual
def uptoBulk {H : Type} : DataW H → Nat
  | .lit (.string bytes) => bytes.length + 1
  | .lit _ => 1
  | .nil => 1
  | .ptr d => uptoBulk d + 1
  | .slice elems spare => uptoBulkAll elems + uptoBulkAll spare + 1
  | .agg parts => uptoBulkAll parts + 1
  | .iface _ d => uptoBulk d + 1
  | .map entries => uptoBulkEntries entries + 1
  | .held _ => 1
def uptoBulkAll {H : Type} : List (DataW H) → Nat
  | [] => 0
  | d :: r => uptoBulk d + uptoBulkAll r
def uptoBulkEntries {H : Type} : List (Lit × DataW H) → Nat
  | [] => 0
  | x :: r => uptoBulkEntry x + uptoBulkEntries r
def uptoBulkEntry {H : Type} : Lit × DataW H → Nat
  | (.string bytes, d) => bytes.length + uptoBulk d + 1
  | (_, d) => uptoBulk d + 1
 end
def uptoSmall : (H : Type) → List (DataW H) → Bool := fun _ ds => decide (uptoBulkAll ds ≤ 1048576)
def OpenSpec.upto (s : _root_.Go.ChangeSpec) : _root_.Go.OpenSpec := { _root_.Go.OpenSpec.ofChange s with cond := some uptoSmall }

/-- 'ragpickerlaw11.ShadeKeeps', WHERE WHAT IT READS IS OF BULK AT MOST 1048576: true; the input reads as it did. -/
def shadeKeepsUptoRow : OpenClaim := { program := "ytdmclfolooiccaadoor", sum := "8ecd0b7be20e6c10ff21d5418ad4adf5310d91cee015018b647f052871b6db05", func := "ragpicker/ragpickerlaw11.ShadeKeeps", spec := "shadeKeeps", unfollowed := true, recurses := true, named := ["ragpicker/class.sizes"], apart := false, laid := [("ragpicker/class.sizes", laid_ragpicker_class_sizes)], narrowed := true }
def ShadeKeepsUptoSaid : Prop := shadeKeepsUptoRow.holds Tryd.pinned (OpenSpec.upto shadeKeepsSpec)

/-- 'ragpickerlaw11.ShadeAll', WHERE WHAT IT READS IS OF BULK AT MOST 1048576: true; the input reads as it did. -/
def shadeAllUptoRow : OpenClaim := { program := "ytdmclfolooiccaadoor", sum := "8ecd0b7be20e6c10ff21d5418ad4adf5310d91cee015018b647f052871b6db05", func := "ragpicker/ragpickerlaw11.ShadeAll", spec := "shadeAll", unfollowed := true, recurses := true, named := ["ragpicker/class.sizes"], apart := false, laid := [("ragpicker/class.sizes", laid_ragpicker_class_sizes)], narrowed := true }
def ShadeAllUptoSaid : Prop := shadeAllUptoRow.holds Tryd.pinned (OpenSpec.upto shadeAllSpec)

/-- 'ragpickerlaw11.ShadeEpoch', WHERE WHAT IT READS IS OF BULK AT MOST 1048576: true; the input reads as it did. -/
def shadeEpochUptoRow : OpenClaim := { program := "ytdmclfolooiccaadoor", sum := "8ecd0b7be20e6c10ff21d5418ad4adf5310d91cee015018b647f052871b6db05", func := "ragpicker/ragpickerlaw11.ShadeEpoch", spec := "shadeEpoch", unfollowed := true, recurses := true, named := ["ragpicker/class.sizes"], apart := false, laid := [("ragpicker/class.sizes", laid_ragpicker_class_sizes)], narrowed := true }
def ShadeEpochUptoSaid : Prop := shadeEpochUptoRow.holds Tryd.pinned (OpenSpec.upto shadeEpochSpec)

/-- 'ragpickerlaw11.ShadeNone', WHERE WHAT IT READS IS OF BULK AT MOST 1048576: true; the input reads as it did. -/
def shadeNoneUptoRow : OpenClaim := { program := "ytdmclfolooiccaadoor", sum := "8ecd0b7be20e6c10ff21d5418ad4adf5310d91cee015018b647f052871b6db05", func := "ragpicker/ragpickerlaw11.ShadeNone", spec := "shadeNone", unfollowed := true, recurses := true, named := ["ragpicker/class.sizes"], apart := false, laid := [("ragpicker/class.sizes", laid_ragpicker_class_sizes)], narrowed := true }
def ShadeNoneUptoSaid : Prop := shadeNoneUptoRow.holds Tryd.pinned (OpenSpec.upto shadeNoneSpec)

end Rows
end Go.Proofs.YtdmclfolooiccaaDoor
