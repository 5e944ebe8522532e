/-
  NARROWER THAN 'FOR EVERY INPUT', by the rows' own cells (each row's printed sentence says how): AllocTakes: laid · ReapFrees: laid · CardsTells: laid.
  DERIVED. THE GIVEN ROWS OF THIS SEAT. 3 by the template 'for every input the law returns true; each argument reads behind the call as it read before'; 0 by the template 'total and deterministic' (their statements: YtmalopciboikhaaGreatDoorTotals.lean).
  GIVEN WITH THE SEED: the statements are not yours to turn. If you find one false, say at which input.
  Laid BY PROGRAM, IN A SANDBOX (cutbox-rows.mjs): the forced cells as the released guide's own fill.sh prints them over the translation d8105a8f5e79a727… (all of the seat's roots in one cut). By AI agents, Wed Nov 11 2026. No macro, syntax, notation, axiom, sorry.
-/
import Derived.Test.YtmalopciboikhaaGreatDoorChecked
import GoSem.Claim
import GoSem.ClaimJoined
import GoSem.ClaimMapViews
import Derived.JoinedTies
import Derived.KernelRfl
namespace Go.Proofs.YtmalopciboikhaaGreatDoor
/- THE CELL 'sum', in the pinned program and in every row, IS THE sha256 OF THE DUMP (.gsa) THAT YtmalopciboikhaaGreatDoorProg.lean LOADS. Nothing in Lean hashes anything: it is a label: what it is worth is what the hold of that sum in a sandbox is worth. -/
noncomputable def Tryz.pinned : Pinned := { name := "ytmalopciboikhaagreatdoor", sum := "d8105a8f5e79a727de40a0a011f852a9d47326963a57cd97a81abdb4b9f307ad", checked := Tryz.checked }
namespace Rows
def none {H : Type} : Left H := { results := [], args := [] }

/- WHAT THE LISTED PACKAGE-LEVEL VARIABLES READ AS WHEN THE CALL BEGINS. Each datum BY PROGRAM (the guide's laid-datum.mjs) off the statement by which the dump's own 'gosem.cut.vars' lays the variable. In a bare row this is a premise. The card (YtmalopciboikhaaGreatDoorCards.lean) ties it to the program's text. -/
def laid_ragpicker_class_sizes {H : Type} : DataW H := .agg [.lit (.int .i64 2), .lit (.int .i64 4), .lit (.int .i64 8)]

/-- 'ragpickerlaw08.AllocTakes': WHATEVER THE INPUT: true; the input reads as it did. -/
def allocTakesSpec : ChangeSpec := { name := "allocTakes", fn := fun _ => fun
  | [d1, d2, d3] => { results := [.lit (.bool true)], args := [d1, d2, d3] }
  | _ => none }
def allocTakesRow : OpenClaim := { program := "ytmalopciboikhaagreatdoor", sum := "d8105a8f5e79a727de40a0a011f852a9d47326963a57cd97a81abdb4b9f307ad", func := "ragpicker/ragpickerlaw08.AllocTakes", spec := "allocTakes", unfollowed := true, recurses := true, named := ["ragpicker/class.sizes"], apart := false, laid := [("ragpicker/class.sizes", laid_ragpicker_class_sizes)] }
def AllocTakesSaid : Prop := allocTakesRow.holds Tryz.pinned (OpenSpec.ofChange allocTakesSpec)

/-- ITS FALSE NEIGHBOUR: 'it returns false'. Refute it at one input. -/
def allocTakesWrong : ChangeSpec := { name := "allocTakes", fn := fun _ => fun
  | [d1, d2, d3] => { results := [.lit (.bool false)], args := [d1, d2, d3] }
  | _ => none }
def AllocTakesWrongFalsely : Prop := allocTakesRow.holds Tryz.pinned (OpenSpec.ofChange allocTakesWrong)

/-- 'ragpickerlaw09.ReapFrees': WHATEVER THE INPUT: true; the input reads as it did. -/
def reapFreesSpec : ChangeSpec := { name := "reapFrees", fn := fun _ => fun
  | [d1, d2, d3] => { results := [.lit (.bool true)], args := [d1, d2, d3] }
  | _ => none }
def reapFreesRow : OpenClaim := { program := "ytmalopciboikhaagreatdoor", sum := "d8105a8f5e79a727de40a0a011f852a9d47326963a57cd97a81abdb4b9f307ad", func := "ragpicker/ragpickerlaw09.ReapFrees", spec := "reapFrees", unfollowed := true, recurses := true, named := ["ragpicker/class.sizes"], apart := false, laid := [("ragpicker/class.sizes", laid_ragpicker_class_sizes)] }
def ReapFreesSaid : Prop := reapFreesRow.holds Tryz.pinned (OpenSpec.ofChange reapFreesSpec)

/-- ITS FALSE NEIGHBOUR: 'it returns false'. Refute it at one input. -/
def reapFreesWrong : ChangeSpec := { name := "reapFrees", fn := fun _ => fun
  | [d1, d2, d3] => { results := [.lit (.bool false)], args := [d1, d2, d3] }
  | _ => none }
def ReapFreesWrongFalsely : Prop := reapFreesRow.holds Tryz.pinned (OpenSpec.ofChange reapFreesWrong)

/-- 'ragpickerlaw10.CardsTells': WHATEVER THE INPUT: true; the input reads as it did. -/
def cardsTellsSpec : ChangeSpec := { name := "cardsTells", fn := fun _ => fun
  | [d1, d2, d3] => { results := [.lit (.bool true)], args := [d1, d2, d3] }
  | _ => none }
def cardsTellsRow : OpenClaim := { program := "ytmalopciboikhaagreatdoor", sum := "d8105a8f5e79a727de40a0a011f852a9d47326963a57cd97a81abdb4b9f307ad", func := "ragpicker/ragpickerlaw10.CardsTells", spec := "cardsTells", unfollowed := true, recurses := true, named := ["ragpicker/class.sizes"], apart := false, laid := [("ragpicker/class.sizes", laid_ragpicker_class_sizes)] }
def CardsTellsSaid : Prop := cardsTellsRow.holds Tryz.pinned (OpenSpec.ofChange cardsTellsSpec)

/-- ITS FALSE NEIGHBOUR: 'it returns false'. Refute it at one input. -/
def cardsTellsWrong : ChangeSpec := { name := "cardsTells", fn := fun _ => fun
  | [d1, d2, d3] => { results := [.lit (.bool false)], args := [d1, d2, d3] }
  | _ => none }
def CardsTellsWrongFalsely : Prop := cardsTellsRow.holds Tryz.pinned (OpenSpec.ofChange cardsTellsWrong)

/- THE SECOND FORM. 'bulk': how many values and letters a reading holds, each counted each time it is reached (what is shared counts as often as it is met; a slice's spare places count too). A statement '..UptoSaid' is the law's where the arguments, and the package variables that the reading takes, are together of bulk at most 1048576: NARROWER than '..Said'. Prove '..Said' where nothing that the law and all that it calls make is longer than what came in: it says more and counts as full. Else prove '..UptoSaid'. A law counts once. -/
mutual
def uptoBulk {H : Type} : DataW H → Nat
  | .lit (.string bytes) => bytes.length + 1
  | .lit _ => 1
  | .nil => 1
  | .ptr d => uptoBulk d + 1
  | .slice elems spare => uptoBulkAll elems + uptoBulkAll spare + 1
  | .agg parts => uptoBulkAll parts + 1
  | .iface _ d => uptoBulk d + 1
  | .map entries => uptoBulkEntries entries + 1
  | .held _ => 1
def uptoBulkAll {H : Type} : List (DataW H) → Nat
  | [] => 0
  | d :: r => uptoBulk d + uptoBulkAll r
def uptoBulkEntries {H : Type} : List (Lit × DataW H) → Nat
  | [] => 0
  | x :: r => uptoBulkEntry x + uptoBulkEntries r
def uptoBulkEntry {H : Type} : Lit × DataW H → Nat
  | (.string bytes, d) => bytes.length + uptoBulk d + 1
  | (_, d) => uptoBulk d + 1
 end
def uptoSmall : (H : Type) → List (DataW H) → Bool := fun _ ds => decide (uptoBulkAll ds ≤ 1048576)
def OpenSpec.upto (s : _root_.Go.ChangeSpec) : _root_.Go.OpenSpec := { _root_.Go.OpenSpec.ofChange s with cond := some uptoSmall }

/-- 'ragpickerlaw08.AllocTakes', WHERE WHAT IT READS IS OF BULK AT MOST 1048576: true; the input reads as it did. -/
def allocTakesUptoRow : OpenClaim := { program := "ytmalopciboikhaagreatdoor", sum := "d8105a8f5e79a727de40a0a011f852a9d47326963a57cd97a81abdb4b9f307ad", func := "ragpicker/ragpickerlaw08.AllocTakes", spec := "allocTakes", unfollowed := true, recurses := true, named := ["ragpicker/class.sizes"], apart := false, laid := [("ragpicker/class.sizes", laid_ragpicker_class_sizes)], narrowed := true }
def AllocTakesUptoSaid : Prop := allocTakesUptoRow.holds Tryz.pinned (OpenSpec.upto allocTakesSpec)

/-- 'ragpickerlaw09.ReapFrees', WHERE WHAT IT READS IS OF BULK AT MOST 1048576: true; the input reads as it did. -/
def reapFreesUptoRow : OpenClaim := { program := "ytmalopciboikhaagreatdoor", sum := "d8105a8f5e79a727de40a0a011f852a9d47326963a57cd97a81abdb4b9f307ad", func := "ragpicker/ragpickerlaw09.ReapFrees", spec := "reapFrees", unfollowed := true, recurses := true, named := ["ragpicker/class.sizes"], apart := false, laid := [("ragpicker/class.sizes", laid_ragpicker_class_sizes)], narrowed := true }
def ReapFreesUptoSaid : Prop := reapFreesUptoRow.holds Tryz.pinned (OpenSpec.upto reapFreesSpec)

/-- 'ragpickerlaw10.CardsTells', WHERE WHAT IT READS IS OF BULK AT MOST 1048576: true; the input reads as it did. -/
def cardsTellsUptoRow : OpenClaim := { program := "ytmalopciboikhaagreatdoor", sum := "d8105a8f5e79a727de40a0a011f852a9d47326963a57cd97a81abdb4b9f307ad", func := "ragpicker/ragpickerlaw10.CardsTells", spec := "cardsTells", unfollowed := true, recurses := true, named := ["ragpicker/class.sizes"], apart := false, laid := [("ragpicker/class.sizes", laid_ragpicker_class_sizes)], narrowed := true }
def CardsTellsUptoSaid : Prop := cardsTellsUptoRow.holds Tryz.pinned (OpenSpec.upto cardsTellsSpec)

end Rows
end Go.Proofs.YtmalopciboikhaaGreatDoor
