/-
  The frame round a law's walk of stage 3: what the listed table gives a walk, a world that meets it, and what a law owes that leaves the world as it was.
-/
import Derived.Test.YtmcmgkmekcchdaaDoorRows
import Derived.Test.YtmcmgkmekcchdaaDoorCards
import Derived.Test.YtmcmgkmekcchdaaDoorTie
import Derived.Test.YtmcmgkmekcchdaaDoorClsAwake
import Derived.ProofKit
import Derived.OpenShut
import Derived.LaidMore
import Derived.Lib.LaidTab
import Derived.Stop.Joined
import Derived.SevenTiedAt
namespace Go.Proofs.YtmcmgkmekcchdaaDoor
open Go.ChangeShapes Go.WideShapes Go.ChangeAt Go.RowKit

theorem own : ownKnob Tryd.prog.godebug = none := by kernel_rfl
def laidSizes : List (String × DataW Unit) := [("ragpicker/class.sizes", Rows.laid_ragpicker_class_sizes)]
theorem gSizes : Tryd.prog.globalNamed "ragpicker/class.sizes" = some 0 := by kernel_rfl
theorem tSizes : (Tryd.prog.globals[0]?).map (·.type) = some 29 := by kernel_rfl
theorem cInt : Tryd.prog.cellsOf 3 = 1 := by kernel_rfl
theorem cSizes : Tryd.prog.cellsOf 29 = 3 := by kernel_rfl
theorem of_laid {W : World} (h : laidMetH Tryd.prog laidSizes W) : Sz W := by
  rw [MakeChecks.laidMetH_plain _ _ _ (by kernel_rfl)] at h
  have hT : Lib.TabIs Tryd.prog W "ragpicker/class.sizes" .i64 [2, 4, 8] := Lib.tabIs_of_head gSizes tSizes Tryd.underlying29 Tryd.underlying3 cInt cSizes h
  exact ⟨hT.cell gSizes 0 (by decide), hT.cell gSizes 1 (by decide), hT.cell gSizes 2 (by decide)⟩
theorem door_met (os : Os) (args : Array Value) : laidMetH Tryd.prog laidSizes ((World.doorLaid Tryd.prog 400 os).forCall (fun _ _ => 0) ⟨#[], args, []⟩).memory :=
  laidMetH_of_parts3 (fuel := 8) (laidMet_of_run' 8 (by kernel_rfl) (by kernel_rfl)) (by kernel_rfl) (by kernel_rfl)

section
variable {H : Type} {enc : TypeId × Value → H} {P : Program}
/-- What a law owes that returned true and left the world as it was. -/
theorem law_post {f : Func} {s : ChangeSpec} {W : World} {args : Array Value} {v : Value} {ds gs : List (DataW H)} {before : List MemPlace}
    (hW : DataW.Whole enc P f.params.toList s.vars false W args.toList ds gs before)
    (hres : ∀ (b : Nat) (sp : Nat → Bool) (hd : Bool), DataW.TrodAll enc P W b sp hd f.resultTypes.toList (v.resultList f.resultTypes.size) (s.fn H (ds ++ gs)).results [])
    (hargs : ∀ sp : Nat → Bool, DataW.TrodAll enc P W 0 sp true f.params.toList args.toList (s.fn H (ds ++ gs)).args [])
    (hvars : ∀ sp : Nat → Bool, DataW.TrodVars enc P W sp s.vars (s.fn H (ds ++ gs)).vars []) : s.post enc P f false true false false W args v W := by
  refine ⟨ds, gs, before, [], [], [], hW, hres _ _ _, hargs _, hvars _, World.keptBut_refl _ _, ?_⟩
  intro h
  cases h
end
end Go.Proofs.YtmcmgkmekcchdaaDoor
