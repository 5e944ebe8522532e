/-
  Package pages' Find in whatever case, and the reference's Free and Find.
-/
import Derived.Test.YtlmaeppckaempaaDoorPgRefMay
namespace Go.Proofs.YtlmaeppckaempaaDoor
open Go.RowKit

theorem isRun_no (c : Int) (w : World) (h : runB c = false) :
    Calls Tryd.prog 43 #[.int .i64 c] w fun e w' => e = .returned (.bool false) ∧ w = w' := by
  rw [← h]; exact isRun_any c w
theorem isRun_yes (c : Int) (w : World) (h : runB c = true) :
    Calls Tryd.prog 43 #[.int .i64 c] w fun e w' => e = .returned (.bool true) ∧ w = w' := by
  rw [← h]; exact isRun_any c w
theorem isClass_no (c : Int) (w : World) (h : clB c = false) :
    Calls Tryd.prog 36 #[.int .i64 c] w fun e w' => e = .returned (.bool false) ∧ w = w' := by
  rw [← h]; exact isClass_any c w
theorem isClass_yes (c : Int) (w : World) (h : clB c = true) :
    Calls Tryd.prog 36 #[.int .i64 c] w fun e w' => e = .returned (.bool true) ∧ w = w' := by
  rw [← h]; exact isClass_any c w

end Go.Proofs.YtlmaeppckaempaaDoor
