/-
  The chapter's examples hold: the law's own call of them returns true and leaves the world as it was.
-/
import Derived.Test.YtmcmgkmekcchdaaDoorClsRef
namespace Go.Proofs.YtmcmgkmekcchdaaDoor
open Go.RowKit

theorem awake_yes (w : World) (hz : Sz w) :
    Calls Tryd.prog 9 #[] w fun e w' => e = .returned (.bool true) ∧ w = w' := by
  have H := Lib.hid hz
  clear hz
  go_enter Tryd.func9, Tryd.ntmps9
  go_wp2_with fail
  refine (of_1 3 _ H.out (by decide) (by decide)).mono ?_
  rintro e w1 ⟨rfl, rfl⟩
  go_wp2_with fail
  refine (of_2 7 _ H.out (by decide) (by decide)).mono ?_
  rintro e w1 ⟨rfl, rfl⟩
  go_wp2_with fail
  refine (run_1 8 _ H.out (by decide) (by decide)).mono ?_
  rintro e w1 ⟨rfl, rfl⟩
  go_wp2_with fail
  refine (run_2 16 _ H.out (by decide) (by decide)).mono ?_
  rintro e w1 ⟨rfl, rfl⟩
  go_wp2
  go_ret
  exact ⟨rfl, rfl⟩
end Go.Proofs.YtmcmgkmekcchdaaDoor
