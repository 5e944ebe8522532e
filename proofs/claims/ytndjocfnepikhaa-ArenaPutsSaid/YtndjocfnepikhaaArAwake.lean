/-
  The chapter's example, of package arena: two pages have the addresses from 16 to 47, and 32 is on page 1.
-/
import Derived.Test.YtndjocfnepikhaaIns
namespace Go.Proofs.Ytndjocfnepikhaa
open Go.RowKit

theorem awake_yes (w : World) :
    Calls Try.prog 10 #[] w fun e w' => e = .returned (.bool true) ∧ Below w.heap.size w w' := by
  go_enter Try.func10, Try.ntmps10
  go_wp2_with fail
  refine (new_ok 2 _ (by decide) (by decide)).mono ?_
  rintro e w1 ⟨g, c, rfl, hm, hb⟩
  have HR := Lib.hid hm.row
  clear hm
  go_wp2_with fail
  refine (page_ok _ _ _ 32 _ (by decide) (by decide) (by decide)).mono ?_
  rintro e w' ⟨rfl, rfl⟩
  go_wp2_with fail
  refine (get_ok _ _ _ _ _ 47 _ (by decide) (by decide) (by decide) HR.out).mono ?_
  rintro e w' ⟨rfl, rfl⟩
  go_wp2_with fail
  refine (get_none _ _ _ 48 _ (by decide) (by decide) (by decide)).mono ?_
  rintro e w' ⟨rfl, rfl⟩
  go_wp2_with fail
  refine (may_yes _ _ _ _ (by decide)).mono ?_
  rintro e w' ⟨rfl, rfl⟩
  go_wp2
  go_ret
  exact ⟨rfl, hb⟩
end Go.Proofs.Ytndjocfnepikhaa
