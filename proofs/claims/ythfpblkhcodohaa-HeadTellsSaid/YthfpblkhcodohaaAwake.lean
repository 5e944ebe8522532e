/-
  The chapter's example holds: the law's own call of it returns true and leaves what was in memory as it was.
-/
import Derived.Test.YthfpblkhcodohaaUnpack
namespace Go.Proofs.Ythfpblkhcodohaa
open Go.RowKit

theorem pack_awake (w : World) :
    Calls Try.prog 10 #[.agg #[.bool true, .bool false, .bool false, .int .i64 2, .int .i64 3, .int .i64 0]] w fun e w' => e = .returned (.tuple #[.int .i64 3089, .int .i64 0]) ∧ Below w.heap.size w w' :=
  pack_yes true false false 2 3 0 w rfl
theorem unpack_awake (w : World) :
    Calls Try.prog 12 #[.int .i64 3089] w fun e w' => e = .returned (.tuple #[.agg #[.bool true, .bool false, .bool false, .int .i64 2, .int .i64 3, .int .i64 0], .bool true]) ∧ Below w.heap.size w w' :=
  unpack_yes 3089 w rfl
theorem awake_yes (w : World) :
    Calls Try.prog 9 #[] w fun e w' => e = .returned (.bool true) ∧ Below w.heap.size w w' := by
  go_enter Try.func9, Try.ntmps9
  go_wp2_with fail
  refine (pack_awake _).mono ?_
  rintro e w1 ⟨rfl, hb1⟩
  go_wp2_with fail
  refine (unpack_awake _).mono ?_
  rintro e w2 ⟨rfl, hb2⟩
  go_wp2
  go_ret
  exact ⟨rfl, (hb1.trans (hb2.mono hb1.size)).alloc (Nat.le_trans hb1.size hb2.size) _⟩
end Go.Proofs.Ythfpblkhcodohaa
