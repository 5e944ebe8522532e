/-
  '==' on two heads is false where a part differs, whatever the world.
-/
import Derived.Test.YthfpblkhcodohaaFrame
namespace Go.Proofs.Ythfpblkhcodohaa
open Go.RowKit

theorem eql_other (u o e u' o' e' : Bool) (n b m n' b' m' : Int) (h : ¬ (u = u' ∧ o = o' ∧ e = e' ∧ n = n' ∧ b = b' ∧ m = m')) (w : World) :
    (binOp .eql 23 (.agg #[.bool u, .bool o, .bool e, .int .i64 n, .int .i64 b, .int .i64 m]) (.agg #[.bool u', .bool o', .bool e', .int .i64 n', .int .i64 b', .int .i64 m'])).run Try.prog w = .ok (.bool false) w := by
  by_cases h0 : u = u'
  · by_cases h1 : o = o'
    · by_cases h2 : e = e'
      · by_cases h3 : n = n'
        · by_cases h4 : b = b'
          · by_cases h5 : m = m'
            · exact absurd ⟨h0, h1, h2, h3, h4, h5⟩ h
            · clear h; go_simp
          · clear h; go_simp
        · clear h; go_simp
      · clear h; go_simp
    · clear h; go_simp
  · clear h; go_simp
end Go.Proofs.Ythfpblkhcodohaa
