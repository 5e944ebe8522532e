/-
  The reference's May of a heap: what is looked at first.
-/
import Derived.Test.YtcbnefjfoeanoaaDoorZHpGlue
import Derived.Test.YtcbnefjfoeanoaaDoorZClRefAll
import Derived.Test.YtcbnefjfoeanoaaDoorZLsApart
namespace Go.Proofs.YtcbnefjfoeanoaaDoor
open Go.RowKit
set_option maxRecDepth 100000

def wordsB (n : Nat) : Bool := decide (16 ≤ n ∧ n ≤ 1024 ∧ n % 16 = 0)
/-- What is looked at first: words, pages, and that there are as many words, and cards, as pages have. -/
def firstB (s : Hs) (d : Hd_) : Bool := wordsB s.w.n && (Cl.mayB d.f s.p.n && (decide (s.w.n = 16 * s.p.n) && decide (s.c.n = 2 * s.p.n)))
end Go.Proofs.YtcbnefjfoeanoaaDoor
