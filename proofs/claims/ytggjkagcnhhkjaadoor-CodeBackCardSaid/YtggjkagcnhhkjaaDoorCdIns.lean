/-
  What comes in: operations, as a list. The library's table, out of what the row lists.
-/
import Derived.Test.YtggjkagcnhhkjaaDoorRows
import Derived.Test.YtggjkagcnhhkjaaDoorCards
import Derived.Test.YtggjkagcnhhkjaaDoorTie
import Derived.Test.YtggjkagcnhhkjaaDoorCdRdP
import Derived.Test.YtggjkagcnhhkjaaDoorCdWord
import Derived.ProofKit
import Derived.OpenShut
import Derived.ShutString
import Derived.ChangeOld
import Derived.ChangeMaps5
import Derived.Deep.Slices
import Derived.LaidMore
import Derived.Lib.LaidTab
import Derived.Stop.LaidErr
import Derived.Stop.Joined
import Derived.SevenTiedAt
namespace Go.Proofs.YtggjkagcnhhkjaaDoor.Cd
open Go.Proofs.YtggjkagcnhhkjaaDoor Go.Proofs.YtggjkagcnhhkjaaDoor.Rt
open Go.ChangeShapes Go.WideShapes Go.ChangeAt Go.RowKit Go.Deep
set_option maxRecDepth 100000

theorem own : ownKnob Tryd.prog.godebug = none := by kernel_rfl
theorem laidOut : laidOutB Tryd.prog = true := by kernel_rfl
def laidTabs : List (String × DataW Unit) := [("math/bits.deBruijn32tab", Rows.laid_math_bits_deBruijn32tab), ("math/bits.deBruijn64tab", Rows.laid_math_bits_deBruijn64tab), ("internal/strconv.uint64pow10", Rows.laid_internal_strconv_uint64pow10)]
theorem tTab : (Tryd.prog.globals[1]?).map (·.type) = some 86 := by kernel_rfl
theorem cU : Tryd.prog.cellsOf 75 = 1 := by kernel_rfl
theorem cTab : Tryd.prog.cellsOf 86 = 20 := by kernel_rfl
theorem of_laid {W : World} (h : laidMetH Tryd.prog laidTabs W) : Tb W := by
  rw [MakeChecks.laidMetH_plain _ _ _ (by kernel_rfl)] at h
  exact Lib.tabIs_of_head gTab tTab Tryd.underlying86 Tryd.underlying75 cU cTab h.tail.tail
theorem door_met (os : Os) (args : Array Value) : laidMetH Tryd.prog laidTabs ((World.doorLaid Tryd.prog 400 os).forCall (fun _ _ => 0) ⟨#[], args, []⟩).memory :=
  laidMetH_of_parts3 (fuel := 8) (laidMet_of_run' 8 (by kernel_rfl) (by kernel_rfl)) (by kernel_rfl) (by kernel_rfl)
section
variable {H : Type} {enc : TypeId × Value → H} {w : World} {base : Nat} {spare : Nat → Bool} {held : Bool}
theorem ops_in {fuel : Nat} {cs : List Value} {x : DataW H × List MemPlace} (h : DataW.trod enc Tryd.prog w base spare held fuel 22 cs = some x) :
    ∃ (a : Option Addr) (c : Nat) (l : List O4), cs = [.slice a l.length c] ∧ ORow w w.heap.size a l.length (gl l) ∧ l.length ≤ maxLen := by
  rcases open_slice Tryd.underlying22 h with ⟨hcs, _⟩ | ⟨y, len, cap, m, k, D, Pl, hcs, _, hl, hm, hmm, _, hi⟩
  · exact ⟨none, 0, [], hcs, ORow.empty _ _ _ _, Nat.zero_le _⟩
  · have hm' : len ≤ m := by rw [hmm]; split <;> omega
    have ce : Tryd.prog.cellsOf 28 = 4 := by kernel_rfl
    have e1 : Tryd.prog.cellsOf 3 = 1 := by kernel_rfl
    have each : ∀ i, i < len → ∃ q : O4, w.cell? ((y.add (i * 4)).add 0) = some (.int .i64 q.k) ∧ w.cell? ((y.add (i * 4)).add 1) = some (.int .i64 q.a) ∧ w.cell? ((y.add (i * 4)).add 2) = some (.int .i64 q.b) ∧ w.cell? ((y.add (i * 4)).add 3) = some (.int .i64 q.c) := by
      intro i hlt
      obtain ⟨cs', h1, h2⟩ := hi i (by omega)
      rw [ce] at h1
      obtain ⟨_, hlen, hcell⟩ := World.cells?_some h1
      obtain ⟨xs, k', _, _, _, hxl, hg⟩ := DataW.trod_struct Tryd.underlying28 h2
      match xs, hxl, cs', hlen with
      | [y0, y1, y2, y3], _, [c0, c1, c2, c3], _ =>
        have g0 : DataW.trod enc Tryd.prog w base spare held k' 3 [c0] = some y0 := by have := hg 0 _ rfl; simpa [e1, Value.cells] using this
        have g1 : DataW.trod enc Tryd.prog w base spare held k' 3 [c1] = some y1 := by have := hg 1 _ rfl; simpa [e1, Value.cells] using this
        have g2 : DataW.trod enc Tryd.prog w base spare held k' 3 [c2] = some y2 := by have := hg 2 _ rfl; simpa [e1, Value.cells] using this
        have g3 : DataW.trod enc Tryd.prog w base spare held k' 3 [c3] = some y3 := by have := hg 3 _ rfl; simpa [e1, Value.cells] using this
        obtain ⟨n0, a0, _, _⟩ := DataW.trod_int Tryd.underlying3 g0
        obtain ⟨n1, a1, _, _⟩ := DataW.trod_int Tryd.underlying3 g1
        obtain ⟨n2, a2, _, _⟩ := DataW.trod_int Tryd.underlying3 g2
        obtain ⟨n3, a3, _, _⟩ := DataW.trod_int Tryd.underlying3 g3
        simp only [List.cons.injEq, and_true] at a0 a1 a2 a3
        subst a0 a1 a2 a3
        exact ⟨⟨n0, n1, n2, n3⟩, by simpa using hcell 0 (by decide), by simpa using hcell 1 (by decide), by simpa using hcell 2 (by decide), by simpa using hcell 3 (by decide)⟩
    haveI : Inhabited O4 := ⟨⟨0, 0, 0, 0⟩⟩
    obtain ⟨q, hq⟩ := choose_lt each
    have hll : ((List.range len).map q).length = len := by simp
    refine ⟨some y, cap, (List.range len).map q, by rw [hll]; exact hcs, ?_, by rw [hll]; exact Nat.le_trans hl hm⟩
    rw [hll]
    intro hn
    obtain ⟨b, off, spot⟩ := y
    have h0 := (hq 0 hn).1
    have hs : spot = none := by simpa [Addr.add] using World.cell?_spot h0
    subst hs
    refine ⟨b, off, rfl, ?_, fun i hlt => ?_⟩
    · have := World.block_lt_of_cell? w _ h0
      simpa [Addr.add] using this
    · have := hq i hlt
      simp only [Addr.add_lit, Nat.add_zero] at this
      have eg : gl ((List.range len).map q) i = q i := by
        rw [gl_at (by rw [hll]; exact hlt)]
        simp
      rw [eg]
      exact this
end
end Go.Proofs.YtggjkagcnhhkjaaDoor.Cd
