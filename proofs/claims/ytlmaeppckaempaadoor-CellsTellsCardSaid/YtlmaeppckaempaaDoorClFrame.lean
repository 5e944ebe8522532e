/-
  The frame round a law's walk of stage 5: what the listed table gives a walk, a slice of pages that comes in, a world that meets both.
-/
import Derived.Test.YtlmaeppckaempaaDoorRows
import Derived.Test.YtlmaeppckaempaaDoorCards
import Derived.Test.YtlmaeppckaempaaDoorTie
import Derived.Test.YtlmaeppckaempaaDoorClAwake
import Derived.Deep.SlicePairs
import Derived.ProofKit
import Derived.OpenShut
import Derived.ShutString
import Derived.ChangeOld
import Derived.LaidMore
import Derived.Lib.LaidTab
import Derived.Stop.Joined
import Derived.SevenTiedAt
namespace Go.Proofs.YtlmaeppckaempaaDoor
open Go.ChangeShapes Go.WideShapes Go.ChangeAt Go.RowKit Go.Deep

theorem own : ownKnob Tryd.prog.godebug = none := by kernel_rfl
theorem laidOut : laidOutB Tryd.prog = true := by kernel_rfl
def laidSizes : List (String × DataW Unit) := [("ragpicker/class.sizes", Rows.laid_ragpicker_class_sizes)]
theorem gSizes : Tryd.prog.globalNamed "ragpicker/class.sizes" = some 0 := by kernel_rfl
theorem tSizes : (Tryd.prog.globals[0]?).map (·.type) = some 59 := by kernel_rfl
theorem cInt : Tryd.prog.cellsOf 3 = 1 := by kernel_rfl
theorem cSizes : Tryd.prog.cellsOf 59 = 3 := by kernel_rfl
theorem of_laid {W : World} (h : laidMetH Tryd.prog laidSizes W) : Sz W := by
  rw [MakeChecks.laidMetH_plain _ _ _ (by kernel_rfl)] at h
  have hT : Lib.TabIs Tryd.prog W "ragpicker/class.sizes" .i64 [2, 4, 8] := Lib.tabIs_of_head gSizes tSizes Tryd.underlying59 Tryd.underlying3 cInt cSizes h
  exact ⟨hT.cell gSizes 0 (by decide), hT.cell gSizes 1 (by decide), hT.cell gSizes 2 (by decide)⟩
theorem door_met (os : Os) (args : Array Value) : laidMetH Tryd.prog laidSizes ((World.doorLaid Tryd.prog 400 os).forCall (fun _ _ => 0) ⟨#[], args, []⟩).memory :=
  laidMetH_of_parts3 (fuel := 8) (laidMet_of_run' 8 (by kernel_rfl) (by kernel_rfl)) (by kernel_rfl) (by kernel_rfl)

/-- What a slice of pages that comes in is: its elements lie in memory that was there, and there are not too many. -/
def PIn (w : World) (a : Option Addr) (len cap : Nat) (f : Nat → Int × Int) : Prop :=
  PRow w w.heap.size a len f ∧ len ≤ cap ∧ cap ≤ maxLen

theorem pin_of {H : Type} {enc : TypeId × Value → H} {w : World} {base : Nat} {spare : Nat → Bool} {held : Bool} {a : Option Addr} {len cap : Nat} {d : DataW H} {p : List MemPlace}
    (h : DataW.Trod enc Tryd.prog w base spare held 22 (.slice a len cap) d p) : ∃ f, PIn w a len cap f := by
  obtain ⟨fuel, hf⟩ := h
  rcases open_slice_pairs Tryd.underlying22 Tryd.underlying34 (by kernel_rfl) rfl rfl (by kernel_rfl) (by kernel_rfl) hf with ⟨hcs, _⟩ | ⟨x, l, c, m, n, V0, V1, D0, D1, P0, P1, hcs, _, hl, hm, hmm, _, hi⟩
  · simp [Value.cells] at hcs
    obtain ⟨rfl, rfl, rfl⟩ := hcs
    exact ⟨fun _ => (0, 0), PRow.empty _ _ _ _, Nat.le_refl _, by unfold maxLen; omega⟩
  · simp [Value.cells] at hcs
    obtain ⟨rfl, rfl, rfl⟩ := hcs
    have hm' : len ≤ m := by rw [hmm]; split <;> omega
    refine ⟨fun i => (intOf (V0 i), intOf (V1 i)), fun hn => ?_, hl, hm⟩
    obtain ⟨b, off, spot⟩ := x
    have h0 := (hi 0 (by omega)).1
    have hs : spot = none := by simpa [Addr.add] using World.cell?_spot h0
    subst hs
    refine ⟨b, off, rfl, ?_, fun i hlt => ?_⟩
    · have := World.block_lt_of_cell? w _ h0
      simpa [Addr.add] using this
    · obtain ⟨g0, g1, t0, t1⟩ := hi i (by omega)
      rw [Addr.add_lit] at g0 g1
      rw [← Nat.add_assoc] at g1
      obtain ⟨z0, e0, _⟩ := DataW.trod_int Tryd.underlying3 t0
      obtain ⟨z1, e1, _⟩ := DataW.trod_int Tryd.underlying3 t1
      simp only [List.cons.injEq, and_true] at e0 e1
      refine ⟨?_, ?_⟩
      · show _ = some (Value.int .i64 (intOf (V0 i)))
        rw [g0, e0]
        rfl
      · show _ = some (Value.int .i64 (intOf (V1 i)))
        rw [g1, e1]
        rfl

/-- In the middle of a law's walk: the table, the pages, and all that was there when it began. -/
structure Now (w W : World) (A : Option Addr) (n : Nat) (f : Nat → Int × Int) : Prop where
  sz : Sz W
  row : PRow W w.heap.size A n f
  bel : Below w.heap.size w W
section
variable {w W W' : World} {A : Option Addr} {n : Nat} {f : Nat → Int × Int}
theorem Now.begin (hz : Sz w) {cap : Nat} (h : PIn w A n cap f) : Now w w A n f := ⟨hz, h.1, Below.refl _ _⟩
theorem Now.next (h : Now w W A n f) (hb : Below W.heap.size W W') : Now w W' A n f := ⟨h.sz.over hb h.sz.pos, h.row.over hb h.bel.size, h.bel.trans (hb.mono h.bel.size)⟩
theorem Now.alloc (h : Now w W A n f) (o : Obj) : Now w (W.alloc o) A n f := h.next ((Below.refl _ _).alloc (Nat.le_refl _) o)
theorem Now.drewN (h : Now w W A n f) (k : Nat) : Now w (W.drewN k) A n f := ⟨h.sz, h.row, below_drewN h.bel k⟩
theorem Now.start (h : Now w W A n f) (c : Nat) (a k : Int) (s : Bool) (hv : (foundV (allL f n) (pIn a)).1 = k) (hs : foundS (allL f n) (pIn a) = s) (hn : n ≤ 1000) :
    Calls Tryd.prog 16 #[.slice A n c, .int .i64 a] W fun e w' => e = .returned (.tuple #[.int .i64 k, .bool s]) ∧ Below W.heap.size W w' := start_is _ _ _ _ _ _ _ _ _ hv hs hn h.sz h.row h.bel.size
theorem Now.room (h : Now w W A n f) (c : Nat) (a k : Int) (hv : (foundV (allL f n) (pAt a)).2 = k) (hn : n ≤ 1000) :
    Calls Tryd.prog 20 #[.slice A n c, .int .i64 a] W fun e w' => e = .returned (.int .i64 k) ∧ Below W.heap.size W w' := room_is _ _ _ _ _ _ _ _ hv hn h.sz h.row h.bel.size
theorem Now.up (h : Now w W A n f) (c : Nat) (a k : Int) (s : Bool) (hv : (foundV (allL f n) (pUp a)).1 = k) (hs : foundS (allL f n) (pUp a) = s) (hn : n ≤ 1000) :
    Calls Tryd.prog 18 #[.slice A n c, .int .i64 a] W fun e w' => e = .returned (.tuple #[.int .i64 k, .bool s]) ∧ Below W.heap.size W w' := next_is _ _ _ _ _ _ _ _ _ hv hs hn h.sz h.row h.bel.size
theorem Now.all (h : Now w W A n f) (c : Nat) (hn : n ≤ 1000) : Calls Tryd.prog 14 #[.slice A n c] W (Listed W (allS f n)) := all_any _ _ _ _ _ _ hn h.sz h.row h.bel.size
theorem Now.on (h : Now w W A n f) (c : Nat) (a : Int) (hn : n ≤ 1000) : Calls Tryd.prog 12 #[.slice A n c, .int .i64 a] W (Listed W (onS f n a)) := on_call _ _ _ _ _ _ _ hn h.sz h.row h.bel.size
theorem Now.mayYes (h : Now w W A n f) (c : Nat) (hM : mayB f n = true) : Calls Tryd.prog 22 #[.slice A n c] W fun e w' => e = .returned (.bool true) ∧ Below W.heap.size W w' := may_yes _ _ _ _ _ _ hM h.row h.bel.size
theorem Now.mayNo (h : Now w W A n f) (c : Nat) (hM : mayB f n = false) (hn : n ≤ 1000) : Calls Tryd.prog 22 #[.slice A n c] W fun e w' => e = .returned (.bool false) ∧ Below W.heap.size W w' := may_no _ _ _ _ _ _ hM hn h.row h.bel.size
end
end Go.Proofs.YtlmaeppckaempaaDoor
