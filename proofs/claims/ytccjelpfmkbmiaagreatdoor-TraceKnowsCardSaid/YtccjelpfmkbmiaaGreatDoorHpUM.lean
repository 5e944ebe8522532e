/-
  Merged texts: HpIns, HpLess, HpSix, AlIns, ShIns.
-/
import Derived.Test.YtccjelpfmkbmiaaGreatDoorCards
import Derived.Test.YtccjelpfmkbmiaaGreatDoorTie
import Derived.Test.YtccjelpfmkbmiaaGreatDoorHpUG
import Derived.Deep.SlicePairs
import Derived.Deep.Slices
import Derived.Deep.Fields
import Derived.ProofKit
import Derived.OpenShut
import Derived.ShutString
import Derived.ChangeOld
import Derived.LaidMore
import Derived.Lib.LaidTab
import Derived.Stop.Joined
import Derived.SevenTiedAt
import Derived.Laws.IdiomArrays
import Derived.Test.YtccjelpfmkbmiaaGreatDoorHpUH
import Derived.Test.YtccjelpfmkbmiaaGreatDoorRows
import Derived.WalkKit
section
namespace Go.Proofs.YtccjelpfmkbmiaaGreatDoor
open Go.ChangeShapes Go.WideShapes Go.ChangeAt Go.RowKit Go.Deep
set_option maxRecDepth 100000

theorem own : ownKnob Tryz.prog.godebug = none := by kernel_rfl
theorem laidOut : laidOutB Tryz.prog = true := by kernel_rfl
def laidSizes : List (String × DataW Unit) := [("ragpicker/class.sizes", Rows.laid_ragpicker_class_sizes)]
theorem gSizes : Tryz.prog.globalNamed "ragpicker/class.sizes" = some 0 := by kernel_rfl
theorem tSizes : (Tryz.prog.globals[0]?).map (·.type) = some 151 := by kernel_rfl
theorem cInt : Tryz.prog.cellsOf 3 = 1 := by kernel_rfl
theorem cSizes : Tryz.prog.cellsOf 151 = 3 := by kernel_rfl
theorem of_laid {W : World} (h : laidMetH Tryz.prog laidSizes W) : Cl.Sz W := by
  rw [MakeChecks.laidMetH_plain _ _ _ (by kernel_rfl)] at h
  have hT : Lib.TabIs Tryz.prog W "ragpicker/class.sizes" .i64 [2, 4, 8] := Lib.tabIs_of_head gSizes tSizes Tryz.underlying151 Tryz.underlying3 cInt cSizes h
  exact ⟨hT.cell gSizes 0 (by decide), hT.cell gSizes 1 (by decide), hT.cell gSizes 2 (by decide)⟩
theorem door_met (os : Os) (args : Array Value) : laidMetH Tryz.prog laidSizes ((World.doorLaid Tryz.prog 400 os).forCall (fun _ _ => 0) ⟨#[], args, []⟩).memory :=
  laidMetH_of_parts3 (fuel := 8) (laidMet_of_run' 8 (by kernel_rfl) (by kernel_rfl)) (by kernel_rfl) (by kernel_rfl)

/-- How much a reading holds. -/
theorem bulk_one {H : Type} (d : DataW H) : 1 ≤ Rows.uptoBulk d := by
  cases d <;> first | (simp only [Rows.uptoBulk]; omega) | (rename_i l; cases l <;> simp [Rows.uptoBulk])
theorem bulk_long {H : Type} : ∀ l : List (DataW H), l.length ≤ Rows.uptoBulkAll l
  | [] => by simp [Rows.uptoBulkAll]
  | x :: r => by
    have h1 := bulk_one x
    have h2 := bulk_long r
    simp only [Rows.uptoBulkAll, List.length_cons]
    omega
theorem bulk_slice {H : Type} (l r : List (DataW H)) : l.length ≤ Rows.uptoBulk (.slice l r) := by
  have := bulk_long l
  simp only [Rows.uptoBulk]
  omega
theorem wf_bounds {n : Int} (h : (Lit.int .i64 n).wf = true) : -9223372036854775808 ≤ n ∧ n ≤ 9223372036854775807 := by
  simpa [Lit.wf, IntKind.min, IntKind.max, IntKind.signed, IntKind.bits] using h
def Fit64 (zs : List Int) : Prop := ∀ i, -9223372036854775808 ≤ zs.getD i 0 ∧ zs.getD i 0 ≤ 9223372036854775807
/-- A slice of numbers that comes in. -/
theorem ints_in {H : Type} {enc : TypeId × Value → H} {w : World} {base : Nat} {spare : Nat → Bool} {held : Bool} {fuel : Nat} {cs : List Value} {x : DataW H × List MemPlace}
    (h : DataW.trod enc Tryz.prog w base spare held fuel 22 cs = some x) :
    ∃ (s : Ls.Sl) (zs : List Int), cs = [.slice s.a s.n s.c] ∧ (Row w w.heap.size s.a s.n zs ∧ s.n ≤ s.c ∧ s.c ≤ maxLen) ∧ s.n ≤ Rows.uptoBulk x.1 ∧ Fit64 zs := by
  rcases open_ints Tryz.underlying22 Tryz.underlying3 (by kernel_rfl) h with ⟨rfl, rfl⟩ | ⟨y, len, cap, zs, rfl, _, hl, hm, hz, rfl, hcell, hwz⟩
  · exact ⟨⟨none, 0, 0⟩, [], rfl, ⟨Row.none_ _ _, Nat.le_refl _, by show (0 : Nat) ≤ maxLen; unfold maxLen; omega⟩, Nat.zero_le _, fun i => by simp⟩
  · have hz' : len ≤ zs.length := by rw [hz]; split <;> omega
    refine ⟨⟨some y, len, cap⟩, zs.take len, rfl, ⟨⟨by simp; omega, fun hn => ?_⟩, hl, hm⟩, ?_, fun i => ?_⟩
    · have hn' : 0 < len := hn
      obtain ⟨b, off, spot⟩ := y
      have h0 := hcell 0 (by omega)
      have hs : spot = none := by simpa [Addr.add] using World.cell?_spot h0
      subst hs
      refine ⟨b, off, rfl, ?_, fun i hi => ?_⟩
      · have := World.block_lt_of_cell? w _ h0
        simpa [Addr.add] using this
      · have hi' : i < len := hi
        have := hcell i (by omega)
        rw [Addr.add_lit] at this
        rw [this]
        simp [List.getD, hi']
    · have := bulk_slice (H := H) (lits .i64 (zs.take len)) (lits .i64 (zs.drop len))
      have e : (lits (H := H) .i64 (zs.take len)).length = len := by simp [lits]; omega
      show len ≤ Rows.uptoBulk (DataW.slice (lits .i64 (zs.take len)) (lits .i64 (zs.drop len)))
      rw [e] at this
      exact this
    · by_cases hi : i < len
      · have hi2 : i < zs.length := by omega
        have h1 := hwz (zs.getD i 0) (getD_mem hi2)
        rw [show (zs.take len).getD i 0 = zs.getD i 0 by simp [List.getD, hi]]
        exact wf_bounds h1
      · rw [show (zs.take len).getD i 0 = 0 by simp [List.getD, List.getElem?_eq_none (show (zs.take len).length ≤ i by simp; omega)]]
        omega
theorem bools_in {H : Type} {enc : TypeId × Value → H} {w : World} {base : Nat} {spare : Nat → Bool} {held : Bool} {fuel : Nat} {cs : List Value} {x : DataW H × List MemPlace}
    (h : DataW.trod enc Tryz.prog w base spare held fuel 26 cs = some x) : ∃ (s : Ls.Sl) (f : Nat → Bool), cs = [.slice s.a s.n s.c] ∧ BRow w w.heap.size s.a s.n f := by
  rcases open_slice Tryz.underlying26 h with ⟨hcs, _⟩ | ⟨y, len, cap, m, k, D, Pl, hcs, _, hl, hm, hmm, _, hi⟩
  · exact ⟨⟨none, 0, 0⟩, fun _ => false, hcs, fun h0 => absurd h0 (by simp)⟩
  · have hm' : len ≤ m := by rw [hmm]; split <;> omega
    have each : ∀ i, i < len → ∃ v : Bool, w.cell? ((y.add (i * 1)).add 0) = some (.bool v) := by
      intro i hlt
      obtain ⟨cs', h1, h2⟩ := hi i (by omega)
      have ce : Tryz.prog.cellsOf 4 = 1 := by kernel_rfl
      rw [ce] at h1
      obtain ⟨_, hlen, hcell⟩ := World.cells?_some h1
      match cs', hlen with
      | [c0], _ =>
        obtain ⟨v, e, _⟩ := DataW.trod_bool Tryz.underlying4 h2
        simp only [List.cons.injEq, and_true] at e
        subst e
        exact ⟨v, by simpa using hcell 0 (by decide)⟩
    obtain ⟨q, hq⟩ := choose_lt each
    refine ⟨⟨some y, len, cap⟩, q, hcs, fun hn => ?_⟩
    have hn' : 0 < len := hn
    obtain ⟨b, off, spot⟩ := y
    have h0 := hq 0 hn'
    have hs : spot = none := by simpa [Addr.add] using World.cell?_spot h0
    subst hs
    refine ⟨b, off, rfl, ?_, fun i hlt => ?_⟩
    · have := World.block_lt_of_cell? w _ h0
      simpa [Addr.add] using this
    · have := hq i hlt
      rw [Addr.add_lit, Addr.add_lit, Nat.mul_one] at this
      exact this
/-- Three of them. -/
def tri {α : Type} (a b c : α) : Nat → α
  | 0 => a
  | 1 => b
  | _ => c
theorem lists_in {H : Type} {enc : TypeId × Value → H} {w : World} {base : Nat} {spare : Nat → Bool} {held : Bool} {fuel : Nat} {c0 c1 c2 : Value} {x : DataW H × List MemPlace}
    (h : DataW.trod enc Tryz.prog w base spare held fuel 25 [c0, c1, c2] = some x) :
    ∃ (u : Nat → Ls.Sl) (f : Nat → List Int), [c0, c1, c2] = [.slice (u 0).a (u 0).n (u 0).c, .slice (u 1).a (u 1).n (u 1).c, .slice (u 2).a (u 2).n (u 2).c] ∧ Ls.L3 w w.heap.size u f ∧ (u 0).n + (u 1).n + (u 2).n ≤ Rows.uptoBulk x.1 := by
  obtain ⟨y0, y1, y2, n, rfl, h0, h1, h2⟩ := trod_array3 Tryz.underlying25 (by kernel_rfl) h
  obtain ⟨s0, z0, e0, r0, b0, _⟩ := ints_in h0
  obtain ⟨s1, z1, e1, r1, b1, _⟩ := ints_in h1
  obtain ⟨s2, z2, e2, r2, b2, _⟩ := ints_in h2
  simp only [List.cons.injEq, and_true] at e0 e1 e2
  refine ⟨tri s0 s1 s2, tri z0 z1 z2, by rw [e0, e1, e2]; rfl, fun j hj => ?_, ?_⟩
  · match j, hj with
    | 0, _ => exact r0
    | 1, _ => exact r1
    | 2, _ => exact r2
  · simp only [Rows.uptoBulk, Rows.uptoBulkAll, tri]
    omega
end Go.Proofs.YtccjelpfmkbmiaaGreatDoor
end
section
namespace Go.Proofs.YtccjelpfmkbmiaaGreatDoor
open Go.ChangeShapes Go.WideShapes Go.ChangeAt Go.RowKit Go.Deep
set_option maxRecDepth 100000

end Go.Proofs.YtccjelpfmkbmiaaGreatDoor
end
section
namespace Go.Proofs.YtccjelpfmkbmiaaGreatDoor
open Go.ChangeShapes Go.WideShapes Go.ChangeAt Go.RowKit Go.Deep

section
variable {H : Type} {enc : TypeId × Value → H} {P : Program} {w : World} {base : Nat} {spare : Nat → Bool} {held : Bool}

end
end Go.Proofs.YtccjelpfmkbmiaaGreatDoor
end
section
namespace Go.Proofs.YtccjelpfmkbmiaaGreatDoor
open Go.ChangeShapes Go.WideShapes Go.ChangeAt Go.RowKit Go.Deep
set_option maxRecDepth 100000

theorem pin_cap {H : Type} {enc : TypeId × Value → H} {w : World} {base : Nat} {spare : Nat → Bool} {held : Bool} {fuel : Nat} {cs : List Value} {x : DataW H × List MemPlace}
    (h : DataW.trod enc Tryz.prog w base spare held fuel 23 cs = some x) : ∃ (s : Ls.Sl) (f : Nat → Int × Int), cs = [.slice s.a s.n s.c] ∧ Cl.PRow w w.heap.size s.a s.n f ∧ s.n ≤ s.c := by
  rcases open_slice_pairs Tryz.underlying23 Tryz.underlying81 (by kernel_rfl) rfl rfl (by kernel_rfl) (by kernel_rfl) h with ⟨hcs, _⟩ | ⟨x, l, c, m, n, V0, V1, D0, D1, P0, P1, hcs, _, hl, hm, hmm, _, hi⟩
  · exact ⟨⟨none, 0, 0⟩, fun _ => (0, 0), hcs, Cl.PRow.empty _ _ _ _, Nat.le_refl _⟩
  · refine ⟨⟨some x, l, c⟩, fun i => (intOf (V0 i), intOf (V1 i)), hcs, fun hn => ?_, hl⟩
    have hn' : 0 < l := hn
    have hm' : l ≤ m := by rw [hmm]; split <;> omega
    obtain ⟨b, off, spot⟩ := x
    have h0 := (hi 0 (by omega)).1
    have hs : spot = none := by simpa [Addr.add] using World.cell?_spot h0
    subst hs
    refine ⟨b, off, rfl, ?_, fun i hlt => ?_⟩
    · have := World.block_lt_of_cell? w _ h0
      simpa [Addr.add] using this
    · have hlt' : i < l := hlt
      obtain ⟨g0, g1, t0, t1⟩ := hi i (by omega)
      rw [Addr.add_lit] at g0 g1
      rw [← Nat.add_assoc] at g1
      obtain ⟨z0, e0, _⟩ := DataW.trod_int Tryz.underlying3 t0
      obtain ⟨z1, e1, _⟩ := DataW.trod_int Tryz.underlying3 t1
      simp only [List.cons.injEq, and_true] at e0 e1
      refine ⟨?_, ?_⟩
      · show _ = some (Value.int .i64 (intOf (V0 i)))
        rw [g0, e0]
        rfl
      · show _ = some (Value.int .i64 (intOf (V1 i)))
        rw [g1, e1]
        rfl
theorem heap_of8 {H : Type} {enc : TypeId × Value → H} {w : World} {base b0 : Nat} {spare : Nat → Bool} {held : Bool} {v : Value} {d : DataW H} {p : List MemPlace} {r : Reach}
    (hv : Value.okWide Tryz.prog w r b0 28 v) (h : DataW.Trod enc Tryz.prog w base spare held 28 v d p) :
    ∃ (s : Hs) (e : Hd_), v = (.agg #[.slice s.w.a s.w.n s.w.c, .slice s.p.a s.p.n s.p.c, .slice (s.u 0).a (s.u 0).n (s.u 0).c, .slice (s.u 1).a (s.u 1).n (s.u 1).c, .slice (s.u 2).a (s.u 2).n (s.u 2).c, .slice s.c.a s.c.n s.c.c]) ∧ Hp w w.heap.size s e ∧ Fit64 e.ws ∧ s.p.n ≤ s.p.c := by
  obtain ⟨⟨l⟩, rfl, hsz⟩ := okWide_struct Tryz.underlying28 hv
  obtain ⟨fuel, hf⟩ := h
  obtain ⟨xs, k, _, hx, hl, hlen, hg⟩ := DataW.trod_struct Tryz.underlying28 hf
  have hl6 : l.length = 6 := hsz.trans (by kernel_rfl)
  match l, hl6, xs, hlen with
  | [c0, c1, c2, c3, c4, c5], _, [y0, y1, y2, y3], _ =>
    have e22 : Tryz.prog.cellsOf 22 = 1 := by kernel_rfl
    have e23 : Tryz.prog.cellsOf 23 = 1 := by kernel_rfl
    have e25 : Tryz.prog.cellsOf 25 = 3 := by kernel_rfl
    have e26 : Tryz.prog.cellsOf 26 = 1 := by kernel_rfl
    have g0 : DataW.trod enc Tryz.prog w base spare held k 22 [c0] = some y0 := by have := hg 0 _ rfl; simpa [e22, Value.cells] using this
    have g1 : DataW.trod enc Tryz.prog w base spare held k 23 [c1] = some y1 := by have := hg 1 _ rfl; simpa [e23, Value.cells] using this
    have g2 : DataW.trod enc Tryz.prog w base spare held k 25 [c2, c3, c4] = some y2 := by have := hg 2 _ rfl; simpa [e25, Value.cells] using this
    have g3 : DataW.trod enc Tryz.prog w base spare held k 26 [c5] = some y3 := by have := hg 3 _ rfl; simpa [e26, Value.cells] using this
    obtain ⟨s0, zs, h0, r0, _, f0⟩ := ints_in g0
    obtain ⟨s1, f1, h1, r1, c1'⟩ := pin_cap g1
    obtain ⟨u, F, h2, r2, _⟩ := lists_in g2
    obtain ⟨s3, f3, h3, r3⟩ := bools_in g3
    simp only [List.cons.injEq, and_true] at h0 h1 h2 h3
    obtain ⟨rfl, rfl, rfl⟩ := h2
    subst h0 h1 h3
    refine ⟨⟨s0, s1, u, s3⟩, ⟨zs, f1, F, f3⟩, rfl, ⟨r0.1, r1, r2, r3⟩, f0, c1'⟩
end Go.Proofs.YtccjelpfmkbmiaaGreatDoor
end
section
namespace Go.Proofs.YtccjelpfmkbmiaaGreatDoor.Sh
open Go.Proofs.YtccjelpfmkbmiaaGreatDoor
open Go.ChangeShapes Go.WideShapes Go.ChangeAt Go.RowKit Go.Deep
set_option maxRecDepth 100000

theorem col_of {H : Type} {enc : TypeId × Value → H} {w : World} {base b0 : Nat} {spare : Nat → Bool} {held : Bool} {v : Value} {d : DataW H} {p : List MemPlace} {r : Reach}
    (hv : Value.okWide Tryz.prog w r b0 30 v) (h : DataW.Trod enc Tryz.prog w base spare held 30 v d p) :
    ∃ (k : Ks) (xs : List Int), v = (.agg #[.int .i64 k.ph, .int .i64 k.ep, .bool k.mj, .slice k.wk.a k.wk.n k.wk.c, .bool k.ov, .int .i64 k.pa, .int .i64 k.pf, .int .i64 k.ps, .int .i64 k.pc, .bool k.me]) ∧ WRow w w.heap.size k xs ∧ k.wk.n ≤ k.wk.c ∧ k.wk.c ≤ maxLen ∧ (Lit.int .i64 k.ep).wf = true := by
  obtain ⟨⟨l⟩, rfl, hsz⟩ := okWide_struct Tryz.underlying30 hv
  obtain ⟨fuel, hf⟩ := h
  obtain ⟨xs, k, _, hx, hl, hlen, hg⟩ := DataW.trod_struct Tryz.underlying30 hf
  have hl10 : l.length = 10 := hsz.trans (by kernel_rfl)
  match l, hl10, xs, hlen with
  | [c0, c1, c2, c3, c4, c5, c6, c7, c8, c9], _, [y0, y1, y2, y3, y4, y5, y6, y7, y8, y9], _ =>
    have e1 : Tryz.prog.cellsOf 3 = 1 := by kernel_rfl
    have e2 : Tryz.prog.cellsOf 4 = 1 := by kernel_rfl
    have e3 : Tryz.prog.cellsOf 22 = 1 := by kernel_rfl
    have g0 : DataW.trod enc Tryz.prog w base spare held k 3 [c0] = some y0 := by have := hg 0 _ rfl; simpa [e1, Value.cells] using this
    have g1 : DataW.trod enc Tryz.prog w base spare held k 3 [c1] = some y1 := by have := hg 1 _ rfl; simpa [e1, Value.cells] using this
    have g2 : DataW.trod enc Tryz.prog w base spare held k 4 [c2] = some y2 := by have := hg 2 _ rfl; simpa [e2, Value.cells] using this
    have g3 : DataW.trod enc Tryz.prog w base spare held k 22 [c3] = some y3 := by have := hg 3 _ rfl; simpa [e3, Value.cells] using this
    have g4 : DataW.trod enc Tryz.prog w base spare held k 4 [c4] = some y4 := by have := hg 4 _ rfl; simpa [e2, Value.cells] using this
    have g5 : DataW.trod enc Tryz.prog w base spare held k 3 [c5] = some y5 := by have := hg 5 _ rfl; simpa [e1, Value.cells] using this
    have g6 : DataW.trod enc Tryz.prog w base spare held k 3 [c6] = some y6 := by have := hg 6 _ rfl; simpa [e1, Value.cells] using this
    have g7 : DataW.trod enc Tryz.prog w base spare held k 3 [c7] = some y7 := by have := hg 7 _ rfl; simpa [e1, Value.cells] using this
    have g8 : DataW.trod enc Tryz.prog w base spare held k 3 [c8] = some y8 := by have := hg 8 _ rfl; simpa [e1, Value.cells] using this
    have g9 : DataW.trod enc Tryz.prog w base spare held k 4 [c9] = some y9 := by have := hg 9 _ rfl; simpa [e2, Value.cells] using this
    obtain ⟨n0, h0, _, _⟩ := DataW.trod_int Tryz.underlying3 g0
    obtain ⟨n1, h1, _, w1⟩ := DataW.trod_int Tryz.underlying3 g1
    obtain ⟨n2, h2, _⟩ := DataW.trod_bool Tryz.underlying4 g2
    obtain ⟨s3, zs, h3, r3, _, _⟩ := ints_in g3
    obtain ⟨n4, h4, _⟩ := DataW.trod_bool Tryz.underlying4 g4
    obtain ⟨n5, h5, _, _⟩ := DataW.trod_int Tryz.underlying3 g5
    obtain ⟨n6, h6, _, _⟩ := DataW.trod_int Tryz.underlying3 g6
    obtain ⟨n7, h7, _, _⟩ := DataW.trod_int Tryz.underlying3 g7
    obtain ⟨n8, h8, _, _⟩ := DataW.trod_int Tryz.underlying3 g8
    obtain ⟨n9, h9, _⟩ := DataW.trod_bool Tryz.underlying4 g9
    simp only [List.cons.injEq, and_true] at h0 h1 h2 h3 h4 h5 h6 h7 h8 h9
    subst h0 h1 h2 h3 h4 h5 h6 h7 h8 h9
    exact ⟨⟨n0, n1, n2, s3, n4, n5, n6, n7, n8, n9⟩, zs, rfl, r3.1, r3.2.1, r3.2.2, w1⟩
end Go.Proofs.YtccjelpfmkbmiaaGreatDoor.Sh
end
