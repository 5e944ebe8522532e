/-
  Merged texts: RtIns, HaIns, HpIns, HpLess, HpSix, AlIns, ShIns.
-/
import Derived.Test.YtgmkomnoiffapaaGreatDoorHpBF
import Derived.ProofKit
import Derived.OpenShut
import Derived.ShutString
import Derived.ChangeOld
import Derived.Laws.IdiomArrays
import Derived.Deep.Slices
import Derived.Test.YtgmkomnoiffapaaGreatDoorHpBG
import Derived.Test.YtgmkomnoiffapaaGreatDoorCards
import Derived.Test.YtgmkomnoiffapaaGreatDoorTie
import Derived.Test.YtgmkomnoiffapaaGreatDoorHpBE
import Derived.Deep.SlicePairs
import Derived.Deep.Fields
import Derived.LaidMore
import Derived.Lib.LaidTab
import Derived.Stop.Joined
import Derived.SevenTiedAt
import Derived.Test.YtgmkomnoiffapaaGreatDoorRows
import Derived.WalkKit
section
namespace Go.Proofs.YtgmkomnoiffapaaGreatDoor.Rt
open Go.Proofs.YtgmkomnoiffapaaGreatDoor
open Go.ChangeShapes Go.WideShapes Go.ChangeAt Go.RowKit Go.Deep
set_option maxRecDepth 100000

section
variable {H : Type} {enc : TypeId × Value → H} {w : World} {base : Nat} {spare : Nat → Bool} {held : Bool}
theorem ints_in {fuel : Nat} {cs : List Value} {x : DataW H × List MemPlace} (h : DataW.trod enc Tryz.prog w base spare held fuel 22 cs = some x) :
    ∃ (s : Ls.Sl) (zs : List Int), cs = [.slice s.a s.n s.c] ∧ Row w w.heap.size s.a s.n zs ∧ s.n ≤ s.c ∧ s.c ≤ maxLen := by
  rcases open_ints Tryz.underlying22 Tryz.underlying3 (by kernel_rfl) h with ⟨rfl, rfl⟩ | ⟨y, len, cap, zs, rfl, _, hl, hm, hz, rfl, hcell, hwz⟩
  · exact ⟨⟨none, 0, 0⟩, [], rfl, Row.none_ _ _, Nat.le_refl _, by show (0 : Nat) ≤ maxLen; unfold maxLen; omega⟩
  · have hz' : len ≤ zs.length := by rw [hz]; split <;> omega
    refine ⟨⟨some y, len, cap⟩, zs.take len, rfl, ⟨by simp; omega, fun hn => ?_⟩, hl, hm⟩
    have hn' : 0 < len := hn
    obtain ⟨b, off, spot⟩ := y
    have h0 := hcell 0 (by omega)
    have hs : spot = none := by simpa [Addr.add] using World.cell?_spot h0
    subst hs
    refine ⟨b, off, rfl, ?_, fun i hi => ?_⟩
    · have := World.block_lt_of_cell? w _ h0
      simpa [Addr.add] using this
    · have hi' : i < len := hi
      have := hcell i (by omega)
      rw [Addr.add_lit] at this
      rw [this]
      simp [List.getD, hi']
def tri {α : Type} (a b c : α) : Nat → α
  | 0 => a
  | 1 => b
  | _ => c
def four {α : Type} (a b c d : α) : Nat → α
  | 0 => a
  | 1 => b
  | 2 => c
  | _ => d
theorem lists_in {fuel : Nat} {c0 c1 c2 : Value} {x : DataW H × List MemPlace} (h : DataW.trod enc Tryz.prog w base spare held fuel 25 [c0, c1, c2] = some x) :
    ∃ (u : Nat → Ls.Sl) (f : Nat → List Int), c0 = .slice (u 0).a (u 0).n (u 0).c ∧ c1 = .slice (u 1).a (u 1).n (u 1).c ∧ c2 = .slice (u 2).a (u 2).n (u 2).c ∧ Ls.L3 w w.heap.size u f := by
  obtain ⟨y0, y1, y2, n, rfl, h0, h1, h2⟩ := trod_array3 Tryz.underlying25 (by kernel_rfl) h
  obtain ⟨s0, z0, e0, r0⟩ := ints_in h0
  obtain ⟨s1, z1, e1, r1⟩ := ints_in h1
  obtain ⟨s2, z2, e2, r2⟩ := ints_in h2
  simp only [List.cons.injEq, and_true] at e0 e1 e2
  refine ⟨tri s0 s1 s2, tri z0 z1 z2, e0, e1, e2, fun j hj => ?_⟩
  match j, hj with
  | 0, _ => exact r0
  | 1, _ => exact r1
  | 2, _ => exact r2
theorem ops_in {fuel : Nat} {cs : List Value} {x : DataW H × List MemPlace} (h : DataW.trod enc Tryz.prog w base spare held fuel 32 cs = some x) :
    ∃ (s : Ls.Sl) (g : Nat → O4), cs = [.slice s.a s.n s.c] ∧ ORow w w.heap.size s.a s.n g ∧ s.n ≤ s.c := by
  rcases open_slice Tryz.underlying32 h with ⟨hcs, _⟩ | ⟨y, len, cap, m, k, D, Pl, hcs, _, hl, hm, hmm, _, hi⟩
  · exact ⟨⟨none, 0, 0⟩, fun _ => ⟨0, 0, 0, 0⟩, hcs, ORow.empty _ _ _ _, Nat.le_refl _⟩
  · have hm' : len ≤ m := by rw [hmm]; split <;> omega
    have ce : Tryz.prog.cellsOf 39 = 4 := by kernel_rfl
    have e1 : Tryz.prog.cellsOf 3 = 1 := by kernel_rfl
    have each : ∀ i, i < len → ∃ q : O4, w.cell? ((y.add (i * 4)).add 0) = some (.int .i64 q.k) ∧ w.cell? ((y.add (i * 4)).add 1) = some (.int .i64 q.a) ∧ w.cell? ((y.add (i * 4)).add 2) = some (.int .i64 q.b) ∧ w.cell? ((y.add (i * 4)).add 3) = some (.int .i64 q.c) := by
      intro i hlt
      obtain ⟨cs', h1, h2⟩ := hi i (by omega)
      rw [ce] at h1
      obtain ⟨_, hlen, hcell⟩ := World.cells?_some h1
      obtain ⟨xs, k', _, _, _, hxl, hg⟩ := DataW.trod_struct Tryz.underlying39 h2
      match xs, hxl, cs', hlen with
      | [y0, y1, y2, y3], _, [c0, c1, c2, c3], _ =>
        have g0 : DataW.trod enc Tryz.prog w base spare held k' 3 [c0] = some y0 := by have := hg 0 _ rfl; simpa [e1, Value.cells] using this
        have g1 : DataW.trod enc Tryz.prog w base spare held k' 3 [c1] = some y1 := by have := hg 1 _ rfl; simpa [e1, Value.cells] using this
        have g2 : DataW.trod enc Tryz.prog w base spare held k' 3 [c2] = some y2 := by have := hg 2 _ rfl; simpa [e1, Value.cells] using this
        have g3 : DataW.trod enc Tryz.prog w base spare held k' 3 [c3] = some y3 := by have := hg 3 _ rfl; simpa [e1, Value.cells] using this
        obtain ⟨n0, a0, _, _⟩ := DataW.trod_int Tryz.underlying3 g0
        obtain ⟨n1, a1, _, _⟩ := DataW.trod_int Tryz.underlying3 g1
        obtain ⟨n2, a2, _, _⟩ := DataW.trod_int Tryz.underlying3 g2
        obtain ⟨n3, a3, _, _⟩ := DataW.trod_int Tryz.underlying3 g3
        simp only [List.cons.injEq, and_true] at a0 a1 a2 a3
        subst a0 a1 a2 a3
        exact ⟨⟨n0, n1, n2, n3⟩, by simpa using hcell 0 (by decide), by simpa using hcell 1 (by decide), by simpa using hcell 2 (by decide), by simpa using hcell 3 (by decide)⟩
    haveI : Inhabited O4 := ⟨⟨0, 0, 0, 0⟩⟩
    obtain ⟨q, hq⟩ := choose_lt each
    refine ⟨⟨some y, len, cap⟩, q, hcs, fun hn => ?_, hl⟩
    obtain ⟨b, off, spot⟩ := y
    have h0 := (hq 0 hn).1
    have hs : spot = none := by simpa [Addr.add] using World.cell?_spot h0
    subst hs
    refine ⟨b, off, rfl, ?_, fun i hlt => ?_⟩
    · have := World.block_lt_of_cell? w _ h0
      simpa [Addr.add] using this
    · have := hq i hlt
      simp only [Addr.add_lit, Nat.add_zero] at this
      exact this
theorem th_in {fuel : Nat} {l : List Value} {x : DataW H × List MemPlace} (h : DataW.trod enc Tryz.prog w base spare held fuel 34 l = some x) (hl15 : l.length = 15) :
    ∃ (t : Ts) (F : Nat → List Int) (g : Nat → O4), l = tv t ∧ Th w w.heap.size t F g ∧ ∀ j, (Lit.int .i64 (t.r j)).wf = true := by
  obtain ⟨xs, k, _, hx, hl, hlen, hg⟩ := DataW.trod_struct Tryz.underlying34 h
  match l, hl15, xs, hlen with
  | [c0, c1, c2, c3, c4, c5, c6, c7, c8, c9, c10, c11, c12, c13, c14], _, [y0, y1, y2, y3, y4, y5, y6, y7, y8, y9], _ =>
    have e1 : Tryz.prog.cellsOf 3 = 1 := by kernel_rfl
    have e2 : Tryz.prog.cellsOf 4 = 1 := by kernel_rfl
    have e3 : Tryz.prog.cellsOf 32 = 1 := by kernel_rfl
    have e4 : Tryz.prog.cellsOf 31 = 4 := by kernel_rfl
    have e5 : Tryz.prog.cellsOf 25 = 3 := by kernel_rfl
    have g0 : DataW.trod enc Tryz.prog w base spare held k 4 [c0] = some y0 := by have := hg 0 _ rfl; simpa [e2, Value.cells] using this
    have g1 : DataW.trod enc Tryz.prog w base spare held k 31 [c1, c2, c3, c4] = some y1 := by have := hg 1 _ rfl; simpa [e4, Value.cells] using this
    have g2 : DataW.trod enc Tryz.prog w base spare held k 25 [c5, c6, c7] = some y2 := by have := hg 2 _ rfl; simpa [e5, Value.cells] using this
    have g3 : DataW.trod enc Tryz.prog w base spare held k 3 [c8] = some y3 := by have := hg 3 _ rfl; simpa [e1, Value.cells] using this
    have g4 : DataW.trod enc Tryz.prog w base spare held k 3 [c9] = some y4 := by have := hg 4 _ rfl; simpa [e1, Value.cells] using this
    have g5 : DataW.trod enc Tryz.prog w base spare held k 3 [c10] = some y5 := by have := hg 5 _ rfl; simpa [e1, Value.cells] using this
    have g6 : DataW.trod enc Tryz.prog w base spare held k 32 [c11] = some y6 := by have := hg 6 _ rfl; simpa [e3, Value.cells] using this
    have g7 : DataW.trod enc Tryz.prog w base spare held k 3 [c12] = some y7 := by have := hg 7 _ rfl; simpa [e1, Value.cells] using this
    have g8 : DataW.trod enc Tryz.prog w base spare held k 3 [c13] = some y8 := by have := hg 8 _ rfl; simpa [e1, Value.cells] using this
    have g9 : DataW.trod enc Tryz.prog w base spare held k 3 [c14] = some y9 := by have := hg 9 _ rfl; simpa [e1, Value.cells] using this
    obtain ⟨n0, h0, _⟩ := DataW.trod_bool Tryz.underlying4 g0
    obtain ⟨q0, q1, q2, q3, k', _, p0, p1, p2, p3⟩ := trod_array4 Tryz.underlying31 (by kernel_rfl) g1
    obtain ⟨r0, a0, _, b0⟩ := DataW.trod_int Tryz.underlying3 p0
    obtain ⟨r1, a1, _, b1⟩ := DataW.trod_int Tryz.underlying3 p1
    obtain ⟨r2, a2, _, b2⟩ := DataW.trod_int Tryz.underlying3 p2
    obtain ⟨r3, a3, _, b3⟩ := DataW.trod_int Tryz.underlying3 p3
    obtain ⟨u, F, u0, u1, u2, hu⟩ := lists_in g2
    obtain ⟨n3, h3, _, _⟩ := DataW.trod_int Tryz.underlying3 g3
    obtain ⟨n4, h4, _, _⟩ := DataW.trod_int Tryz.underlying3 g4
    obtain ⟨n5, h5, _, _⟩ := DataW.trod_int Tryz.underlying3 g5
    obtain ⟨o, g, h6, ho, hk⟩ := ops_in g6
    obtain ⟨n7, h7, _, _⟩ := DataW.trod_int Tryz.underlying3 g7
    obtain ⟨n8, h8, _, _⟩ := DataW.trod_int Tryz.underlying3 g8
    obtain ⟨n9, h9, _, _⟩ := DataW.trod_int Tryz.underlying3 g9
    simp only [List.cons.injEq, and_true] at h0 a0 a1 a2 a3 h3 h4 h5 h6 h7 h8 h9
    subst h0 a0 a1 a2 a3 u0 u1 u2 h3 h4 h5 h6 h7 h8 h9
    exact ⟨⟨n0, four r0 r1 r2 r3, u, n3, n4, n5, o, n7, n8, n9⟩, F, g, rfl, ⟨hu, ho, hk⟩, fun j => (match j with | 0 => b0 | 1 => b1 | 2 => b2 | _ + 3 => b3)⟩
theorem th_fits {b0 : Nat} {v : Value} {d : DataW H} {p : List MemPlace} {r : Reach} (hv : Value.okWide Tryz.prog w r b0 34 v) (h : DataW.Trod enc Tryz.prog w base spare held 34 v d p) :
    ∃ (t : Ts) (F : Nat → List Int) (g : Nat → O4), v = (.agg #[.bool t.lv, .int .i64 (t.r 0), .int .i64 (t.r 1), .int .i64 (t.r 2), .int .i64 (t.r 3), .slice (t.u 0).a (t.u 0).n (t.u 0).c, .slice (t.u 1).a (t.u 1).n (t.u 1).c, .slice (t.u 2).a (t.u 2).n (t.u 2).c, .int .i64 t.ep, .int .i64 t.sg, .int .i64 t.rt, .slice t.o.a t.o.n t.o.c, .int .i64 t.pc, .int .i64 t.x, .int .i64 t.y]) ∧ Th w w.heap.size t F g ∧ ∀ j, (Lit.int .i64 (t.r j)).wf = true := by
  obtain ⟨⟨l⟩, rfl, hsz⟩ := okWide_struct Tryz.underlying34 hv
  obtain ⟨fuel, hf⟩ := h
  obtain ⟨t, F, g, e, h1, h2⟩ := th_in hf (hsz.trans (by kernel_rfl))
  have e : l = tv t := e
  subst e
  exact ⟨t, F, g, rfl, h1, h2⟩
theorem th_of {b0 : Nat} {v : Value} {d : DataW H} {p : List MemPlace} {r : Reach} (hv : Value.okWide Tryz.prog w r b0 34 v) (h : DataW.Trod enc Tryz.prog w base spare held 34 v d p) :
    ∃ (t : Ts) (F : Nat → List Int) (g : Nat → O4), v = (.agg #[.bool t.lv, .int .i64 (t.r 0), .int .i64 (t.r 1), .int .i64 (t.r 2), .int .i64 (t.r 3), .slice (t.u 0).a (t.u 0).n (t.u 0).c, .slice (t.u 1).a (t.u 1).n (t.u 1).c, .slice (t.u 2).a (t.u 2).n (t.u 2).c, .int .i64 t.ep, .int .i64 t.sg, .int .i64 t.rt, .slice t.o.a t.o.n t.o.c, .int .i64 t.pc, .int .i64 t.x, .int .i64 t.y]) ∧ Th w w.heap.size t F g := by
  obtain ⟨t, F, g, e, h, _⟩ := th_fits hv h
  exact ⟨t, F, g, e, h⟩
end
end Go.Proofs.YtgmkomnoiffapaaGreatDoor.Rt
end
section
namespace Go.Proofs.YtgmkomnoiffapaaGreatDoor.Ha
open Go.Proofs.YtgmkomnoiffapaaGreatDoor Go.Proofs.YtgmkomnoiffapaaGreatDoor.Rt
open Go.ChangeShapes Go.WideShapes Go.ChangeAt Go.RowKit Go.Deep
set_option maxRecDepth 100000

theorem ths_of {H : Type} {enc : TypeId × Value → H} {w : World} {base b0 : Nat} {spare : Nat → Bool} {held : Bool} {v : Value} {d : DataW H} {p : List MemPlace} {r : Reach}
    (hv : Value.okWide Tryz.prog w r b0 59 v) (h : DataW.Trod enc Tryz.prog w base spare held 59 v d p) :
    ∃ (s : Ls.Sl) (g : Nat → Ts), v = .slice s.a s.n s.c ∧ TRow w w.heap.size s.a s.n g ∧ s.n ≤ s.c ∧ s.c ≤ maxLen := by
  obtain ⟨a, n, c, rfl⟩ := okWide_slice Tryz.underlying59 hv
  obtain ⟨fuel, hf⟩ := h
  rcases open_slice Tryz.underlying59 hf with ⟨hcs, _⟩ | ⟨y, len, cap, m, k, D, Pl, hcs, _, hl, hm, hmm, _, hi⟩
  · have hcs : [Value.slice a n c] = [.slice none 0 0] := hcs
    simp only [List.cons.injEq, Value.slice.injEq, and_true] at hcs
    obtain ⟨rfl, rfl, rfl⟩ := hcs
    exact ⟨⟨none, 0, 0⟩, fun _ => noT, rfl, TRow.empty _ _ _ _, Nat.le_refl _, by show (0 : Nat) ≤ maxLen; unfold maxLen; omega⟩
  · have hcs : [Value.slice a n c] = [.slice (some y) len cap] := hcs
    simp only [List.cons.injEq, Value.slice.injEq, and_true] at hcs
    obtain ⟨rfl, rfl, rfl⟩ := hcs
    have hm' : n ≤ m := by rw [hmm]; split <;> omega
    have ce : Tryz.prog.cellsOf 34 = 15 := by kernel_rfl
    have each : ∀ i, i < n → ∃ t : Ts, ∀ j v, (tv t)[j]? = some v → w.cell? ((y.add (i * 15)).add j) = some v := by
      intro i hlt
      obtain ⟨cs', h1, h2⟩ := hi i (by omega)
      rw [ce] at h1
      obtain ⟨_, hlen, hcell⟩ := World.cells?_some h1
      obtain ⟨t, F, g, e, _⟩ := th_in h2 hlen
      refine ⟨t, fun j v hj => ?_⟩
      have hj15 : j < 15 := (List.getElem?_eq_some_iff.1 hj).1
      have := hcell j hj15
      rw [this, e]
      rw [List.getElem?_eq_some_iff] at hj
      obtain ⟨_, hj⟩ := hj
      simp [← hj]
    haveI : Inhabited Ts := ⟨noT⟩
    obtain ⟨q, hq⟩ := choose_lt each
    refine ⟨⟨some y, n, c⟩, q, rfl, fun hn => ?_, hl, hm⟩
    obtain ⟨b, off, spot⟩ := y
    have h0 := hq 0 hn 0 _ rfl
    have hs : spot = none := by simpa [Addr.add] using World.cell?_spot h0
    subst hs
    refine ⟨b, off, rfl, ?_, fun i hlt j v hj => ?_⟩
    · have := World.block_lt_of_cell? w _ h0
      simpa [Addr.add] using this
    · have := hq i hlt j v hj
      simpa only [Addr.add_lit] using this
end Go.Proofs.YtgmkomnoiffapaaGreatDoor.Ha
end
section
namespace Go.Proofs.YtgmkomnoiffapaaGreatDoor
open Go.ChangeShapes Go.WideShapes Go.ChangeAt Go.RowKit Go.Deep
set_option maxRecDepth 100000

theorem own : ownKnob Tryz.prog.godebug = none := by kernel_rfl
theorem laidOut : laidOutB Tryz.prog = true := by kernel_rfl
def laidSizes : List (String × DataW Unit) := [("ragpicker/class.sizes", Rows.laid_ragpicker_class_sizes)]
theorem gSizes : Tryz.prog.globalNamed "ragpicker/class.sizes" = some 0 := by kernel_rfl
theorem tSizes : (Tryz.prog.globals[0]?).map (·.type) = some 150 := by kernel_rfl
theorem cInt : Tryz.prog.cellsOf 3 = 1 := by kernel_rfl
theorem cSizes : Tryz.prog.cellsOf 150 = 3 := by kernel_rfl
theorem of_laid {W : World} (h : laidMetH Tryz.prog laidSizes W) : Cl.Sz W := by
  rw [MakeChecks.laidMetH_plain _ _ _ (by kernel_rfl)] at h
  have hT : Lib.TabIs Tryz.prog W "ragpicker/class.sizes" .i64 [2, 4, 8] := Lib.tabIs_of_head gSizes tSizes Tryz.underlying150 Tryz.underlying3 cInt cSizes h
  exact ⟨hT.cell gSizes 0 (by decide), hT.cell gSizes 1 (by decide), hT.cell gSizes 2 (by decide)⟩
theorem door_met (os : Os) (args : Array Value) : laidMetH Tryz.prog laidSizes ((World.doorLaid Tryz.prog 400 os).forCall (fun _ _ => 0) ⟨#[], args, []⟩).memory :=
  laidMetH_of_parts3 (fuel := 8) (laidMet_of_run' 8 (by kernel_rfl) (by kernel_rfl)) (by kernel_rfl) (by kernel_rfl)

/-- How much a reading holds. -/
theorem bulk_one {H : Type} (d : DataW H) : 1 ≤ Rows.uptoBulk d := by
  cases d <;> first | (simp only [Rows.uptoBulk]; omega) | (rename_i l; cases l <;> simp [Rows.uptoBulk])
theorem bulk_long {H : Type} : ∀ l : List (DataW H), l.length ≤ Rows.uptoBulkAll l
  | [] => by simp [Rows.uptoBulkAll]
  | x :: r => by
    have h1 := bulk_one x
    have h2 := bulk_long r
    simp only [Rows.uptoBulkAll, List.length_cons]
    omega
theorem bulk_slice {H : Type} (l r : List (DataW H)) : l.length ≤ Rows.uptoBulk (.slice l r) := by
  have := bulk_long l
  simp only [Rows.uptoBulk]
  omega
theorem wf_bounds {n : Int} (h : (Lit.int .i64 n).wf = true) : -9223372036854775808 ≤ n ∧ n ≤ 9223372036854775807 := by
  simpa [Lit.wf, IntKind.min, IntKind.max, IntKind.signed, IntKind.bits] using h
def Fit64 (zs : List Int) : Prop := ∀ i, -9223372036854775808 ≤ zs.getD i 0 ∧ zs.getD i 0 ≤ 9223372036854775807
/-- A slice of numbers that comes in. -/
theorem ints_in {H : Type} {enc : TypeId × Value → H} {w : World} {base : Nat} {spare : Nat → Bool} {held : Bool} {fuel : Nat} {cs : List Value} {x : DataW H × List MemPlace}
    (h : DataW.trod enc Tryz.prog w base spare held fuel 22 cs = some x) :
    ∃ (s : Ls.Sl) (zs : List Int), cs = [.slice s.a s.n s.c] ∧ (Row w w.heap.size s.a s.n zs ∧ s.n ≤ s.c ∧ s.c ≤ maxLen) ∧ s.n ≤ Rows.uptoBulk x.1 ∧ Fit64 zs := by
  rcases open_ints Tryz.underlying22 Tryz.underlying3 (by kernel_rfl) h with ⟨rfl, rfl⟩ | ⟨y, len, cap, zs, rfl, _, hl, hm, hz, rfl, hcell, hwz⟩
  · exact ⟨⟨none, 0, 0⟩, [], rfl, ⟨Row.none_ _ _, Nat.le_refl _, by show (0 : Nat) ≤ maxLen; unfold maxLen; omega⟩, Nat.zero_le _, fun i => by simp⟩
  · have hz' : len ≤ zs.length := by rw [hz]; split <;> omega
    refine ⟨⟨some y, len, cap⟩, zs.take len, rfl, ⟨⟨by simp; omega, fun hn => ?_⟩, hl, hm⟩, ?_, fun i => ?_⟩
    · have hn' : 0 < len := hn
      obtain ⟨b, off, spot⟩ := y
      have h0 := hcell 0 (by omega)
      have hs : spot = none := by simpa [Addr.add] using World.cell?_spot h0
      subst hs
      refine ⟨b, off, rfl, ?_, fun i hi => ?_⟩
      · have := World.block_lt_of_cell? w _ h0
        simpa [Addr.add] using this
      · have hi' : i < len := hi
        have := hcell i (by omega)
        rw [Addr.add_lit] at this
        rw [this]
        simp [List.getD, hi']
    · have := bulk_slice (H := H) (lits .i64 (zs.take len)) (lits .i64 (zs.drop len))
      have e : (lits (H := H) .i64 (zs.take len)).length = len := by simp [lits]; omega
      show len ≤ Rows.uptoBulk (DataW.slice (lits .i64 (zs.take len)) (lits .i64 (zs.drop len)))
      rw [e] at this
      exact this
    · by_cases hi : i < len
      · have hi2 : i < zs.length := by omega
        have h1 := hwz (zs.getD i 0) (getD_mem hi2)
        rw [show (zs.take len).getD i 0 = zs.getD i 0 by simp [List.getD, hi]]
        exact wf_bounds h1
      · rw [show (zs.take len).getD i 0 = 0 by simp [List.getD, List.getElem?_eq_none (show (zs.take len).length ≤ i by simp; omega)]]
        omega
/-- Three of them. -/
def tri {α : Type} (a b c : α) : Nat → α
  | 0 => a
  | 1 => b
  | _ => c
theorem lists_in {H : Type} {enc : TypeId × Value → H} {w : World} {base : Nat} {spare : Nat → Bool} {held : Bool} {fuel : Nat} {c0 c1 c2 : Value} {x : DataW H × List MemPlace}
    (h : DataW.trod enc Tryz.prog w base spare held fuel 25 [c0, c1, c2] = some x) :
    ∃ (u : Nat → Ls.Sl) (f : Nat → List Int), [c0, c1, c2] = [.slice (u 0).a (u 0).n (u 0).c, .slice (u 1).a (u 1).n (u 1).c, .slice (u 2).a (u 2).n (u 2).c] ∧ Ls.L3 w w.heap.size u f ∧ (u 0).n + (u 1).n + (u 2).n ≤ Rows.uptoBulk x.1 := by
  obtain ⟨y0, y1, y2, n, rfl, h0, h1, h2⟩ := trod_array3 Tryz.underlying25 (by kernel_rfl) h
  obtain ⟨s0, z0, e0, r0, b0, _⟩ := ints_in h0
  obtain ⟨s1, z1, e1, r1, b1, _⟩ := ints_in h1
  obtain ⟨s2, z2, e2, r2, b2, _⟩ := ints_in h2
  simp only [List.cons.injEq, and_true] at e0 e1 e2
  refine ⟨tri s0 s1 s2, tri z0 z1 z2, by rw [e0, e1, e2]; rfl, fun j hj => ?_, ?_⟩
  · match j, hj with
    | 0, _ => exact r0
    | 1, _ => exact r1
    | 2, _ => exact r2
  · simp only [Rows.uptoBulk, Rows.uptoBulkAll, tri]
    omega
end Go.Proofs.YtgmkomnoiffapaaGreatDoor
end
section
namespace Go.Proofs.YtgmkomnoiffapaaGreatDoor
open Go.ChangeShapes Go.WideShapes Go.ChangeAt Go.RowKit Go.Deep
set_option maxRecDepth 100000

end Go.Proofs.YtgmkomnoiffapaaGreatDoor
end
section
namespace Go.Proofs.YtgmkomnoiffapaaGreatDoor
open Go.ChangeShapes Go.WideShapes Go.ChangeAt Go.RowKit Go.Deep

section
variable {H : Type} {enc : TypeId × Value → H} {P : Program} {w : World} {base : Nat} {spare : Nat → Bool} {held : Bool}

end
end Go.Proofs.YtgmkomnoiffapaaGreatDoor
end
section
namespace Go.Proofs.YtgmkomnoiffapaaGreatDoor
open Go.ChangeShapes Go.WideShapes Go.ChangeAt Go.RowKit Go.Deep
set_option maxRecDepth 100000

end Go.Proofs.YtgmkomnoiffapaaGreatDoor
end
section
namespace Go.Proofs.YtgmkomnoiffapaaGreatDoor.Sh
open Go.Proofs.YtgmkomnoiffapaaGreatDoor
open Go.ChangeShapes Go.WideShapes Go.ChangeAt Go.RowKit Go.Deep
set_option maxRecDepth 100000

theorem col_of {H : Type} {enc : TypeId × Value → H} {w : World} {base b0 : Nat} {spare : Nat → Bool} {held : Bool} {v : Value} {d : DataW H} {p : List MemPlace} {r : Reach}
    (hv : Value.okWide Tryz.prog w r b0 30 v) (h : DataW.Trod enc Tryz.prog w base spare held 30 v d p) :
    ∃ (k : Ks) (xs : List Int), v = (.agg #[.int .i64 k.ph, .int .i64 k.ep, .bool k.mj, .slice k.wk.a k.wk.n k.wk.c, .bool k.ov, .int .i64 k.pa, .int .i64 k.pf, .int .i64 k.ps, .int .i64 k.pc, .bool k.me]) ∧ WRow w w.heap.size k xs ∧ k.wk.n ≤ k.wk.c ∧ k.wk.c ≤ maxLen ∧ (Lit.int .i64 k.ep).wf = true := by
  obtain ⟨⟨l⟩, rfl, hsz⟩ := okWide_struct Tryz.underlying30 hv
  obtain ⟨fuel, hf⟩ := h
  obtain ⟨xs, k, _, hx, hl, hlen, hg⟩ := DataW.trod_struct Tryz.underlying30 hf
  have hl10 : l.length = 10 := hsz.trans (by kernel_rfl)
  match l, hl10, xs, hlen with
  | [c0, c1, c2, c3, c4, c5, c6, c7, c8, c9], _, [y0, y1, y2, y3, y4, y5, y6, y7, y8, y9], _ =>
    have e1 : Tryz.prog.cellsOf 3 = 1 := by kernel_rfl
    have e2 : Tryz.prog.cellsOf 4 = 1 := by kernel_rfl
    have e3 : Tryz.prog.cellsOf 22 = 1 := by kernel_rfl
    have g0 : DataW.trod enc Tryz.prog w base spare held k 3 [c0] = some y0 := by have := hg 0 _ rfl; simpa [e1, Value.cells] using this
    have g1 : DataW.trod enc Tryz.prog w base spare held k 3 [c1] = some y1 := by have := hg 1 _ rfl; simpa [e1, Value.cells] using this
    have g2 : DataW.trod enc Tryz.prog w base spare held k 4 [c2] = some y2 := by have := hg 2 _ rfl; simpa [e2, Value.cells] using this
    have g3 : DataW.trod enc Tryz.prog w base spare held k 22 [c3] = some y3 := by have := hg 3 _ rfl; simpa [e3, Value.cells] using this
    have g4 : DataW.trod enc Tryz.prog w base spare held k 4 [c4] = some y4 := by have := hg 4 _ rfl; simpa [e2, Value.cells] using this
    have g5 : DataW.trod enc Tryz.prog w base spare held k 3 [c5] = some y5 := by have := hg 5 _ rfl; simpa [e1, Value.cells] using this
    have g6 : DataW.trod enc Tryz.prog w base spare held k 3 [c6] = some y6 := by have := hg 6 _ rfl; simpa [e1, Value.cells] using this
    have g7 : DataW.trod enc Tryz.prog w base spare held k 3 [c7] = some y7 := by have := hg 7 _ rfl; simpa [e1, Value.cells] using this
    have g8 : DataW.trod enc Tryz.prog w base spare held k 3 [c8] = some y8 := by have := hg 8 _ rfl; simpa [e1, Value.cells] using this
    have g9 : DataW.trod enc Tryz.prog w base spare held k 4 [c9] = some y9 := by have := hg 9 _ rfl; simpa [e2, Value.cells] using this
    obtain ⟨n0, h0, _, _⟩ := DataW.trod_int Tryz.underlying3 g0
    obtain ⟨n1, h1, _, w1⟩ := DataW.trod_int Tryz.underlying3 g1
    obtain ⟨n2, h2, _⟩ := DataW.trod_bool Tryz.underlying4 g2
    obtain ⟨s3, zs, h3, r3, _, _⟩ := ints_in g3
    obtain ⟨n4, h4, _⟩ := DataW.trod_bool Tryz.underlying4 g4
    obtain ⟨n5, h5, _, _⟩ := DataW.trod_int Tryz.underlying3 g5
    obtain ⟨n6, h6, _, _⟩ := DataW.trod_int Tryz.underlying3 g6
    obtain ⟨n7, h7, _, _⟩ := DataW.trod_int Tryz.underlying3 g7
    obtain ⟨n8, h8, _, _⟩ := DataW.trod_int Tryz.underlying3 g8
    obtain ⟨n9, h9, _⟩ := DataW.trod_bool Tryz.underlying4 g9
    simp only [List.cons.injEq, and_true] at h0 h1 h2 h3 h4 h5 h6 h7 h8 h9
    subst h0 h1 h2 h3 h4 h5 h6 h7 h8 h9
    exact ⟨⟨n0, n1, n2, s3, n4, n5, n6, n7, n8, n9⟩, zs, rfl, r3.1, r3.2.1, r3.2.2, w1⟩
end Go.Proofs.YtgmkomnoiffapaaGreatDoor.Sh
end
