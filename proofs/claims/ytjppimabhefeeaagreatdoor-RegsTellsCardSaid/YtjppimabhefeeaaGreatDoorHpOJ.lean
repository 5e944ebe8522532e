/-
  Merged texts: ShKs, RtIns, HpIns, HpWholeP, HpLess, HpSix, AlIns, RtHeap, RtArm, RtLaw, RtLawK.
-/
import Derived.Test.YtjppimabhefeeaaGreatDoorHpOA
import Derived.ProofKit
import Derived.OpenShut
import Derived.ShutString
import Derived.ChangeOld
import Derived.Laws.IdiomArrays
import Derived.Deep.Slices
import Derived.Test.YtjppimabhefeeaaGreatDoorCards
import Derived.Test.YtjppimabhefeeaaGreatDoorTie
import Derived.Test.YtjppimabhefeeaaGreatDoorHpOI
import Derived.Deep.SlicePairs
import Derived.Deep.Fields
import Derived.LaidMore
import Derived.Lib.LaidTab
import Derived.Stop.Joined
import Derived.SevenTiedAt
import Derived.Test.YtjppimabhefeeaaGreatDoorRows
import Derived.WalkKit
import Derived.Test.YtjppimabhefeeaaGreatDoorORtObj
import Derived.Test.YtjppimabhefeeaaGreatDoorORtAwake
section
namespace Go.Proofs.YtjppimabhefeeaaGreatDoor.Sh
open Go.Proofs.YtjppimabhefeeaaGreatDoor

/-- A collector. -/
structure Ks where
  ph : Int
  ep : Int
  mj : Bool
  wk : Ls.Sl
  ov : Bool
  pa : Int
  pf : Int
  ps : Int
  pc : Int
  me : Bool
end Go.Proofs.YtjppimabhefeeaaGreatDoor.Sh
end
section
namespace Go.Proofs.YtjppimabhefeeaaGreatDoor.Rt
open Go.Proofs.YtjppimabhefeeaaGreatDoor
open Go.ChangeShapes Go.WideShapes Go.ChangeAt Go.RowKit Go.Deep
set_option maxRecDepth 100000

section
variable {H : Type} {enc : TypeId × Value → H} {w : World} {base : Nat} {spare : Nat → Bool} {held : Bool}
theorem ints_in {fuel : Nat} {cs : List Value} {x : DataW H × List MemPlace} (h : DataW.trod enc Tryz.prog w base spare held fuel 22 cs = some x) :
    ∃ (s : Ls.Sl) (zs : List Int), cs = [.slice s.a s.n s.c] ∧ Row w w.heap.size s.a s.n zs ∧ s.n ≤ s.c ∧ s.c ≤ maxLen := by
  rcases open_ints Tryz.underlying22 Tryz.underlying3 (by kernel_rfl) h with ⟨rfl, rfl⟩ | ⟨y, len, cap, zs, rfl, _, hl, hm, hz, rfl, hcell, hwz⟩
  · exact ⟨⟨none, 0, 0⟩, [], rfl, Row.none_ _ _, Nat.le_refl _, by show (0 : Nat) ≤ maxLen; unfold maxLen; omega⟩
  · have hz' : len ≤ zs.length := by rw [hz]; split <;> omega
    refine ⟨⟨some y, len, cap⟩, zs.take len, rfl, ⟨by simp; omega, fun hn => ?_⟩, hl, hm⟩
    have hn' : 0 < len := hn
    obtain ⟨b, off, spot⟩ := y
    have h0 := hcell 0 (by omega)
    have hs : spot = none := by simpa [Addr.add] using World.cell?_spot h0
    subst hs
    refine ⟨b, off, rfl, ?_, fun i hi => ?_⟩
    · have := World.block_lt_of_cell? w _ h0
      simpa [Addr.add] using this
    · have hi' : i < len := hi
      have := hcell i (by omega)
      rw [Addr.add_lit] at this
      rw [this]
      simp [List.getD, hi']
def tri {α : Type} (a b c : α) : Nat → α
  | 0 => a
  | 1 => b
  | _ => c
def four {α : Type} (a b c d : α) : Nat → α
  | 0 => a
  | 1 => b
  | 2 => c
  | _ => d
theorem lists_in {fuel : Nat} {c0 c1 c2 : Value} {x : DataW H × List MemPlace} (h : DataW.trod enc Tryz.prog w base spare held fuel 25 [c0, c1, c2] = some x) :
    ∃ (u : Nat → Ls.Sl) (f : Nat → List Int), c0 = .slice (u 0).a (u 0).n (u 0).c ∧ c1 = .slice (u 1).a (u 1).n (u 1).c ∧ c2 = .slice (u 2).a (u 2).n (u 2).c ∧ Ls.L3 w w.heap.size u f := by
  obtain ⟨y0, y1, y2, n, rfl, h0, h1, h2⟩ := trod_array3 Tryz.underlying25 (by kernel_rfl) h
  obtain ⟨s0, z0, e0, r0⟩ := ints_in h0
  obtain ⟨s1, z1, e1, r1⟩ := ints_in h1
  obtain ⟨s2, z2, e2, r2⟩ := ints_in h2
  simp only [List.cons.injEq, and_true] at e0 e1 e2
  refine ⟨tri s0 s1 s2, tri z0 z1 z2, e0, e1, e2, fun j hj => ?_⟩
  match j, hj with
  | 0, _ => exact r0
  | 1, _ => exact r1
  | 2, _ => exact r2
theorem ops_in {fuel : Nat} {cs : List Value} {x : DataW H × List MemPlace} (h : DataW.trod enc Tryz.prog w base spare held fuel 32 cs = some x) :
    ∃ (s : Ls.Sl) (g : Nat → O4), cs = [.slice s.a s.n s.c] ∧ ORow w w.heap.size s.a s.n g := by
  rcases open_slice Tryz.underlying32 h with ⟨hcs, _⟩ | ⟨y, len, cap, m, k, D, Pl, hcs, _, hl, hm, hmm, _, hi⟩
  · exact ⟨⟨none, 0, 0⟩, fun _ => ⟨0, 0, 0, 0⟩, hcs, ORow.empty _ _ _ _⟩
  · have hm' : len ≤ m := by rw [hmm]; split <;> omega
    have ce : Tryz.prog.cellsOf 55 = 4 := by kernel_rfl
    have e1 : Tryz.prog.cellsOf 3 = 1 := by kernel_rfl
    have each : ∀ i, i < len → ∃ q : O4, w.cell? ((y.add (i * 4)).add 0) = some (.int .i64 q.k) ∧ w.cell? ((y.add (i * 4)).add 1) = some (.int .i64 q.a) ∧ w.cell? ((y.add (i * 4)).add 2) = some (.int .i64 q.b) ∧ w.cell? ((y.add (i * 4)).add 3) = some (.int .i64 q.c) := by
      intro i hlt
      obtain ⟨cs', h1, h2⟩ := hi i (by omega)
      rw [ce] at h1
      obtain ⟨_, hlen, hcell⟩ := World.cells?_some h1
      obtain ⟨xs, k', _, _, _, hxl, hg⟩ := DataW.trod_struct Tryz.underlying55 h2
      match xs, hxl, cs', hlen with
      | [y0, y1, y2, y3], _, [c0, c1, c2, c3], _ =>
        have g0 : DataW.trod enc Tryz.prog w base spare held k' 3 [c0] = some y0 := by have := hg 0 _ rfl; simpa [e1, Value.cells] using this
        have g1 : DataW.trod enc Tryz.prog w base spare held k' 3 [c1] = some y1 := by have := hg 1 _ rfl; simpa [e1, Value.cells] using this
        have g2 : DataW.trod enc Tryz.prog w base spare held k' 3 [c2] = some y2 := by have := hg 2 _ rfl; simpa [e1, Value.cells] using this
        have g3 : DataW.trod enc Tryz.prog w base spare held k' 3 [c3] = some y3 := by have := hg 3 _ rfl; simpa [e1, Value.cells] using this
        obtain ⟨n0, a0, _, _⟩ := DataW.trod_int Tryz.underlying3 g0
        obtain ⟨n1, a1, _, _⟩ := DataW.trod_int Tryz.underlying3 g1
        obtain ⟨n2, a2, _, _⟩ := DataW.trod_int Tryz.underlying3 g2
        obtain ⟨n3, a3, _, _⟩ := DataW.trod_int Tryz.underlying3 g3
        simp only [List.cons.injEq, and_true] at a0 a1 a2 a3
        subst a0 a1 a2 a3
        exact ⟨⟨n0, n1, n2, n3⟩, by simpa using hcell 0 (by decide), by simpa using hcell 1 (by decide), by simpa using hcell 2 (by decide), by simpa using hcell 3 (by decide)⟩
    haveI : Inhabited O4 := ⟨⟨0, 0, 0, 0⟩⟩
    obtain ⟨q, hq⟩ := choose_lt each
    refine ⟨⟨some y, len, cap⟩, q, hcs, fun hn => ?_⟩
    obtain ⟨b, off, spot⟩ := y
    have h0 := (hq 0 hn).1
    have hs : spot = none := by simpa [Addr.add] using World.cell?_spot h0
    subst hs
    refine ⟨b, off, rfl, ?_, fun i hlt => ?_⟩
    · have := World.block_lt_of_cell? w _ h0
      simpa [Addr.add] using this
    · have := hq i hlt
      simp only [Addr.add_lit, Nat.add_zero] at this
      exact this
theorem th_of {b0 : Nat} {v : Value} {d : DataW H} {p : List MemPlace} {r : Reach} (hv : Value.okWide Tryz.prog w r b0 34 v) (h : DataW.Trod enc Tryz.prog w base spare held 34 v d p) :
    ∃ (t : Ts) (F : Nat → List Int) (g : Nat → O4), v = (.agg #[.bool t.lv, .int .i64 (t.r 0), .int .i64 (t.r 1), .int .i64 (t.r 2), .int .i64 (t.r 3), .slice (t.u 0).a (t.u 0).n (t.u 0).c, .slice (t.u 1).a (t.u 1).n (t.u 1).c, .slice (t.u 2).a (t.u 2).n (t.u 2).c, .int .i64 t.ep, .int .i64 t.sg, .int .i64 t.rt, .slice t.o.a t.o.n t.o.c, .int .i64 t.pc, .int .i64 t.x, .int .i64 t.y]) ∧ Th w w.heap.size t F g := by
  obtain ⟨⟨l⟩, rfl, hsz⟩ := okWide_struct Tryz.underlying34 hv
  obtain ⟨fuel, hf⟩ := h
  obtain ⟨xs, k, _, hx, hl, hlen, hg⟩ := DataW.trod_struct Tryz.underlying34 hf
  have hl15 : l.length = 15 := hsz.trans (by kernel_rfl)
  match l, hl15, xs, hlen with
  | [c0, c1, c2, c3, c4, c5, c6, c7, c8, c9, c10, c11, c12, c13, c14], _, [y0, y1, y2, y3, y4, y5, y6, y7, y8, y9], _ =>
    have e1 : Tryz.prog.cellsOf 3 = 1 := by kernel_rfl
    have e2 : Tryz.prog.cellsOf 4 = 1 := by kernel_rfl
    have e3 : Tryz.prog.cellsOf 32 = 1 := by kernel_rfl
    have e4 : Tryz.prog.cellsOf 31 = 4 := by kernel_rfl
    have e5 : Tryz.prog.cellsOf 25 = 3 := by kernel_rfl
    have g0 : DataW.trod enc Tryz.prog w base spare held k 4 [c0] = some y0 := by have := hg 0 _ rfl; simpa [e2, Value.cells] using this
    have g1 : DataW.trod enc Tryz.prog w base spare held k 31 [c1, c2, c3, c4] = some y1 := by have := hg 1 _ rfl; simpa [e4, Value.cells] using this
    have g2 : DataW.trod enc Tryz.prog w base spare held k 25 [c5, c6, c7] = some y2 := by have := hg 2 _ rfl; simpa [e5, Value.cells] using this
    have g3 : DataW.trod enc Tryz.prog w base spare held k 3 [c8] = some y3 := by have := hg 3 _ rfl; simpa [e1, Value.cells] using this
    have g4 : DataW.trod enc Tryz.prog w base spare held k 3 [c9] = some y4 := by have := hg 4 _ rfl; simpa [e1, Value.cells] using this
    have g5 : DataW.trod enc Tryz.prog w base spare held k 3 [c10] = some y5 := by have := hg 5 _ rfl; simpa [e1, Value.cells] using this
    have g6 : DataW.trod enc Tryz.prog w base spare held k 32 [c11] = some y6 := by have := hg 6 _ rfl; simpa [e3, Value.cells] using this
    have g7 : DataW.trod enc Tryz.prog w base spare held k 3 [c12] = some y7 := by have := hg 7 _ rfl; simpa [e1, Value.cells] using this
    have g8 : DataW.trod enc Tryz.prog w base spare held k 3 [c13] = some y8 := by have := hg 8 _ rfl; simpa [e1, Value.cells] using this
    have g9 : DataW.trod enc Tryz.prog w base spare held k 3 [c14] = some y9 := by have := hg 9 _ rfl; simpa [e1, Value.cells] using this
    obtain ⟨n0, h0, _⟩ := DataW.trod_bool Tryz.underlying4 g0
    obtain ⟨q0, q1, q2, q3, k', _, p0, p1, p2, p3⟩ := trod_array4 Tryz.underlying31 (by kernel_rfl) g1
    obtain ⟨r0, a0, _, _⟩ := DataW.trod_int Tryz.underlying3 p0
    obtain ⟨r1, a1, _, _⟩ := DataW.trod_int Tryz.underlying3 p1
    obtain ⟨r2, a2, _, _⟩ := DataW.trod_int Tryz.underlying3 p2
    obtain ⟨r3, a3, _, _⟩ := DataW.trod_int Tryz.underlying3 p3
    obtain ⟨u, F, u0, u1, u2, hu⟩ := lists_in g2
    obtain ⟨n3, h3, _, _⟩ := DataW.trod_int Tryz.underlying3 g3
    obtain ⟨n4, h4, _, _⟩ := DataW.trod_int Tryz.underlying3 g4
    obtain ⟨n5, h5, _, _⟩ := DataW.trod_int Tryz.underlying3 g5
    obtain ⟨o, g, h6, ho⟩ := ops_in g6
    obtain ⟨n7, h7, _, _⟩ := DataW.trod_int Tryz.underlying3 g7
    obtain ⟨n8, h8, _, _⟩ := DataW.trod_int Tryz.underlying3 g8
    obtain ⟨n9, h9, _, _⟩ := DataW.trod_int Tryz.underlying3 g9
    simp only [List.cons.injEq, and_true] at h0 a0 a1 a2 a3 h3 h4 h5 h6 h7 h8 h9
    subst h0 a0 a1 a2 a3 u0 u1 u2 h3 h4 h5 h6 h7 h8 h9
    exact ⟨⟨n0, four r0 r1 r2 r3, u, n3, n4, n5, o, n7, n8, n9⟩, F, g, rfl, hu, ho⟩
theorem col_in {b0 : Nat} {v : Value} {d : DataW H} {p : List MemPlace} {r : Reach} (hv : Value.okWide Tryz.prog w r b0 30 v) (h : DataW.Trod enc Tryz.prog w base spare held 30 v d p) :
    ∃ k : Sh.Ks, v = (.agg #[.int .i64 k.ph, .int .i64 k.ep, .bool k.mj, .slice k.wk.a k.wk.n k.wk.c, .bool k.ov, .int .i64 k.pa, .int .i64 k.pf, .int .i64 k.ps, .int .i64 k.pc, .bool k.me]) := by
  obtain ⟨⟨l⟩, rfl, hsz⟩ := okWide_struct Tryz.underlying30 hv
  obtain ⟨fuel, hf⟩ := h
  obtain ⟨xs, k, _, hx, hl, hlen, hg⟩ := DataW.trod_struct Tryz.underlying30 hf
  have hl10 : l.length = 10 := hsz.trans (by kernel_rfl)
  match l, hl10, xs, hlen with
  | [c0, c1, c2, c3, c4, c5, c6, c7, c8, c9], _, [y0, y1, y2, y3, y4, y5, y6, y7, y8, y9], _ =>
    have e1 : Tryz.prog.cellsOf 3 = 1 := by kernel_rfl
    have e2 : Tryz.prog.cellsOf 4 = 1 := by kernel_rfl
    have e3 : Tryz.prog.cellsOf 22 = 1 := by kernel_rfl
    have g0 : DataW.trod enc Tryz.prog w base spare held k 3 [c0] = some y0 := by have := hg 0 _ rfl; simpa [e1, Value.cells] using this
    have g1 : DataW.trod enc Tryz.prog w base spare held k 3 [c1] = some y1 := by have := hg 1 _ rfl; simpa [e1, Value.cells] using this
    have g2 : DataW.trod enc Tryz.prog w base spare held k 4 [c2] = some y2 := by have := hg 2 _ rfl; simpa [e2, Value.cells] using this
    have g3 : DataW.trod enc Tryz.prog w base spare held k 22 [c3] = some y3 := by have := hg 3 _ rfl; simpa [e3, Value.cells] using this
    have g4 : DataW.trod enc Tryz.prog w base spare held k 4 [c4] = some y4 := by have := hg 4 _ rfl; simpa [e2, Value.cells] using this
    have g5 : DataW.trod enc Tryz.prog w base spare held k 3 [c5] = some y5 := by have := hg 5 _ rfl; simpa [e1, Value.cells] using this
    have g6 : DataW.trod enc Tryz.prog w base spare held k 3 [c6] = some y6 := by have := hg 6 _ rfl; simpa [e1, Value.cells] using this
    have g7 : DataW.trod enc Tryz.prog w base spare held k 3 [c7] = some y7 := by have := hg 7 _ rfl; simpa [e1, Value.cells] using this
    have g8 : DataW.trod enc Tryz.prog w base spare held k 3 [c8] = some y8 := by have := hg 8 _ rfl; simpa [e1, Value.cells] using this
    have g9 : DataW.trod enc Tryz.prog w base spare held k 4 [c9] = some y9 := by have := hg 9 _ rfl; simpa [e2, Value.cells] using this
    obtain ⟨n0, h0, _, _⟩ := DataW.trod_int Tryz.underlying3 g0
    obtain ⟨n1, h1, _, _⟩ := DataW.trod_int Tryz.underlying3 g1
    obtain ⟨n2, h2, _⟩ := DataW.trod_bool Tryz.underlying4 g2
    obtain ⟨s3, zs, h3, _⟩ := ints_in g3
    obtain ⟨n4, h4, _⟩ := DataW.trod_bool Tryz.underlying4 g4
    obtain ⟨n5, h5, _, _⟩ := DataW.trod_int Tryz.underlying3 g5
    obtain ⟨n6, h6, _, _⟩ := DataW.trod_int Tryz.underlying3 g6
    obtain ⟨n7, h7, _, _⟩ := DataW.trod_int Tryz.underlying3 g7
    obtain ⟨n8, h8, _, _⟩ := DataW.trod_int Tryz.underlying3 g8
    obtain ⟨n9, h9, _⟩ := DataW.trod_bool Tryz.underlying4 g9
    simp only [List.cons.injEq, and_true] at h0 h1 h2 h3 h4 h5 h6 h7 h8 h9
    subst h0 h1 h2 h3 h4 h5 h6 h7 h8 h9
    exact ⟨⟨n0, n1, n2, s3, n4, n5, n6, n7, n8, n9⟩, rfl⟩
end
end Go.Proofs.YtjppimabhefeeaaGreatDoor.Rt
end
section
namespace Go.Proofs.YtjppimabhefeeaaGreatDoor
open Go.ChangeShapes Go.WideShapes Go.ChangeAt Go.RowKit Go.Deep
set_option maxRecDepth 100000

theorem own : ownKnob Tryz.prog.godebug = none := by kernel_rfl
theorem laidOut : laidOutB Tryz.prog = true := by kernel_rfl
def laidSizes : List (String × DataW Unit) := [("ragpicker/class.sizes", Rows.laid_ragpicker_class_sizes)]
theorem gSizes : Tryz.prog.globalNamed "ragpicker/class.sizes" = some 0 := by kernel_rfl
theorem tSizes : (Tryz.prog.globals[0]?).map (·.type) = some 111 := by kernel_rfl
theorem cInt : Tryz.prog.cellsOf 3 = 1 := by kernel_rfl
theorem cSizes : Tryz.prog.cellsOf 111 = 3 := by kernel_rfl
theorem of_laid {W : World} (h : laidMetH Tryz.prog laidSizes W) : Cl.Sz W := by
  rw [MakeChecks.laidMetH_plain _ _ _ (by kernel_rfl)] at h
  have hT : Lib.TabIs Tryz.prog W "ragpicker/class.sizes" .i64 [2, 4, 8] := Lib.tabIs_of_head gSizes tSizes Tryz.underlying111 Tryz.underlying3 cInt cSizes h
  exact ⟨hT.cell gSizes 0 (by decide), hT.cell gSizes 1 (by decide), hT.cell gSizes 2 (by decide)⟩
theorem door_met (os : Os) (args : Array Value) : laidMetH Tryz.prog laidSizes ((World.doorLaid Tryz.prog 400 os).forCall (fun _ _ => 0) ⟨#[], args, []⟩).memory :=
  laidMetH_of_parts3 (fuel := 8) (laidMet_of_run' 8 (by kernel_rfl) (by kernel_rfl)) (by kernel_rfl) (by kernel_rfl)

/-- How much a reading holds. -/
theorem bulk_one {H : Type} (d : DataW H) : 1 ≤ Rows.uptoBulk d := by
  cases d <;> first | (simp only [Rows.uptoBulk]; omega) | (rename_i l; cases l <;> simp [Rows.uptoBulk])
theorem bulk_long {H : Type} : ∀ l : List (DataW H), l.length ≤ Rows.uptoBulkAll l
  | [] => by simp [Rows.uptoBulkAll]
  | x :: r => by
    have h1 := bulk_one x
    have h2 := bulk_long r
    simp only [Rows.uptoBulkAll, List.length_cons]
    omega
theorem bulk_slice {H : Type} (l r : List (DataW H)) : l.length ≤ Rows.uptoBulk (.slice l r) := by
  have := bulk_long l
  simp only [Rows.uptoBulk]
  omega
theorem wf_bounds {n : Int} (h : (Lit.int .i64 n).wf = true) : -9223372036854775808 ≤ n ∧ n ≤ 9223372036854775807 := by
  simpa [Lit.wf, IntKind.min, IntKind.max, IntKind.signed, IntKind.bits] using h
def Fit64 (zs : List Int) : Prop := ∀ i, -9223372036854775808 ≤ zs.getD i 0 ∧ zs.getD i 0 ≤ 9223372036854775807
/-- A slice of numbers that comes in. -/
theorem ints_in {H : Type} {enc : TypeId × Value → H} {w : World} {base : Nat} {spare : Nat → Bool} {held : Bool} {fuel : Nat} {cs : List Value} {x : DataW H × List MemPlace}
    (h : DataW.trod enc Tryz.prog w base spare held fuel 22 cs = some x) :
    ∃ (s : Ls.Sl) (zs : List Int), cs = [.slice s.a s.n s.c] ∧ (Row w w.heap.size s.a s.n zs ∧ s.n ≤ s.c ∧ s.c ≤ maxLen) ∧ s.n ≤ Rows.uptoBulk x.1 ∧ Fit64 zs := by
  rcases open_ints Tryz.underlying22 Tryz.underlying3 (by kernel_rfl) h with ⟨rfl, rfl⟩ | ⟨y, len, cap, zs, rfl, _, hl, hm, hz, rfl, hcell, hwz⟩
  · exact ⟨⟨none, 0, 0⟩, [], rfl, ⟨Row.none_ _ _, Nat.le_refl _, by show (0 : Nat) ≤ maxLen; unfold maxLen; omega⟩, Nat.zero_le _, fun i => by simp⟩
  · have hz' : len ≤ zs.length := by rw [hz]; split <;> omega
    refine ⟨⟨some y, len, cap⟩, zs.take len, rfl, ⟨⟨by simp; omega, fun hn => ?_⟩, hl, hm⟩, ?_, fun i => ?_⟩
    · have hn' : 0 < len := hn
      obtain ⟨b, off, spot⟩ := y
      have h0 := hcell 0 (by omega)
      have hs : spot = none := by simpa [Addr.add] using World.cell?_spot h0
      subst hs
      refine ⟨b, off, rfl, ?_, fun i hi => ?_⟩
      · have := World.block_lt_of_cell? w _ h0
        simpa [Addr.add] using this
      · have hi' : i < len := hi
        have := hcell i (by omega)
        rw [Addr.add_lit] at this
        rw [this]
        simp [List.getD, hi']
    · have := bulk_slice (H := H) (lits .i64 (zs.take len)) (lits .i64 (zs.drop len))
      have e : (lits (H := H) .i64 (zs.take len)).length = len := by simp [lits]; omega
      show len ≤ Rows.uptoBulk (DataW.slice (lits .i64 (zs.take len)) (lits .i64 (zs.drop len)))
      rw [e] at this
      exact this
    · by_cases hi : i < len
      · have hi2 : i < zs.length := by omega
        have h1 := hwz (zs.getD i 0) (getD_mem hi2)
        rw [show (zs.take len).getD i 0 = zs.getD i 0 by simp [List.getD, hi]]
        exact wf_bounds h1
      · rw [show (zs.take len).getD i 0 = 0 by simp [List.getD, List.getElem?_eq_none (show (zs.take len).length ≤ i by simp; omega)]]
        omega
theorem bools_in {H : Type} {enc : TypeId × Value → H} {w : World} {base : Nat} {spare : Nat → Bool} {held : Bool} {fuel : Nat} {cs : List Value} {x : DataW H × List MemPlace}
    (h : DataW.trod enc Tryz.prog w base spare held fuel 26 cs = some x) : ∃ (s : Ls.Sl) (f : Nat → Bool), cs = [.slice s.a s.n s.c] ∧ BRow w w.heap.size s.a s.n f := by
  rcases open_slice Tryz.underlying26 h with ⟨hcs, _⟩ | ⟨y, len, cap, m, k, D, Pl, hcs, _, hl, hm, hmm, _, hi⟩
  · exact ⟨⟨none, 0, 0⟩, fun _ => false, hcs, fun h0 => absurd h0 (by simp)⟩
  · have hm' : len ≤ m := by rw [hmm]; split <;> omega
    have each : ∀ i, i < len → ∃ v : Bool, w.cell? ((y.add (i * 1)).add 0) = some (.bool v) := by
      intro i hlt
      obtain ⟨cs', h1, h2⟩ := hi i (by omega)
      have ce : Tryz.prog.cellsOf 4 = 1 := by kernel_rfl
      rw [ce] at h1
      obtain ⟨_, hlen, hcell⟩ := World.cells?_some h1
      match cs', hlen with
      | [c0], _ =>
        obtain ⟨v, e, _⟩ := DataW.trod_bool Tryz.underlying4 h2
        simp only [List.cons.injEq, and_true] at e
        subst e
        exact ⟨v, by simpa using hcell 0 (by decide)⟩
    obtain ⟨q, hq⟩ := choose_lt each
    refine ⟨⟨some y, len, cap⟩, q, hcs, fun hn => ?_⟩
    have hn' : 0 < len := hn
    obtain ⟨b, off, spot⟩ := y
    have h0 := hq 0 hn'
    have hs : spot = none := by simpa [Addr.add] using World.cell?_spot h0
    subst hs
    refine ⟨b, off, rfl, ?_, fun i hlt => ?_⟩
    · have := World.block_lt_of_cell? w _ h0
      simpa [Addr.add] using this
    · have := hq i hlt
      rw [Addr.add_lit, Addr.add_lit, Nat.mul_one] at this
      exact this
/-- Three of them. -/
def tri {α : Type} (a b c : α) : Nat → α
  | 0 => a
  | 1 => b
  | _ => c
theorem lists_in {H : Type} {enc : TypeId × Value → H} {w : World} {base : Nat} {spare : Nat → Bool} {held : Bool} {fuel : Nat} {c0 c1 c2 : Value} {x : DataW H × List MemPlace}
    (h : DataW.trod enc Tryz.prog w base spare held fuel 25 [c0, c1, c2] = some x) :
    ∃ (u : Nat → Ls.Sl) (f : Nat → List Int), [c0, c1, c2] = [.slice (u 0).a (u 0).n (u 0).c, .slice (u 1).a (u 1).n (u 1).c, .slice (u 2).a (u 2).n (u 2).c] ∧ Ls.L3 w w.heap.size u f ∧ (u 0).n + (u 1).n + (u 2).n ≤ Rows.uptoBulk x.1 := by
  obtain ⟨y0, y1, y2, n, rfl, h0, h1, h2⟩ := trod_array3 Tryz.underlying25 (by kernel_rfl) h
  obtain ⟨s0, z0, e0, r0, b0, _⟩ := ints_in h0
  obtain ⟨s1, z1, e1, r1, b1, _⟩ := ints_in h1
  obtain ⟨s2, z2, e2, r2, b2, _⟩ := ints_in h2
  simp only [List.cons.injEq, and_true] at e0 e1 e2
  refine ⟨tri s0 s1 s2, tri z0 z1 z2, by rw [e0, e1, e2]; rfl, fun j hj => ?_, ?_⟩
  · match j, hj with
    | 0, _ => exact r0
    | 1, _ => exact r1
    | 2, _ => exact r2
  · simp only [Rows.uptoBulk, Rows.uptoBulkAll, tri]
    omega
end Go.Proofs.YtjppimabhefeeaaGreatDoor
end
section
namespace Go.Proofs.YtjppimabhefeeaaGreatDoor
open Go.RowKit Go.Sort
set_option maxRecDepth 100000

section
variable (n₀ bf : Nat) (ys : List Int) (d : Hd_) (M : Nat → Prop) (pre pre' : List Int) (a x : Int) (p : Int × Int) (W : World)
end
section
variable (s : Hs) (d : Hd_) (A : Option Addr) (m c : Nat) (U : Nat → Nat → Ls.Sl) (F : Nat → Nat → List Int) (w : World)
end
end Go.Proofs.YtjppimabhefeeaaGreatDoor
end
section
namespace Go.Proofs.YtjppimabhefeeaaGreatDoor
open Go.ChangeShapes Go.WideShapes Go.ChangeAt Go.RowKit Go.Deep
set_option maxRecDepth 100000

end Go.Proofs.YtjppimabhefeeaaGreatDoor
end
section
namespace Go.Proofs.YtjppimabhefeeaaGreatDoor
open Go.ChangeShapes Go.WideShapes Go.ChangeAt Go.RowKit Go.Deep

section
variable {H : Type} {enc : TypeId × Value → H} {P : Program} {w : World} {base : Nat} {spare : Nat → Bool} {held : Bool}

end
end Go.Proofs.YtjppimabhefeeaaGreatDoor
end
section
namespace Go.Proofs.YtjppimabhefeeaaGreatDoor
open Go.ChangeShapes Go.WideShapes Go.ChangeAt Go.RowKit Go.Deep
set_option maxRecDepth 100000

theorem pin_cap {H : Type} {enc : TypeId × Value → H} {w : World} {base : Nat} {spare : Nat → Bool} {held : Bool} {fuel : Nat} {cs : List Value} {x : DataW H × List MemPlace}
    (h : DataW.trod enc Tryz.prog w base spare held fuel 23 cs = some x) : ∃ (s : Ls.Sl) (f : Nat → Int × Int), cs = [.slice s.a s.n s.c] ∧ Cl.PRow w w.heap.size s.a s.n f ∧ s.n ≤ s.c := by
  rcases open_slice_pairs Tryz.underlying23 Tryz.underlying75 (by kernel_rfl) rfl rfl (by kernel_rfl) (by kernel_rfl) h with ⟨hcs, _⟩ | ⟨x, l, c, m, n, V0, V1, D0, D1, P0, P1, hcs, _, hl, hm, hmm, _, hi⟩
  · exact ⟨⟨none, 0, 0⟩, fun _ => (0, 0), hcs, Cl.PRow.empty _ _ _ _, Nat.le_refl _⟩
  · refine ⟨⟨some x, l, c⟩, fun i => (intOf (V0 i), intOf (V1 i)), hcs, fun hn => ?_, hl⟩
    have hn' : 0 < l := hn
    have hm' : l ≤ m := by rw [hmm]; split <;> omega
    obtain ⟨b, off, spot⟩ := x
    have h0 := (hi 0 (by omega)).1
    have hs : spot = none := by simpa [Addr.add] using World.cell?_spot h0
    subst hs
    refine ⟨b, off, rfl, ?_, fun i hlt => ?_⟩
    · have := World.block_lt_of_cell? w _ h0
      simpa [Addr.add] using this
    · have hlt' : i < l := hlt
      obtain ⟨g0, g1, t0, t1⟩ := hi i (by omega)
      rw [Addr.add_lit] at g0 g1
      rw [← Nat.add_assoc] at g1
      obtain ⟨z0, e0, _⟩ := DataW.trod_int Tryz.underlying3 t0
      obtain ⟨z1, e1, _⟩ := DataW.trod_int Tryz.underlying3 t1
      simp only [List.cons.injEq, and_true] at e0 e1
      refine ⟨?_, ?_⟩
      · show _ = some (Value.int .i64 (intOf (V0 i)))
        rw [g0, e0]
        rfl
      · show _ = some (Value.int .i64 (intOf (V1 i)))
        rw [g1, e1]
        rfl
theorem heap_of8 {H : Type} {enc : TypeId × Value → H} {w : World} {base b0 : Nat} {spare : Nat → Bool} {held : Bool} {v : Value} {d : DataW H} {p : List MemPlace} {r : Reach}
    (hv : Value.okWide Tryz.prog w r b0 28 v) (h : DataW.Trod enc Tryz.prog w base spare held 28 v d p) :
    ∃ (s : Hs) (e : Hd_), v = (.agg #[.slice s.w.a s.w.n s.w.c, .slice s.p.a s.p.n s.p.c, .slice (s.u 0).a (s.u 0).n (s.u 0).c, .slice (s.u 1).a (s.u 1).n (s.u 1).c, .slice (s.u 2).a (s.u 2).n (s.u 2).c, .slice s.c.a s.c.n s.c.c]) ∧ Hp w w.heap.size s e ∧ Fit64 e.ws ∧ s.p.n ≤ s.p.c := by
  obtain ⟨⟨l⟩, rfl, hsz⟩ := okWide_struct Tryz.underlying28 hv
  obtain ⟨fuel, hf⟩ := h
  obtain ⟨xs, k, _, hx, hl, hlen, hg⟩ := DataW.trod_struct Tryz.underlying28 hf
  have hl6 : l.length = 6 := hsz.trans (by kernel_rfl)
  match l, hl6, xs, hlen with
  | [c0, c1, c2, c3, c4, c5], _, [y0, y1, y2, y3], _ =>
    have e22 : Tryz.prog.cellsOf 22 = 1 := by kernel_rfl
    have e23 : Tryz.prog.cellsOf 23 = 1 := by kernel_rfl
    have e25 : Tryz.prog.cellsOf 25 = 3 := by kernel_rfl
    have e26 : Tryz.prog.cellsOf 26 = 1 := by kernel_rfl
    have g0 : DataW.trod enc Tryz.prog w base spare held k 22 [c0] = some y0 := by have := hg 0 _ rfl; simpa [e22, Value.cells] using this
    have g1 : DataW.trod enc Tryz.prog w base spare held k 23 [c1] = some y1 := by have := hg 1 _ rfl; simpa [e23, Value.cells] using this
    have g2 : DataW.trod enc Tryz.prog w base spare held k 25 [c2, c3, c4] = some y2 := by have := hg 2 _ rfl; simpa [e25, Value.cells] using this
    have g3 : DataW.trod enc Tryz.prog w base spare held k 26 [c5] = some y3 := by have := hg 3 _ rfl; simpa [e26, Value.cells] using this
    obtain ⟨s0, zs, h0, r0, _, f0⟩ := ints_in g0
    obtain ⟨s1, f1, h1, r1, c1'⟩ := pin_cap g1
    obtain ⟨u, F, h2, r2, _⟩ := lists_in g2
    obtain ⟨s3, f3, h3, r3⟩ := bools_in g3
    simp only [List.cons.injEq, and_true] at h0 h1 h2 h3
    obtain ⟨rfl, rfl, rfl⟩ := h2
    subst h0 h1 h3
    refine ⟨⟨s0, s1, u, s3⟩, ⟨zs, f1, F, f3⟩, rfl, ⟨r0.1, r1, r2, r3⟩, f0, c1'⟩
end Go.Proofs.YtjppimabhefeeaaGreatDoor
end
section
namespace Go.Proofs.YtjppimabhefeeaaGreatDoor.Rt
open Go.Proofs.YtjppimabhefeeaaGreatDoor
open Go.RowKit
set_option maxRecDepth 100000

structure Lo (w W : World) (bh bt : Nat) (s : Hs) (d : Hd_) (t : Ts) (F : Nat → List Int) (g : Nat → O4) : Prop where
  bel : Below w.heap.size w W
  hb : HBox W bh s
  hp : Hp W W.heap.size s d
  tb : Box W bt (tv t)
  th : Th W W.heap.size t F g
section
variable {w W W' : World} {bh bt : Nat} {s : Hs} {d : Hd_} {t : Ts} {F : Nat → List Int} {g : Nat → O4}
theorem Lo.next (h : Lo w W bh bt s d t F g) (hb : Below W.heap.size W W') : Lo w W' bh bt s d t F g := ⟨h.bel.trans (hb.mono h.bel.size), h.hb.next hb, h.hp.next hb, h.tb.next hb, h.th.next hb⟩
theorem fewT_len {t : Ts} (h : fewT t = true) : t.o.n ≤ 220 ∧ ∀ j, j < 3 → (t.u j).n ≤ 70 := by
  unfold fewT at h
  simp only [Bool.and_eq_true, decide_eq_true_eq] at h
  refine ⟨h.1, fun j hj => ?_⟩
  match j, hj with
  | 0, _ => exact h.2.1
  | 1, _ => exact h.2.2.1
  | 2, _ => exact h.2.2.2
end
end Go.Proofs.YtjppimabhefeeaaGreatDoor.Rt
end
section
namespace Go.Proofs.YtjppimabhefeeaaGreatDoor.Rt
open Go.Proofs.YtjppimabhefeeaaGreatDoor
open Go.RowKit
set_option maxRecDepth 100000

theorem arm_is (ph ep : Int) (t : Ts) : armB ph ep t = ((t.ep == ep) && decide (1 ≤ ph) && decide (ph ≤ 5)) := by
  unfold armB
  rw [Bool.eq_iff_iff]
  simp only [decide_eq_true_eq, Bool.and_eq_true, beq_iff_eq]
  exact ⟨fun h => ⟨⟨h.1, h.2.1⟩, h.2.2⟩, fun h => ⟨h.1.1, h.1.2, h.2⟩⟩
theorem black_is (ph ep : Int) (t : Ts) : blackB ph ep t = ((t.ep == ep) && (t.sg == 3) && (ph != 0)) := by
  unfold blackB
  rw [Bool.eq_iff_iff]
  simp only [decide_eq_true_eq, Bool.and_eq_true, beq_iff_eq, bne_iff_ne]
  exact ⟨fun h => ⟨⟨h.1, h.2.1⟩, h.2.2⟩, fun h => ⟨h.1.1, h.1.2, h.2⟩⟩
theorem two_boxes (w : World) (o p : Obj) : Below w.heap.size w ((w.alloc o).alloc p) := ((Below.refl _ _).alloc (Nat.le_refl _) _).alloc (by simp) _
set_option maxHeartbeats 1000000 in
theorem parmed_core (k : Sh.Ks) (t : Ts) (b1 b2 b3 : Bool) (h1 : (t.ep == k.ep) = b1) (h2 : decide (1 ≤ k.ph) = b2) (h3 : decide (k.ph ≤ 5) = b3) (w : World) :
    Calls Tryz.prog 19 #[(.agg #[.int .i64 k.ph, .int .i64 k.ep, .bool k.mj, .slice k.wk.a k.wk.n k.wk.c, .bool k.ov, .int .i64 k.pa, .int .i64 k.pf, .int .i64 k.ps, .int .i64 k.pc, .bool k.me]), (.agg #[.bool t.lv, .int .i64 (t.r 0), .int .i64 (t.r 1), .int .i64 (t.r 2), .int .i64 (t.r 3), .slice (t.u 0).a (t.u 0).n (t.u 0).c, .slice (t.u 1).a (t.u 1).n (t.u 1).c, .slice (t.u 2).a (t.u 2).n (t.u 2).c, .int .i64 t.ep, .int .i64 t.sg, .int .i64 t.rt, .slice t.o.a t.o.n t.o.c, .int .i64 t.pc, .int .i64 t.x, .int .i64 t.y])] w fun e w' => e = .returned (.bool (b1 && b2 && b3)) ∧ Below w.heap.size w w' := by
  have g1 : decide (t.ep = k.ep) = b1 := by rw [← h1]; rfl
  cases b1 with
  | false =>
    clear h2 h3
    go_enter Tryz.func19, Tryz.ntmps19
    go_wp2
    go_ret
    exact ⟨rfl, two_boxes _ _ _⟩
  | true =>
    cases b2 with
    | false =>
      clear h3
      go_enter Tryz.func19, Tryz.ntmps19
      go_wp2
      go_ret
      exact ⟨rfl, two_boxes _ _ _⟩
    | true =>
      cases b3 with
      | false =>
        go_enter Tryz.func19, Tryz.ntmps19
        go_wp2
        go_ret
        exact ⟨rfl, two_boxes _ _ _⟩
      | true =>
        go_enter Tryz.func19, Tryz.ntmps19
        go_wp2
        go_ret
        exact ⟨rfl, two_boxes _ _ _⟩
theorem parmed_any (k : Sh.Ks) (t : Ts) (w : World) : Calls Tryz.prog 19 #[(.agg #[.int .i64 k.ph, .int .i64 k.ep, .bool k.mj, .slice k.wk.a k.wk.n k.wk.c, .bool k.ov, .int .i64 k.pa, .int .i64 k.pf, .int .i64 k.ps, .int .i64 k.pc, .bool k.me]), (.agg #[.bool t.lv, .int .i64 (t.r 0), .int .i64 (t.r 1), .int .i64 (t.r 2), .int .i64 (t.r 3), .slice (t.u 0).a (t.u 0).n (t.u 0).c, .slice (t.u 1).a (t.u 1).n (t.u 1).c, .slice (t.u 2).a (t.u 2).n (t.u 2).c, .int .i64 t.ep, .int .i64 t.sg, .int .i64 t.rt, .slice t.o.a t.o.n t.o.c, .int .i64 t.pc, .int .i64 t.x, .int .i64 t.y])] w fun e w' => e = .returned (.bool (armB k.ph k.ep t)) ∧ Below w.heap.size w w' := by
  rw [arm_is]
  exact parmed_core k t _ _ _ rfl rfl rfl w
set_option maxHeartbeats 1000000 in
theorem pblack_core (k : Sh.Ks) (t : Ts) (b1 b2 b3 : Bool) (h1 : (t.ep == k.ep) = b1) (h2 : (t.sg == 3) = b2) (h3 : (k.ph != 0) = b3) (w : World) :
    Calls Tryz.prog 21 #[(.agg #[.int .i64 k.ph, .int .i64 k.ep, .bool k.mj, .slice k.wk.a k.wk.n k.wk.c, .bool k.ov, .int .i64 k.pa, .int .i64 k.pf, .int .i64 k.ps, .int .i64 k.pc, .bool k.me]), (.agg #[.bool t.lv, .int .i64 (t.r 0), .int .i64 (t.r 1), .int .i64 (t.r 2), .int .i64 (t.r 3), .slice (t.u 0).a (t.u 0).n (t.u 0).c, .slice (t.u 1).a (t.u 1).n (t.u 1).c, .slice (t.u 2).a (t.u 2).n (t.u 2).c, .int .i64 t.ep, .int .i64 t.sg, .int .i64 t.rt, .slice t.o.a t.o.n t.o.c, .int .i64 t.pc, .int .i64 t.x, .int .i64 t.y])] w fun e w' => e = .returned (.bool (b1 && b2 && b3)) ∧ Below w.heap.size w w' := by
  have g1 : decide (t.ep = k.ep) = b1 := by rw [← h1]; rfl
  have g2 : decide (t.sg = 3) = b2 := by rw [← h2]; rfl
  cases b1 with
  | false =>
    clear h2 h3 g2
    go_enter Tryz.func21, Tryz.ntmps21
    go_wp2
    go_ret
    exact ⟨rfl, two_boxes _ _ _⟩
  | true =>
    cases b2 with
    | false =>
      clear h3
      go_enter Tryz.func21, Tryz.ntmps21
      go_wp2
      go_ret
      exact ⟨rfl, two_boxes _ _ _⟩
    | true =>
      cases b3 with
      | false =>
        go_enter Tryz.func21, Tryz.ntmps21
        go_wp2
        go_ret
        exact ⟨rfl, two_boxes _ _ _⟩
      | true =>
        go_enter Tryz.func21, Tryz.ntmps21
        go_wp2
        go_ret
        exact ⟨rfl, two_boxes _ _ _⟩
theorem pblack_any (k : Sh.Ks) (t : Ts) (w : World) : Calls Tryz.prog 21 #[(.agg #[.int .i64 k.ph, .int .i64 k.ep, .bool k.mj, .slice k.wk.a k.wk.n k.wk.c, .bool k.ov, .int .i64 k.pa, .int .i64 k.pf, .int .i64 k.ps, .int .i64 k.pc, .bool k.me]), (.agg #[.bool t.lv, .int .i64 (t.r 0), .int .i64 (t.r 1), .int .i64 (t.r 2), .int .i64 (t.r 3), .slice (t.u 0).a (t.u 0).n (t.u 0).c, .slice (t.u 1).a (t.u 1).n (t.u 1).c, .slice (t.u 2).a (t.u 2).n (t.u 2).c, .int .i64 t.ep, .int .i64 t.sg, .int .i64 t.rt, .slice t.o.a t.o.n t.o.c, .int .i64 t.pc, .int .i64 t.x, .int .i64 t.y])] w fun e w' => e = .returned (.bool (blackB k.ph k.ep t)) ∧ Below w.heap.size w w' := by
  rw [black_is]
  exact pblack_core k t _ _ _ rfl rfl rfl w
set_option maxHeartbeats 1000000 in
theorem rarmed_core (k : Sh.Ks) (t : Ts) (b1 b2 b3 : Bool) (h1 : (t.ep == k.ep) = b1) (h2 : decide (1 ≤ k.ph) = b2) (h3 : decide (k.ph ≤ 5) = b3) (w : World) :
    Calls Tryz.prog 20 #[(.agg #[.int .i64 k.ph, .int .i64 k.ep, .bool k.mj, .slice k.wk.a k.wk.n k.wk.c, .bool k.ov, .int .i64 k.pa, .int .i64 k.pf, .int .i64 k.ps, .int .i64 k.pc, .bool k.me]), (.agg #[.bool t.lv, .int .i64 (t.r 0), .int .i64 (t.r 1), .int .i64 (t.r 2), .int .i64 (t.r 3), .slice (t.u 0).a (t.u 0).n (t.u 0).c, .slice (t.u 1).a (t.u 1).n (t.u 1).c, .slice (t.u 2).a (t.u 2).n (t.u 2).c, .int .i64 t.ep, .int .i64 t.sg, .int .i64 t.rt, .slice t.o.a t.o.n t.o.c, .int .i64 t.pc, .int .i64 t.x, .int .i64 t.y])] w fun e w' => e = .returned (.bool (b1 && b2 && b3)) ∧ Below w.heap.size w w' := by
  have g1 : decide (t.ep = k.ep) = b1 := by rw [← h1]; rfl
  cases b1 with
  | false =>
    clear h2 h3
    go_enter Tryz.func20, Tryz.ntmps20
    go_wp2
    go_ret
    exact ⟨rfl, two_boxes _ _ _⟩
  | true =>
    cases b2 with
    | false =>
      clear h3
      go_enter Tryz.func20, Tryz.ntmps20
      go_wp2
      go_ret
      exact ⟨rfl, two_boxes _ _ _⟩
    | true =>
      cases b3 with
      | false =>
        go_enter Tryz.func20, Tryz.ntmps20
        go_wp2
        go_ret
        exact ⟨rfl, two_boxes _ _ _⟩
      | true =>
        go_enter Tryz.func20, Tryz.ntmps20
        go_wp2
        go_ret
        exact ⟨rfl, two_boxes _ _ _⟩
theorem rarmed_any (k : Sh.Ks) (t : Ts) (w : World) : Calls Tryz.prog 20 #[(.agg #[.int .i64 k.ph, .int .i64 k.ep, .bool k.mj, .slice k.wk.a k.wk.n k.wk.c, .bool k.ov, .int .i64 k.pa, .int .i64 k.pf, .int .i64 k.ps, .int .i64 k.pc, .bool k.me]), (.agg #[.bool t.lv, .int .i64 (t.r 0), .int .i64 (t.r 1), .int .i64 (t.r 2), .int .i64 (t.r 3), .slice (t.u 0).a (t.u 0).n (t.u 0).c, .slice (t.u 1).a (t.u 1).n (t.u 1).c, .slice (t.u 2).a (t.u 2).n (t.u 2).c, .int .i64 t.ep, .int .i64 t.sg, .int .i64 t.rt, .slice t.o.a t.o.n t.o.c, .int .i64 t.pc, .int .i64 t.x, .int .i64 t.y])] w fun e w' => e = .returned (.bool (armB k.ph k.ep t)) ∧ Below w.heap.size w w' := by
  rw [arm_is]
  exact rarmed_core k t _ _ _ rfl rfl rfl w
set_option maxHeartbeats 1000000 in
theorem rblack_core (k : Sh.Ks) (t : Ts) (b1 b2 b3 : Bool) (h1 : (t.ep == k.ep) = b1) (h2 : (t.sg == 3) = b2) (h3 : (k.ph != 0) = b3) (w : World) :
    Calls Tryz.prog 22 #[(.agg #[.int .i64 k.ph, .int .i64 k.ep, .bool k.mj, .slice k.wk.a k.wk.n k.wk.c, .bool k.ov, .int .i64 k.pa, .int .i64 k.pf, .int .i64 k.ps, .int .i64 k.pc, .bool k.me]), (.agg #[.bool t.lv, .int .i64 (t.r 0), .int .i64 (t.r 1), .int .i64 (t.r 2), .int .i64 (t.r 3), .slice (t.u 0).a (t.u 0).n (t.u 0).c, .slice (t.u 1).a (t.u 1).n (t.u 1).c, .slice (t.u 2).a (t.u 2).n (t.u 2).c, .int .i64 t.ep, .int .i64 t.sg, .int .i64 t.rt, .slice t.o.a t.o.n t.o.c, .int .i64 t.pc, .int .i64 t.x, .int .i64 t.y])] w fun e w' => e = .returned (.bool (b1 && b2 && b3)) ∧ Below w.heap.size w w' := by
  have g1 : decide (t.ep = k.ep) = b1 := by rw [← h1]; rfl
  have g2 : decide (t.sg = 3) = b2 := by rw [← h2]; rfl
  cases b1 with
  | false =>
    clear h2 h3 g2
    go_enter Tryz.func22, Tryz.ntmps22
    go_wp2
    go_ret
    exact ⟨rfl, two_boxes _ _ _⟩
  | true =>
    cases b2 with
    | false =>
      clear h3
      go_enter Tryz.func22, Tryz.ntmps22
      go_wp2
      go_ret
      exact ⟨rfl, two_boxes _ _ _⟩
    | true =>
      cases b3 with
      | false =>
        go_enter Tryz.func22, Tryz.ntmps22
        go_wp2
        go_ret
        exact ⟨rfl, two_boxes _ _ _⟩
      | true =>
        go_enter Tryz.func22, Tryz.ntmps22
        go_wp2
        go_ret
        exact ⟨rfl, two_boxes _ _ _⟩
theorem rblack_any (k : Sh.Ks) (t : Ts) (w : World) : Calls Tryz.prog 22 #[(.agg #[.int .i64 k.ph, .int .i64 k.ep, .bool k.mj, .slice k.wk.a k.wk.n k.wk.c, .bool k.ov, .int .i64 k.pa, .int .i64 k.pf, .int .i64 k.ps, .int .i64 k.pc, .bool k.me]), (.agg #[.bool t.lv, .int .i64 (t.r 0), .int .i64 (t.r 1), .int .i64 (t.r 2), .int .i64 (t.r 3), .slice (t.u 0).a (t.u 0).n (t.u 0).c, .slice (t.u 1).a (t.u 1).n (t.u 1).c, .slice (t.u 2).a (t.u 2).n (t.u 2).c, .int .i64 t.ep, .int .i64 t.sg, .int .i64 t.rt, .slice t.o.a t.o.n t.o.c, .int .i64 t.pc, .int .i64 t.x, .int .i64 t.y])] w fun e w' => e = .returned (.bool (blackB k.ph k.ep t)) ∧ Below w.heap.size w w' := by
  rw [black_is]
  exact rblack_core k t _ _ _ rfl rfl rfl w
end Go.Proofs.YtjppimabhefeeaaGreatDoor.Rt
end
section
namespace Go.Proofs.YtjppimabhefeeaaGreatDoor.Rt
open Go.Proofs.YtjppimabhefeeaaGreatDoor
open Go.RowKit
set_option maxRecDepth 100000

/-- A collector's cells. -/
def kv (k : Sh.Ks) : List Value := [.int .i64 k.ph, .int .i64 k.ep, .bool k.mj, .slice k.wk.a k.wk.n k.wk.c, .bool k.ov, .int .i64 k.pa, .int .i64 k.pf, .int .i64 k.ps, .int .i64 k.pc, .bool k.me]
structure Lt (w W : World) (bs : List (Nat × List Value)) (ts : List (Ts × (Nat → List Int) × (Nat → O4))) (rs : List (Ls.Sl × List Int)) : Prop where
  bel : Below w.heap.size w W
  box : ∀ x ∈ bs, Box W x.1 x.2
  th : ∀ x ∈ ts, Th W W.heap.size x.1 x.2.1 x.2.2
  row : ∀ x ∈ rs, Row W W.heap.size x.1.a x.1.n x.2
section
variable {w W W' : World} {bs : List (Nat × List Value)} {ts : List (Ts × (Nat → List Int) × (Nat → O4))} {rs : List (Ls.Sl × List Int)} {b : Nat} {vs : List Value} {t : Ts} {F : Nat → List Int} {g : Nat → O4} {s : Ls.Sl} {xs : List Int}
theorem Lt.next (h : Lt w W bs ts rs) (hb : Below W.heap.size W W') : Lt w W' bs ts rs := ⟨h.bel.trans (hb.mono h.bel.size), fun x hx => (h.box x hx).next hb, fun x hx => (h.th x hx).next hb, fun x hx => ((h.row x hx).below hb).more hb.size⟩
theorem Lt.start (w : World) : Lt w w [] [] [] := ⟨Below.refl _ _, fun x hx => (by cases hx), fun x hx => (by cases hx), fun x hx => (by cases hx)⟩
theorem Lt.bx (h : Lt w W bs ts rs) (b : Nat) (vs : List Value) (hm : (b, vs) ∈ bs) : Box W b vs := h.box _ hm
theorem Lt.tt (h : Lt w W bs ts rs) (t : Ts) (F : Nat → List Int) (g : Nat → O4) (hm : (t, F, g) ∈ ts) : Th W W.heap.size t F g := h.th _ hm
/-- A box more is laid. -/
theorem Lt.lay (h : Lt w W bs ts rs) (vs : List Value) (ty : TypeId) : Lt w (W.alloc (.cells vs.toArray ty)) ((W.heap.size, vs) :: bs) ts rs := by
  have n := h.next ((Below.refl W.heap.size W).alloc (Nat.le_refl _) (.cells vs.toArray ty))
  exact ⟨n.bel, fun x hx => (by
    rcases List.mem_cons.1 hx with rfl | hx
    · exact Box.new W vs ty
    · exact n.box x hx), n.th, n.row⟩
theorem Lt.thread (h : Lt w W bs ts rs) (ht : Th W W.heap.size t F g) : Lt w W bs ((t, F, g) :: ts) rs := ⟨h.bel, h.box, fun x hx => (by
    rcases List.mem_cons.1 hx with rfl | hx
    · exact ht
    · exact h.th x hx), h.row⟩
theorem Lt.held (h : Lt w W bs ts rs) (hr : Row W W.heap.size s.a s.n xs) : Lt w W bs ts ((s, xs) :: rs) := ⟨h.bel, h.box, h.th, fun x hx => (by
    rcases List.mem_cons.1 hx with rfl | hx
    · exact hr
    · exact h.row x hx)⟩
theorem Lt.drewN (h : Lt w W bs ts rs) (d : Nat) : Lt w (W.drewN d) bs ts rs := h.next (Ls.below_drawn (Below.refl _ _) d)
theorem th_len {B : Nat} (h : Th w B t F g) (hf : ∀ j, j < 3 → (t.u j).n ≤ 70) : ∀ j, j < 3 → (F j).length ≤ 2000000 := fun j hj => by
  have h1 := h.c.len j hj
  have h2 := hf j hj
  omega
end
end Go.Proofs.YtjppimabhefeeaaGreatDoor.Rt
end
section
namespace Go.Proofs.YtjppimabhefeeaaGreatDoor.Rt
open Go.Proofs.YtjppimabhefeeaaGreatDoor
open Go.RowKit
set_option maxRecDepth 100000

section
variable {w W W' : World} {ts : List (Ts × (Nat → List Int) × (Nat → O4))} {rs : List (Ls.Sl × List Int)} {b k : Nat} {t t9 : Ts} {u : Nat → Ls.Sl} {o : Ls.Sl}
theorem ts_of (h : Box W b (tv t)) : b < W.heap.size ∧ W.cell? ⟨b, 0, none⟩ = some (.bool t.lv) ∧ W.cell? ⟨b, 1, none⟩ = some (.int .i64 (t.r 0)) ∧ W.cell? ⟨b, 2, none⟩ = some (.int .i64 (t.r 1)) ∧ W.cell? ⟨b, 3, none⟩ = some (.int .i64 (t.r 2)) ∧ W.cell? ⟨b, 4, none⟩ = some (.int .i64 (t.r 3)) ∧ W.cell? ⟨b, 5, none⟩ = some (.slice (t.u 0).a (t.u 0).n (t.u 0).c) ∧ W.cell? ⟨b, 6, none⟩ = some (.slice (t.u 1).a (t.u 1).n (t.u 1).c) ∧ W.cell? ⟨b, 7, none⟩ = some (.slice (t.u 2).a (t.u 2).n (t.u 2).c) ∧ W.cell? ⟨b, 8, none⟩ = some (.int .i64 t.ep) ∧ W.cell? ⟨b, 9, none⟩ = some (.int .i64 t.sg) ∧ W.cell? ⟨b, 10, none⟩ = some (.int .i64 t.rt) ∧ W.cell? ⟨b, 11, none⟩ = some (.slice t.o.a t.o.n t.o.c) ∧ W.cell? ⟨b, 12, none⟩ = some (.int .i64 t.pc) ∧ W.cell? ⟨b, 13, none⟩ = some (.int .i64 t.x) ∧ W.cell? ⟨b, 14, none⟩ = some (.int .i64 t.y) := by
  have k0 := (h).cel 0 (.bool t.lv) rfl
  have k1 := (h).cel 1 (.int .i64 (t.r 0)) rfl
  have k2 := (h).cel 2 (.int .i64 (t.r 1)) rfl
  have k3 := (h).cel 3 (.int .i64 (t.r 2)) rfl
  have k4 := (h).cel 4 (.int .i64 (t.r 3)) rfl
  have k5 := (h).cel 5 (.slice (t.u 0).a (t.u 0).n (t.u 0).c) rfl
  have k6 := (h).cel 6 (.slice (t.u 1).a (t.u 1).n (t.u 1).c) rfl
  have k7 := (h).cel 7 (.slice (t.u 2).a (t.u 2).n (t.u 2).c) rfl
  have k8 := (h).cel 8 (.int .i64 t.ep) rfl
  have k9 := (h).cel 9 (.int .i64 t.sg) rfl
  have k10 := (h).cel 10 (.int .i64 t.rt) rfl
  have k11 := (h).cel 11 (.slice t.o.a t.o.n t.o.c) rfl
  have k12 := (h).cel 12 (.int .i64 t.pc) rfl
  have k13 := (h).cel 13 (.int .i64 t.x) rfl
  have k14 := (h).cel 14 (.int .i64 t.y) rfl
  have kl := (h).lt
  exact ⟨kl, k0, k1, k2, k3, k4, k5, k6, k7, k8, k9, k10, k11, k12, k13, k14⟩
end
end Go.Proofs.YtjppimabhefeeaaGreatDoor.Rt
end
