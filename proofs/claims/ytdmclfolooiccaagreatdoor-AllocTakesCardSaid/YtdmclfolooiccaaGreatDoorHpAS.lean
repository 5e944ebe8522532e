/-
  Merged texts: HpSix, AlIns, AlLaw.
-/
import Derived.Test.YtdmclfolooiccaaGreatDoorRows
import Derived.WalkKit
import Derived.ProofKit
import Derived.OpenShut
import Derived.Deep.Fields
import Derived.Test.YtdmclfolooiccaaGreatDoorHpAL
import Derived.Test.YtdmclfolooiccaaGreatDoorHpAM
import Derived.Test.YtdmclfolooiccaaGreatDoorHpAR
import Derived.Test.YtdmclfolooiccaaGreatDoorAAlAwake
section
namespace Go.Proofs.YtdmclfolooiccaaGreatDoor
open Go.ChangeShapes Go.WideShapes Go.ChangeAt Go.RowKit Go.Deep

theorem cellsHead : Tryz.prog.cellsOf 30 = 6 := by kernel_rfl
section
variable {H : Type} {enc : TypeId × Value → H} {P : Program} {w : World} {base : Nat} {spare : Nat → Bool} {held : Bool}

/-- A struct of three bools and three numbers, taken apart. -/
theorem six_open {r : Reach} {b0 : Nat} {t tb ti : TypeId} {f0 f1 f2 f3 f4 f5 : Field} {v : Value} {d : DataW H} {p : List MemPlace} (hs : P.underlying t = some (.struct #[f0, f1, f2, f3, f4, f5])) (ct : P.cellsOf t = 6)
    (hone : oneCellFields P #[f0, f1, f2, f3, f4, f5] = true) (ht : [f0.type, f1.type, f2.type, f3.type, f4.type, f5.type] = [tb, tb, tb, ti, ti, ti])
    (hb : P.underlying tb = some .bool) (hi : P.underlying ti = some (.int .i64)) (hv : Value.okWide P w r b0 t v) (h : DataW.Trod enc P w base spare held t v d p) :
    ∃ (u o e : Bool) (n b m : Int), v = .agg #[.bool u, .bool o, .bool e, .int .i64 n, .int .i64 b, .int .i64 m] ∧
      d = .agg [.lit (.bool u), .lit (.bool o), .lit (.bool e), .lit (.int .i64 n), .lit (.int .i64 b), .lit (.int .i64 m)] ∧ p = [] ∧
      (Lit.int .i64 n).wf = true ∧ (Lit.int .i64 b).wf = true ∧ (Lit.int .i64 m).wf = true := by
  simp only [List.cons.injEq, and_true] at ht
  obtain ⟨t0, t1, t2, t3, t4, t5⟩ := ht
  obtain ⟨⟨l⟩, rfl, hsz⟩ := okWide_struct hs hv
  obtain ⟨fuel, hf⟩ := h
  obtain ⟨xs, k, _, hx, hl, hlen, hg⟩ := DataW.trod_struct hs hf
  have hl6 : l.length = 6 := by simpa [ct] using hsz
  have field : ∀ (i : Nat) (f : Field), (#[f0, f1, f2, f3, f4, f5] : Array Field)[i]? = some f → DataW.trod enc P w base spare held k f.type ((l.drop i).take 1) = xs[i]? := by
    intro i f hif
    have hfo := hone_of hone i f hif
    have := hg i f hif
    rw [hfo.1, hfo.2] at this
    exact this
  match l, hl6, xs, hlen with
  | [c0, c1, c2, c3, c4, c5], _, [y0, y1, y2, y3, y4, y5], _ =>
    obtain ⟨u, e0, rfl⟩ := DataW.trod_bool hb (by have := field 0 f0 rfl; rw [t0] at this; exact this)
    obtain ⟨o, e1, rfl⟩ := DataW.trod_bool hb (by have := field 1 f1 rfl; rw [t1] at this; exact this)
    obtain ⟨e, e2, rfl⟩ := DataW.trod_bool hb (by have := field 2 f2 rfl; rw [t2] at this; exact this)
    obtain ⟨n, e3, rfl, w3⟩ := DataW.trod_int hi (by have := field 3 f3 rfl; rw [t3] at this; exact this)
    obtain ⟨b, e4, rfl, w4⟩ := DataW.trod_int hi (by have := field 4 f4 rfl; rw [t4] at this; exact this)
    obtain ⟨m, e5, rfl, w5⟩ := DataW.trod_int hi (by have := field 5 f5 rfl; rw [t5] at this; exact this)
    simp at e0 e1 e2 e3 e4 e5
    subst e0 e1 e2 e3 e4 e5
    simp at hx
    exact ⟨u, o, e, n, b, m, rfl, hx.1, hx.2, w3, w4, w5⟩

/-- .. and read again, wherever. -/
theorem six_shut {t tb ti : TypeId} {f0 f1 f2 f3 f4 f5 : Field} (hs : P.underlying t = some (.struct #[f0, f1, f2, f3, f4, f5])) (ct : P.cellsOf t = 6)
    (hone : oneCellFields P #[f0, f1, f2, f3, f4, f5] = true) (ht : [f0.type, f1.type, f2.type, f3.type, f4.type, f5.type] = [tb, tb, tb, ti, ti, ti])
    (hb : P.underlying tb = some .bool) (hi : P.underlying ti = some (.int .i64)) (u o e : Bool) (n b m : Int)
    (wn : (Lit.int .i64 n).wf = true) (wb : (Lit.int .i64 b).wf = true) (wm : (Lit.int .i64 m).wf = true) :
    DataW.Trod enc P w base spare held t (.agg #[.bool u, .bool o, .bool e, .int .i64 n, .int .i64 b, .int .i64 m]) (.agg [.lit (.bool u), .lit (.bool o), .lit (.bool e), .lit (.int .i64 n), .lit (.int .i64 b), .lit (.int .i64 m)]) [] := by
  simp only [List.cons.injEq, and_true] at ht
  obtain ⟨t0, t1, t2, t3, t4, t5⟩ := ht
  obtain ⟨o0, k0⟩ := hone_of hone 0 f0 rfl
  obtain ⟨o1, k1⟩ := hone_of hone 1 f1 rfl
  obtain ⟨o2, k2⟩ := hone_of hone 2 f2 rfl
  obtain ⟨o3, k3⟩ := hone_of hone 3 f3 rfl
  obtain ⟨o4, k4⟩ := hone_of hone 4 f4 rfl
  obtain ⟨o5, k5⟩ := hone_of hone 5 f5 rfl
  rw [t0] at k0
  rw [t1] at k1
  rw [t2] at k2
  rw [t3] at k3
  rw [t4] at k4
  rw [t5] at k5
  have hm := trod_struct_mk (enc := enc) (w := w) (base := base) (spare := spare) (held := held) (n := 1) (cs := [.bool u, .bool o, .bool e, .int .i64 n, .int .i64 b, .int .i64 m])
    (xs := [(.lit (.bool u), []), (.lit (.bool o), []), (.lit (.bool e), []), (.lit (.int .i64 n), []), (.lit (.int .i64 b), []), (.lit (.int .i64 m), [])]) hs (by rw [ct]; rfl)
    (by simp [t0, t1, t2, t3, t4, t5, o0, o1, o2, o3, o4, o5, k0, k3, DataW.trod, hb, hi, wn, wb, wm])
  exact ⟨2, by simpa [Value.cells] using hm⟩
end
end Go.Proofs.YtdmclfolooiccaaGreatDoor
end
section
namespace Go.Proofs.YtdmclfolooiccaaGreatDoor
open Go.ChangeShapes Go.WideShapes Go.ChangeAt Go.RowKit Go.Deep
set_option maxRecDepth 100000

theorem lists_of {H : Type} {enc : TypeId × Value → H} {w : World} {base b0 : Nat} {spare : Nat → Bool} {held : Bool} {v : Value} {d : DataW H} {p : List MemPlace} {r : Reach}
    (hv : Value.okWide Tryz.prog w r b0 25 v) (h : DataW.Trod enc Tryz.prog w base spare held 25 v d p) :
    ∃ (u : Nat → Ls.Sl) (f : Nat → List Int), v = (.agg #[.slice (u 0).a (u 0).n (u 0).c, .slice (u 1).a (u 1).n (u 1).c, .slice (u 2).a (u 2).n (u 2).c]) ∧ Ls.L3 w w.heap.size u f ∧ (u 0).n + (u 1).n + (u 2).n ≤ Rows.uptoBulk d := by
  simp only [Value.okWide, Tryz.underlying25] at hv
  obtain ⟨cs, rfl, hs, _⟩ := hv
  obtain ⟨fuel, hf⟩ := h
  obtain ⟨l⟩ := cs
  have h3 : l.length = 3 := hs.trans (by kernel_rfl)
  match l, h3 with
  | [c0, c1, c2], _ =>
    obtain ⟨u, f, e, h1, h2⟩ := lists_in hf
    exact ⟨u, f, by rw [e], h1, h2⟩
theorem pin_cap {H : Type} {enc : TypeId × Value → H} {w : World} {base : Nat} {spare : Nat → Bool} {held : Bool} {fuel : Nat} {cs : List Value} {x : DataW H × List MemPlace}
    (h : DataW.trod enc Tryz.prog w base spare held fuel 23 cs = some x) : ∃ (s : Ls.Sl) (f : Nat → Int × Int), cs = [.slice s.a s.n s.c] ∧ Cl.PRow w w.heap.size s.a s.n f ∧ s.n ≤ s.c := by
  rcases open_slice_pairs Tryz.underlying23 Tryz.underlying74 (by kernel_rfl) rfl rfl (by kernel_rfl) (by kernel_rfl) h with ⟨hcs, _⟩ | ⟨x, l, c, m, n, V0, V1, D0, D1, P0, P1, hcs, _, hl, hm, hmm, _, hi⟩
  · exact ⟨⟨none, 0, 0⟩, fun _ => (0, 0), hcs, Cl.PRow.empty _ _ _ _, Nat.le_refl _⟩
  · refine ⟨⟨some x, l, c⟩, fun i => (intOf (V0 i), intOf (V1 i)), hcs, fun hn => ?_, hl⟩
    have hn' : 0 < l := hn
    have hm' : l ≤ m := by rw [hmm]; split <;> omega
    obtain ⟨b, off, spot⟩ := x
    have h0 := (hi 0 (by omega)).1
    have hs : spot = none := by simpa [Addr.add] using World.cell?_spot h0
    subst hs
    refine ⟨b, off, rfl, ?_, fun i hlt => ?_⟩
    · have := World.block_lt_of_cell? w _ h0
      simpa [Addr.add] using this
    · have hlt' : i < l := hlt
      obtain ⟨g0, g1, t0, t1⟩ := hi i (by omega)
      rw [Addr.add_lit] at g0 g1
      rw [← Nat.add_assoc] at g1
      obtain ⟨z0, e0, _⟩ := DataW.trod_int Tryz.underlying3 t0
      obtain ⟨z1, e1, _⟩ := DataW.trod_int Tryz.underlying3 t1
      simp only [List.cons.injEq, and_true] at e0 e1
      refine ⟨?_, ?_⟩
      · show _ = some (Value.int .i64 (intOf (V0 i)))
        rw [g0, e0]
        rfl
      · show _ = some (Value.int .i64 (intOf (V1 i)))
        rw [g1, e1]
        rfl
theorem heap_of8 {H : Type} {enc : TypeId × Value → H} {w : World} {base b0 : Nat} {spare : Nat → Bool} {held : Bool} {v : Value} {d : DataW H} {p : List MemPlace} {r : Reach}
    (hv : Value.okWide Tryz.prog w r b0 28 v) (h : DataW.Trod enc Tryz.prog w base spare held 28 v d p) :
    ∃ (s : Hs) (e : Hd_), v = (.agg #[.slice s.w.a s.w.n s.w.c, .slice s.p.a s.p.n s.p.c, .slice (s.u 0).a (s.u 0).n (s.u 0).c, .slice (s.u 1).a (s.u 1).n (s.u 1).c, .slice (s.u 2).a (s.u 2).n (s.u 2).c, .slice s.c.a s.c.n s.c.c]) ∧ Hp w w.heap.size s e ∧ Fit64 e.ws ∧ s.p.n ≤ s.p.c := by
  obtain ⟨⟨l⟩, rfl, hsz⟩ := okWide_struct Tryz.underlying28 hv
  obtain ⟨fuel, hf⟩ := h
  obtain ⟨xs, k, _, hx, hl, hlen, hg⟩ := DataW.trod_struct Tryz.underlying28 hf
  have hl6 : l.length = 6 := hsz.trans (by kernel_rfl)
  match l, hl6, xs, hlen with
  | [c0, c1, c2, c3, c4, c5], _, [y0, y1, y2, y3], _ =>
    have e22 : Tryz.prog.cellsOf 22 = 1 := by kernel_rfl
    have e23 : Tryz.prog.cellsOf 23 = 1 := by kernel_rfl
    have e25 : Tryz.prog.cellsOf 25 = 3 := by kernel_rfl
    have e26 : Tryz.prog.cellsOf 26 = 1 := by kernel_rfl
    have g0 : DataW.trod enc Tryz.prog w base spare held k 22 [c0] = some y0 := by have := hg 0 _ rfl; simpa [e22, Value.cells] using this
    have g1 : DataW.trod enc Tryz.prog w base spare held k 23 [c1] = some y1 := by have := hg 1 _ rfl; simpa [e23, Value.cells] using this
    have g2 : DataW.trod enc Tryz.prog w base spare held k 25 [c2, c3, c4] = some y2 := by have := hg 2 _ rfl; simpa [e25, Value.cells] using this
    have g3 : DataW.trod enc Tryz.prog w base spare held k 26 [c5] = some y3 := by have := hg 3 _ rfl; simpa [e26, Value.cells] using this
    obtain ⟨s0, zs, h0, r0, _, f0⟩ := ints_in g0
    obtain ⟨s1, f1, h1, r1, c1'⟩ := pin_cap g1
    obtain ⟨u, F, h2, r2, _⟩ := lists_in g2
    obtain ⟨s3, f3, h3, r3⟩ := bools_in g3
    simp only [List.cons.injEq, and_true] at h0 h1 h2 h3
    obtain ⟨rfl, rfl, rfl⟩ := h2
    subst h0 h1 h3
    refine ⟨⟨s0, s1, u, s3⟩, ⟨zs, f1, F, f3⟩, rfl, ⟨r0.1, r1, r2, r3⟩, f0, c1'⟩
end Go.Proofs.YtdmclfolooiccaaGreatDoor
end
section
namespace Go.Proofs.YtdmclfolooiccaaGreatDoor.Al
open Go.Proofs.YtdmclfolooiccaaGreatDoor
open Go.RowKit
set_option maxRecDepth 100000

structure Lw (w W : World) (s : Hs) (d : Hd_) (u : Nat → Ls.Sl) (G : Nat → List Int) : Prop where
  bel : Below w.heap.size w W
  hb : HBox W w.heap.size s
  cb : Ls.Box3 W (w.heap.size + 1) u
  hp : Hp W W.heap.size s d
  l3 : Ls.L3 W W.heap.size u G
section
variable {w W W' : World} {s : Hs} {d : Hd_} {u : Nat → Ls.Sl} {G : Nat → List Int}
theorem Lw.next (h : Lw w W s d u G) (hb : Below W.heap.size W W') : Lw w W' s d u G := ⟨h.bel.trans (hb.mono h.bel.size), h.hb.next hb, h.cb.next hb, h.hp.next hb, h.l3.next hb⟩
theorem lw_start (hp : Hp w w.heap.size s d) (l3 : Ls.L3 w w.heap.size u G) (h : W = (w.alloc (.cells #[.slice s.w.a s.w.n s.w.c, .slice s.p.a s.p.n s.p.c, .slice (s.u 0).a (s.u 0).n (s.u 0).c, .slice (s.u 1).a (s.u 1).n (s.u 1).c, .slice (s.u 2).a (s.u 2).n (s.u 2).c, .slice s.c.a s.c.n s.c.c] 28)).alloc (.cells #[.slice (u 0).a (u 0).n (u 0).c, .slice (u 1).a (u 1).n (u 1).c, .slice (u 2).a (u 2).n (u 2).c] 25)) : Lw w W s d u G := by
  obtain ⟨W1, h1⟩ : ∃ W1, W1 = w.alloc (.cells #[.slice s.w.a s.w.n s.w.c, .slice s.p.a s.p.n s.p.c, .slice (s.u 0).a (s.u 0).n (s.u 0).c, .slice (s.u 1).a (s.u 1).n (s.u 1).c, .slice (s.u 2).a (s.u 2).n (s.u 2).c, .slice s.c.a s.c.n s.c.c] 28) := ⟨_, rfl⟩
  rw [← h1] at h
  have z1 : W1.heap.size = w.heap.size + 1 := by rw [h1]; simp
  have b1 : Below w.heap.size w W1 := by rw [h1]; exact (Below.refl _ _).alloc (Nat.le_refl _) _
  have b2 : Below W1.heap.size W1 W := by rw [h]; exact (Below.refl _ _).alloc (Nat.le_refl _) _
  have x1 : HBox W1 w.heap.size s := by rw [h1]; exact HBox.new w s _
  have x2 : Ls.Box3 W (w.heap.size + 1) u := by rw [h, ← z1]; exact Ls.Box3.new W1 u _
  exact ⟨b1.trans (b2.mono (by omega)), x1.next b2, x2, (hp.next b1).next b2, (l3.next b1).next b2⟩
theorem x6_three {us o e : Bool} {N b m : Int} (h : W = ((w.alloc (.cells #[.slice s.w.a s.w.n s.w.c, .slice s.p.a s.p.n s.p.c, .slice (s.u 0).a (s.u 0).n (s.u 0).c, .slice (s.u 1).a (s.u 1).n (s.u 1).c, .slice (s.u 2).a (s.u 2).n (s.u 2).c, .slice s.c.a s.c.n s.c.c] 28)).alloc (.cells #[.slice (u 0).a (u 0).n (u 0).c, .slice (u 1).a (u 1).n (u 1).c, .slice (u 2).a (u 2).n (u 2).c] 25)).alloc (.cells #[.bool us, .bool o, .bool e, .int .i64 N, .int .i64 b, .int .i64 m] 30)) : X6 W (w.heap.size + 2) us o e N b m := by
  obtain ⟨W1, h1⟩ : ∃ W1, W1 = (w.alloc (.cells #[.slice s.w.a s.w.n s.w.c, .slice s.p.a s.p.n s.p.c, .slice (s.u 0).a (s.u 0).n (s.u 0).c, .slice (s.u 1).a (s.u 1).n (s.u 1).c, .slice (s.u 2).a (s.u 2).n (s.u 2).c, .slice s.c.a s.c.n s.c.c] 28)).alloc (.cells #[.slice (u 0).a (u 0).n (u 0).c, .slice (u 1).a (u 1).n (u 1).c, .slice (u 2).a (u 2).n (u 2).c] 25) := ⟨_, rfl⟩
  rw [← h1] at h
  have z1 : W1.heap.size = w.heap.size + 2 := by rw [h1]; simp
  rw [h, ← z1]
  exact X6.new W1 us o e N b m _
end
/-- The heap is small, and so is the cache. -/
theorem lite_few {w : World} {B : Nat} {s : Hs} {d : Hd_} {u : Nat → Ls.Sl} {G : Nat → List Int} (h : fewL s (fun _ => u) 1 = true) (hp : Hp w B s d) (l3 : Ls.L3 w B u G) (hv : Fit64 d.ws) : Lite s d G 70 := by
  unfold fewL lights at h
  simp only [Bool.and_eq_true, List.range_succ, List.range_zero, List.nil_append, List.all_cons, List.all_nil, Bool.and_true] at h
  obtain ⟨h1, h2, h3, h4⟩ := few_parts h.1.1
  have g4 := h.1.2
  unfold lightB at h4 g4
  simp only [decide_eq_true_eq] at h4 g4
  refine ⟨h1, h2, h3, fun j hj => ?_, fun j hj => ?_, hv⟩
  · have := hp.free.len j hj
    rcases (show j = 0 ∨ j = 1 ∨ j = 2 by omega) with rfl | rfl | rfl <;> omega
  · have := l3.len j hj
    rcases (show j = 0 ∨ j = 1 ∨ j = 2 by omega) with rfl | rfl | rfl <;> omega
/-- What Take tells, part by part. -/
def TkO (W : World) (a er : Int) (wn pn cn : Nat) (d' : Hd_) (G' : Nat → List Int) (e : Ending) (w' : World) : Prop :=
  ∃ (t : Hs) (v : Nat → Ls.Sl), e = .returned (.tuple #[(.agg #[.slice t.w.a t.w.n t.w.c, .slice t.p.a t.p.n t.p.c, .slice (t.u 0).a (t.u 0).n (t.u 0).c, .slice (t.u 1).a (t.u 1).n (t.u 1).c, .slice (t.u 2).a (t.u 2).n (t.u 2).c, .slice t.c.a t.c.n t.c.c]), (.agg #[.slice (v 0).a (v 0).n (v 0).c, .slice (v 1).a (v 1).n (v 1).c, .slice (v 2).a (v 2).n (v 2).c]), .int .i64 a, .int .i64 er]) ∧ Hp w' w'.heap.size t d' ∧ Ls.L3 w' w'.heap.size v G' ∧ (t.w.n = wn ∧ t.p.n = pn ∧ t.c.n = cn) ∧ Below W.heap.size W w'
theorem take_tko {w : World} {s : Hs} {d : Hd_} {u : Nat → Ls.Sl} {G : Nat → List Int} (hz : Cl.Sz w) (hz0 : 0 < w.heap.size) (hf : FineT s d u G) (us o e : Bool) (N b m : Int) : ∀ W, Lw w W s d u G → Calls Tryz.prog 7 #[(.agg #[.slice s.w.a s.w.n s.w.c, .slice s.p.a s.p.n s.p.c, .slice (s.u 0).a (s.u 0).n (s.u 0).c, .slice (s.u 1).a (s.u 1).n (s.u 1).c, .slice (s.u 2).a (s.u 2).n (s.u 2).c, .slice s.c.a s.c.n s.c.c]), (.agg #[.slice (u 0).a (u 0).n (u 0).c, .slice (u 1).a (u 1).n (u 1).c, .slice (u 2).a (u 2).n (u 2).c]), .agg #[.bool us, .bool o, .bool e, .int .i64 N, .int .i64 b, .int .i64 m]] W (TkO W (tkR s d G us o e N b m).a (tkR s d G us o e N b m).er (tkR s d G us o e N b m).wn (tkR s d G us o e N b m).pn (tkR s d G us o e N b m).cn (tkR s d G us o e N b m).d (tkR s d G us o e N b m).G) :=
  fun W h => ptake_any s u d G us o e N b m W h.hp h.l3 (hz.over h.bel hz0) hf
theorem room_tko {w : World} {s : Hs} {d : Hd_} {u : Nat → Ls.Sl} {G : Nat → List Int} (hz : Cl.Sz w) (hz0 : 0 < w.heap.size) (hf : FineT s d u G) (N : Int) : ∀ W, Lw w W s d u G → Calls Tryz.prog 11 #[(.agg #[.slice s.w.a s.w.n s.w.c, .slice s.p.a s.p.n s.p.c, .slice (s.u 0).a (s.u 0).n (s.u 0).c, .slice (s.u 1).a (s.u 1).n (s.u 1).c, .slice (s.u 2).a (s.u 2).n (s.u 2).c, .slice s.c.a s.c.n s.c.c]), (.agg #[.slice (u 0).a (u 0).n (u 0).c, .slice (u 1).a (u 1).n (u 1).c, .slice (u 2).a (u 2).n (u 2).c]), .int .i64 N] W fun e w' => e = .returned (.bool (roomB s d G N)) ∧ Below W.heap.size W w' :=
  fun W h => room_any s u d G N W h.hp h.l3 (hz.over h.bel hz0) hf
end Go.Proofs.YtdmclfolooiccaaGreatDoor.Al
end
