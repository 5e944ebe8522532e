/-
  Merged texts: RpLawC, HpSix, AlIns.
-/
import Derived.Test.YtcbnefjfoeanoaaDoorHpZM
import Derived.Test.YtcbnefjfoeanoaaDoorRows
import Derived.WalkKit
import Derived.ProofKit
import Derived.OpenShut
import Derived.Deep.Fields
import Derived.Test.YtcbnefjfoeanoaaDoorZHpIns
import Derived.Test.YtcbnefjfoeanoaaDoorZHpLess
section
namespace Go.Proofs.YtcbnefjfoeanoaaDoor.Rp
open Go.Proofs.YtcbnefjfoeanoaaDoor
open Go.RowKit
set_option maxRecDepth 100000

theorem may_first9 {s : Hs} {d : Hd_} {F : Nat → Nat → List Int} : ∀ {m : Nat}, 0 < m → mayH s d m F = true → mayH s d 1 (fun _ => F 0) = true := fun {m} => by
  induction m with
  | zero => intro h; omega
  | succ m ih =>
    intro _ h
    cases m with
    | zero =>
      unfold mayH freeAll at h ⊢
      rw [show Ls.allOf (ahead d.F fun _ => F 0) (1 + 1) = Ls.allOf (ahead d.F F) (1 + (0 + 1)) by simp [Ls.allOf, List.range_succ, ahead]]
      simpa [List.range_succ, ahead] using h
    | succ k => exact ih (by omega) (may_less h)
theorem lrow_tail {W : World} {B n bb off : Nat} {A' : Option Addr} {m : Nat} {U : Nat → Nat → Ls.Sl} {F : Nat → Nat → List Int} (h : Ls.LRow W B (some ⟨bb, off, none⟩) n U F) (hm : m = n - 1) (hA : 0 < m → A' = some ⟨bb, off + 3, none⟩) : Ls.LRow W B A' m (fun i => U (i + 1)) (behind F) := fun h0 => by
  obtain ⟨b', o', e, hlt, hc⟩ := h (by omega)
  cases e
  refine ⟨bb, off + 3, hA h0, hlt, fun i hi => ?_⟩
  have := hc (i + 1) (by omega)
  refine ⟨fun r hr => ?_, this.2⟩
  have h1 := this.1 r hr
  rwa [show off + (i + 1) * 3 + r = off + 3 + i * 3 + r by omega] at h1
theorem used_post (s : Hs) (d : Hd_) (w : World) (hp : Hp w w.heap.size s d) (hz : Cl.Sz w) (hf : Fine s d) (K : Nat) (hK : (usedL s d).length = K) : Calls Tryd.prog 12 #[(.agg #[.slice s.w.a s.w.n s.w.c, .slice s.p.a s.p.n s.p.c, .slice (s.u 0).a (s.u 0).n (s.u 0).c, .slice (s.u 1).a (s.u 1).n (s.u 1).c, .slice (s.u 2).a (s.u 2).n (s.u 2).c, .slice s.c.a s.c.n s.c.c])] w fun e w' => ∃ A' C', e = .returned (.slice A' K C') ∧ Below w.heap.size w w' :=
  (pused_any s d w hp hz hf).mono fun e w' ⟨v, he, ho, hb⟩ => by
    have hn : v.n = K := by have := ho.1; simp at this; omega
    exact ⟨v.a, v.c, by rw [he, hn], hb⟩
/-- What a law holds of a heap that is small, plainly. -/
structure Okl (s : Hs) (d : Hd_) : Prop where
  fine : Fine s d
  may : mayB0 s d = true
  ws : d.ws.length = s.w.n
theorem Okl.wp {s : Hs} {d : Hd_} (h : Okl s d) : s.w.n = 16 * s.p.n ∧ s.p.n ≤ 64 := by
  have := fit_first (mayH_all h.may).1
  exact ⟨this.wp, this.p⟩
theorem kept_call {s t : Hs} {d d' : Hd_} (a : Int) (w : World) (h : Okl s d) (hp : Hp w w.heap.size s d) (hq : Hp w w.heap.size t d') (hz : Cl.Sz w) (hl : t.w.n = s.w.n ∧ t.p.n = s.p.n ∧ t.c.n = s.c.n) (hk : ∀ y ∈ usedL s d, ¬ y = a → Same4 s.p.n d d' y) :
    Calls Tryd.prog 11 #[(.agg #[.slice s.w.a s.w.n s.w.c, .slice s.p.a s.p.n s.p.c, .slice (s.u 0).a (s.u 0).n (s.u 0).c, .slice (s.u 1).a (s.u 1).n (s.u 1).c, .slice (s.u 2).a (s.u 2).n (s.u 2).c, .slice s.c.a s.c.n s.c.c]), (.agg #[.slice t.w.a t.w.n t.w.c, .slice t.p.a t.p.n t.p.c, .slice (t.u 0).a (t.u 0).n (t.u 0).c, .slice (t.u 1).a (t.u 1).n (t.u 1).c, .slice (t.u 2).a (t.u 2).n (t.u 2).c, .slice t.c.a t.c.n t.c.c]), .int .i64 a] w fun e w' => e = .returned (.bool true) ∧ Below w.heap.size w w' :=
  kept_yes s t d d' a w hp hq hz h.fine hl.1 hl.2.1 h.wp.1 h.wp.2 fun y hy => ⟨((used_iff8 h.may).1 hy).1, hk y hy⟩
end Go.Proofs.YtcbnefjfoeanoaaDoor.Rp
end
section
namespace Go.Proofs.YtcbnefjfoeanoaaDoor
open Go.ChangeShapes Go.WideShapes Go.ChangeAt Go.RowKit Go.Deep

theorem cellsHead : Tryd.prog.cellsOf 48 = 6 := by kernel_rfl
section
variable {H : Type} {enc : TypeId × Value → H} {P : Program} {w : World} {base : Nat} {spare : Nat → Bool} {held : Bool}

/-- A struct of three bools and three numbers, taken apart. -/
theorem six_open {r : Reach} {b0 : Nat} {t tb ti : TypeId} {f0 f1 f2 f3 f4 f5 : Field} {v : Value} {d : DataW H} {p : List MemPlace} (hs : P.underlying t = some (.struct #[f0, f1, f2, f3, f4, f5])) (ct : P.cellsOf t = 6)
    (hone : oneCellFields P #[f0, f1, f2, f3, f4, f5] = true) (ht : [f0.type, f1.type, f2.type, f3.type, f4.type, f5.type] = [tb, tb, tb, ti, ti, ti])
    (hb : P.underlying tb = some .bool) (hi : P.underlying ti = some (.int .i64)) (hv : Value.okWide P w r b0 t v) (h : DataW.Trod enc P w base spare held t v d p) :
    ∃ (u o e : Bool) (n b m : Int), v = .agg #[.bool u, .bool o, .bool e, .int .i64 n, .int .i64 b, .int .i64 m] ∧
      d = .agg [.lit (.bool u), .lit (.bool o), .lit (.bool e), .lit (.int .i64 n), .lit (.int .i64 b), .lit (.int .i64 m)] ∧ p = [] ∧
      (Lit.int .i64 n).wf = true ∧ (Lit.int .i64 b).wf = true ∧ (Lit.int .i64 m).wf = true := by
  simp only [List.cons.injEq, and_true] at ht
  obtain ⟨t0, t1, t2, t3, t4, t5⟩ := ht
  obtain ⟨⟨l⟩, rfl, hsz⟩ := okWide_struct hs hv
  obtain ⟨fuel, hf⟩ := h
  obtain ⟨xs, k, _, hx, hl, hlen, hg⟩ := DataW.trod_struct hs hf
  have hl6 : l.length = 6 := by simpa [ct] using hsz
  have field : ∀ (i : Nat) (f : Field), (#[f0, f1, f2, f3, f4, f5] : Array Field)[i]? = some f → DataW.trod enc P w base spare held k f.type ((l.drop i).take 1) = xs[i]? := by
    intro i f hif
    have hfo := hone_of hone i f hif
    have := hg i f hif
    rw [hfo.1, hfo.2] at this
    exact this
  match l, hl6, xs, hlen with
  | [c0, c1, c2, c3, c4, c5], _, [y0, y1, y2, y3, y4, y5], _ =>
    obtain ⟨u, e0, rfl⟩ := DataW.trod_bool hb (by have := field 0 f0 rfl; rw [t0] at this; exact this)
    obtain ⟨o, e1, rfl⟩ := DataW.trod_bool hb (by have := field 1 f1 rfl; rw [t1] at this; exact this)
    obtain ⟨e, e2, rfl⟩ := DataW.trod_bool hb (by have := field 2 f2 rfl; rw [t2] at this; exact this)
    obtain ⟨n, e3, rfl, w3⟩ := DataW.trod_int hi (by have := field 3 f3 rfl; rw [t3] at this; exact this)
    obtain ⟨b, e4, rfl, w4⟩ := DataW.trod_int hi (by have := field 4 f4 rfl; rw [t4] at this; exact this)
    obtain ⟨m, e5, rfl, w5⟩ := DataW.trod_int hi (by have := field 5 f5 rfl; rw [t5] at this; exact this)
    simp at e0 e1 e2 e3 e4 e5
    subst e0 e1 e2 e3 e4 e5
    simp at hx
    exact ⟨u, o, e, n, b, m, rfl, hx.1, hx.2, w3, w4, w5⟩

/-- .. and read again, wherever. -/
theorem six_shut {t tb ti : TypeId} {f0 f1 f2 f3 f4 f5 : Field} (hs : P.underlying t = some (.struct #[f0, f1, f2, f3, f4, f5])) (ct : P.cellsOf t = 6)
    (hone : oneCellFields P #[f0, f1, f2, f3, f4, f5] = true) (ht : [f0.type, f1.type, f2.type, f3.type, f4.type, f5.type] = [tb, tb, tb, ti, ti, ti])
    (hb : P.underlying tb = some .bool) (hi : P.underlying ti = some (.int .i64)) (u o e : Bool) (n b m : Int)
    (wn : (Lit.int .i64 n).wf = true) (wb : (Lit.int .i64 b).wf = true) (wm : (Lit.int .i64 m).wf = true) :
    DataW.Trod enc P w base spare held t (.agg #[.bool u, .bool o, .bool e, .int .i64 n, .int .i64 b, .int .i64 m]) (.agg [.lit (.bool u), .lit (.bool o), .lit (.bool e), .lit (.int .i64 n), .lit (.int .i64 b), .lit (.int .i64 m)]) [] := by
  simp only [List.cons.injEq, and_true] at ht
  obtain ⟨t0, t1, t2, t3, t4, t5⟩ := ht
  obtain ⟨o0, k0⟩ := hone_of hone 0 f0 rfl
  obtain ⟨o1, k1⟩ := hone_of hone 1 f1 rfl
  obtain ⟨o2, k2⟩ := hone_of hone 2 f2 rfl
  obtain ⟨o3, k3⟩ := hone_of hone 3 f3 rfl
  obtain ⟨o4, k4⟩ := hone_of hone 4 f4 rfl
  obtain ⟨o5, k5⟩ := hone_of hone 5 f5 rfl
  rw [t0] at k0
  rw [t1] at k1
  rw [t2] at k2
  rw [t3] at k3
  rw [t4] at k4
  rw [t5] at k5
  have hm := trod_struct_mk (enc := enc) (w := w) (base := base) (spare := spare) (held := held) (n := 1) (cs := [.bool u, .bool o, .bool e, .int .i64 n, .int .i64 b, .int .i64 m])
    (xs := [(.lit (.bool u), []), (.lit (.bool o), []), (.lit (.bool e), []), (.lit (.int .i64 n), []), (.lit (.int .i64 b), []), (.lit (.int .i64 m), [])]) hs (by rw [ct]; rfl)
    (by simp [t0, t1, t2, t3, t4, t5, o0, o1, o2, o3, o4, o5, k0, k3, DataW.trod, hb, hi, wn, wb, wm])
  exact ⟨2, by simpa [Value.cells] using hm⟩
end
end Go.Proofs.YtcbnefjfoeanoaaDoor
end
section
namespace Go.Proofs.YtcbnefjfoeanoaaDoor
open Go.ChangeShapes Go.WideShapes Go.ChangeAt Go.RowKit Go.Deep
set_option maxRecDepth 100000

theorem lists_of {H : Type} {enc : TypeId × Value → H} {w : World} {base b0 : Nat} {spare : Nat → Bool} {held : Bool} {v : Value} {d : DataW H} {p : List MemPlace} {r : Reach}
    (hv : Value.okWide Tryd.prog w r b0 25 v) (h : DataW.Trod enc Tryd.prog w base spare held 25 v d p) :
    ∃ (u : Nat → Ls.Sl) (f : Nat → List Int), v = (.agg #[.slice (u 0).a (u 0).n (u 0).c, .slice (u 1).a (u 1).n (u 1).c, .slice (u 2).a (u 2).n (u 2).c]) ∧ Ls.L3 w w.heap.size u f ∧ (u 0).n + (u 1).n + (u 2).n ≤ Rows.uptoBulk d := by
  simp only [Value.okWide, Tryd.underlying25] at hv
  obtain ⟨cs, rfl, hs, _⟩ := hv
  obtain ⟨fuel, hf⟩ := h
  obtain ⟨l⟩ := cs
  have h3 : l.length = 3 := hs.trans (by kernel_rfl)
  match l, h3 with
  | [c0, c1, c2], _ =>
    obtain ⟨u, f, e, h1, h2⟩ := lists_in hf
    exact ⟨u, f, by rw [e], h1, h2⟩
theorem pin_cap {H : Type} {enc : TypeId × Value → H} {w : World} {base : Nat} {spare : Nat → Bool} {held : Bool} {fuel : Nat} {cs : List Value} {x : DataW H × List MemPlace}
    (h : DataW.trod enc Tryd.prog w base spare held fuel 23 cs = some x) : ∃ (s : Ls.Sl) (f : Nat → Int × Int), cs = [.slice s.a s.n s.c] ∧ Cl.PRow w w.heap.size s.a s.n f ∧ s.n ≤ s.c := by
  rcases open_slice_pairs Tryd.underlying23 Tryd.underlying42 (by kernel_rfl) rfl rfl (by kernel_rfl) (by kernel_rfl) h with ⟨hcs, _⟩ | ⟨x, l, c, m, n, V0, V1, D0, D1, P0, P1, hcs, _, hl, hm, hmm, _, hi⟩
  · exact ⟨⟨none, 0, 0⟩, fun _ => (0, 0), hcs, Cl.PRow.empty _ _ _ _, Nat.le_refl _⟩
  · refine ⟨⟨some x, l, c⟩, fun i => (intOf (V0 i), intOf (V1 i)), hcs, fun hn => ?_, hl⟩
    have hn' : 0 < l := hn
    have hm' : l ≤ m := by rw [hmm]; split <;> omega
    obtain ⟨b, off, spot⟩ := x
    have h0 := (hi 0 (by omega)).1
    have hs : spot = none := by simpa [Addr.add] using World.cell?_spot h0
    subst hs
    refine ⟨b, off, rfl, ?_, fun i hlt => ?_⟩
    · have := World.block_lt_of_cell? w _ h0
      simpa [Addr.add] using this
    · have hlt' : i < l := hlt
      obtain ⟨g0, g1, t0, t1⟩ := hi i (by omega)
      rw [Addr.add_lit] at g0 g1
      rw [← Nat.add_assoc] at g1
      obtain ⟨z0, e0, _⟩ := DataW.trod_int Tryd.underlying3 t0
      obtain ⟨z1, e1, _⟩ := DataW.trod_int Tryd.underlying3 t1
      simp only [List.cons.injEq, and_true] at e0 e1
      refine ⟨?_, ?_⟩
      · show _ = some (Value.int .i64 (intOf (V0 i)))
        rw [g0, e0]
        rfl
      · show _ = some (Value.int .i64 (intOf (V1 i)))
        rw [g1, e1]
        rfl
theorem heap_of8 {H : Type} {enc : TypeId × Value → H} {w : World} {base b0 : Nat} {spare : Nat → Bool} {held : Bool} {v : Value} {d : DataW H} {p : List MemPlace} {r : Reach}
    (hv : Value.okWide Tryd.prog w r b0 28 v) (h : DataW.Trod enc Tryd.prog w base spare held 28 v d p) :
    ∃ (s : Hs) (e : Hd_), v = (.agg #[.slice s.w.a s.w.n s.w.c, .slice s.p.a s.p.n s.p.c, .slice (s.u 0).a (s.u 0).n (s.u 0).c, .slice (s.u 1).a (s.u 1).n (s.u 1).c, .slice (s.u 2).a (s.u 2).n (s.u 2).c, .slice s.c.a s.c.n s.c.c]) ∧ Hp w w.heap.size s e ∧ Fit64 e.ws ∧ s.p.n ≤ s.p.c := by
  obtain ⟨⟨l⟩, rfl, hsz⟩ := okWide_struct Tryd.underlying28 hv
  obtain ⟨fuel, hf⟩ := h
  obtain ⟨xs, k, _, hx, hl, hlen, hg⟩ := DataW.trod_struct Tryd.underlying28 hf
  have hl6 : l.length = 6 := hsz.trans (by kernel_rfl)
  match l, hl6, xs, hlen with
  | [c0, c1, c2, c3, c4, c5], _, [y0, y1, y2, y3], _ =>
    have e22 : Tryd.prog.cellsOf 22 = 1 := by kernel_rfl
    have e23 : Tryd.prog.cellsOf 23 = 1 := by kernel_rfl
    have e25 : Tryd.prog.cellsOf 25 = 3 := by kernel_rfl
    have e26 : Tryd.prog.cellsOf 26 = 1 := by kernel_rfl
    have g0 : DataW.trod enc Tryd.prog w base spare held k 22 [c0] = some y0 := by have := hg 0 _ rfl; simpa [e22, Value.cells] using this
    have g1 : DataW.trod enc Tryd.prog w base spare held k 23 [c1] = some y1 := by have := hg 1 _ rfl; simpa [e23, Value.cells] using this
    have g2 : DataW.trod enc Tryd.prog w base spare held k 25 [c2, c3, c4] = some y2 := by have := hg 2 _ rfl; simpa [e25, Value.cells] using this
    have g3 : DataW.trod enc Tryd.prog w base spare held k 26 [c5] = some y3 := by have := hg 3 _ rfl; simpa [e26, Value.cells] using this
    obtain ⟨s0, zs, h0, r0, _, f0⟩ := ints_in g0
    obtain ⟨s1, f1, h1, r1, c1'⟩ := pin_cap g1
    obtain ⟨u, F, h2, r2, _⟩ := lists_in g2
    obtain ⟨s3, f3, h3, r3⟩ := bools_in g3
    simp only [List.cons.injEq, and_true] at h0 h1 h2 h3
    obtain ⟨rfl, rfl, rfl⟩ := h2
    subst h0 h1 h3
    refine ⟨⟨s0, s1, u, s3⟩, ⟨zs, f1, F, f3⟩, rfl, ⟨r0.1, r1, r2, r3⟩, f0, c1'⟩
end Go.Proofs.YtcbnefjfoeanoaaDoor
end
