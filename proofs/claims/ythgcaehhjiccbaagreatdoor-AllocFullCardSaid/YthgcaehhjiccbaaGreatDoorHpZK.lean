/-
  Merged texts: HpSix, HpHeadI.
-/
import Derived.Test.YthgcaehhjiccbaaGreatDoorRows
import Derived.WalkKit
import Derived.ProofKit
import Derived.OpenShut
import Derived.Deep.Fields
import Derived.Test.YthgcaehhjiccbaaGreatDoorHpZJ
section
namespace Go.Proofs.YthgcaehhjiccbaaGreatDoor
open Go.ChangeShapes Go.WideShapes Go.ChangeAt Go.RowKit Go.Deep

theorem cellsHead : Tryz.prog.cellsOf 30 = 6 := by kernel_rfl
section
variable {H : Type} {enc : TypeId × Value → H} {P : Program} {w : World} {base : Nat} {spare : Nat → Bool} {held : Bool}

/-- A struct of three bools and three numbers, taken apart. -/
theorem six_open {r : Reach} {b0 : Nat} {t tb ti : TypeId} {f0 f1 f2 f3 f4 f5 : Field} {v : Value} {d : DataW H} {p : List MemPlace} (hs : P.underlying t = some (.struct #[f0, f1, f2, f3, f4, f5])) (ct : P.cellsOf t = 6)
    (hone : oneCellFields P #[f0, f1, f2, f3, f4, f5] = true) (ht : [f0.type, f1.type, f2.type, f3.type, f4.type, f5.type] = [tb, tb, tb, ti, ti, ti])
    (hb : P.underlying tb = some .bool) (hi : P.underlying ti = some (.int .i64)) (hv : Value.okWide P w r b0 t v) (h : DataW.Trod enc P w base spare held t v d p) :
    ∃ (u o e : Bool) (n b m : Int), v = .agg #[.bool u, .bool o, .bool e, .int .i64 n, .int .i64 b, .int .i64 m] ∧
      d = .agg [.lit (.bool u), .lit (.bool o), .lit (.bool e), .lit (.int .i64 n), .lit (.int .i64 b), .lit (.int .i64 m)] ∧ p = [] ∧
      (Lit.int .i64 n).wf = true ∧ (Lit.int .i64 b).wf = true ∧ (Lit.int .i64 m).wf = true := by
  simp only [List.cons.injEq, and_true] at ht
  obtain ⟨t0, t1, t2, t3, t4, t5⟩ := ht
  obtain ⟨⟨l⟩, rfl, hsz⟩ := okWide_struct hs hv
  obtain ⟨fuel, hf⟩ := h
  obtain ⟨xs, k, _, hx, hl, hlen, hg⟩ := DataW.trod_struct hs hf
  have hl6 : l.length = 6 := by simpa [ct] using hsz
  have field : ∀ (i : Nat) (f : Field), (#[f0, f1, f2, f3, f4, f5] : Array Field)[i]? = some f → DataW.trod enc P w base spare held k f.type ((l.drop i).take 1) = xs[i]? := by
    intro i f hif
    have hfo := hone_of hone i f hif
    have := hg i f hif
    rw [hfo.1, hfo.2] at this
    exact this
  match l, hl6, xs, hlen with
  | [c0, c1, c2, c3, c4, c5], _, [y0, y1, y2, y3, y4, y5], _ =>
    obtain ⟨u, e0, rfl⟩ := DataW.trod_bool hb (by have := field 0 f0 rfl; rw [t0] at this; exact this)
    obtain ⟨o, e1, rfl⟩ := DataW.trod_bool hb (by have := field 1 f1 rfl; rw [t1] at this; exact this)
    obtain ⟨e, e2, rfl⟩ := DataW.trod_bool hb (by have := field 2 f2 rfl; rw [t2] at this; exact this)
    obtain ⟨n, e3, rfl, w3⟩ := DataW.trod_int hi (by have := field 3 f3 rfl; rw [t3] at this; exact this)
    obtain ⟨b, e4, rfl, w4⟩ := DataW.trod_int hi (by have := field 4 f4 rfl; rw [t4] at this; exact this)
    obtain ⟨m, e5, rfl, w5⟩ := DataW.trod_int hi (by have := field 5 f5 rfl; rw [t5] at this; exact this)
    simp at e0 e1 e2 e3 e4 e5
    subst e0 e1 e2 e3 e4 e5
    simp at hx
    exact ⟨u, o, e, n, b, m, rfl, hx.1, hx.2, w3, w4, w5⟩

/-- .. and read again, wherever. -/
theorem six_shut {t tb ti : TypeId} {f0 f1 f2 f3 f4 f5 : Field} (hs : P.underlying t = some (.struct #[f0, f1, f2, f3, f4, f5])) (ct : P.cellsOf t = 6)
    (hone : oneCellFields P #[f0, f1, f2, f3, f4, f5] = true) (ht : [f0.type, f1.type, f2.type, f3.type, f4.type, f5.type] = [tb, tb, tb, ti, ti, ti])
    (hb : P.underlying tb = some .bool) (hi : P.underlying ti = some (.int .i64)) (u o e : Bool) (n b m : Int)
    (wn : (Lit.int .i64 n).wf = true) (wb : (Lit.int .i64 b).wf = true) (wm : (Lit.int .i64 m).wf = true) :
    DataW.Trod enc P w base spare held t (.agg #[.bool u, .bool o, .bool e, .int .i64 n, .int .i64 b, .int .i64 m]) (.agg [.lit (.bool u), .lit (.bool o), .lit (.bool e), .lit (.int .i64 n), .lit (.int .i64 b), .lit (.int .i64 m)]) [] := by
  simp only [List.cons.injEq, and_true] at ht
  obtain ⟨t0, t1, t2, t3, t4, t5⟩ := ht
  obtain ⟨o0, k0⟩ := hone_of hone 0 f0 rfl
  obtain ⟨o1, k1⟩ := hone_of hone 1 f1 rfl
  obtain ⟨o2, k2⟩ := hone_of hone 2 f2 rfl
  obtain ⟨o3, k3⟩ := hone_of hone 3 f3 rfl
  obtain ⟨o4, k4⟩ := hone_of hone 4 f4 rfl
  obtain ⟨o5, k5⟩ := hone_of hone 5 f5 rfl
  rw [t0] at k0
  rw [t1] at k1
  rw [t2] at k2
  rw [t3] at k3
  rw [t4] at k4
  rw [t5] at k5
  have hm := trod_struct_mk (enc := enc) (w := w) (base := base) (spare := spare) (held := held) (n := 1) (cs := [.bool u, .bool o, .bool e, .int .i64 n, .int .i64 b, .int .i64 m])
    (xs := [(.lit (.bool u), []), (.lit (.bool o), []), (.lit (.bool e), []), (.lit (.int .i64 n), []), (.lit (.int .i64 b), []), (.lit (.int .i64 m), [])]) hs (by rw [ct]; rfl)
    (by simp [t0, t1, t2, t3, t4, t5, o0, o1, o2, o3, o4, o5, k0, k3, DataW.trod, hb, hi, wn, wb, wm])
  exact ⟨2, by simpa [Value.cells] using hm⟩
end
end Go.Proofs.YthgcaehhjiccbaaGreatDoor
end
section
namespace Go.Proofs.YthgcaehhjiccbaaGreatDoor
open Go.RowKit
set_option maxRecDepth 100000

theorem put6_size (w : World) (b : Nat) (v0 v1 v2 v3 v4 v5 : Value) : (put6 w b v0 v1 v2 v3 v4 v5).heap.size = w.heap.size := by simp [put6, World.setCell]
theorem put6_alloc {W : World} {b : Nat} (h : XBox W b) (v0 v1 v2 v3 v4 v5 : Value) (o : Obj) :
    ((put6 W b v0 v1 v2 v3 v4 v5).alloc o).cell? ⟨b, 0, none⟩ = some v0 ∧ ((put6 W b v0 v1 v2 v3 v4 v5).alloc o).cell? ⟨b, 1, none⟩ = some v1 ∧ ((put6 W b v0 v1 v2 v3 v4 v5).alloc o).cell? ⟨b, 2, none⟩ = some v2 ∧
    ((put6 W b v0 v1 v2 v3 v4 v5).alloc o).cell? ⟨b, 3, none⟩ = some v3 ∧ ((put6 W b v0 v1 v2 v3 v4 v5).alloc o).cell? ⟨b, 4, none⟩ = some v4 ∧ ((put6 W b v0 v1 v2 v3 v4 v5).alloc o).cell? ⟨b, 5, none⟩ = some v5 := by
  have h0 := h.cell 0 (by decide)
  have h1 := h.cell 1 (by decide)
  have h2 := h.cell 2 (by decide)
  have h3 := h.cell 3 (by decide)
  have h4 := h.cell 4 (by decide)
  have h5 := h.cell 5 (by decide)
  have hl := h.lt
  refine ⟨?_, ?_, ?_, ?_, ?_, ?_⟩ <;> (rw [World.cell?_alloc_past _ _ _ (by rw [put6_size]; exact hl)]; simp [put6, go_sem, h0, h1, h2, h3, h4, h5])

section
variable (s : Hs) (d : Hd_) (a : Int) (w : World)
set_option maxHeartbeats 1000000 in
theorem rhead_is (hp : Hp w w.heap.size s d) (hwn : s.w.n ≤ 4000) (hpn : s.p.n ≤ 200) (hv : ∀ i, -9223372036854775808 ≤ d.ws.getD i 0 ∧ d.ws.getD i 0 ≤ 9223372036854775807) (hlen : (Ls.upTo d.F 3).length ≤ 2000000) (hm : mayB0 s d = true) (hb : ¬ Cl.bg d.f s.p.n a = 0) (i : Nat) (ha : a - 16 = i) (x : Int) (hx : x = d.ws.getD i 0) (V : Value) (er : Int) (hV0 : x = 0 → V = noHead ∧ er = 3) (hV1 : ¬ x = 0 → V = headOf x ∧ er = 0) :
    Calls Tryz.prog 38 #[(.agg #[.slice s.w.a s.w.n s.w.c, .slice s.p.a s.p.n s.p.c, .slice (s.u 0).a (s.u 0).n (s.u 0).c, .slice (s.u 1).a (s.u 1).n (s.u 1).c, .slice (s.u 2).a (s.u 2).n (s.u 2).c, .slice s.c.a s.c.n s.c.c]), .int .i64 a] w (HeadOut w V er) := by
  have hmw := may0_word hm hb
  have hi : i < s.w.n := by omega
  have hwd : Hd.isWord x = true := by
    have := hmw.2.2.2
    rwa [show (a - 16).toNat = i by omega, ← hx] at this
  have hxb := hv i
  rw [← hx] at hxb
  rcases s with ⟨⟨aw, nw, cw⟩, ⟨pp, np, cp⟩, su, ⟨ac, nc, cc⟩⟩
  dsimp only at hi hwn hpn hb ⊢
  obtain ⟨bw, ow, rfl, hbw, hcw⟩ := hp.words.2 (show 0 < nw by omega)
  have hw0 := hcw i hi
  rw [← hx] at hw0
  have HV0 := Lib.hid hV0
  have HV1 := Lib.hid hV1
  have HP := Lib.hid hp
  have HV := Lib.hid hv
  have HM := Lib.hid hm
  have HL := Lib.hid hlen
  have hbz : (Cl.bg d.f np a == 0) = false := by simp [hb]
  have HX := Lib.hid (And.intro hxb hwd)
  have i0 : (0 : Int) ≤ i := by omega
  have i1 : (i : Int) < nw := by omega
  replace hpn : np ≤ 1000 := by omega
  clear hp hv hm hlen hb hcw hx hmw hxb hwd hV0 hV1
  go_enter Tryz.func38, Tryz.ntmps38
  go_wp2_with fail
  have b0 := (Below.refl w.heap.size w).alloc (Nat.le_refl _) (.cells #[.slice (some ⟨bw, ow, none⟩) nw cw, .slice pp np cp, .slice (su 0).a (su 0).n (su 0).c, .slice (su 1).a (su 1).n (su 1).c, .slice (su 2).a (su 2).n (su 2).c, .slice ac nc cc] 28)
  have b1 := b0.alloc (by simp) (.cells #[.bool false, .bool false, .bool false, .int .i64 0, .int .i64 0, .int .i64 0] 30)
  have x0 := XBox.new (w.alloc (.cells #[.slice (some ⟨bw, ow, none⟩) nw cw, .slice pp np cp, .slice (su 0).a (su 0).n (su 0).c, .slice (su 1).a (su 1).n (su 1).c, .slice (su 2).a (su 2).n (su 2).c, .slice ac nc cc] 28)) 30
  rw [World.size_alloc] at x0
  have g0 := (HBox.new w ⟨⟨some ⟨bw, ow, none⟩, nw, cw⟩, ⟨pp, np, cp⟩, su, ⟨ac, nc, cc⟩⟩ 28).next ((Below.refl _ _).alloc (Nat.le_refl _) (.cells #[.bool false, .bool false, .bool false, .int .i64 0, .int .i64 0, .int .i64 0] 30))
  refine (rmay0_any ⟨⟨some ⟨bw, ow, none⟩, nw, cw⟩, ⟨pp, np, cp⟩, su, ⟨ac, nc, cc⟩⟩ d _ ((HP.out.below b1).more b1.size) hwn hpn HV.out HL.out).mono ?_
  rw [show mayB0 _ d = true from HM.out]
  rintro e w1 ⟨rfl, hb1⟩
  have N1 := Lib.hid (HNow.mk (d := d) (g0.next hb1) (b1.trans (hb1.mono b1.size)) (HP.out.below (b1.trans (hb1.mono b1.size))))
  have X1 := Lib.hid (x0.next hb1)
  have q1 := N1.out.box.c1
  have ql := N1.out.box.lt
  try dsimp only at q1
  clear x0 g0 hb1 b0 b1
  go_wp2_with fail
  refine (Cl.rbegins_any w.heap.size pp np cp d.f a _ hpn N1.out.hp.pages N1.out.bel.size).mono ?_
  rintro e w2 ⟨rfl, hb2⟩
  have X := X1.out.next hb2
  have N2 := Lib.hid (N1.out.next hb2)
  have q0 := N2.out.box.c0
  have ql2 := N2.out.box.lt
  dsimp only at q0
  have hw1 := (N2.out.bel.cell (p := ⟨bw, ow + i, none⟩) hbw).trans hw0
  have hbl : bw < w2.heap.size := by have := N2.out.bel.size; omega
  clear q1 ql N1 hb2 hw0 X1
  by_cases hz : x = 0
  · subst hz
    obtain ⟨rfl, rfl⟩ := HV0.out rfl
    have y0 := X.cell 0 (by decide)
    have y1 := X.cell 1 (by decide)
    have y2 := X.cell 2 (by decide)
    have y3 := X.cell 3 (by decide)
    have y4 := X.cell 4 (by decide)
    have y5 := X.cell 5 (by decide)
    simp only [Nat.reduceLT, if_true, if_false] at y0 y1 y2 y3 y4 y5
    have z0 := X.free 0
    have z1 := X.free 1
    have z2 := X.free 2
    have z3 := X.free 3
    have z4 := X.free 4
    have z5 := X.free 5
    have zl := X.lt
    clear X
    go_wp2
    refine bodyPost_ret (v := .tuple #[noHead, .int .i64 3]) ?_ rfl ?_
    rotate_left
    · exact ⟨rfl, below_put6 N2.out.bel (b := w.heap.size + 1) (by omega) _ _ _ _ _ _⟩
    simp [results, Tryz.results38, go_sem, noHead, y0, y1, y2, y3, y4, y5]
  · have hz1 : (x == 0) = false := by simp [hz]
    obtain ⟨rfl, rfl⟩ := HV1.out hz
    rw [headOf_yes HX.out.2]
    have hz2 : decide (x = 0) = false := by simp [hz]
    have HXB := Lib.hid X
    clear X
    go_wp2_with fail
    refine (runpack_any x _ HX.out.1.1 HX.out.1.2).mono ?_
    rw [headOf_yes HX.out.2, HX.out.2]
    rintro e w3 ⟨rfl, hb3⟩
    have X := HXB.out.next hb3
    have BW := Lib.hid (N2.out.next hb3).bel
    have X3 := Lib.hid X
    have y0 := X.cell 0 (by decide)
    have y1 := X.cell 1 (by decide)
    have y2 := X.cell 2 (by decide)
    have y3 := X.cell 3 (by decide)
    have y4 := X.cell 4 (by decide)
    have y5 := X.cell 5 (by decide)
    simp only [Nat.reduceLT, if_true, if_false] at y0 y1 y2 y3 y4 y5
    have z0 := X.free 0
    have z1 := X.free 1
    have z2 := X.free 2
    have z3 := X.free 3
    have z4 := X.free 4
    have z5 := X.free 5
    have zl := X.lt
    clear X hb3 q0 hw1 hbz
    have K := put6_alloc (W := w3) (b := w.heap.size + 1) X3.out (.bool (decide (x % 2 = 1))) (.bool (decide (x / 2 % 2 = 1))) (.bool (decide (x / 4 % 2 = 1))) (.int .i64 (nOf x)) (.int .i64 (x / 1024 % 4194304)) (.int .i64 (x / 4294967296)) (.cells #[.bool (decide (x % 2 = 1)), .bool (decide (x / 2 % 2 = 1)), .bool (decide (x / 4 % 2 = 1)), .int .i64 (nOf x), .int .i64 (x / 1024 % 4194304), .int .i64 (x / 4294967296)] 30)
    have KK := Lib.hid K
    clear K
    go_wp2
    refine bodyPost_ret (v := .tuple #[.agg #[.bool (decide (x % 2 = 1)), .bool (decide (x / 2 % 2 = 1)), .bool (decide (x / 4 % 2 = 1)), .int .i64 (nOf x), .int .i64 (x / 1024 % 4194304), .int .i64 (x / 4294967296)], .int .i64 0]) ?_ rfl ?_
    rotate_left
    · rw [headOf_yes HX.out.2]
      exact ⟨rfl, (below_put6 BW.out (b := w.heap.size + 1) (by omega) (.bool (decide (x % 2 = 1))) (.bool (decide (x / 2 % 2 = 1))) (.bool (decide (x / 4 % 2 = 1))) (.int .i64 (nOf x)) (.int .i64 (x / 1024 % 4194304)) (.int .i64 (x / 4294967296))).alloc (by rw [put6_size]; exact BW.out.size) _⟩
    · obtain ⟨k0, k1, k2, k3, k4, k5⟩ := KK.out
      unfold put6 at k0 k1 k2 k3 k4 k5
      clear y0 y1 y2 y3 y4 y5
      simp [results, Tryz.results38, go_sem, k0, k1, k2, k3, k4, k5]

end
end Go.Proofs.YthgcaehhjiccbaaGreatDoor
end
