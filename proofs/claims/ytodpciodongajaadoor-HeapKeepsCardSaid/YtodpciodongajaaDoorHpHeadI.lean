/-
  The reference's Head of a heap, where a cell begins.
-/
import Derived.Test.YtodpciodongajaaDoorHpZI
namespace Go.Proofs.YtodpciodongajaaDoor
open Go.RowKit
set_option maxRecDepth 100000

theorem put6_size (w : World) (b : Nat) (v0 v1 v2 v3 v4 v5 : Value) : (put6 w b v0 v1 v2 v3 v4 v5).heap.size = w.heap.size := by simp [put6, World.setCell]
theorem put6_alloc {W : World} {b : Nat} (h : XBox W b) (v0 v1 v2 v3 v4 v5 : Value) (o : Obj) :
    ((put6 W b v0 v1 v2 v3 v4 v5).alloc o).cell? ⟨b, 0, none⟩ = some v0 ∧ ((put6 W b v0 v1 v2 v3 v4 v5).alloc o).cell? ⟨b, 1, none⟩ = some v1 ∧ ((put6 W b v0 v1 v2 v3 v4 v5).alloc o).cell? ⟨b, 2, none⟩ = some v2 ∧
    ((put6 W b v0 v1 v2 v3 v4 v5).alloc o).cell? ⟨b, 3, none⟩ = some v3 ∧ ((put6 W b v0 v1 v2 v3 v4 v5).alloc o).cell? ⟨b, 4, none⟩ = some v4 ∧ ((put6 W b v0 v1 v2 v3 v4 v5).alloc o).cell? ⟨b, 5, none⟩ = some v5 := by
  have h0 := h.cell 0 (by decide)
  have h1 := h.cell 1 (by decide)
  have h2 := h.cell 2 (by decide)
  have h3 := h.cell 3 (by decide)
  have h4 := h.cell 4 (by decide)
  have h5 := h.cell 5 (by decide)
  have hl := h.lt
  refine ⟨?_, ?_, ?_, ?_, ?_, ?_⟩ <;> (rw [World.cell?_alloc_past _ _ _ (by rw [put6_size]; exact hl)]; simp [put6, go_sem, h0, h1, h2, h3, h4, h5])

section
variable (s : Hs) (d : Hd_) (a : Int) (w : World)
set_option maxHeartbeats 1000000 in
theorem rhead_is (hp : Hp w w.heap.size s d) (hwn : s.w.n ≤ 4000) (hpn : s.p.n ≤ 200) (hv : ∀ i, -9223372036854775808 ≤ d.ws.getD i 0 ∧ d.ws.getD i 0 ≤ 9223372036854775807) (hlen : (Ls.upTo d.F 3).length ≤ 2000000) (hm : mayB0 s d = true) (hb : ¬ Cl.bg d.f s.p.n a = 0) (i : Nat) (ha : a - 16 = i) (x : Int) (hx : x = d.ws.getD i 0) (V : Value) (er : Int) (hV0 : x = 0 → V = noHead ∧ er = 3) (hV1 : ¬ x = 0 → V = headOf x ∧ er = 0) :
    Calls Tryd.prog 13 #[(.agg #[.slice s.w.a s.w.n s.w.c, .slice s.p.a s.p.n s.p.c, .slice (s.u 0).a (s.u 0).n (s.u 0).c, .slice (s.u 1).a (s.u 1).n (s.u 1).c, .slice (s.u 2).a (s.u 2).n (s.u 2).c, .slice s.c.a s.c.n s.c.c]), .int .i64 a] w (HeadOut w V er) := by
  have hmw := may0_word hm hb
  have hi : i < s.w.n := by omega
  have hwd : Hd.isWord x = true := by
    have := hmw.2.2.2
    rwa [show (a - 16).toNat = i by omega, ← hx] at this
  have hxb := hv i
  rw [← hx] at hxb
  rcases s with ⟨⟨aw, nw, cw⟩, ⟨pp, np, cp⟩, su, ⟨ac, nc, cc⟩⟩
  dsimp only at hi hwn hpn hb ⊢
  obtain ⟨bw, ow, rfl, hbw, hcw⟩ := hp.words.2 (show 0 < nw by omega)
  have hw0 := hcw i hi
  rw [← hx] at hw0
  have HV0 := Lib.hid hV0
  have HV1 := Lib.hid hV1
  have HP := Lib.hid hp
  have HV := Lib.hid hv
  have HM := Lib.hid hm
  have HL := Lib.hid hlen
  have hbz : (Cl.bg d.f np a == 0) = false := by simp [hb]
  have HX := Lib.hid (And.intro hxb hwd)
  have i0 : (0 : Int) ≤ i := by omega
  have i1 : (i : Int) < nw := by omega
  replace hpn : np ≤ 1000 := by omega
  clear hp hv hm hlen hb hcw hx hmw hxb hwd hV0 hV1
  go_enter Tryd.func13, Tryd.ntmps13
  go_wp2_with fail
  have b0 := (Below.refl w.heap.size w).alloc (Nat.le_refl _) (.cells #[.slice (some ⟨bw, ow, none⟩) nw cw, .slice pp np cp, .slice (su 0).a (su 0).n (su 0).c, .slice (su 1).a (su 1).n (su 1).c, .slice (su 2).a (su 2).n (su 2).c, .slice ac nc cc] 28)
  have b1 := b0.alloc (by simp) (.cells #[.bool false, .bool false, .bool false, .int .i64 0, .int .i64 0, .int .i64 0] 34)
  have x0 := XBox.new (w.alloc (.cells #[.slice (some ⟨bw, ow, none⟩) nw cw, .slice pp np cp, .slice (su 0).a (su 0).n (su 0).c, .slice (su 1).a (su 1).n (su 1).c, .slice (su 2).a (su 2).n (su 2).c, .slice ac nc cc] 28)) 34
  rw [World.size_alloc] at x0
  have g0 := (HBox.new w ⟨⟨some ⟨bw, ow, none⟩, nw, cw⟩, ⟨pp, np, cp⟩, su, ⟨ac, nc, cc⟩⟩ 28).next ((Below.refl _ _).alloc (Nat.le_refl _) (.cells #[.bool false, .bool false, .bool false, .int .i64 0, .int .i64 0, .int .i64 0] 34))
  refine (rmay0_any ⟨⟨some ⟨bw, ow, none⟩, nw, cw⟩, ⟨pp, np, cp⟩, su, ⟨ac, nc, cc⟩⟩ d _ ((HP.out.below b1).more b1.size) hwn hpn HV.out HL.out).mono ?_
  rw [show mayB0 _ d = true from HM.out]
  rintro e w1 ⟨rfl, hb1⟩
  have N1 := Lib.hid (HNow.mk (d := d) (g0.next hb1) (b1.trans (hb1.mono b1.size)) (HP.out.below (b1.trans (hb1.mono b1.size))))
  have X1 := Lib.hid (x0.next hb1)
  have q1 := N1.out.box.c1
  have ql := N1.out.box.lt
  try dsimp only at q1
  clear x0 g0 hb1 b0 b1
  go_wp2_with fail
  refine (Cl.rbegins_any w.heap.size pp np cp d.f a _ hpn N1.out.hp.pages N1.out.bel.size).mono ?_
  rintro e w2 ⟨rfl, hb2⟩
  have X := X1.out.next hb2
  have N2 := Lib.hid (N1.out.next hb2)
  have q0 := N2.out.box.c0
  have ql2 := N2.out.box.lt
  dsimp only at q0
  have hw1 := (N2.out.bel.cell (p := ⟨bw, ow + i, none⟩) hbw).trans hw0
  have hbl : bw < w2.heap.size := by have := N2.out.bel.size; omega
  clear q1 ql N1 hb2 hw0 X1
  by_cases hz : x = 0
  · subst hz
    obtain ⟨rfl, rfl⟩ := HV0.out rfl
    have y0 := X.cell 0 (by decide)
    have y1 := X.cell 1 (by decide)
    have y2 := X.cell 2 (by decide)
    have y3 := X.cell 3 (by decide)
    have y4 := X.cell 4 (by decide)
    have y5 := X.cell 5 (by decide)
    simp only [Nat.reduceLT, if_true, if_false] at y0 y1 y2 y3 y4 y5
    have z0 := X.free 0
    have z1 := X.free 1
    have z2 := X.free 2
    have z3 := X.free 3
    have z4 := X.free 4
    have z5 := X.free 5
    have zl := X.lt
    clear X
    go_wp2
    refine bodyPost_ret (v := .tuple #[noHead, .int .i64 3]) ?_ rfl ?_
    rotate_left
    · exact ⟨rfl, below_put6 N2.out.bel (b := w.heap.size + 1) (by omega) _ _ _ _ _ _⟩
    simp [results, Tryd.results13, go_sem, noHead, y0, y1, y2, y3, y4, y5]
  · have hz1 : (x == 0) = false := by simp [hz]
    obtain ⟨rfl, rfl⟩ := HV1.out hz
    rw [headOf_yes HX.out.2]
    have hz2 : decide (x = 0) = false := by simp [hz]
    have HXB := Lib.hid X
    clear X
    go_wp2_with fail
    refine (runpack_any x _ HX.out.1.1 HX.out.1.2).mono ?_
    rw [headOf_yes HX.out.2, HX.out.2]
    rintro e w3 ⟨rfl, hb3⟩
    have X := HXB.out.next hb3
    have BW := Lib.hid (N2.out.next hb3).bel
    have X3 := Lib.hid X
    have y0 := X.cell 0 (by decide)
    have y1 := X.cell 1 (by decide)
    have y2 := X.cell 2 (by decide)
    have y3 := X.cell 3 (by decide)
    have y4 := X.cell 4 (by decide)
    have y5 := X.cell 5 (by decide)
    simp only [Nat.reduceLT, if_true, if_false] at y0 y1 y2 y3 y4 y5
    have z0 := X.free 0
    have z1 := X.free 1
    have z2 := X.free 2
    have z3 := X.free 3
    have z4 := X.free 4
    have z5 := X.free 5
    have zl := X.lt
    clear X hb3 q0 hw1 hbz
    have K := put6_alloc (W := w3) (b := w.heap.size + 1) X3.out (.bool (decide (x % 2 = 1))) (.bool (decide (x / 2 % 2 = 1))) (.bool (decide (x / 4 % 2 = 1))) (.int .i64 (nOf x)) (.int .i64 (x / 1024 % 4194304)) (.int .i64 (x / 4294967296)) (.cells #[.bool (decide (x % 2 = 1)), .bool (decide (x / 2 % 2 = 1)), .bool (decide (x / 4 % 2 = 1)), .int .i64 (nOf x), .int .i64 (x / 1024 % 4194304), .int .i64 (x / 4294967296)] 34)
    have KK := Lib.hid K
    clear K
    go_wp2
    refine bodyPost_ret (v := .tuple #[.agg #[.bool (decide (x % 2 = 1)), .bool (decide (x / 2 % 2 = 1)), .bool (decide (x / 4 % 2 = 1)), .int .i64 (nOf x), .int .i64 (x / 1024 % 4194304), .int .i64 (x / 4294967296)], .int .i64 0]) ?_ rfl ?_
    rotate_left
    · rw [headOf_yes HX.out.2]
      exact ⟨rfl, (below_put6 BW.out (b := w.heap.size + 1) (by omega) (.bool (decide (x % 2 = 1))) (.bool (decide (x / 2 % 2 = 1))) (.bool (decide (x / 4 % 2 = 1))) (.int .i64 (nOf x)) (.int .i64 (x / 1024 % 4194304)) (.int .i64 (x / 4294967296))).alloc (by rw [put6_size]; exact BW.out.size) _⟩
    · obtain ⟨k0, k1, k2, k3, k4, k5⟩ := KK.out
      unfold put6 at k0 k1 k2 k3 k4 k5
      clear y0 y1 y2 y3 y4 y5
      simp [results, Tryd.results13, go_sem, k0, k1, k2, k3, k4, k5]

end
end Go.Proofs.YtodpciodongajaaDoor
