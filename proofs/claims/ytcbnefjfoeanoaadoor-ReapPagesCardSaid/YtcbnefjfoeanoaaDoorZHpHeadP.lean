/-
  Package heap's Head.
-/
import Derived.Test.YtcbnefjfoeanoaaDoorHpZI
import Derived.Test.YtcbnefjfoeanoaaDoorZHpHeadI
namespace Go.Proofs.YtcbnefjfoeanoaaDoor
open Go.RowKit
set_option maxRecDepth 100000

section
variable (s : Hs) (d : Hd_) (a : Int) (w : World)
theorem phead_bad (hp : Hp w w.heap.size s d) (hz : Cl.Sz w) (hf : Fine s d) (hm : mayB0 s d = false) :
    Calls Tryd.prog 18 #[(.agg #[.slice s.w.a s.w.n s.w.c, .slice s.p.a s.p.n s.p.c, .slice (s.u 0).a (s.u 0).n (s.u 0).c, .slice (s.u 1).a (s.u 1).n (s.u 1).c, .slice (s.u 2).a (s.u 2).n (s.u 2).c, .slice s.c.a s.c.n s.c.c]), .int .i64 a] w (HeadOut w noHead 1) := by
  have HP := Lib.hid hp
  have HZ := Lib.hid hz
  have hz0 := hz.pos
  have HM := Lib.hid hm
  have HF := Lib.hid hf
  clear hp hz hm hf
  go_enter Tryd.func18, Tryd.ntmps18
  go_wp2_with fail
  have b0 := (Below.refl w.heap.size w).alloc (Nat.le_refl _) (.cells #[.slice s.w.a s.w.n s.w.c, .slice s.p.a s.p.n s.p.c, .slice (s.u 0).a (s.u 0).n (s.u 0).c, .slice (s.u 1).a (s.u 1).n (s.u 1).c, .slice (s.u 2).a (s.u 2).n (s.u 2).c, .slice s.c.a s.c.n s.c.c] 28)
  have b1 := b0.alloc (by simp) (.cells #[.bool false, .bool false, .bool false, .int .i64 0, .int .i64 0, .int .i64 0] 48)
  refine (pmay0_any s d _ ((HP.out.below b1).more b1.size) (HZ.out.over b1 hz0) HF.out).mono ?_
  rw [HM.out]
  rintro e w1 ⟨rfl, hb1⟩
  have x0 := XBox.new (w.alloc (.cells #[.slice s.w.a s.w.n s.w.c, .slice s.p.a s.p.n s.p.c, .slice (s.u 0).a (s.u 0).n (s.u 0).c, .slice (s.u 1).a (s.u 1).n (s.u 1).c, .slice (s.u 2).a (s.u 2).n (s.u 2).c, .slice s.c.a s.c.n s.c.c] 28)) 48
  rw [World.size_alloc] at x0
  have X := x0.next hb1
  have BW := Lib.hid (b1.trans (hb1.mono b1.size))
  have y0 := X.cell 0 (by decide)
  have y1 := X.cell 1 (by decide)
  have y2 := X.cell 2 (by decide)
  have y3 := X.cell 3 (by decide)
  have y4 := X.cell 4 (by decide)
  have y5 := X.cell 5 (by decide)
  simp only [Nat.reduceLT, if_true, if_false] at y0 y1 y2 y3 y4 y5
  have z0 := X.free 0
  have z1 := X.free 1
  have z2 := X.free 2
  have z3 := X.free 3
  have z4 := X.free 4
  have z5 := X.free 5
  have zl := X.lt
  clear x0 X hb1 b0 b1
  go_wp2
  refine bodyPost_ret (v := .tuple #[noHead, .int .i64 1]) ?_ rfl ?_
  rotate_left
  · exact ⟨rfl, below_put6 BW.out (b := w.heap.size + 1) (by omega) _ _ _ _ _ _⟩
  simp [results, Tryd.results18, go_sem, noHead, y0, y1, y2, y3, y4, y5]
theorem phead_none (hp : Hp w w.heap.size s d) (hz : Cl.Sz w) (hf : Fine s d) (hm : mayB0 s d = true) (hb : Cl.bg d.f s.p.n a = 0) :
    Calls Tryd.prog 18 #[(.agg #[.slice s.w.a s.w.n s.w.c, .slice s.p.a s.p.n s.p.c, .slice (s.u 0).a (s.u 0).n (s.u 0).c, .slice (s.u 1).a (s.u 1).n (s.u 1).c, .slice (s.u 2).a (s.u 2).n (s.u 2).c, .slice s.c.a s.c.n s.c.c]), .int .i64 a] w (HeadOut w noHead 3) := by
  have HP := Lib.hid hp
  have HZ := Lib.hid hz
  have hz0 := hz.pos
  have HM := Lib.hid hm
  have HF := Lib.hid hf
  have HB := Lib.hid hb
  clear hp hz hm hf hb
  go_enter Tryd.func18, Tryd.ntmps18
  go_wp2_with fail
  have b0 := (Below.refl w.heap.size w).alloc (Nat.le_refl _) (.cells #[.slice s.w.a s.w.n s.w.c, .slice s.p.a s.p.n s.p.c, .slice (s.u 0).a (s.u 0).n (s.u 0).c, .slice (s.u 1).a (s.u 1).n (s.u 1).c, .slice (s.u 2).a (s.u 2).n (s.u 2).c, .slice s.c.a s.c.n s.c.c] 28)
  have b1 := b0.alloc (by simp) (.cells #[.bool false, .bool false, .bool false, .int .i64 0, .int .i64 0, .int .i64 0] 48)
  have x0 := XBox.new (w.alloc (.cells #[.slice s.w.a s.w.n s.w.c, .slice s.p.a s.p.n s.p.c, .slice (s.u 0).a (s.u 0).n (s.u 0).c, .slice (s.u 1).a (s.u 1).n (s.u 1).c, .slice (s.u 2).a (s.u 2).n (s.u 2).c, .slice s.c.a s.c.n s.c.c] 28)) 48
  rw [World.size_alloc] at x0
  have g0 := (HBox.new w s 28).next ((Below.refl _ _).alloc (Nat.le_refl _) (.cells #[.bool false, .bool false, .bool false, .int .i64 0, .int .i64 0, .int .i64 0] 48))
  refine (pmay0_any s d _ ((HP.out.below b1).more b1.size) (HZ.out.over b1 hz0) HF.out).mono ?_
  rw [show mayB0 _ d = true from HM.out]
  rintro e w1 ⟨rfl, hb1⟩
  have N1 := Lib.hid (HNow.mk (d := d) (g0.next hb1) (b1.trans (hb1.mono b1.size)) (HP.out.below (b1.trans (hb1.mono b1.size))))
  have X1 := Lib.hid (x0.next hb1)
  have q1 := N1.out.box.c1
  have ql := N1.out.box.lt
  try dsimp only at q1
  clear x0 g0 hb1 b0 b1
  go_wp2_with fail
  refine (Cl.room_any w.heap.size s.p.a s.p.n s.p.c d.f a _ (by have := HF.out.pn; omega) (HZ.out.over N1.out.bel hz0) N1.out.hp.pages N1.out.bel.size).mono ?_
  rw [Cl.bg_room, HB.out]
  rintro e w2 ⟨rfl, hb2⟩
  have X := X1.out.next hb2
  have BW := Lib.hid (N1.out.next hb2).bel
  clear q1 ql X1 N1 hb2
  have y0 := X.cell 0 (by decide)
  have y1 := X.cell 1 (by decide)
  have y2 := X.cell 2 (by decide)
  have y3 := X.cell 3 (by decide)
  have y4 := X.cell 4 (by decide)
  have y5 := X.cell 5 (by decide)
  simp only [Nat.reduceLT, if_true, if_false] at y0 y1 y2 y3 y4 y5
  have z0 := X.free 0
  have z1 := X.free 1
  have z2 := X.free 2
  have z3 := X.free 3
  have z4 := X.free 4
  have z5 := X.free 5
  have zl := X.lt
  clear X
  go_wp2
  refine bodyPost_ret (v := .tuple #[noHead, .int .i64 3]) ?_ rfl ?_
  rotate_left
  · exact ⟨rfl, below_put6 BW.out (b := w.heap.size + 1) (by omega) _ _ _ _ _ _⟩
  simp [results, Tryd.results18, go_sem, noHead, y0, y1, y2, y3, y4, y5]
set_option maxHeartbeats 1000000 in
theorem phead_is (hp : Hp w w.heap.size s d) (hz : Cl.Sz w) (hf : Fine s d) (hm : mayB0 s d = true) (hb : ¬ Cl.bg d.f s.p.n a = 0) (i : Nat) (ha : a - 16 = i) (x : Int) (hx : x = d.ws.getD i 0) (V : Value) (er : Int) (hV0 : x = 0 → V = noHead ∧ er = 3) (hV1 : ¬ x = 0 → V = headOf x ∧ er = 0) :
    Calls Tryd.prog 18 #[(.agg #[.slice s.w.a s.w.n s.w.c, .slice s.p.a s.p.n s.p.c, .slice (s.u 0).a (s.u 0).n (s.u 0).c, .slice (s.u 1).a (s.u 1).n (s.u 1).c, .slice (s.u 2).a (s.u 2).n (s.u 2).c, .slice s.c.a s.c.n s.c.c]), .int .i64 a] w (HeadOut w V er) := by
  have hmw := may0_word hm hb
  have hi : i < s.w.n := by omega
  have hwd : Hd.isWord x = true := by
    have := hmw.2.2.2
    rwa [show (a - 16).toNat = i by omega, ← hx] at this
  have hwm : wordsB s.w.n = true := by
    have := (mayH_all hm).1
    unfold firstB at this
    simp only [Bool.and_eq_true, decide_eq_true_eq] at this
    exact this.1
  have hpn : s.p.n ≤ 1000 := by have := hf.pn; omega
  have ha16 : 16 ≤ a := hmw.2.1
  have han : a < 16 + s.w.n := by omega
  rcases s with ⟨⟨aw, nw, cw⟩, ⟨pp, np, cp⟩, su, ⟨ac, nc, cc⟩⟩
  dsimp only at hi hpn hb hwm han ⊢
  obtain ⟨bw, ow, rfl, hbw, hcw⟩ := hp.words.2 (show 0 < nw by omega)
  have hw0 := hcw i hi
  rw [← hx] at hw0
  have HV0 := Lib.hid hV0
  have HV1 := Lib.hid hV1
  have HP := Lib.hid hp
  have HZ := Lib.hid hz
  have hz0 := hz.pos
  have HM := Lib.hid hm
  have HF := Lib.hid hf
  have hbz : (Cl.bg d.f np a == 0) = false := by simp [hb]
  have HX := Lib.hid hwd
  have HGET := Lib.hid (fun (W : World) (hW : Row W w.heap.size (some ⟨bw, ow, none⟩) nw d.ws) => by
    have := Ar.get_ok w.heap.size (some ⟨bw, ow, none⟩) nw cw d.ws a W hwm ha16 han hW
    rw [show d.ws.getD (a - 16).toNat 0 = x by rw [hx, show (a - 16).toNat = i by omega]] at this
    exact this)
  have i0 : (0 : Int) ≤ i := by omega
  have i1 : (i : Int) < nw := by omega
  clear hp hz hm hf hb hcw hx hmw hwd hV0 hV1 hwm ha16 han ha
  go_enter Tryd.func18, Tryd.ntmps18
  go_wp2_with fail
  have b0 := (Below.refl w.heap.size w).alloc (Nat.le_refl _) (.cells #[.slice (some ⟨bw, ow, none⟩) nw cw, .slice pp np cp, .slice (su 0).a (su 0).n (su 0).c, .slice (su 1).a (su 1).n (su 1).c, .slice (su 2).a (su 2).n (su 2).c, .slice ac nc cc] 28)
  have b1 := b0.alloc (by simp) (.cells #[.bool false, .bool false, .bool false, .int .i64 0, .int .i64 0, .int .i64 0] 48)
  have x0 := XBox.new (w.alloc (.cells #[.slice (some ⟨bw, ow, none⟩) nw cw, .slice pp np cp, .slice (su 0).a (su 0).n (su 0).c, .slice (su 1).a (su 1).n (su 1).c, .slice (su 2).a (su 2).n (su 2).c, .slice ac nc cc] 28)) 48
  rw [World.size_alloc] at x0
  have g0 := (HBox.new w ⟨⟨some ⟨bw, ow, none⟩, nw, cw⟩, ⟨pp, np, cp⟩, su, ⟨ac, nc, cc⟩⟩ 28).next ((Below.refl _ _).alloc (Nat.le_refl _) (.cells #[.bool false, .bool false, .bool false, .int .i64 0, .int .i64 0, .int .i64 0] 48))
  refine (pmay0_any ⟨⟨some ⟨bw, ow, none⟩, nw, cw⟩, ⟨pp, np, cp⟩, su, ⟨ac, nc, cc⟩⟩ d _ ((HP.out.below b1).more b1.size) (HZ.out.over b1 hz0) HF.out).mono ?_
  rw [show mayB0 _ d = true from HM.out]
  rintro e w1 ⟨rfl, hb1⟩
  have N1 := Lib.hid (HNow.mk (d := d) (g0.next hb1) (b1.trans (hb1.mono b1.size)) (HP.out.below (b1.trans (hb1.mono b1.size))))
  have X1 := Lib.hid (x0.next hb1)
  have q1 := N1.out.box.c1
  have ql := N1.out.box.lt
  try dsimp only at q1
  clear x0 g0 hb1 b0 b1
  go_wp2_with fail
  refine (Cl.room_any w.heap.size pp np cp d.f a _ hpn (HZ.out.over N1.out.bel hz0) N1.out.hp.pages N1.out.bel.size).mono ?_
  rw [Cl.bg_room]
  rintro e w2 ⟨rfl, hb2⟩
  have X2 := Lib.hid (X1.out.next hb2)
  have N2 := Lib.hid (N1.out.next hb2)
  have q0 := N2.out.box.c0
  have ql2 := N2.out.box.lt
  dsimp only at q0
  clear q1 ql N1 hb2 hw0 X1
  go_wp2_with fail
  refine (HGET.out _ N2.out.hp.words).mono ?_
  rintro e w3 ⟨rfl, rfl⟩
  go_wp2_with fail
  refine (unpack_any x _).mono ?_
  rw [headOf_yes HX.out, HX.out]
  rintro e w3 ⟨rfl, hb3⟩
  have X := X2.out.next hb3
  have BW := Lib.hid (N2.out.next hb3).bel
  have X3 := Lib.hid X
  have z0 := X.free 0
  have z1 := X.free 1
  have z2 := X.free 2
  have z3 := X.free 3
  have z4 := X.free 4
  have z5 := X.free 5
  have y0 := X.cell 0 (by decide)
  have y1 := X.cell 1 (by decide)
  have y2 := X.cell 2 (by decide)
  have y3 := X.cell 3 (by decide)
  have y4 := X.cell 4 (by decide)
  have y5 := X.cell 5 (by decide)
  simp only [Nat.reduceLT, if_true, if_false] at y0 y1 y2 y3 y4 y5
  have zl := X.lt
  clear X hb3 q0 hbz X2
  by_cases hz : x = 0
  · obtain ⟨rfl, rfl⟩ := HV0.out hz
    have hu : decide (x % 2 = 1) = false := by rw [hz]; decide
    rw [hu]
    clear hz hu
    have KK := Lib.hid (put6_alloc (W := w3) (b := w.heap.size + 1) X3.out (.bool false) (.bool false) (.bool false) (.int .i64 0) (.int .i64 0) (.int .i64 0) (.cells #[.bool false, .bool (decide (x / 2 % 2 = 1)), .bool (decide (x / 4 % 2 = 1)), .int .i64 (nOf x), .int .i64 (x / 1024 % 4194304), .int .i64 (x / 4294967296)] 48))
    go_wp2
    refine bodyPost_ret (v := .tuple #[noHead, .int .i64 3]) ?_ rfl ?_
    rotate_left
    · exact ⟨rfl, (below_put6 BW.out (b := w.heap.size + 1) (by omega) (.bool false) (.bool false) (.bool false) (.int .i64 0) (.int .i64 0) (.int .i64 0)).alloc (by rw [put6_size]; exact BW.out.size) _⟩
    · obtain ⟨k0, k1, k2, k3, k4, k5⟩ := KK.out
      unfold put6 at k0 k1 k2 k3 k4 k5
      clear y0 y1 y2 y3 y4 y5
      simp [results, Tryd.results18, go_sem, noHead, k0, k1, k2, k3, k4, k5]
  · obtain ⟨rfl, rfl⟩ := HV1.out hz
    have hu : decide (x % 2 = 1) = true := decide_eq_true (Classical.byContradiction fun h => hz (Hd.isWord_even HX.out h))
    rw [hu]
    have HU := Lib.hid hu
    clear hz hu
    have KK := Lib.hid (put6_alloc (W := w3) (b := w.heap.size + 1) X3.out (.bool true) (.bool (decide (x / 2 % 2 = 1))) (.bool (decide (x / 4 % 2 = 1))) (.int .i64 (nOf x)) (.int .i64 (x / 1024 % 4194304)) (.int .i64 (x / 4294967296)) (.cells #[.bool true, .bool (decide (x / 2 % 2 = 1)), .bool (decide (x / 4 % 2 = 1)), .int .i64 (nOf x), .int .i64 (x / 1024 % 4194304), .int .i64 (x / 4294967296)] 48))
    go_wp2
    refine bodyPost_ret (v := .tuple #[.agg #[.bool true, .bool (decide (x / 2 % 2 = 1)), .bool (decide (x / 4 % 2 = 1)), .int .i64 (nOf x), .int .i64 (x / 1024 % 4194304), .int .i64 (x / 4294967296)], .int .i64 0]) ?_ rfl ?_
    rotate_left
    · rw [headOf_yes HX.out, HU.out]
      exact ⟨rfl, (below_put6 BW.out (b := w.heap.size + 1) (by omega) (.bool true) (.bool (decide (x / 2 % 2 = 1))) (.bool (decide (x / 4 % 2 = 1))) (.int .i64 (nOf x)) (.int .i64 (x / 1024 % 4194304)) (.int .i64 (x / 4294967296))).alloc (by rw [put6_size]; exact BW.out.size) _⟩
    · obtain ⟨k0, k1, k2, k3, k4, k5⟩ := KK.out
      unfold put6 at k0 k1 k2 k3 k4 k5
      clear y0 y1 y2 y3 y4 y5
      simp [results, Tryd.results18, go_sem, k0, k1, k2, k3, k4, k5]
end
/-- What Head tells. -/
def headE (s : Hs) (d : Hd_) (a : Int) : Int := if mayB0 s d = false then 1 else if Cl.bg d.f s.p.n a = 0 ∨ wd d a = 0 then 3 else 0
def headV (s : Hs) (d : Hd_) (a : Int) : Value := if headE s d a = 0 then headOf (wd d a) else noHead
theorem head_split (s : Hs) (d : Hd_) (a : Int) : (mayB0 s d = false ∧ headE s d a = 1 ∧ headV s d a = noHead) ∨ (mayB0 s d = true ∧ Cl.bg d.f s.p.n a = 0 ∧ headE s d a = 3 ∧ headV s d a = noHead) ∨ (mayB0 s d = true ∧ ¬ Cl.bg d.f s.p.n a = 0 ∧ (wd d a = 0 → headV s d a = noHead ∧ headE s d a = 3) ∧ (¬ wd d a = 0 → headV s d a = headOf (wd d a) ∧ headE s d a = 0)) := by
  cases hm : mayB0 s d
  · have e : headE s d a = 1 := by simp [headE, hm]
    exact .inl ⟨rfl, e, by simp [headV, e]⟩
  · by_cases hb : Cl.bg d.f s.p.n a = 0
    · have e : headE s d a = 3 := by simp [headE, hm, hb]
      exact .inr (.inl ⟨rfl, hb, e, by simp [headV, e]⟩)
    · refine .inr (.inr ⟨rfl, hb, fun h => ?_, fun h => ?_⟩)
      · have e : headE s d a = 3 := by simp [headE, hm, h]
        exact ⟨by simp [headV, e], e⟩
      · have e : headE s d a = 0 := by simp [headE, hm, h, hb]
        exact ⟨by simp [headV, e], e⟩
theorem phead_any (s : Hs) (d : Hd_) (a : Int) (w : World) (hp : Hp w w.heap.size s d) (hz : Cl.Sz w) (hf : Fine s d) : Calls Tryd.prog 18 #[(.agg #[.slice s.w.a s.w.n s.w.c, .slice s.p.a s.p.n s.p.c, .slice (s.u 0).a (s.u 0).n (s.u 0).c, .slice (s.u 1).a (s.u 1).n (s.u 1).c, .slice (s.u 2).a (s.u 2).n (s.u 2).c, .slice s.c.a s.c.n s.c.c]), .int .i64 a] w (HeadOut w (headV s d a) (headE s d a)) := by
  rcases head_split s d a with ⟨hm, e1, e2⟩ | ⟨hm, hb, e1, e2⟩ | ⟨hm, hb, e1, e2⟩
  · rw [e1, e2]; exact phead_bad s d a w hp hz hf hm
  · rw [e1, e2]; exact phead_none s d a w hp hz hf hm hb
  · have := may0_word hm hb
    exact phead_is s d a w hp hz hf hm hb (a - 16).toNat (by omega) _ rfl _ _ e1 e2
end Go.Proofs.YtcbnefjfoeanoaaDoor
