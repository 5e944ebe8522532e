/-
  Merged texts: HpHeadP, HpFew, HpWholeP, HpLess, HpObj, HpWords, HpNewP, PgFind, PgRefFind.
-/
import Derived.Test.YtcbnefjfoeanoaaGreatDoorHpZJ
import Derived.Test.YtcbnefjfoeanoaaGreatDoorZHpEvery
import Derived.Test.YtcbnefjfoeanoaaGreatDoorHpZE
import Derived.Deep.LoopGhost
section
namespace Go.Proofs.YtcbnefjfoeanoaaGreatDoor
open Go.RowKit
set_option maxRecDepth 100000

section
variable (s : Hs) (d : Hd_) (a : Int) (w : World)
theorem phead_bad (hp : Hp w w.heap.size s d) (hz : Cl.Sz w) (hf : Fine s d) (hm : mayB0 s d = false) :
    Calls Tryz.prog 19 #[(.agg #[.slice s.w.a s.w.n s.w.c, .slice s.p.a s.p.n s.p.c, .slice (s.u 0).a (s.u 0).n (s.u 0).c, .slice (s.u 1).a (s.u 1).n (s.u 1).c, .slice (s.u 2).a (s.u 2).n (s.u 2).c, .slice s.c.a s.c.n s.c.c]), .int .i64 a] w (HeadOut w noHead 1) := by
  have HP := Lib.hid hp
  have HZ := Lib.hid hz
  have hz0 := hz.pos
  have HM := Lib.hid hm
  have HF := Lib.hid hf
  clear hp hz hm hf
  go_enter Tryz.func19, Tryz.ntmps19
  go_wp2_with fail
  have b0 := (Below.refl w.heap.size w).alloc (Nat.le_refl _) (.cells #[.slice s.w.a s.w.n s.w.c, .slice s.p.a s.p.n s.p.c, .slice (s.u 0).a (s.u 0).n (s.u 0).c, .slice (s.u 1).a (s.u 1).n (s.u 1).c, .slice (s.u 2).a (s.u 2).n (s.u 2).c, .slice s.c.a s.c.n s.c.c] 28)
  have b1 := b0.alloc (by simp) (.cells #[.bool false, .bool false, .bool false, .int .i64 0, .int .i64 0, .int .i64 0] 30)
  refine (pmay0_any s d _ ((HP.out.below b1).more b1.size) (HZ.out.over b1 hz0) HF.out).mono ?_
  rw [HM.out]
  rintro e w1 ⟨rfl, hb1⟩
  have x0 := XBox.new (w.alloc (.cells #[.slice s.w.a s.w.n s.w.c, .slice s.p.a s.p.n s.p.c, .slice (s.u 0).a (s.u 0).n (s.u 0).c, .slice (s.u 1).a (s.u 1).n (s.u 1).c, .slice (s.u 2).a (s.u 2).n (s.u 2).c, .slice s.c.a s.c.n s.c.c] 28)) 30
  rw [World.size_alloc] at x0
  have X := x0.next hb1
  have BW := Lib.hid (b1.trans (hb1.mono b1.size))
  have y0 := X.cell 0 (by decide)
  have y1 := X.cell 1 (by decide)
  have y2 := X.cell 2 (by decide)
  have y3 := X.cell 3 (by decide)
  have y4 := X.cell 4 (by decide)
  have y5 := X.cell 5 (by decide)
  simp only [Nat.reduceLT, if_true, if_false] at y0 y1 y2 y3 y4 y5
  have z0 := X.free 0
  have z1 := X.free 1
  have z2 := X.free 2
  have z3 := X.free 3
  have z4 := X.free 4
  have z5 := X.free 5
  have zl := X.lt
  clear x0 X hb1 b0 b1
  go_wp2
  refine bodyPost_ret (v := .tuple #[noHead, .int .i64 1]) ?_ rfl ?_
  rotate_left
  · exact ⟨rfl, below_put6 BW.out (b := w.heap.size + 1) (by omega) _ _ _ _ _ _⟩
  simp [results, Tryz.results19, go_sem, noHead, y0, y1, y2, y3, y4, y5]
theorem phead_none (hp : Hp w w.heap.size s d) (hz : Cl.Sz w) (hf : Fine s d) (hm : mayB0 s d = true) (hb : Cl.bg d.f s.p.n a = 0) :
    Calls Tryz.prog 19 #[(.agg #[.slice s.w.a s.w.n s.w.c, .slice s.p.a s.p.n s.p.c, .slice (s.u 0).a (s.u 0).n (s.u 0).c, .slice (s.u 1).a (s.u 1).n (s.u 1).c, .slice (s.u 2).a (s.u 2).n (s.u 2).c, .slice s.c.a s.c.n s.c.c]), .int .i64 a] w (HeadOut w noHead 3) := by
  have HP := Lib.hid hp
  have HZ := Lib.hid hz
  have hz0 := hz.pos
  have HM := Lib.hid hm
  have HF := Lib.hid hf
  have HB := Lib.hid hb
  clear hp hz hm hf hb
  go_enter Tryz.func19, Tryz.ntmps19
  go_wp2_with fail
  have b0 := (Below.refl w.heap.size w).alloc (Nat.le_refl _) (.cells #[.slice s.w.a s.w.n s.w.c, .slice s.p.a s.p.n s.p.c, .slice (s.u 0).a (s.u 0).n (s.u 0).c, .slice (s.u 1).a (s.u 1).n (s.u 1).c, .slice (s.u 2).a (s.u 2).n (s.u 2).c, .slice s.c.a s.c.n s.c.c] 28)
  have b1 := b0.alloc (by simp) (.cells #[.bool false, .bool false, .bool false, .int .i64 0, .int .i64 0, .int .i64 0] 30)
  have x0 := XBox.new (w.alloc (.cells #[.slice s.w.a s.w.n s.w.c, .slice s.p.a s.p.n s.p.c, .slice (s.u 0).a (s.u 0).n (s.u 0).c, .slice (s.u 1).a (s.u 1).n (s.u 1).c, .slice (s.u 2).a (s.u 2).n (s.u 2).c, .slice s.c.a s.c.n s.c.c] 28)) 30
  rw [World.size_alloc] at x0
  have g0 := (HBox.new w s 28).next ((Below.refl _ _).alloc (Nat.le_refl _) (.cells #[.bool false, .bool false, .bool false, .int .i64 0, .int .i64 0, .int .i64 0] 30))
  refine (pmay0_any s d _ ((HP.out.below b1).more b1.size) (HZ.out.over b1 hz0) HF.out).mono ?_
  rw [show mayB0 _ d = true from HM.out]
  rintro e w1 ⟨rfl, hb1⟩
  have N1 := Lib.hid (HNow.mk (d := d) (g0.next hb1) (b1.trans (hb1.mono b1.size)) (HP.out.below (b1.trans (hb1.mono b1.size))))
  have X1 := Lib.hid (x0.next hb1)
  have q1 := N1.out.box.c1
  have ql := N1.out.box.lt
  try dsimp only at q1
  clear x0 g0 hb1 b0 b1
  go_wp2_with fail
  refine (Cl.room_any w.heap.size s.p.a s.p.n s.p.c d.f a _ (by have := HF.out.pn; omega) (HZ.out.over N1.out.bel hz0) N1.out.hp.pages N1.out.bel.size).mono ?_
  rw [Cl.bg_room, HB.out]
  rintro e w2 ⟨rfl, hb2⟩
  have X := X1.out.next hb2
  have BW := Lib.hid (N1.out.next hb2).bel
  clear q1 ql X1 N1 hb2
  have y0 := X.cell 0 (by decide)
  have y1 := X.cell 1 (by decide)
  have y2 := X.cell 2 (by decide)
  have y3 := X.cell 3 (by decide)
  have y4 := X.cell 4 (by decide)
  have y5 := X.cell 5 (by decide)
  simp only [Nat.reduceLT, if_true, if_false] at y0 y1 y2 y3 y4 y5
  have z0 := X.free 0
  have z1 := X.free 1
  have z2 := X.free 2
  have z3 := X.free 3
  have z4 := X.free 4
  have z5 := X.free 5
  have zl := X.lt
  clear X
  go_wp2
  refine bodyPost_ret (v := .tuple #[noHead, .int .i64 3]) ?_ rfl ?_
  rotate_left
  · exact ⟨rfl, below_put6 BW.out (b := w.heap.size + 1) (by omega) _ _ _ _ _ _⟩
  simp [results, Tryz.results19, go_sem, noHead, y0, y1, y2, y3, y4, y5]
set_option maxHeartbeats 1000000 in
theorem phead_is (hp : Hp w w.heap.size s d) (hz : Cl.Sz w) (hf : Fine s d) (hm : mayB0 s d = true) (hb : ¬ Cl.bg d.f s.p.n a = 0) (i : Nat) (ha : a - 16 = i) (x : Int) (hx : x = d.ws.getD i 0) (V : Value) (er : Int) (hV0 : x = 0 → V = noHead ∧ er = 3) (hV1 : ¬ x = 0 → V = headOf x ∧ er = 0) :
    Calls Tryz.prog 19 #[(.agg #[.slice s.w.a s.w.n s.w.c, .slice s.p.a s.p.n s.p.c, .slice (s.u 0).a (s.u 0).n (s.u 0).c, .slice (s.u 1).a (s.u 1).n (s.u 1).c, .slice (s.u 2).a (s.u 2).n (s.u 2).c, .slice s.c.a s.c.n s.c.c]), .int .i64 a] w (HeadOut w V er) := by
  have hmw := may0_word hm hb
  have hi : i < s.w.n := by omega
  have hwd : Hd.isWord x = true := by
    have := hmw.2.2.2
    rwa [show (a - 16).toNat = i by omega, ← hx] at this
  have hwm : wordsB s.w.n = true := by
    have := (mayH_all hm).1
    unfold firstB at this
    simp only [Bool.and_eq_true, decide_eq_true_eq] at this
    exact this.1
  have hpn : s.p.n ≤ 1000 := by have := hf.pn; omega
  have ha16 : 16 ≤ a := hmw.2.1
  have han : a < 16 + s.w.n := by omega
  rcases s with ⟨⟨aw, nw, cw⟩, ⟨pp, np, cp⟩, su, ⟨ac, nc, cc⟩⟩
  dsimp only at hi hpn hb hwm han ⊢
  obtain ⟨bw, ow, rfl, hbw, hcw⟩ := hp.words.2 (show 0 < nw by omega)
  have hw0 := hcw i hi
  rw [← hx] at hw0
  have HV0 := Lib.hid hV0
  have HV1 := Lib.hid hV1
  have HP := Lib.hid hp
  have HZ := Lib.hid hz
  have hz0 := hz.pos
  have HM := Lib.hid hm
  have HF := Lib.hid hf
  have hbz : (Cl.bg d.f np a == 0) = false := by simp [hb]
  have HX := Lib.hid hwd
  have HGET := Lib.hid (fun (W : World) (hW : Row W w.heap.size (some ⟨bw, ow, none⟩) nw d.ws) => by
    have := Ar.get_ok w.heap.size (some ⟨bw, ow, none⟩) nw cw d.ws a W hwm ha16 han hW
    rw [show d.ws.getD (a - 16).toNat 0 = x by rw [hx, show (a - 16).toNat = i by omega]] at this
    exact this)
  have i0 : (0 : Int) ≤ i := by omega
  have i1 : (i : Int) < nw := by omega
  clear hp hz hm hf hb hcw hx hmw hwd hV0 hV1 hwm ha16 han ha
  go_enter Tryz.func19, Tryz.ntmps19
  go_wp2_with fail
  have b0 := (Below.refl w.heap.size w).alloc (Nat.le_refl _) (.cells #[.slice (some ⟨bw, ow, none⟩) nw cw, .slice pp np cp, .slice (su 0).a (su 0).n (su 0).c, .slice (su 1).a (su 1).n (su 1).c, .slice (su 2).a (su 2).n (su 2).c, .slice ac nc cc] 28)
  have b1 := b0.alloc (by simp) (.cells #[.bool false, .bool false, .bool false, .int .i64 0, .int .i64 0, .int .i64 0] 30)
  have x0 := XBox.new (w.alloc (.cells #[.slice (some ⟨bw, ow, none⟩) nw cw, .slice pp np cp, .slice (su 0).a (su 0).n (su 0).c, .slice (su 1).a (su 1).n (su 1).c, .slice (su 2).a (su 2).n (su 2).c, .slice ac nc cc] 28)) 30
  rw [World.size_alloc] at x0
  have g0 := (HBox.new w ⟨⟨some ⟨bw, ow, none⟩, nw, cw⟩, ⟨pp, np, cp⟩, su, ⟨ac, nc, cc⟩⟩ 28).next ((Below.refl _ _).alloc (Nat.le_refl _) (.cells #[.bool false, .bool false, .bool false, .int .i64 0, .int .i64 0, .int .i64 0] 30))
  refine (pmay0_any ⟨⟨some ⟨bw, ow, none⟩, nw, cw⟩, ⟨pp, np, cp⟩, su, ⟨ac, nc, cc⟩⟩ d _ ((HP.out.below b1).more b1.size) (HZ.out.over b1 hz0) HF.out).mono ?_
  rw [show mayB0 _ d = true from HM.out]
  rintro e w1 ⟨rfl, hb1⟩
  have N1 := Lib.hid (HNow.mk (d := d) (g0.next hb1) (b1.trans (hb1.mono b1.size)) (HP.out.below (b1.trans (hb1.mono b1.size))))
  have X1 := Lib.hid (x0.next hb1)
  have q1 := N1.out.box.c1
  have ql := N1.out.box.lt
  try dsimp only at q1
  clear x0 g0 hb1 b0 b1
  go_wp2_with fail
  refine (Cl.room_any w.heap.size pp np cp d.f a _ hpn (HZ.out.over N1.out.bel hz0) N1.out.hp.pages N1.out.bel.size).mono ?_
  rw [Cl.bg_room]
  rintro e w2 ⟨rfl, hb2⟩
  have X2 := Lib.hid (X1.out.next hb2)
  have N2 := Lib.hid (N1.out.next hb2)
  have q0 := N2.out.box.c0
  have ql2 := N2.out.box.lt
  dsimp only at q0
  clear q1 ql N1 hb2 hw0 X1
  go_wp2_with fail
  refine (HGET.out _ N2.out.hp.words).mono ?_
  rintro e w3 ⟨rfl, rfl⟩
  go_wp2_with fail
  refine (unpack_any x _).mono ?_
  rw [headOf_yes HX.out, HX.out]
  rintro e w3 ⟨rfl, hb3⟩
  have X := X2.out.next hb3
  have BW := Lib.hid (N2.out.next hb3).bel
  have X3 := Lib.hid X
  have z0 := X.free 0
  have z1 := X.free 1
  have z2 := X.free 2
  have z3 := X.free 3
  have z4 := X.free 4
  have z5 := X.free 5
  have y0 := X.cell 0 (by decide)
  have y1 := X.cell 1 (by decide)
  have y2 := X.cell 2 (by decide)
  have y3 := X.cell 3 (by decide)
  have y4 := X.cell 4 (by decide)
  have y5 := X.cell 5 (by decide)
  simp only [Nat.reduceLT, if_true, if_false] at y0 y1 y2 y3 y4 y5
  have zl := X.lt
  clear X hb3 q0 hbz X2
  by_cases hz : x = 0
  · obtain ⟨rfl, rfl⟩ := HV0.out hz
    have hu : decide (x % 2 = 1) = false := by rw [hz]; decide
    rw [hu]
    clear hz hu
    have KK := Lib.hid (put6_alloc (W := w3) (b := w.heap.size + 1) X3.out (.bool false) (.bool false) (.bool false) (.int .i64 0) (.int .i64 0) (.int .i64 0) (.cells #[.bool false, .bool (decide (x / 2 % 2 = 1)), .bool (decide (x / 4 % 2 = 1)), .int .i64 (nOf x), .int .i64 (x / 1024 % 4194304), .int .i64 (x / 4294967296)] 30))
    go_wp2
    refine bodyPost_ret (v := .tuple #[noHead, .int .i64 3]) ?_ rfl ?_
    rotate_left
    · exact ⟨rfl, (below_put6 BW.out (b := w.heap.size + 1) (by omega) (.bool false) (.bool false) (.bool false) (.int .i64 0) (.int .i64 0) (.int .i64 0)).alloc (by rw [put6_size]; exact BW.out.size) _⟩
    · obtain ⟨k0, k1, k2, k3, k4, k5⟩ := KK.out
      unfold put6 at k0 k1 k2 k3 k4 k5
      clear y0 y1 y2 y3 y4 y5
      simp [results, Tryz.results19, go_sem, noHead, k0, k1, k2, k3, k4, k5]
  · obtain ⟨rfl, rfl⟩ := HV1.out hz
    have hu : decide (x % 2 = 1) = true := decide_eq_true (Classical.byContradiction fun h => hz (Hd.isWord_even HX.out h))
    rw [hu]
    have HU := Lib.hid hu
    clear hz hu
    have KK := Lib.hid (put6_alloc (W := w3) (b := w.heap.size + 1) X3.out (.bool true) (.bool (decide (x / 2 % 2 = 1))) (.bool (decide (x / 4 % 2 = 1))) (.int .i64 (nOf x)) (.int .i64 (x / 1024 % 4194304)) (.int .i64 (x / 4294967296)) (.cells #[.bool true, .bool (decide (x / 2 % 2 = 1)), .bool (decide (x / 4 % 2 = 1)), .int .i64 (nOf x), .int .i64 (x / 1024 % 4194304), .int .i64 (x / 4294967296)] 30))
    go_wp2
    refine bodyPost_ret (v := .tuple #[.agg #[.bool true, .bool (decide (x / 2 % 2 = 1)), .bool (decide (x / 4 % 2 = 1)), .int .i64 (nOf x), .int .i64 (x / 1024 % 4194304), .int .i64 (x / 4294967296)], .int .i64 0]) ?_ rfl ?_
    rotate_left
    · rw [headOf_yes HX.out, HU.out]
      exact ⟨rfl, (below_put6 BW.out (b := w.heap.size + 1) (by omega) (.bool true) (.bool (decide (x / 2 % 2 = 1))) (.bool (decide (x / 4 % 2 = 1))) (.int .i64 (nOf x)) (.int .i64 (x / 1024 % 4194304)) (.int .i64 (x / 4294967296))).alloc (by rw [put6_size]; exact BW.out.size) _⟩
    · obtain ⟨k0, k1, k2, k3, k4, k5⟩ := KK.out
      unfold put6 at k0 k1 k2 k3 k4 k5
      clear y0 y1 y2 y3 y4 y5
      simp [results, Tryz.results19, go_sem, k0, k1, k2, k3, k4, k5]
end
/-- What Head tells. -/
def headE (s : Hs) (d : Hd_) (a : Int) : Int := if mayB0 s d = false then 1 else if Cl.bg d.f s.p.n a = 0 ∨ wd d a = 0 then 3 else 0
def headV (s : Hs) (d : Hd_) (a : Int) : Value := if headE s d a = 0 then headOf (wd d a) else noHead
theorem head_split (s : Hs) (d : Hd_) (a : Int) : (mayB0 s d = false ∧ headE s d a = 1 ∧ headV s d a = noHead) ∨ (mayB0 s d = true ∧ Cl.bg d.f s.p.n a = 0 ∧ headE s d a = 3 ∧ headV s d a = noHead) ∨ (mayB0 s d = true ∧ ¬ Cl.bg d.f s.p.n a = 0 ∧ (wd d a = 0 → headV s d a = noHead ∧ headE s d a = 3) ∧ (¬ wd d a = 0 → headV s d a = headOf (wd d a) ∧ headE s d a = 0)) := by
  cases hm : mayB0 s d
  · have e : headE s d a = 1 := by simp [headE, hm]
    exact .inl ⟨rfl, e, by simp [headV, e]⟩
  · by_cases hb : Cl.bg d.f s.p.n a = 0
    · have e : headE s d a = 3 := by simp [headE, hm, hb]
      exact .inr (.inl ⟨rfl, hb, e, by simp [headV, e]⟩)
    · refine .inr (.inr ⟨rfl, hb, fun h => ?_, fun h => ?_⟩)
      · have e : headE s d a = 3 := by simp [headE, hm, h]
        exact ⟨by simp [headV, e], e⟩
      · have e : headE s d a = 0 := by simp [headE, hm, h, hb]
        exact ⟨by simp [headV, e], e⟩
theorem phead_any (s : Hs) (d : Hd_) (a : Int) (w : World) (hp : Hp w w.heap.size s d) (hz : Cl.Sz w) (hf : Fine s d) : Calls Tryz.prog 19 #[(.agg #[.slice s.w.a s.w.n s.w.c, .slice s.p.a s.p.n s.p.c, .slice (s.u 0).a (s.u 0).n (s.u 0).c, .slice (s.u 1).a (s.u 1).n (s.u 1).c, .slice (s.u 2).a (s.u 2).n (s.u 2).c, .slice s.c.a s.c.n s.c.c]), .int .i64 a] w (HeadOut w (headV s d a) (headE s d a)) := by
  rcases head_split s d a with ⟨hm, e1, e2⟩ | ⟨hm, hb, e1, e2⟩ | ⟨hm, hb, e1, e2⟩
  · rw [e1, e2]; exact phead_bad s d a w hp hz hf hm
  · rw [e1, e2]; exact phead_none s d a w hp hz hf hm hb
  · have := may0_word hm hb
    exact phead_is s d a w hp hz hf hm hb (a - 16).toNat (by omega) _ rfl _ _ e1 e2
theorem rhead_any (s : Hs) (d : Hd_) (a : Int) (w : World) (hp : Hp w w.heap.size s d) (hf : Fine s d) : Calls Tryz.prog 69 #[(.agg #[.slice s.w.a s.w.n s.w.c, .slice s.p.a s.p.n s.p.c, .slice (s.u 0).a (s.u 0).n (s.u 0).c, .slice (s.u 1).a (s.u 1).n (s.u 1).c, .slice (s.u 2).a (s.u 2).n (s.u 2).c, .slice s.c.a s.c.n s.c.c]), .int .i64 a] w (HeadOut w (headV s d a) (headE s d a)) := by
  rcases head_split s d a with ⟨hm, e1, e2⟩ | ⟨hm, hb, e1, e2⟩ | ⟨hm, hb, e1, e2⟩
  · rw [e1, e2]; exact rhead_bad s d a w hp hf.wn (by have := hf.pn; omega) hf.hv hf.len hm
  · rw [e1, e2]; exact rhead_none s d a w hp hf.wn (by have := hf.pn; omega) hf.hv hf.len hm hb
  · have := may0_word hm hb
    exact rhead_is s d a w hp hf.wn hf.pn hf.hv hf.len hm hb (a - 16).toNat (by omega) _ rfl _ _ e1 e2
end Go.Proofs.YtcbnefjfoeanoaaGreatDoor
end
section
namespace Go.Proofs.YtcbnefjfoeanoaaGreatDoor
open Go.RowKit
set_option maxRecDepth 100000

theorem upTo3 (g : Nat → List Int) : (Ls.upTo g 3).length = (g 0).length + (g 1).length + (g 2).length := by
  simp [Ls.upTo, List.range_succ]
  omega
theorem few_parts {s : Hs} (h : fewH s = true) : s.w.n ≤ 130 ∧ s.p.n ≤ 9 ∧ s.c.n ≤ 20 ∧ lightB s.u = true := by
  unfold fewH at h
  simp only [Bool.and_eq_true, decide_eq_true_eq] at h
  exact h
theorem light_len {w : World} {B : Nat} {u : Nat → Ls.Sl} {F : Nat → List Int} (h : lightB u = true) (hl : Ls.L3 w B u F) : (Ls.upTo F 3).length ≤ 210 := by
  have h' := of_decide_eq_true h
  have e0 := hl.len 0 (by decide)
  have e1 := hl.len 1 (by decide)
  have e2 := hl.len 2 (by decide)
  rw [upTo3]
  omega
theorem fine_few {w : World} {B : Nat} {s : Hs} {d : Hd_} (h : fewH s = true) (hp : Hp w B s d) (hv : ∀ i, -9223372036854775808 ≤ d.ws.getD i 0 ∧ d.ws.getD i 0 ≤ 9223372036854775807) : Fine s d := by
  obtain ⟨h0, h1, h2, h3⟩ := few_parts h
  have := light_len h3 hp.free
  exact ⟨by omega, by omega, by omega, hv, by omega⟩
theorem ahead_len (g : Nat → List Int) (F : Nat → Nat → List Int) : ∀ m, (Ls.allOf (ahead g F) (1 + m)).length = (Ls.upTo g 3).length + (Ls.allOf F m).length
  | 0 => by simp [Ls.allOf, ahead]
  | m + 1 => by
    have := ahead_len g F m
    rw [show 1 + (m + 1) = 1 + m + 1 by omega, Ls.allOf_succ, Ls.allOf_succ, List.length_append, List.length_append, this]
    rw [show ahead g F (1 + m) = F m by rw [show 1 + m = m + 1 by omega]; rfl]
    omega
theorem all_light {F : Nat → Nat → List Int} : ∀ {m : Nat}, (∀ i, i < m → (Ls.upTo (F i) 3).length ≤ 210) → (Ls.allOf F m).length ≤ 210 * m
  | 0, _ => by simp [Ls.allOf]
  | m + 1, h => by
    have h1 := all_light (m := m) fun i hi => h i (by omega)
    have h2 := h m (by omega)
    rw [Ls.allOf_succ, List.length_append]
    omega
theorem head_form (s : Hs) (d : Hd_) (a : Int) : ∃ (u o e : Bool) (n b m : Int), headV s d a = .agg #[.bool u, .bool o, .bool e, .int .i64 n, .int .i64 b, .int .i64 m] := by
  unfold headV headOf noHead
  split
  · split <;> exact ⟨_, _, _, _, _, _, rfl⟩
  · exact ⟨_, _, _, _, _, _, rfl⟩
theorem eql_self (u o e : Bool) (n b m : Int) (w : World) :
    (binOp .eql 30 (.agg #[.bool u, .bool o, .bool e, .int .i64 n, .int .i64 b, .int .i64 m]) (.agg #[.bool u, .bool o, .bool e, .int .i64 n, .int .i64 b, .int .i64 m])).run Tryz.prog w = .ok (.bool true) w := by
  go_simp
/-- A head in its box. -/
structure X6 (W : World) (b : Nat) (x0 x1 x2 : Bool) (x3 x4 x5 : Int) : Prop where
  c0 : W.cell? ⟨b, 0, none⟩ = some (.bool x0)
  c1 : W.cell? ⟨b, 1, none⟩ = some (.bool x1)
  c2 : W.cell? ⟨b, 2, none⟩ = some (.bool x2)
  c3 : W.cell? ⟨b, 3, none⟩ = some (.int .i64 x3)
  c4 : W.cell? ⟨b, 4, none⟩ = some (.int .i64 x4)
  c5 : W.cell? ⟨b, 5, none⟩ = some (.int .i64 x5)
  lt : b < W.heap.size
theorem X6.new (w : World) (x0 x1 x2 : Bool) (x3 x4 x5 : Int) (t : TypeId) : X6 (w.alloc (.cells #[.bool x0, .bool x1, .bool x2, .int .i64 x3, .int .i64 x4, .int .i64 x5] t)) w.heap.size x0 x1 x2 x3 x4 x5 := by
  refine ⟨?_, ?_, ?_, ?_, ?_, ?_, by simp⟩ <;> simp [go_sem]
theorem X6.next {W W' : World} {b : Nat} {x0 x1 x2 : Bool} {x3 x4 x5 : Int} (h : X6 W b x0 x1 x2 x3 x4 x5) (hb : Below W.heap.size W W') : X6 W' b x0 x1 x2 x3 x4 x5 :=
  ⟨(hb.cell (p := ⟨b, 0, none⟩) h.lt).trans h.c0, (hb.cell (p := ⟨b, 1, none⟩) h.lt).trans h.c1, (hb.cell (p := ⟨b, 2, none⟩) h.lt).trans h.c2, (hb.cell (p := ⟨b, 3, none⟩) h.lt).trans h.c3, (hb.cell (p := ⟨b, 4, none⟩) h.lt).trans h.c4, (hb.cell (p := ⟨b, 5, none⟩) h.lt).trans h.c5, Nat.lt_of_lt_of_le h.lt hb.size⟩
/-- What a region with several calls keeps: the heap's box and two heads. -/
theorem tells_keep {w W W' : World} {s : Hs} {d : Hd_} {b1 b2 : Nat} {x0 x1 x2 : Bool} {x3 x4 x5 : Int} (h : HNow w W s d ∧ X6 W b1 x0 x1 x2 x3 x4 x5 ∧ X6 W b2 x0 x1 x2 x3 x4 x5) (hb : Below W.heap.size W W') :
    (HNow w W' s d ∧ X6 W' b1 x0 x1 x2 x3 x4 x5 ∧ X6 W' b2 x0 x1 x2 x3 x4 x5) ∧ w.heap.size < W'.heap.size ∧ b1 < W'.heap.size ∧ b2 < W'.heap.size ∧ W'.cell? ⟨w.heap.size, 0, none⟩ = some (.slice s.w.a s.w.n s.w.c) ∧ W'.cell? ⟨w.heap.size, 1, none⟩ = some (.slice s.p.a s.p.n s.p.c) ∧ W'.cell? ⟨w.heap.size, 2, none⟩ = some (.slice (s.u 0).a (s.u 0).n (s.u 0).c) ∧ W'.cell? ⟨w.heap.size, 3, none⟩ = some (.slice (s.u 1).a (s.u 1).n (s.u 1).c) ∧ W'.cell? ⟨w.heap.size, 4, none⟩ = some (.slice (s.u 2).a (s.u 2).n (s.u 2).c) ∧ W'.cell? ⟨w.heap.size, 5, none⟩ = some (.slice s.c.a s.c.n s.c.c) ∧ W'.cell? ⟨b1, 0, none⟩ = some (.bool x0) ∧ W'.cell? ⟨b1, 1, none⟩ = some (.bool x1) ∧ W'.cell? ⟨b1, 2, none⟩ = some (.bool x2) ∧ W'.cell? ⟨b1, 3, none⟩ = some (.int .i64 x3) ∧ W'.cell? ⟨b1, 4, none⟩ = some (.int .i64 x4) ∧ W'.cell? ⟨b1, 5, none⟩ = some (.int .i64 x5) ∧ W'.cell? ⟨b2, 0, none⟩ = some (.bool x0) ∧ W'.cell? ⟨b2, 1, none⟩ = some (.bool x1) ∧ W'.cell? ⟨b2, 2, none⟩ = some (.bool x2) ∧ W'.cell? ⟨b2, 3, none⟩ = some (.int .i64 x3) ∧ W'.cell? ⟨b2, 4, none⟩ = some (.int .i64 x4) ∧ W'.cell? ⟨b2, 5, none⟩ = some (.int .i64 x5) := by
  have g := h.1.next hb
  have x := h.2.1.next hb
  have y := h.2.2.next hb
  exact ⟨⟨g, x, y⟩, g.box.lt, x.lt, y.lt, g.box.c0, g.box.c1, g.box.c2, g.box.c3, g.box.c4, g.box.c5, x.c0, x.c1, x.c2, x.c3, x.c4, x.c5, y.c0, y.c1, y.c2, y.c3, y.c4, y.c5⟩
theorem box_keep {w W W' : World} {s : Hs} {d : Hd_} (h : HNow w W s d ∧ True) (hb : Below W.heap.size W W') : (HNow w W' s d ∧ True) ∧ w.heap.size < W'.heap.size ∧ W'.cell? ⟨w.heap.size, 0, none⟩ = some (.slice s.w.a s.w.n s.w.c) ∧ W'.cell? ⟨w.heap.size, 1, none⟩ = some (.slice s.p.a s.p.n s.p.c) ∧ W'.cell? ⟨w.heap.size, 2, none⟩ = some (.slice (s.u 0).a (s.u 0).n (s.u 0).c) ∧ W'.cell? ⟨w.heap.size, 3, none⟩ = some (.slice (s.u 1).a (s.u 1).n (s.u 1).c) ∧ W'.cell? ⟨w.heap.size, 4, none⟩ = some (.slice (s.u 2).a (s.u 2).n (s.u 2).c) ∧ W'.cell? ⟨w.heap.size, 5, none⟩ = some (.slice s.c.a s.c.n s.c.c) := by
  have g := h.1.next hb
  exact ⟨⟨g, trivial⟩, g.box.lt, g.box.c0, g.box.c1, g.box.c2, g.box.c3, g.box.c4, g.box.c5⟩
theorem used_len (s : Hs) (d : Hd_) : (usedL s d).length ≤ (Cl.allS d.f s.p.n).length := by
  unfold usedL usedF
  split
  · exact List.length_filter_le _ _
  · exact Nat.zero_le _
end Go.Proofs.YtcbnefjfoeanoaaGreatDoor
end
section
namespace Go.Proofs.YtcbnefjfoeanoaaGreatDoor
open Go.RowKit Go.Sort
set_option maxRecDepth 100000

/-- Is a heap whole, with caches? -/
def wholeH (s : Hs) (d : Hd_) (m : Nat) (F : Nat → Nat → List Int) : Bool := mayH s d m F && (Cl.allS d.f s.p.n).all fun a => !(wd d a == 0) || decide (a ∈ Ls.allOf (ahead d.F F) (1 + m))
/-- The library's Sort of a list of the walk's own. -/
theorem sort_own (w : World) (base : Nat) (v : Ls.Sl) (xs : List Int) (own : w.ownsRow base 3 1 (.slice v.a v.n v.c) v.n (xs.map (Value.int .i64))) (hlen : xs.length ≤ 4000000) :
    Calls Tryz.prog 53 #[.slice v.a v.n v.c] w fun e w' => e = .returned (.tuple #[]) ∧ w'.ownsRow base 3 1 (.slice v.a v.n v.c) v.n ((Ls.srt xs).map (Value.int .i64)) ∧ w.grownBy w' (Value.slice v.a v.n v.c).ownBlock := by
  have hl : v.n = xs.length := by simpa using own.1.symm
  obtain ⟨va, vn, vc⟩ := v
  dsimp only at hl own ⊢
  subst hl
  by_cases h0 : xs.length = 0
  · obtain rfl := List.eq_nil_of_length_eq_zero h0
    refine (Tryz.slices_Sort_int_none va vc w).mono ?_
    rintro e w' ⟨rfl, rfl⟩
    exact ⟨rfl, by simpa [Ls.srt] using own, ⟨rfl, rfl, rfl, Nat.le_refl _, fun _ _ _ => rfl⟩⟩
  · obtain ⟨_, h1⟩ := own
    rcases h1 with ⟨_, h2⟩ | ⟨g, cap, cur, h2, hbase, hh, hc1, hc2, hsz, htk⟩
    · exact absurd h2 h0
    · simp only [Value.slice.injEq, true_and] at h2
      obtain ⟨rfl, rfl⟩ := h2
      rw [Nat.mul_one] at htk
      have hg : g < w.heap.size := (Array.getElem?_eq_some_iff.1 hh).1
      have hH := holds_of_blockI (ss := xs) hh htk
      refine (Tryz.slices_Sort_int g 0 vc xs w hH hg (by omega)).mono ?_
      rintro e w' ⟨rfl, q, os, rfl⟩
      exact ⟨rfl, ownsRow_sortedI (base := base) (n := q) (os := os) (ss := xs) (ts := Ls.srt xs) (Ls.srt_len xs) hbase hh hc1 hc2 hsz, grownBy_sortedI (n := q) (os := os) (g := g) (Ls.srt xs).toArray⟩
def JW (n₀ bf : Nat) (ys : List Int) (M : Nat → Prop) (_ : List Int) (W : World) : Prop := ∃ v, UGath n₀ bf ys M W v
theorem bides_JW (n₀ bf : Nat) (ys : List Int) : Cl.Bides n₀ (JW n₀ bf ys) := by
  rintro M M' pre W W' ⟨v, h⟩ hb hs hm
  exact ⟨v, h.bide hs hm⟩
def askW (d : Hd_) (ys : List Int) (a : Int) : Bool := decide (wd d a % 2 = 1) || decide (a ∈ ys)
def KWOut (n₀ bf : Nat) (ys : List Int) (M : Nat → Prop) (pre : List Int) (W : World) (R : Bool) (e : Ending) (W' : World) : Prop := e = .returned (.bool R) ∧ Cl.Kept n₀ M W W' ∧ (R = true → JW n₀ bf ys M pre W')
section
variable (n₀ bf : Nat) (ys : List Int) (d : Hd_) (M : Nat → Prop) (pre pre' : List Int) (a x : Int) (p : Int × Int) (W : World)
theorem wholeK_any (hx : x = wd d a) (hJ : JW n₀ bf ys M pre W) (hn : n₀ ≤ W.heap.size) (hs : ys.Pairwise (· ≤ ·)) (hl : ys.length ≤ 4000000) :
    Calls Tryz.prog 55 #[cellV a x p, .pointer (some ⟨bf, 0, none⟩)] W (KWOut n₀ bf ys M pre' W (askW d ys a)) := by
  have fin : ∀ (R : Bool) W', Below W.heap.size W W' → KWOut n₀ bf ys M pre' W R (.returned (.bool R)) W' := fun R W' hb =>
    ⟨rfl, ⟨hb.mono hn, fun k _ hk => hb.block k hk⟩, fun _ => bides_JW n₀ bf ys M M pre' W W' hJ (hb.mono hn) (fun k hk _ => hb.block k hk) (fun _ h => .inl h)⟩
  have FIN := Lib.hid fin
  clear fin
  by_cases h1 : x % 2 = 1
  · have hu : decide (x % 2 = 1) = true := decide_eq_true h1
    have e : askW d ys a = true := by rw [askW, ← hx, hu]; rfl
    rw [e]
    unfold cellV
    rw [hu]
    clear hx hJ h1 hu e hs
    go_enter Tryz.func55, Tryz.ntmps55
    go_wp2
    go_ret
    exact FIN.out _ _ ((Below.refl _ _).alloc (Nat.le_refl _) _)
  · have hu : decide (x % 2 = 1) = false := decide_eq_false h1
    have e : askW d ys a = decide (a ∈ ys) := by rw [askW, ← hx, hu]; rfl
    rw [e]
    obtain ⟨v, hv⟩ := hJ
    have c0 := hv.box.cell
    have cl := hv.box.lt
    obtain ⟨a1, c1, e1, hr, _, _⟩ := Ls.owns_row hv.row
    have HR := Lib.hid hr
    have HS := Lib.hid hs
    have hvn : v.n ≤ 100000000 := by have := hr.1; omega
    simp only [Value.slice.injEq, true_and] at e1
    obtain ⟨rfl, rfl⟩ := e1
    unfold cellV
    rw [hu]
    clear hx h1 hu e hs hv hr
    go_enter Tryz.func55, Tryz.ntmps55
    go_wp2_with fail
    have hb := (Below.refl W.heap.size W).alloc (Nat.le_refl _) (.cells #[.int .i64 a, .int .i64 p.1, .int .i64 p.2, .bool false, .bool (decide (x / 2 % 2 = 1)), .bool (decide (x / 4 % 2 = 1)), .int .i64 (nOf x), .int .i64 (x / 1024 % 4194304), .int .i64 (x / 4294967296)] 83)
    refine (has_any W.heap.size _ _ _ ys a _ hvn (HR.out.below hb) HS.out).mono ?_
    rintro e w1 ⟨rfl, q, rfl⟩
    have HB := Lib.hid (below_drawn' hb q)
    clear hb
    go_wp2
    go_ret
    exact FIN.out _ _ HB.out
end
theorem asks_whole (n₀ bf : Nat) (ys : List Int) (d : Hd_) (n : Nat) (hs : ys.Pairwise (· ≤ ·)) (hl : ys.length ≤ 4000000) (hb : n₀ ≤ bf) : Asks 55 #[.pointer (some ⟨bf, 0, none⟩)] n₀ d (askW d ys) (Cl.allS d.f n) (JW n₀ bf ys) := by
  intro M pre a W hpre hw hJ hz hfit
  have hn : n₀ ≤ W.heap.size := by obtain ⟨s, h⟩ := hJ; have := h.box.lt; omega
  exact wholeK_any n₀ bf ys d M pre _ a _ _ W rfl hJ hn hs hl
theorem whole_eq {s : Hs} {d : Hd_} {m : Nat} {F : Nat → Nat → List Int} (hm : mayH s d m F = true) : (Cl.allS d.f s.p.n).all (holdsAt d (askW d (Ls.srt (Ls.allOf (ahead d.F F) (1 + m))))) = wholeH s d m F := by
  rw [wholeH, hm, Bool.true_and]
  refine all_congr fun a ha => ?_
  have hw := word_used (List.all_eq_true.1 (mayH_all hm).2.1 a ha)
  unfold holdsAt askW
  rw [hw.1, Bool.true_and]
  have e1 : decide (a ∈ Ls.srt (Ls.allOf (ahead d.F F) (1 + m))) = decide (a ∈ Ls.allOf (ahead d.F F) (1 + m)) := by
    rw [decide_eq_decide]
    exact (List.mergeSort_perm _ _).mem_iff
  rw [e1]
  congr 1
  by_cases h1 : wd d a % 2 = 1
  · have : ¬ wd d a = 0 := fun h => by rw [h] at h1; exact absurd h1 (by decide)
    simp [h1, this]
  · simp [(hw.2 h1).2]
theorem own_less' {w : World} {b b' n : Nat} {v : Value} {xs : List Value} (h : w.ownsRow b 3 1 v n xs) (hb : b' ≤ b) : w.ownsRow b' 3 1 v n xs :=
  ⟨h.1, h.2.imp id fun ⟨g, cap, cur, e, hg, r⟩ => ⟨g, cap, cur, e, Nat.le_trans hb hg, r⟩⟩
section
variable (s : Hs) (d : Hd_) (A : Option Addr) (m c : Nat) (U : Nat → Nat → Ls.Sl) (F : Nat → Nat → List Int) (w : World)
set_option maxHeartbeats 1000000 in
theorem pwhole_core (R : Bool) (hp : Hp w w.heap.size s d) (hl : Ls.LRow w w.heap.size A m U F) (hm : m ≤ 1000) (hz : Cl.Sz w) (hf : Fine s d) (hlen : (Ls.allOf (ahead d.F F) (1 + m)).length ≤ 2000000) (hR : R = wholeH s d m F) :
    Calls Tryz.prog 16 #[(.agg #[.slice s.w.a s.w.n s.w.c, .slice s.p.a s.p.n s.p.c, .slice (s.u 0).a (s.u 0).n (s.u 0).c, .slice (s.u 1).a (s.u 1).n (s.u 1).c, .slice (s.u 2).a (s.u 2).n (s.u 2).c, .slice s.c.a s.c.n s.c.c]), .slice A m c] w fun e w' => e = .returned (.bool R) ∧ Below w.heap.size w w' := by
  have HP := Lib.hid hp
  have HF := Lib.hid hf
  have HL := Lib.hid hl
  have HZ := Lib.hid hz
  have HN := Lib.hid hlen
  have HR := Lib.hid hR
  have hz0 := hz.pos
  have hb0 := (Below.refl w.heap.size w).alloc (Nat.le_refl _) (.cells #[.slice s.w.a s.w.n s.w.c, .slice s.p.a s.p.n s.p.c, .slice (s.u 0).a (s.u 0).n (s.u 0).c, .slice (s.u 1).a (s.u 1).n (s.u 1).c, .slice (s.u 2).a (s.u 2).n (s.u 2).c, .slice s.c.a s.c.n s.c.c] 28)
  have HM := Lib.hid (pmay_any s d A m c U F _ (HP.out.next hb0) (lrow_more (HL.out.below hb0) hb0.size) hm (HZ.out.over hb0 hz0) HF.out.wn (by have := HF.out.pn; omega) HF.out.cn HN.out)
  cases hmm : mayH s d m F
  · have hR0 : R = false := by rw [hR, wholeH, hmm]; rfl
    rw [hmm] at HM
    subst hR0
    clear hp hf hl hz hlen hR HR hmm
    go_enter Tryz.func16, Tryz.ntmps16
    go_wp2_with fail
    refine HM.out.mono ?_
    rintro e w1 ⟨rfl, hb1⟩
    have HB := Lib.hid (hb0.trans (hb1.mono hb0.size))
    clear hb0 hb1
    go_wp2
    go_ret
    exact ⟨rfl, HB.out⟩
  rw [hmm] at HM
  have hRe := hR.trans (whole_eq hmm).symm
  have HRE := Lib.hid hRe
  have HMA := Lib.hid (mayH_all hmm)
  clear hp hf hl hz hlen hR HR hmm hRe
  go_enter Tryz.func16, Tryz.ntmps16
  go_wp2_with fail
  refine HM.out.mono ?_
  rintro e w1 ⟨rfl, hb1⟩
  have bx1 := (HBox.new w s 28).next hb1
  have B1 := Lib.hid (hb0.trans (hb1.mono hb0.size))
  have X1 := Lib.hid bx1
  have q0 := bx1.c0
  have q1 := bx1.c1
  have q2 := bx1.c2
  have q3 := bx1.c3
  have q4 := bx1.c4
  have q5 := bx1.c5
  have ql := bx1.lt
  clear hb0 hb1 bx1
  go_wp2_with fail
  refine (told_any s d w1 A m c U F ((HP.out.below B1.out).more B1.out.size) (lrow_more (HL.out.below B1.out) B1.out.size) hm).mono ?_
  rintro e w2 ⟨A2, c2, rfl, hl2, hb2⟩
  have L2 := Lib.hid hl2
  have B2 := Lib.hid (B1.out.trans (hb2.mono B1.out.size))
  have X2 := Lib.hid (X1.out.next hb2)
  clear hl2 hb2 q0 q1 q2 q3 q4 q5 ql
  go_wp2_with fail
  refine (Ls.all_any w2.heap.size A2 (1 + m) c2 _ _ w2 L2.out (Nat.le_refl _) (by omega) HN.out).mono ?_
  rintro e w3 ⟨v, rfl, ho, hb3⟩
  have O3 := Lib.hid ho
  have B3 := Lib.hid (B2.out.trans (hb3.mono B2.out.size))
  have X3 := Lib.hid (X2.out.next hb3)
  have hs3 := hb3.size
  have hs2 := X2.out.lt
  clear ho hb3
  go_wp2_with fail
  have bx4 := Boxed.new w3 22 (.slice v.a v.n v.c)
  have b4 := (Below.refl w3.heap.size w3).alloc (Nat.le_refl _) (.cells #[.slice v.a v.n v.c] 22)
  refine (sort_own _ w2.heap.size v _ (O3.out.alloc _) (by have := HN.out; omega)).mono ?_
  rintro e w5 ⟨rfl, ho5, hg5⟩
  have hne := bx4.not_row (by decide) (O3.out.alloc _)
  have bx5 := bx4.kept hg5 hne
  have hsz5 := hg5.size
  rw [World.size_alloc] at hsz5
  have hob : ∀ k, (Value.slice v.a v.n v.c).ownBlock = some k → w2.heap.size ≤ k := fun k hk => (O3.out.lt k hk).1
  have B5 := Lib.hid ((B3.out.alloc (by omega) (.cells #[.slice v.a v.n v.c] 22)).grown hg5 (by simp; omega) (fun k hk => by have := hob k hk; omega))
  have X5 := Lib.hid ((X3.out.next b4).same (hg5.block _ (by simp; omega) (fun e => by have := hob _ e.symm; omega)) hg5.size)
  have U5 : UGath w.heap.size w3.heap.size (Ls.srt (Ls.allOf (ahead d.F F) (1 + m))) (fun k => k = w.heap.size) w5 v :=
    ⟨bx5, by intro (h : w3.heap.size = w.heap.size); omega, by omega, own_less' ho5 (by omega), fun g hg (h : g = w.heap.size) => by have := hob g hg; omega⟩
  have HU := Lib.hid U5
  have q0 := X5.out.c0
  have q1 := X5.out.c1
  have q2 := X5.out.c2
  have q3 := X5.out.c3
  have q4 := X5.out.c4
  have q5 := X5.out.c5
  have ql := X5.out.lt
  clear bx4 b4 ho5 hg5 hne bx5 hob U5
  have HAS := Lib.hid (asks_whole w.heap.size w3.heap.size (Ls.srt (Ls.allOf (ahead d.F F) (1 + m))) d s.p.n (Ls.srt_le _) (by rw [Ls.srt_len]; have := HN.out; omega) (by omega))
  generalize Ls.srt (Ls.allOf (ahead d.F F) (1 + m)) = ys at HAS HU HRE ⊢
  have J0 := Lib.hid (show JW w.heap.size w3.heap.size ys (fun k => k = w.heap.size) [] w5 from ⟨v, HU.out⟩)
  go_wp2_with fail
  refine (every_any s d w5 w.heap.size (fun k => k = w.heap.size) _ _ (askW d ys) (JW w.heap.size w3.heap.size ys) (HP.out.below B5.out) B5.out.size hz0 (HZ.out.over B5.out hz0) HMA.out.1 (enters_of Tryz.func55 (by kernel_rfl) rfl) (bides_JW _ _ _)
    J0.out (by rintro k rfl; exact ql) HAS.out).mono ?_
  rw [← HRE.out]
  rintro e w6 ⟨rfl, hk6, _⟩
  have B6 := Lib.hid (B5.out.trans hk6.1)
  clear hk6 q0 q1 q2 q3 q4 q5 ql
  go_wp2
  go_ret
  exact ⟨rfl, B6.out⟩
theorem pwhole_any (hp : Hp w w.heap.size s d) (hl : Ls.LRow w w.heap.size A m U F) (hm : m ≤ 1000) (hz : Cl.Sz w) (hf : Fine s d) (hlen : (Ls.allOf (ahead d.F F) (1 + m)).length ≤ 2000000) :
    Calls Tryz.prog 16 #[(.agg #[.slice s.w.a s.w.n s.w.c, .slice s.p.a s.p.n s.p.c, .slice (s.u 0).a (s.u 0).n (s.u 0).c, .slice (s.u 1).a (s.u 1).n (s.u 1).c, .slice (s.u 2).a (s.u 2).n (s.u 2).c, .slice s.c.a s.c.n s.c.c]), .slice A m c] w fun e w' => e = .returned (.bool (wholeH s d m F)) ∧ Below w.heap.size w w' := pwhole_core s d A m c U F w _ hp hl hm hz hf hlen rfl
end
end Go.Proofs.YtcbnefjfoeanoaaGreatDoor
end
section
namespace Go.Proofs.YtcbnefjfoeanoaaGreatDoor
open Go.ChangeShapes Go.WideShapes Go.ChangeAt Go.RowKit Go.Deep
set_option maxRecDepth 100000

theorem cap_of {H : Type} {enc : TypeId × Value → H} {w : World} {base : Nat} {spare : Nat → Bool} {held : Bool} {a : Option Addr} {n c : Nat} {d : DataW H} {p : List MemPlace}
    (h : DataW.Trod enc Tryz.prog w base spare held 33 (.slice a n c) d p) : n ≤ c ∧ c ≤ maxLen := by
  obtain ⟨fuel, hf⟩ := h
  rcases open_slice Tryz.underlying33 hf with ⟨hcs, _⟩ | ⟨y, len, cap, m, k, D, Pl, hcs, _, hl, hm, hmm, hx, hi⟩
  · simp [Value.cells] at hcs
    obtain ⟨rfl, rfl, rfl⟩ := hcs
    exact ⟨Nat.le_refl _, Nat.zero_le _⟩
  · simp [Value.cells] at hcs
    obtain ⟨rfl, rfl, rfl⟩ := hcs
    exact ⟨hl, hm⟩
theorem lrow_less {w : World} {B n k : Nat} {A : Option Addr} {u : Nat → Nat → Ls.Sl} {f : Nat → Nat → List Int} (h : Ls.LRow w B A n u f) (hk : k ≤ n) : Ls.LRow w B A k u f := fun h0 => by
  obtain ⟨b, off, e, hlt, hc⟩ := h (by omega)
  exact ⟨b, off, e, hlt, fun i hi => hc i (by omega)⟩
theorem all_ahead (g : Nat → List Int) (F : Nat → Nat → List Int) (k : Nat) : Ls.allOf (ahead g F) (1 + (k + 1)) = Ls.allOf (ahead g F) (1 + k) ++ Ls.upTo (F k) 3 := by
  rw [show 1 + (k + 1) = 1 + k + 1 by omega, Ls.allOf_succ, show ahead g F (1 + k) = F k by rw [show 1 + k = k + 1 by omega]; rfl]
theorem mem_upTo3 {g : Nat → List Int} {x : Int} : x ∈ Ls.upTo g 3 ↔ ∃ j, j < 3 ∧ x ∈ g j := by
  unfold Ls.upTo
  rw [List.mem_flatMap]
  simp only [List.mem_range]
theorem mem_allOf {f : Nat → Nat → List Int} {n : Nat} {x : Int} : x ∈ Ls.allOf f n ↔ ∃ k j, k < n ∧ j < 3 ∧ x ∈ f k j := by
  unfold Ls.allOf
  rw [List.mem_flatMap]
  simp only [List.mem_range]
  constructor
  · rintro ⟨k, hk, h⟩
    obtain ⟨j, hj, h⟩ := mem_upTo3.1 h
    exact ⟨k, j, hk, hj, h⟩
  · rintro ⟨k, j, hk, hj, h⟩
    exact ⟨k, hk, mem_upTo3.2 ⟨j, hj, h⟩⟩
/-- What is told of as free is a cell that begins there, and has the word 0. -/
theorem free_is {d : Hd_} {n N : Nat} {F : Nat → Nat → List Int} (h : freeAll d n N F = true) {x : Int} (hx : x ∈ Ls.allOf F N) : x ∈ Cl.allS d.f n ∧ wd d x = 0 := by
  obtain ⟨k, j, hk, hj, hx⟩ := mem_allOf.1 hx
  have h1 := List.all_eq_true.1 h k (List.mem_range.2 hk)
  have h2 := List.all_eq_true.1 h1 j (List.mem_range.2 hj)
  have h3 := List.all_eq_true.1 h2 x hx
  unfold freeH at h3
  split at h3
  · cases h3
  · next hb =>
    have h4 := (Bool.and_eq_true _ _ ▸ h3 : _ ∧ _)
    exact ⟨mem_allS.2 hb, by simpa [wd] using h4.2⟩
theorem may_less {s : Hs} {d : Hd_} {k : Nat} {F : Nat → Nat → List Int} (h : mayH s d (k + 1) F = true) : mayH s d k F = true := by
  obtain ⟨h1, h2, h3, h4⟩ := mayH_all h
  have e3 : freeAll d s.p.n (1 + k) (ahead d.F F) = true := List.all_eq_true.2 fun i hi => List.all_eq_true.1 h3 i (List.mem_range.2 (by have := List.mem_range.1 hi; omega))
  have e4 : (Ls.allOf (ahead d.F F) (1 + k)).Nodup := by
    rw [all_ahead] at h4
    exact (List.nodup_append.1 h4).1
  simp [mayH, h1, h2, e3, e4]
/-- With one cache fewer a whole heap is whole just if that one was empty. -/
theorem whole_less {s : Hs} {d : Hd_} {k : Nat} {F : Nat → Nat → List Int} (h : wholeH s d (k + 1) F = true) : wholeH s d k F = decide ((F k 0).length = 0 ∧ (F k 1).length = 0 ∧ (F k 2).length = 0) := by
  unfold wholeH at h
  obtain ⟨hm, ha⟩ := (Bool.and_eq_true _ _ ▸ h : _ ∧ _)
  have hm2 := may_less hm
  obtain ⟨h1, h2, h3, h4⟩ := mayH_all hm
  unfold wholeH
  rw [hm2, Bool.true_and]
  rw [all_ahead] at ha h4
  by_cases he : (F k 0).length = 0 ∧ (F k 1).length = 0 ∧ (F k 2).length = 0
  · rw [decide_eq_true he]
    have e0 : Ls.upTo (F k) 3 = [] := List.eq_nil_of_length_eq_zero (by rw [upTo3]; omega)
    rw [e0, List.append_nil] at ha
    exact ha
  · rw [decide_eq_false he]
    have hne : Ls.upTo (F k) 3 ≠ [] := fun e => he (by have := upTo3 (F k); rw [e] at this; simp only [List.length_nil] at this; omega)
    obtain ⟨x, hx⟩ := List.exists_mem_of_ne_nil _ hne
    have hf := free_is h3 (x := x) (by rw [all_ahead]; exact List.mem_append_right _ hx)
    have hn : ¬ x ∈ Ls.allOf (ahead d.F F) (1 + k) := fun h5 => (List.nodup_append.1 h4).2.2 x h5 x hx rfl
    cases e : (Cl.allS d.f s.p.n).all fun a => !(wd d a == 0) || decide (a ∈ Ls.allOf (ahead d.F F) (1 + k))
    · rfl
    · have h6 := List.all_eq_true.1 e x hf.1
      rw [hf.2, decide_eq_false hn] at h6
      simp at h6
end Go.Proofs.YtcbnefjfoeanoaaGreatDoor
end
section
namespace Go.Proofs.YtcbnefjfoeanoaaGreatDoor
open Go.RowKit
set_option maxRecDepth 100000

theorem used_fits {d : Hd_} {n : Nat} {a : Int} (hb : ¬ Cl.bg d.f n a = 0) (hc : cellAt d a = true) (hu : wd d a % 2 = 1) : 1 ≤ nOf (wd d a) ∧ nOf (wd d a) < Cl.bg d.f n a := by
  have hp := (page_of (mem_allS.2 hb)).2.2
  have hw := (word_used hc).1
  have e : Cl.bg d.f n a = Cl.pg (pgAt d a) a := by
    unfold Cl.bg at hb ⊢
    split at hb
    · next h => rw [if_pos h]; rfl
    · exact absurd rfl hb
  rw [e] at hb ⊢
  clear e
  unfold cellAt cellB at hc
  rw [show d.ws.getD (a - 16).toNat 0 = wd d a from rfl, show d.f (a / 16 - 1).toNat = pgAt d a from rfl, if_pos ⟨hw, hu⟩] at hc
  generalize nOf (wd d a) = k at hc ⊢
  generalize pgAt d a = p at hc hp hb ⊢
  obtain ⟨p1, p2⟩ := p
  simp only at hc hp hb ⊢
  have h2 := (Bool.and_eq_true _ _ ▸ hc : _ ∧ _)
  have hk : 1 ≤ k ∧ k ≤ 63 := by
    have h3 : Cl.classErr k = 0 := by simpa using h2.1
    unfold Cl.classErr at h3
    split at h3
    · omega
    · split at h3 <;> omega
  have h4 := h2.2
  clear hc h2
  rcases hp with ⟨rfl, g0, g1⟩ | ⟨rfl, g0, g1⟩
  · rw [if_pos rfl] at h4
    have h5 : Cl.classOf k = p2 := by simpa using h4
    have e : Cl.pg (1, p2) a = Cl.wordsOf p2 := by
      unfold Cl.pg at hb ⊢
      simp only at hb ⊢
      split at hb
      · next h => omega
      · next h =>
        rw [if_neg h]
        split at hb
        · next h' => rw [if_pos h']
        · exact absurd rfl hb
    rw [e]
    refine ⟨hk.1, ?_⟩
    unfold Cl.classOf at h5
    split at h5
    · omega
    · split at h5
      · subst h5; simp [Cl.wordsOf]; omega
      · split at h5
        · subst h5; simp [Cl.wordsOf]; omega
        · split at h5
          · subst h5; simp [Cl.wordsOf]; omega
          · omega
  · rw [if_neg (by decide)] at h4
    have h5 := (Bool.and_eq_true _ _ ▸ h4 : _ ∧ _)
    have h6 : Cl.runErr k = 0 := by simpa using h5.1
    have h7 : Cl.runOf k = p2 := by simpa using h5.2
    have e : Cl.pg (2, p2) a = 16 * p2 := by
      unfold Cl.pg at hb ⊢
      simp only at hb ⊢
      split at hb
      · next h => rw [if_pos h]
      · split at hb
        · next h => omega
        · exact absurd rfl hb
    rw [e]
    refine ⟨hk.1, ?_⟩
    unfold Cl.runErr at h6
    unfold Cl.runOf at h7
    split at h7
    · split at h6
      · omega
      · split at h6
        · omega
        · split at h6 <;> omega
    · split at h7
      · omega
      · split at h7
        · omega
        · split at h7 <;> omega
/-- Head tells of an object just where one is used. -/
theorem used_head {s : Hs} {d : Hd_} (hm : mayB0 s d = true) (a : Int) :
    (a ∈ usedL s d ∧ headE s d a = 0 ∧ (∃ o e b m, headV s d a = .agg #[.bool true, .bool o, .bool e, .int .i64 (nOf (wd d a)), .int .i64 b, .int .i64 m]) ∧ 1 ≤ nOf (wd d a) ∧ nOf (wd d a) < Cl.bg d.f s.p.n a) ∨ (¬ a ∈ usedL s d ∧ headE s d a = 3) := by
  have hmem : a ∈ usedL s d ↔ (¬ Cl.bg d.f s.p.n a = 0 ∧ wd d a % 2 = 1) := by
    unfold usedL usedF
    rw [if_pos hm, List.mem_filter, mem_allS, decide_eq_true_iff]
  have hE : headE s d a = if Cl.bg d.f s.p.n a = 0 ∨ wd d a = 0 then 3 else 0 := by
    unfold headE
    rw [if_neg (by rw [hm]; decide)]
  by_cases hb : Cl.bg d.f s.p.n a = 0
  · exact Or.inr ⟨fun h => (hmem.1 h).1 hb, by rw [hE, if_pos (Or.inl hb)]⟩
  · have hc := List.all_eq_true.1 (mayH_all hm).2.1 a (mem_allS.2 hb)
    obtain ⟨hw, h0⟩ := word_used hc
    by_cases hu : wd d a % 2 = 1
    · have hE0 : headE s d a = 0 := by rw [hE, if_neg (by omega)]
      have e2 : headV s d a = .agg #[.bool true, .bool (decide (wd d a / 2 % 2 = 1)), .bool (decide (wd d a / 4 % 2 = 1)), .int .i64 (nOf (wd d a)), .int .i64 (wd d a / 1024 % 4194304), .int .i64 (wd d a / 4294967296)] := by
        unfold headV
        rw [if_pos hE0, headOf_yes hw, show decide (wd d a % 2 = 1) = true from decide_eq_true hu]
      exact Or.inl ⟨hmem.2 ⟨hb, hu⟩, hE0, ⟨_, _, _, _, e2⟩, used_fits hb hc hu⟩
    · exact Or.inr ⟨fun h => hu (hmem.1 h).2, by rw [hE, if_pos (Or.inr (h0 hu).2)]⟩
theorem used_rise (s : Hs) (d : Hd_) : (usedL s d).Pairwise (· < ·) := by
  unfold usedL usedF
  split
  · exact (allS_lt d.f s.p.n).sublist List.filter_sublist
  · exact List.Pairwise.nil
theorem used_in {s : Hs} {d : Hd_} {a : Int} (h : a ∈ usedL s d) : 16 ≤ a ∧ a < 16 + (s.w.n : Int) := by
  unfold usedL usedF at h
  split at h
  · next hm =>
    have hb := mem_allS.1 (List.mem_filter.1 h).1
    have := may0_word hm hb
    omega
  · simp at h
/-- A walk through rising numbers: n of them are behind. -/
structure Upon (xs : List Int) (k : Nat) (t : Int) : Prop where
  le : k ≤ xs.length
  lo : ∀ i, i < k → xs.getD i 0 < t
  hi : ∀ i, k ≤ i → i < xs.length → t ≤ xs.getD i 0
theorem Upon.no {xs : List Int} {k : Nat} {t : Int} (h : Upon xs k t) (hn : ¬ t ∈ xs) : Upon xs k (t + 1) := ⟨h.le, fun i hi => by have := h.lo i hi; omega, fun i h1 h2 => by
  have h3 := h.hi i h1 h2
  have h4 : ¬ xs.getD i 0 = t := fun e => hn (e ▸ getD_mem h2)
  omega⟩
theorem Upon.yes {xs : List Int} {k : Nat} {t : Int} (h : Upon xs k t) (hr : xs.Pairwise (· < ·)) (hn : t ∈ xs) : k < xs.length ∧ xs.getD k 0 = t ∧ Upon xs (k + 1) (t + 1) := by
  obtain ⟨i, hi, e⟩ := List.mem_iff_getElem.1 hn
  have e' : xs.getD i 0 = t := by simp [List.getD, hi, e]
  have hki : k ≤ i := Nat.le_of_not_lt fun hlt => by have := h.lo i hlt; omega
  have hk : k < xs.length := by omega
  have hrise : ∀ p q, p < q → q < xs.length → xs.getD p 0 < xs.getD q 0 := fun p q hpq hq => by
    have := List.pairwise_iff_getElem.1 hr p q (by omega) hq hpq
    simpa [List.getD, hq, show p < xs.length by omega] using this
  have hk2 := h.hi k (Nat.le_refl _) hk
  have hik : i = k := by
    by_cases e2 : i = k
    · exact e2
    · have := hrise k i (by omega) hi
      omega
  subst hik
  exact ⟨hi, e', hi, fun j hj => by
    by_cases e2 : j = i
    · subst e2; omega
    · have := h.lo j (by omega); omega, fun j h1 h2 => by
    have := hrise i j (by omega) h2
    omega⟩
theorem Upon.all {xs : List Int} {k : Nat} {t : Int} (h : Upon xs k t) (ht : ∀ x ∈ xs, x < t) : k = xs.length := by
  have := h.le
  by_cases e : k = xs.length
  · exact e
  · have h1 := h.hi k (Nat.le_refl _) (by omega)
    have h2 := ht _ (getD_mem (show k < xs.length by omega))
    omega
theorem obj_keep {w W W' : World} {s : Hs} {d : Hd_} {bx bb off n k : Nat} {x0 x1 x2 : Bool} {x3 x4 x5 t : Int} {us : List Int} (hk : k < n) (ht : us.getD k 0 = t) (h : HNow w W s d ∧ X6 W bx x0 x1 x2 x3 x4 x5 ∧ Row W W.heap.size (some ⟨bb, off, none⟩) n us) (hb : Below W.heap.size W W') :
    (HNow w W' s d ∧ X6 W' bx x0 x1 x2 x3 x4 x5 ∧ Row W' W'.heap.size (some ⟨bb, off, none⟩) n us) ∧ w.heap.size < W'.heap.size ∧ bx < W'.heap.size ∧ bb < W'.heap.size ∧ W'.cell? ⟨w.heap.size, 0, none⟩ = some (.slice s.w.a s.w.n s.w.c) ∧ W'.cell? ⟨w.heap.size, 1, none⟩ = some (.slice s.p.a s.p.n s.p.c) ∧ W'.cell? ⟨w.heap.size, 2, none⟩ = some (.slice (s.u 0).a (s.u 0).n (s.u 0).c) ∧ W'.cell? ⟨w.heap.size, 3, none⟩ = some (.slice (s.u 1).a (s.u 1).n (s.u 1).c) ∧ W'.cell? ⟨w.heap.size, 4, none⟩ = some (.slice (s.u 2).a (s.u 2).n (s.u 2).c) ∧ W'.cell? ⟨w.heap.size, 5, none⟩ = some (.slice s.c.a s.c.n s.c.c) ∧ W'.cell? ⟨bx, 0, none⟩ = some (.bool x0) ∧ W'.cell? ⟨bx, 1, none⟩ = some (.bool x1) ∧ W'.cell? ⟨bx, 2, none⟩ = some (.bool x2) ∧ W'.cell? ⟨bx, 3, none⟩ = some (.int .i64 x3) ∧ W'.cell? ⟨bx, 4, none⟩ = some (.int .i64 x4) ∧ W'.cell? ⟨bx, 5, none⟩ = some (.int .i64 x5) ∧ W'.cell? ⟨bb, off + k, none⟩ = some (.int .i64 t) := by
  have g := h.1.next hb
  have x := h.2.1.next hb
  have r := (h.2.2.below hb).more hb.size
  obtain ⟨b', off', e, hl, hc⟩ := r.2 (by omega)
  simp only [Option.some.injEq, Addr.mk.injEq, and_true] at e
  obtain ⟨rfl, rfl⟩ := e
  have hc' := hc k hk
  rw [ht] at hc'
  exact ⟨⟨g, x, r⟩, g.box.lt, x.lt, hl, g.box.c0, g.box.c1, g.box.c2, g.box.c3, g.box.c4, g.box.c5, x.c0, x.c1, x.c2, x.c3, x.c4, x.c5, hc'⟩
end Go.Proofs.YtcbnefjfoeanoaaGreatDoor
end
section
namespace Go.Proofs.YtcbnefjfoeanoaaGreatDoor
open Go.RowKit
set_option maxRecDepth 100000

theorem st_big {f : Nat → Int × Int} : ∀ {k : Nat}, 0 < Cl.st f k → ∃ a, a < k ∧ (f a).1 = 2 ∧ (a : Int) + (f a).2 = k + Cl.st f k
  | 0, h => absurd h (by show ¬ (0 : Int) < 0; omega)
  | k + 1, h => by
    unfold Cl.st at h ⊢
    split at h
    · next h2 =>
      rw [if_pos h2]
      exact ⟨k, Nat.lt_succ_self k, h2, by omega⟩
    · next h2 =>
      rw [if_neg h2]
      split at h
      · next h3 =>
        rw [if_pos h3]
        obtain ⟨a, h4, h5, h6⟩ := st_big h3
        exact ⟨a, by omega, h5, by omega⟩
      · next h3 => exact absurd h h3
/-- A word of a page that is not free lies in a cell. -/
theorem covered {f : Nat → Int × Int} {n k : Nat} {a : Int} (h : Cl.mayB f n = true) (hk : k < n) (h0 : 16 + 16 * (k : Int) ≤ a) (h1 : a < 32 + 16 * (k : Int)) (hne : ¬ (f k).1 = 0) : ∃ c, c ∈ Cl.allL f n ∧ Cl.pIn a c = true := by
  have hok := (Cl.okB_iff f k).1 (((Cl.mayB_iff f n).1 h).2.2.1 k hk)
  have one : ∀ (i j : Nat), i < n → j < Cl.numOf (f i) → (16 + (i : Int) * 16 + j * Cl.roomOf (f i) ≤ a ∧ a < 16 + (i : Int) * 16 + j * Cl.roomOf (f i) + Cl.roomOf (f i)) → ∃ c, c ∈ Cl.allL f n ∧ Cl.pIn a c = true := fun i j hi hj hc =>
    ⟨_, List.mem_of_getElem? (Cl.allL_get h hi hj), Cl.pIn_iff.2 hc⟩
  rcases (Cl.pmB_iff _).1 hok.1 with e | e | e | e
  · exact absurd e.1 hne
  · have hc : (f k) = (1, 0) ∨ (f k) = (1, 1) ∨ (f k) = (1, 2) := by
      have e1 := e.1
      generalize f k = p at e e1 ⊢
      obtain ⟨p1, p2⟩ := p
      simp only at e e1
      subst e1
      have : p2 = 0 ∨ p2 = 1 ∨ p2 = 2 := by omega
      rcases this with rfl | rfl | rfl <;> simp
    rcases hc with e' | e' | e'
    · refine one k ((a - 16 - 16 * k).toNat / 2) hk ?_ ?_ <;> rw [e'] <;> simp [Cl.numOf, Cl.roomOf, Cl.wordsOf] <;> omega
    · refine one k ((a - 16 - 16 * k).toNat / 4) hk ?_ ?_ <;> rw [e'] <;> simp [Cl.numOf, Cl.roomOf, Cl.wordsOf] <;> omega
    · refine one k ((a - 16 - 16 * k).toNat / 8) hk ?_ ?_ <;> rw [e'] <;> simp [Cl.numOf, Cl.roomOf, Cl.wordsOf] <;> omega
  · have hnum : Cl.numOf (f k) = 1 := by unfold Cl.numOf; rw [if_neg (by omega), if_pos e.1]
    have hroom : Cl.roomOf (f k) = (f k).2 * 16 := by unfold Cl.roomOf; rw [if_neg (by omega), if_pos e.1]
    refine one k 0 hk (by omega) ?_
    rw [hroom]
    omega
  · have hs := hok.2.1 e.1
    obtain ⟨i, h2, h3, h4⟩ := st_big hs
    have hnum : Cl.numOf (f i) = 1 := by unfold Cl.numOf; rw [if_neg (by omega), if_pos h3]
    have hroom : Cl.roomOf (f i) = (f i).2 * 16 := by unfold Cl.roomOf; rw [if_neg (by omega), if_pos h3]
    refine one i 0 (by omega) (by omega) ?_
    rw [hroom]
    omega
/-- One of a free page lies in none. -/
theorem not_covered {f : Nat → Int × Int} {n k : Nat} {a : Int} (h : Cl.mayB f n = true) (h0 : 16 + 16 * (k : Int) ≤ a) (h1 : a < 32 + 16 * (k : Int)) (hf : (f k).1 = 0) {c : Int × Int} (hc : c ∈ Cl.allL f n) : Cl.pIn a c = false := by
  cases e : Cl.pIn a c
  · rfl
  · obtain ⟨_, i, j, hi, hj, hp, rfl, h2, h3⟩ := Cl.cell_page hc
    obtain ⟨h4, h5⟩ := Cl.pIn_iff.1 e
    simp only at h4 h5
    have hkind := (Cl.num_kind hp).1 (by omega)
    have hik : i ≤ k := by omega
    rcases hkind with hk1 | hk2
    · have hw : (j : Int) * Cl.roomOf (f i) + Cl.roomOf (f i) ≤ 16 := by
        rcases Cl.pm_cases hp with e' | e' | e' | e' | e' | e' | e' | e' | e' <;> rw [e'] at hj hk1 ⊢ <;> simp [Cl.numOf, Cl.roomOf, Cl.wordsOf] at hj hk1 ⊢ <;> omega
      obtain rfl : i = k := by omega
      omega
    · have hnum : Cl.numOf (f i) = 1 := by unfold Cl.numOf; rw [if_neg (by omega), if_pos hk2]
      have hroom : Cl.roomOf (f i) = (f i).2 * 16 := by unfold Cl.roomOf; rw [if_neg (by omega), if_pos hk2]
      obtain rfl : j = 0 := by omega
      rw [hroom] at h5
      have hwd := Cl.wide_facts h hi (.inr hk2)
      have hwi : Cl.wide f i = (f i).2 := by unfold Cl.wide; rw [if_pos hk2]
      rw [hwi] at hwd
      by_cases hz : i = k
      · subst hz; omega
      · have h6 := (hwd.2.2.2.2 (k - i) (by omega)).2 (by omega)
        rw [show i + (k - i) = k by omega] at h6
        rw [h6] at hf
        exact absurd hf (by decide)
/-- Does a cell that begins at x hold the word at a? -/
def cov (f : Nat → Int × Int) (n : Nat) (a x : Int) : Bool := decide (x ≤ a) && decide (a < x + Cl.bg f n x)
theorem cov_cell {f : Nat → Int × Int} {n : Nat} {a : Int} {c : Int × Int} (hc : c ∈ Cl.allL f n) : cov f n a c.1 = Cl.pIn a c := by
  unfold cov Cl.pIn
  rw [Cl.bg_cell hc]
theorem cov_one {f : Nat → Int × Int} {n : Nat} {a x y : Int} (hx : x ∈ Cl.allS f n) (hy : y ∈ Cl.allS f n) (h1 : cov f n a x = true) (h2 : cov f n a y = true) : x = y := by
  obtain ⟨c, hc, rfl⟩ := List.mem_map.1 hx
  obtain ⟨e, he, rfl⟩ := List.mem_map.1 hy
  rw [cov_cell hc] at h1
  rw [cov_cell he] at h2
  rw [(Cl.allL_apart f n).one hc he h1 h2]
theorem count_yes {p : Int → Bool} : ∀ {xs : List Int}, xs.Nodup → (∀ x ∈ xs, ∀ y ∈ xs, p x = true → p y = true → x = y) → ∀ {x}, x ∈ xs → p x = true → xs.countP p = 1
  | [], _, _, _, hx, _ => by cases hx
  | y :: ys, hn, h1, x, hx, hp => by
    obtain ⟨hny, hn2⟩ := List.nodup_cons.1 hn
    by_cases hy : p y = true
    · rw [List.countP_cons_of_pos hy, List.countP_eq_zero.2 fun z hz hpz => hny (by rw [← h1 z (List.mem_cons_of_mem _ hz) y List.mem_cons_self hpz hy]; exact hz)]
    · rw [List.countP_cons_of_neg hy]
      refine count_yes hn2 (fun a ha b hb => h1 a (List.mem_cons_of_mem _ ha) b (List.mem_cons_of_mem _ hb)) (x := x) ?_ hp
      rcases List.mem_cons.1 hx with rfl | hx
      · exact absurd hp hy
      · exact hx
theorem count_next {p : Int → Bool} {xs : List Int} {q : Nat} (hq : q < xs.length) : (xs.take (q + 1)).countP p = (xs.take q).countP p + (if p (xs.getD q 0) = true then 1 else 0) := by
  rw [← prefix_next hq, List.countP_append]
  congr 1
  split
  · next h => rw [List.countP_cons_of_pos h]; rfl
  · next h => rw [List.countP_cons_of_neg h]; rfl
theorem ahead_first (g : Nat → List Int) (F : Nat → Nat → List Int) : ∀ m, ∃ t, Ls.allOf (ahead g F) (1 + m) = Ls.upTo g 3 ++ t
  | 0 => ⟨[], by simp [Ls.allOf, ahead]⟩
  | m + 1 => by
    obtain ⟨t, ht⟩ := ahead_first g F m
    exact ⟨t ++ Ls.upTo (F m) 3, by rw [all_ahead, ht, List.append_assoc]⟩
theorem may_none {s : Hs} {d : Hd_} {m : Nat} {F : Nat → Nat → List Int} (h : mayH s d m F = true) : mayB0 s d = true := by
  obtain ⟨h1, h2, h3, h4⟩ := mayH_all h
  have e3 : freeAll d s.p.n (1 + 0) (ahead d.F noCaches) = true := List.all_eq_true.2 fun i hi => by
    have hi0 : i = 0 := by have := List.mem_range.1 hi; omega
    subst hi0
    exact List.all_eq_true.1 h3 0 (List.mem_range.2 (by omega))
  have e4 : (Ls.allOf (ahead d.F noCaches) (1 + 0)).Nodup := by
    obtain ⟨t, ht⟩ := ahead_first d.F F m
    rw [ht] at h4
    rw [show Ls.allOf (ahead d.F noCaches) (1 + 0) = Ls.upTo d.F 3 by simp [Ls.allOf, ahead]]
    exact (List.nodup_append.1 h4).1
  unfold mayB0 mayH
  rw [h1, h2, e3, decide_eq_true e4]
  rfl
theorem used_mem {s : Hs} {d : Hd_} {x : Int} (h : x ∈ usedL s d) : x ∈ Cl.allS d.f s.p.n ∧ wd d x % 2 = 1 := by
  unfold usedL usedF at h
  split at h
  · obtain ⟨h1, h2⟩ := List.mem_filter.1 h
    exact ⟨h1, of_decide_eq_true h2⟩
  · cases h
theorem used_nodup (s : Hs) (d : Hd_) : (usedL s d).Nodup := (used_rise s d).imp fun h => by omega
/-- In what is whole each word lies in just one. -/
theorem words_one {s : Hs} {d : Hd_} {m : Nat} {F : Nat → Nat → List Int} (h : wholeH s d m F = true) {a : Int} {k : Nat} (_ : 16 ≤ a) (h1 : a < 16 + (s.w.n : Int)) (hk : a / 16 - 1 = k) :
    (usedL s d).countP (cov d.f s.p.n a) + (Ls.allOf (ahead d.F F) (1 + m)).countP (cov d.f s.p.n a) + (if Cl.freeB d.f k 1 = true then 1 else 0) = 1 := by
  unfold wholeH at h
  obtain ⟨hm, ha⟩ := (Bool.and_eq_true _ _ ▸ h : _ ∧ _)
  obtain ⟨hfb, hcell, hfree, hnd⟩ := mayH_all hm
  have hmay : Cl.mayB d.f s.p.n = true ∧ s.w.n = 16 * s.p.n := by
    unfold firstB at hfb
    simp only [Bool.and_eq_true, decide_eq_true_eq] at hfb
    exact ⟨hfb.2.1, hfb.2.2.1⟩
  have hkn : k < s.p.n := by have := hmay.2; omega
  have k0 : 16 + 16 * (k : Int) ≤ a := by omega
  have k1 : a < 32 + 16 * (k : Int) := by omega
  by_cases hf : (d.f k).1 = 0
  · have none : ∀ x ∈ Cl.allS d.f s.p.n, ¬ cov d.f s.p.n a x = true := fun x hx => by
      obtain ⟨c, hc, rfl⟩ := List.mem_map.1 hx
      rw [cov_cell hc, not_covered hmay.1 k0 k1 hf hc]
      decide
    rw [List.countP_eq_zero.2 fun x hx => none x (used_mem hx).1, List.countP_eq_zero.2 fun x hx => none x (free_is hfree hx).1, if_pos ((Cl.freeB_iff _ _ _).2 fun j hj => by rw [show k + j = k by omega]; exact hf)]
  · have hnf : ¬ Cl.freeB d.f k 1 = true := fun e => hf (by have := (Cl.freeB_iff _ _ _).1 e 0 (by omega); exact this)
    rw [if_neg hnf]
    obtain ⟨c, hc, hp⟩ := covered hmay.1 hkn k0 k1 hf
    have hx : c.1 ∈ Cl.allS d.f s.p.n := List.mem_map.2 ⟨c, hc, rfl⟩
    rw [← cov_cell hc] at hp
    generalize c.1 = x at hx hp
    have hw := word_used (List.all_eq_true.1 hcell x hx)
    by_cases hu : wd d x % 2 = 1
    · have hxu : x ∈ usedL s d := by
        unfold usedL usedF
        rw [if_pos (may_none hm)]
        exact List.mem_filter.2 ⟨hx, decide_eq_true hu⟩
      rw [count_yes (used_nodup s d) (fun y hy z hz => cov_one (used_mem hy).1 (used_mem hz).1) hxu hp, List.countP_eq_zero.2 fun y hy hpy => by
        have hyf := free_is hfree hy
        rw [cov_one hyf.1 hx hpy hp] at hyf
        omega]
    · have hz := (hw.2 hu).2
      have hin := List.all_eq_true.1 ha x hx
      rw [hz] at hin
      have hin2 : x ∈ Ls.allOf (ahead d.F F) (1 + m) := by simpa using hin
      rw [count_yes hnd (fun y hy z hz => cov_one (free_is hfree hy).1 (free_is hfree hz).1) hin2 hp, List.countP_eq_zero.2 fun y hy hpy => by
        have hyu := used_mem hy
        rw [cov_one hyu.1 hx hpy hp] at hyu
        omega]
end Go.Proofs.YtcbnefjfoeanoaaGreatDoor
end
section
namespace Go.Proofs.YtcbnefjfoeanoaaGreatDoor
open Go.RowKit
set_option maxRecDepth 100000

theorem info_page : (Tryz.prog.info? 81).map (fun i => (i.zero, i.size, i.bytes)) = some (some (.agg #[.int .i64 0, .int .i64 0]), 2, 16) := by kernel_rfl
theorem info_boolT : (Tryz.prog.info? 4).map (fun i => (i.zero, i.size, i.bytes)) = some (some (.bool false), 1, 1) := by kernel_rfl
def zPages (n : Nat) : Obj := .cells (madeCells #[.int .i64 0, .int .i64 0] (n * 2)) 81
def zBools (n : Nat) : Obj := .cells (madeCells #[.bool false] n) 4
theorem make_pages (n : Nat) (h : n ≤ 1000) (w : World) : (Instr.makeSlice 23 (.int .i64 (n : Int)) (.int .i64 (n : Int))).run Tryz.prog w = .ok (.slice (some ⟨w.heap.size, 0, none⟩) n n) (w.alloc (zPages n)) := by
  obtain ⟨i0, hi, hz0, hz1, hz2⟩ := info_parts info_page
  have := run_make (P := Tryz.prog) w 23 81 i0 _ Tryz.underlying23 hi hz0 .i64 .i64 n n (by omega) (Int.le_refl _) (by rw [hz2]; omega) (by omega)
  rw [hz1] at this
  unfold zPages
  simpa [Value.cells] using this
theorem make_bools (n : Nat) (h : n ≤ 1000) (w : World) : (Instr.makeSlice 26 (.int .i64 (n : Int)) (.int .i64 (n : Int))).run Tryz.prog w = .ok (.slice (some ⟨w.heap.size, 0, none⟩) n n) (w.alloc (zBools n)) := by
  obtain ⟨i0, hi, hz0, hz1, hz2⟩ := info_parts info_boolT
  have := run_make (P := Tryz.prog) w 26 4 i0 _ Tryz.underlying26 hi hz0 .i64 .i64 n n (by omega) (Int.le_refl _) (by rw [hz2]; omega) (by omega)
  rw [hz1] at this
  unfold zBools
  simpa [Value.cells] using this
/-- Pages that are free; cards that are clean. -/
theorem pages_made (w : World) (n : Nat) : Cl.PRow (w.alloc (zPages n)) (w.heap.size + 1) (some ⟨w.heap.size, 0, none⟩) n (fun _ => (0, 0)) := fun _ => ⟨w.heap.size, 0, rfl, by omega, fun i hi => by
  have h0 : i * 2 < n * 2 := by omega
  have h1 : i * 2 + 1 < n * 2 := by omega
  constructor
  · simp [zPages, World.cell?_alloc_at _ _ _ _ rfl, madeCells, h0]
  · simp [zPages, World.cell?_alloc_at _ _ _ _ rfl, madeCells, h1]⟩
theorem cards_made (w : World) (n : Nat) : BRow (w.alloc (zBools n)) (w.heap.size + 1) (some ⟨w.heap.size, 0, none⟩) n (fun _ => false) := fun _ => ⟨w.heap.size, 0, rfl, by omega, fun i hi => by
  simp [zBools, World.cell?_alloc_at _ _ _ _ rfl, madeCells, hi, Nat.mod_one]⟩
theorem pages_in (V : World) (o : Obj) (n s : Nat) (hs : V.heap.size = s) : Cl.PRow (((V.alloc (zPages n)).alloc o).drew) (((V.alloc (zPages n)).alloc o).drew).heap.size (some ⟨s, 0, none⟩) n (fun _ => (0, 0)) := by
  subst hs
  exact ((pages_made V n).below ((Below.refl _ _).alloc (by simp) o)).more (by simp [World.drew])
theorem pages_in' (V : World) (o : Obj) (n s : Nat) (hs : V.heap.size = s) : Cl.PRow (((V.alloc o).alloc (zPages n)).drew) (((V.alloc o).alloc (zPages n)).drew).heap.size (some ⟨s + 1, 0, none⟩) n (fun _ => (0, 0)) := by
  subst hs
  have h := pages_made (V.alloc o) n
  rw [World.size_alloc] at h
  exact h.more (by simp [World.drew])
theorem cards_in (V : World) (o : Obj) (n s : Nat) (hs : V.heap.size = s) : BRow (((V.alloc (zBools n)).alloc o).drew) (((V.alloc (zBools n)).alloc o).drew).heap.size (some ⟨s, 0, none⟩) n (fun _ => false) := by
  subst hs
  exact ((cards_made V n).below ((Below.refl _ _).alloc (by simp) o)).more (by simp [World.drew])
theorem cards_in' (V : World) (o : Obj) (n s : Nat) (hs : V.heap.size = s) : BRow (((V.alloc o).alloc (zBools n)).drew) (((V.alloc o).alloc (zBools n)).drew).heap.size (some ⟨s + 1, 0, none⟩) n (fun _ => false) := by
  subst hs
  have h := cards_made (V.alloc o) n
  rw [World.size_alloc] at h
  exact h.more (by simp [World.drew])
def noHs : Hs := ⟨⟨none, 0, 0⟩, ⟨none, 0, 0⟩, Ls.noSl, ⟨none, 0, 0⟩⟩
theorem new_bad (p : Int) (w : World) (h : p < 1 ∨ 64 < p) : Calls Tryz.prog 28 #[.int .i64 p] w fun e w' => e = .returned (.tuple #[(.agg #[.slice noHs.w.a noHs.w.n noHs.w.c, .slice noHs.p.a noHs.p.n noHs.p.c, .slice (noHs.u 0).a (noHs.u 0).n (noHs.u 0).c, .slice (noHs.u 1).a (noHs.u 1).n (noHs.u 1).c, .slice (noHs.u 2).a (noHs.u 2).n (noHs.u 2).c, .slice noHs.c.a noHs.c.n noHs.c.c]), .int .i64 1]) ∧ Below w.heap.size w w' := by
  have H := Lib.hid h
  clear h
  go_enter Tryz.func28, Tryz.ntmps28
  go_wp2_with fail
  refine (Ar.new_bad p _ H.out).mono ?_
  rintro e w1 ⟨rfl, rfl⟩
  go_wp2
  refine bodyPost_ret (v := .tuple #[(.agg #[.slice noHs.w.a noHs.w.n noHs.w.c, .slice noHs.p.a noHs.p.n noHs.p.c, .slice (noHs.u 0).a (noHs.u 0).n (noHs.u 0).c, .slice (noHs.u 1).a (noHs.u 1).n (noHs.u 1).c, .slice (noHs.u 2).a (noHs.u 2).n (noHs.u 2).c, .slice noHs.c.a noHs.c.n noHs.c.c]), .int .i64 1]) ?_ rfl ?_
  · simp [results, Tryz.results28, go_sem, noHs, Ls.noSl]
  · exact ⟨rfl, (Below.refl _ _).alloc (Nat.le_refl _) _⟩
def NewOut (w : World) (n : Nat) (e : Ending) (w' : World) : Prop :=
  ∃ (A C : Option Addr) (g cw : Nat), e = .returned (.tuple #[.agg #[.slice (some ⟨g, 0, none⟩) (16 * n) cw, .slice A n n, .slice none 0 0, .slice none 0 0, .slice none 0 0, .slice C (2 * n) (2 * n)], .int .i64 0]) ∧
    Row w' w'.heap.size (some ⟨g, 0, none⟩) (16 * n) (List.replicate (16 * n) 0) ∧ Cl.PRow w' w'.heap.size A n (fun _ => (0, 0)) ∧ BRow w' w'.heap.size C (2 * n) (fun _ => false) ∧ Below w.heap.size w w'
theorem put6_gen {W : World} {b : Nat} (h : ∀ j, j < 6 → ∃ v, W.cell? ⟨b, j, none⟩ = some v) (v0 v1 v2 v3 v4 v5 : Value) (o1 o2 : Obj) :
    (((put6 W b v0 v1 v2 v3 v4 v5).alloc o1).alloc o2).cell? ⟨b, 0, none⟩ = some v0 ∧ (((put6 W b v0 v1 v2 v3 v4 v5).alloc o1).alloc o2).cell? ⟨b, 1, none⟩ = some v1 ∧ (((put6 W b v0 v1 v2 v3 v4 v5).alloc o1).alloc o2).cell? ⟨b, 2, none⟩ = some v2 ∧
    (((put6 W b v0 v1 v2 v3 v4 v5).alloc o1).alloc o2).cell? ⟨b, 3, none⟩ = some v3 ∧ (((put6 W b v0 v1 v2 v3 v4 v5).alloc o1).alloc o2).cell? ⟨b, 4, none⟩ = some v4 ∧ (((put6 W b v0 v1 v2 v3 v4 v5).alloc o1).alloc o2).cell? ⟨b, 5, none⟩ = some v5 := by
  obtain ⟨_, h0⟩ := h 0 (by decide)
  obtain ⟨_, h1⟩ := h 1 (by decide)
  obtain ⟨_, h2⟩ := h 2 (by decide)
  obtain ⟨_, h3⟩ := h 3 (by decide)
  obtain ⟨_, h4⟩ := h 4 (by decide)
  obtain ⟨_, h5⟩ := h 5 (by decide)
  have hl : b < W.heap.size := World.block_lt_of_cell? W _ h0
  refine ⟨?_, ?_, ?_, ?_, ?_, ?_⟩ <;> (rw [World.cell?_alloc_past _ _ _ (by simp [put6_size]; omega), World.cell?_alloc_past _ _ _ (by rw [put6_size]; exact hl)]; simp [put6, go_sem, h0, h1, h2, h3, h4, h5])
theorem put6_other (w : World) (b : Nat) (v0 v1 v2 v3 v4 v5 : Value) {k : Nat} (h : ¬ k = b) : (put6 w b v0 v1 v2 v3 v4 v5).heap[k]? = w.heap[k]? :=
  (Below.heap_setCell _ _ _ _ h).trans ((Below.heap_setCell _ _ _ _ h).trans ((Below.heap_setCell _ _ _ _ h).trans ((Below.heap_setCell _ _ _ _ h).trans ((Below.heap_setCell _ _ _ _ h).trans (Below.heap_setCell _ _ _ _ h)))))
theorem new_end {w w1 W' : World} {o o1 o2 : Obj} {n m k g c : Nat} {A C : Option Addr} {v0 v1 v2 v3 v4 v5 : Value} (hm : 16 * n = m) (hk : 2 * n = k) (hmine : Mine w1 (w.alloc o).heap.size 3 g m c (List.replicate m 0)) (hb1 : Below (w.alloc o).heap.size (w.alloc o) w1)
    (hW : W' = (((put6 w1 w.heap.size v0 v1 v2 v3 v4 v5).alloc o1).alloc o2).drew) (hp : Cl.PRow W' W'.heap.size A n (fun _ => (0, 0))) (hc : BRow W' W'.heap.size C k (fun _ => false)) :
    NewOut w n (.returned (.tuple #[.agg #[.slice (some ⟨g, 0, none⟩) m c, .slice A n n, .slice none 0 0, .slice none 0 0, .slice none 0 0, .slice C k k], .int .i64 0])) W' := by
  subst hm hk
  have hg := hmine.2.1
  have hs1 := hb1.size
  rw [World.size_alloc] at hg hs1
  have hbel : Below w.heap.size w W' := by
    rw [hW]
    exact below_drawn' (((below_put6 (((Below.refl _ _).alloc (Nat.le_refl _) o).trans (hb1.mono (by simp))) (Nat.le_refl _) _ _ _ _ _ _).alloc (by rw [put6_size]; omega) _).alloc (by simp [put6_size]; omega) _) 1
  refine ⟨A, C, g, c, rfl, ?_, hp, hc, hbel⟩
  have hr := row_same (w' := W') hmine.row (fun _ x hx => by
    cases hx
    have hgl := hmine.2.2.1
    rw [hW]
    show ((((put6 w1 w.heap.size v0 v1 v2 v3 v4 v5).alloc o1).alloc o2)).heap[g]? = _
    rw [Below.heap_alloc _ _ _ (by simp [put6_size]; omega), Below.heap_alloc _ _ _ (by rw [put6_size]; exact hgl), put6_other _ _ _ _ _ _ _ _ (by omega)])
  refine hr.more ?_
  rw [hW]
  simp [World.drew, put6_size]
  omega
theorem new_ok (n : Nat) (w : World) (h0 : 1 ≤ n) (h1 : n ≤ 64) : Calls Tryz.prog 28 #[.int .i64 (n : Int)] w (NewOut w n) := by
  have hnew := fun W => Ar.new_ok (n : Int) W (by omega) (by omega)
  obtain ⟨m, hm⟩ : ∃ m, 16 * n = m := ⟨_, rfl⟩
  obtain ⟨k, hk⟩ : ∃ k, 2 * n = k := ⟨_, rfl⟩
  simp only [show ((n : Int) * 16).toNat = m by omega] at hnew
  have HNEW := Lib.hid hnew
  have mp := make_pages n (by omega)
  have mb := make_bools k (by omega)
  have d1 : (m : Int) / 8 = k := by omega
  have d2 : Int.tdiv (m : Int) 8 = k := by rw [Int.tdiv_eq_ediv_of_nonneg (by omega)]; exact d1
  have HM := Lib.hid hm
  have HK := Lib.hid hk
  have hm2 : m ≤ 100000 := by omega
  clear hnew hm hk
  go_enter Tryz.func28, Tryz.ntmps28
  go_wp2_with fail
  refine (HNEW.out _).mono ?_
  rintro e w1 ⟨g, c, rfl, hmine, hb1⟩
  have HMI := Lib.hid hmine
  have HB1 := Lib.hid hb1
  have hs1 := hb1.size
  simp only [World.size_alloc] at hs1
  have zc : ∀ j, j < 6 → w1.cell? ⟨w.heap.size, j, none⟩ = some (.slice none 0 0) := fun j hj => (hb1.cell (p := ⟨w.heap.size, j, none⟩) (by simp)).trans (by
    match j, hj with
    | 0, _ => simp [go_sem]
    | 1, _ => simp [go_sem]
    | 2, _ => simp [go_sem]
    | 3, _ => simp [go_sem]
    | 4, _ => simp [go_sem]
    | 5, _ => simp [go_sem])
  have zf : ∀ j, w1.frozen? ⟨w.heap.size, j, none⟩ = false := fun j => (hb1.frozen (p := ⟨w.heap.size, j, none⟩) (by simp)).trans (by simp [go_sem])
  have y0 := zc 0 (by decide)
  have y1 := zc 1 (by decide)
  have y2 := zc 2 (by decide)
  have y3 := zc 3 (by decide)
  have y4 := zc 4 (by decide)
  have y5 := zc 5 (by decide)
  have z0 := zf 0
  have z1 := zf 1
  have z2 := zf 2
  have z3 := zf 3
  have z4 := zf 4
  have z5 := zf 5
  have zl : w.heap.size < w1.heap.size := by omega
  have HC6 := Lib.hid (fun j hj => (⟨_, zc j hj⟩ : ∃ v, w1.cell? ⟨w.heap.size, j, none⟩ = some v))
  clear hmine hb1 zc zf
  go_wp2
  go_region
  all_goals go_wp2
  · refine bodyPost_ret (v := .tuple #[.agg #[.slice (some ⟨g, 0, none⟩) m c, .slice (some ⟨w1.heap.size, 0, none⟩) n n, .slice none 0 0, .slice none 0 0, .slice none 0 0, .slice (some ⟨w1.heap.size + 1, 0, none⟩) k k], .int .i64 0]) ?_ rfl ?_
    rotate_left
    · refine new_end HM.out HK.out HMI.out HB1.out rfl ?_ ?_
      · exact pages_in _ _ n _ (put6_size w1 w.heap.size _ _ _ _ _ _)
      · exact cards_in' _ _ k _ (put6_size w1 w.heap.size _ _ _ _ _ _)
    · obtain ⟨k0, k1, k2, k3, k4, k5⟩ := put6_gen (W := w1) (b := w.heap.size) HC6.out (.slice (some ⟨g, 0, none⟩) m c) (.slice (some ⟨w1.heap.size, 0, none⟩) n n) (.slice none 0 0) (.slice none 0 0) (.slice none 0 0) (.slice (some ⟨w1.heap.size + 1, 0, none⟩) k k) (zPages n) (zBools k)
      unfold put6 at k0 k1 k2 k3 k4 k5
      clear y0 y1 y2 y3 y4 y5
      simp [results, Tryz.results28, go_sem, k0, k1, k2, k3, k4, k5]
  · refine bodyPost_ret (v := .tuple #[.agg #[.slice (some ⟨g, 0, none⟩) m c, .slice (some ⟨w1.heap.size + 1, 0, none⟩) n n, .slice none 0 0, .slice none 0 0, .slice none 0 0, .slice (some ⟨w1.heap.size, 0, none⟩) k k], .int .i64 0]) ?_ rfl ?_
    rotate_left
    · refine new_end HM.out HK.out HMI.out HB1.out rfl ?_ ?_
      · exact pages_in' _ _ n _ (put6_size w1 w.heap.size _ _ _ _ _ _)
      · exact cards_in _ _ k _ (put6_size w1 w.heap.size _ _ _ _ _ _)
    · obtain ⟨k0, k1, k2, k3, k4, k5⟩ := put6_gen (W := w1) (b := w.heap.size) HC6.out (.slice (some ⟨g, 0, none⟩) m c) (.slice (some ⟨w1.heap.size + 1, 0, none⟩) n n) (.slice none 0 0) (.slice none 0 0) (.slice none 0 0) (.slice (some ⟨w1.heap.size, 0, none⟩) k k) (zBools k) (zPages n)
      unfold put6 at k0 k1 k2 k3 k4 k5
      clear y0 y1 y2 y3 y4 y5
      simp [results, Tryz.results28, go_sem, k0, k1, k2, k3, k4, k5]
end Go.Proofs.YtcbnefjfoeanoaaGreatDoor
end
section
namespace Go.Proofs.YtcbnefjfoeanoaaGreatDoor.Cl
open Go.Proofs.YtcbnefjfoeanoaaGreatDoor
set_option maxRecDepth 100000
open Go.RowKit

def findO (f : Nat → Int × Int) (n : Nat) (m : Int) : Option Nat := if mayB f n && runB m then (List.range (n + 1 - m.toNat)).find? (fun k => freeB f k m.toNat) else none
def findV (f : Nat → Int × Int) (n : Nat) (m : Int) : Int := match findO f n m with | some k => k | none => 0
def findS (f : Nat → Int × Int) (n : Nat) (m : Int) : Bool := (findO f n m).isSome
theorem findO_some {f : Nat → Int × Int} {n : Nat} {m : Int} {k : Nat} : findO f n m = some k ↔ mayB f n = true ∧ runB m = true ∧ k + m.toNat ≤ n ∧ freeB f k m.toNat = true ∧ ∀ j, j < k → freeB f j m.toNat = false := by
  unfold findO
  by_cases h : mayB f n = true ∧ runB m = true
  · have hm := (runB_iff m).1 h.2
    rw [if_pos (by simp [h.1, h.2]), List.find?_range_eq_some]
    simp only [h.1, h.2, true_and, List.mem_range, Bool.not_eq_true', and_left_comm]
    constructor
    · rintro ⟨a, b, c⟩; exact ⟨by omega, by simpa using b, c⟩
    · rintro ⟨a, b, c⟩; exact ⟨by omega, by simpa using b, c⟩
  · rw [if_neg (by simpa using h)]
    constructor
    · intro h'; cases h'
    · rintro ⟨a, b, _⟩; exact absurd ⟨a, b⟩ h
theorem findO_none {f : Nat → Int × Int} {n : Nat} {m : Int} (h : ∀ k, k + m.toNat ≤ n → freeB f k m.toNat = false) : findO f n m = none := by
  cases e : findO f n m with
  | none => rfl
  | some k =>
    have := findO_some.1 e
    rw [h k this.2.2.1] at this
    exact absurd this.2.2.2.1 (by decide)
theorem findO_bad {f : Nat → Int × Int} {n : Nat} {m : Int} (h : mayB f n = false ∨ runB m = false) : findO f n m = none := by
  cases e : findO f n m with
  | none => rfl
  | some k =>
    have := findO_some.1 e
    rcases h with h | h <;> rw [h] at this <;> simp at this
theorem found {f : Nat → Int × Int} {n : Nat} {m : Int} {k : Nat} (h : findO f n m = some k) :
    Ending.returned (.tuple #[.int .i64 k, .bool true]) = .returned (.tuple #[.int .i64 (findV f n m), .bool (findS f n m)]) := by
  unfold findV findS; rw [h]; rfl
theorem nowhere {f : Nat → Int × Int} {n : Nat} {m : Int} (h : findO f n m = none) :
    Ending.returned (.tuple #[.int .i64 0, .bool false]) = .returned (.tuple #[.int .i64 (findV f n m), .bool (findS f n m)]) := by
  unfold findV findS; rw [h]; rfl

/-- None of the places before j serves. -/
def Passed (f : Nat → Int × Int) (m : Nat) (j : Nat) : Prop := ∀ i, i < j → freeB f i m = false
theorem Passed.zero (f : Nat → Int × Int) (m : Nat) : Passed f m 0 := fun i h => absurd h (by omega)
theorem Passed.next {f : Nat → Int × Int} {m j : Nat} (h : Passed f m j) (hj : freeB f j m = false) : Passed f m (j + 1) := fun i hi => by
  by_cases e : i = j
  · rw [e]; exact hj
  · exact h i (by omega)
/-- The first t pages from j on are free. -/
def Open (f : Nat → Int × Int) (j t : Nat) : Prop := ∀ i, i < t → (f (j + i)).1 = 0
theorem Open.zero (f : Nat → Int × Int) (j : Nat) : Open f j 0 := fun i h => absurd h (by omega)
theorem Open.next {f : Nat → Int × Int} {j t : Nat} (h : Open f j t) (ht : (f (j + t)).1 = 0) : Open f j (t + 1) := fun i hi => by
  by_cases e : i = t
  · rw [e]; exact ht
  · exact h i (by omega)

set_option maxHeartbeats 2000000 in
theorem find_core (B : Nat) (A : Option Addr) (n c : Nat) (f : Nat → Int × Int) (m : Nat) (w : World) (hM : mayB f n = true) (hm1 : 1 ≤ m) (hm4 : m ≤ 4) (hnc : n ≤ c) (hr : PRow w B A n f) (hB : B ≤ w.heap.size) :
    Calls Tryz.prog 118 #[.slice A n c, .int .i64 m] w fun e w' => e = .returned (.tuple #[.int .i64 (findV f n m), .bool (findS f n m)]) ∧ Below w.heap.size w w' := by
  obtain ⟨n1, n64, -, -⟩ := (mayB_iff f n).1 hM
  have HM := Lib.hid hM
  have HR := Lib.hid hr
  have hrun : runB (m : Int) = true := (runB_iff _).2 (by omega)
  have HRun := Lib.hid hrun
  clear hM hr
  go_enter Tryz.func118, Tryz.ntmps118
  go_wp2
  go_step3
  go_wp2_with fail
  refine (may_yes B _ _ _ _ _ HM.out HR.out hB).mono ?_
  rintro e w1 ⟨rfl, hb1⟩
  have HB1 := Lib.hid hb1
  clear hb1
  go_wp2_with fail
  refine (isRun_any _ _).mono ?_
  rintro e w2 ⟨rfl, rfl⟩
  go_wp2
  go_step3
  go_wp2
  clear hrun
  go_loopg [22] (n + 1) (fun g i wr => ∃ j : Nat, j + g = n + 1 ∧ i = .int .i64 j ∧ Passed f m j ∧ Below w.heap.size w wr)
  case atStart => exact ⟨0, by omega, rfl, Passed.zero f m, HB1.out⟩
  case round =>
    obtain ⟨j, hj, rfl, hp, hb⟩ := hrel
    have HP := Lib.hid hp
    have HB := Lib.hid hb
    have hz := hb.size
    have HJ := Lib.hid hj
    have hj1 : j ≤ n + 1 := by omega
    clear hp hb hj
    obtain ⟨wo, rfl⟩ : ∃ wo : World, wo = wr := ⟨_, rfl⟩
    obtain ⟨go, rfl⟩ : ∃ go : Nat, go = gk := ⟨_, rfl⟩
    by_cases hlt : (j : Int) < n - m + 1
    · obtain ⟨b, off, rfl, hbB, -⟩ := (HR.out.over HB.out hB) (by omega)
      have HPart := Lib.hid (HR.out.part (k := j) (m := m) (by omega))
      have hd : decide ((j : Int) < n - m + 1) = true := by simpa using hlt
      go_wp2
      rw [show j + m - j = m by omega]
      go_loopg [32] m (fun g i wi => ∃ t : Nat, t + g = m ∧ i = .int .i64 t ∧ Open f j t ∧ Below w.heap.size w wi)
      case atStart => exact ⟨0, by omega, rfl, Open.zero f j, HB.out⟩
      case round =>
        obtain ⟨t, ht, rfl, ho, hb2⟩ := hrel
        have HO := Lib.hid ho
        have HB2 := Lib.hid hb2
        have hz2 := hb2.size
        have HG := Lib.hid ht
        have ht1 : t ≤ m := by omega
        clear ho ht
        by_cases htm : t < m
        · obtain ⟨b', off', ea, hb', hc'⟩ := ((HR.out.over hb2 hB).part (k := j) (m := m) (by omega)) (by omega)
          simp at ea
          obtain ⟨rfl, rfl⟩ := ea
          obtain ⟨p0, p1⟩ := hc' t htm
          clear hc' hb2
          by_cases hf : (f (j + t)).1 = 0
          · have HO2 := Lib.hid (HO.out.next hf)
            have e0 : ((f (j + t)).1 != 0) = false := by simpa using hf
            clear hf
            go_wp2
            go_roundg (gk - 1)
            case rel => exact ⟨t + 1, by have := HG.out; omega, by go_num, HO2.out, HB2.out.alloc hz2 _⟩
            case measure => have := HG.out; omega
          · have HP2 := Lib.hid (HP.out.next (freeB_not htm hf))
            have e0 : ((f (j + t)).1 != 0) = true := by simpa using hf
            clear hf
            go_wp2
            go_roundg (go - 1)
            case rel => exact ⟨j + 1, by have := HJ.out; omega, by go_num, HP2.out, HB2.out.alloc hz2 _⟩
            case measure => have := HJ.out; omega
        · obtain rfl : t = m := by omega
          have HF := Lib.hid (findO_some.2 ⟨HM.out, HRun.out, by simp; omega, by simpa using (freeB_iff f j t).2 HO.out, fun i hi => by rw [Int.toNat_natCast]; exact HP.out i hi⟩ : findO f n t = some j)
          clear hb2
          go_wp2
          try rw [Exit.noGoto_ret]
          go_ret2
          exact ⟨found HF.out, HB2.out⟩
    · have hd : decide ((j : Int) < n - m + 1) = false := by simpa using hlt
      have HN := Lib.hid (findO_none (f := f) (n := n) (m := m) (fun i hi => by have := HP.out i (by simp at hi; omega); simpa using this))
      go_wp2
      try rw [Exit.noGoto_ret]
      go_ret2
      exact ⟨nowhere HN.out, HB.out⟩
end Go.Proofs.YtcbnefjfoeanoaaGreatDoor.Cl
end
section
namespace Go.Proofs.YtcbnefjfoeanoaaGreatDoor.Cl
open Go.Proofs.YtcbnefjfoeanoaaGreatDoor
set_option maxRecDepth 100000
open Go.RowKit

theorem isRun_no (c : Int) (w : World) (h : runB c = false) :
    Calls Tryz.prog 143 #[.int .i64 c] w fun e w' => e = .returned (.bool false) ∧ w = w' := by
  rw [← h]; exact isRun_any c w
theorem isRun_yes (c : Int) (w : World) (h : runB c = true) :
    Calls Tryz.prog 143 #[.int .i64 c] w fun e w' => e = .returned (.bool true) ∧ w = w' := by
  rw [← h]; exact isRun_any c w
theorem isClass_no (c : Int) (w : World) (h : clB c = false) :
    Calls Tryz.prog 155 #[.int .i64 c] w fun e w' => e = .returned (.bool false) ∧ w = w' := by
  rw [← h]; exact isClass_any c w
theorem isClass_yes (c : Int) (w : World) (h : clB c = true) :
    Calls Tryz.prog 155 #[.int .i64 c] w fun e w' => e = .returned (.bool true) ∧ w = w' := by
  rw [← h]; exact isClass_any c w

theorem pfind_any (B : Nat) (A : Option Addr) (n c : Nat) (f : Nat → Int × Int) (m : Int) (w : World) (hn : n ≤ 1000) (hnc : n ≤ c) (hr : PRow w B A n f) (hB : B ≤ w.heap.size) :
    Calls Tryz.prog 118 #[.slice A n c, .int .i64 m] w fun e w' => e = .returned (.tuple #[.int .i64 (findV f n m), .bool (findS f n m)]) ∧ Below w.heap.size w w' := by
  cases hM : mayB f n
  · have HN := Lib.hid (findO_bad (f := f) (n := n) (m := m) (.inl hM))
    have HM := Lib.hid hM
    have HR := Lib.hid hr
    clear hM hr
    go_enter Tryz.func118, Tryz.ntmps118
    go_wp2
    go_step3
    go_wp2_with fail
    refine (may_no B _ _ _ _ _ HM.out hn HR.out hB).mono ?_
    rintro e w1 ⟨rfl, hb1⟩
    go_wp2
    try rw [Exit.noGoto_ret]
    go_ret2
    exact ⟨nowhere HN.out, hb1⟩
  cases hrun : runB m
  · have HN := Lib.hid (findO_bad (f := f) (n := n) (m := m) (.inr hrun))
    have HM := Lib.hid hM
    have HR := Lib.hid hr
    have HRun := Lib.hid hrun
    clear hM hr hrun
    go_enter Tryz.func118, Tryz.ntmps118
    go_wp2
    go_step3
    go_wp2_with fail
    refine (may_yes B _ _ _ _ _ HM.out HR.out hB).mono ?_
    rintro e w1 ⟨rfl, hb1⟩
    go_wp2_with fail
    refine (isRun_no _ _ HRun.out).mono ?_
    rintro e w2 ⟨rfl, rfl⟩
    go_wp2
    try rw [Exit.noGoto_ret]
    go_ret2
    exact ⟨nowhere HN.out, hb1⟩
  · have hm := (runB_iff m).1 hrun
    obtain ⟨k, rfl⟩ : ∃ k : Nat, m = k := ⟨m.toNat, by omega⟩
    exact find_core B A n c f k w hM (by omega) (by omega) hnc hr hB

set_option maxHeartbeats 400000 in
theorem rfree_any (B : Nat) (A : Option Addr) (n c : Nat) (f : Nat → Int × Int) (a m : Nat) (w : World) (hn : n ≤ 1000) (ham : a + m ≤ n) (hr : PRow w B A n f) :
    Calls Tryz.prog 93 #[.slice A n c, .int .i64 a, .int .i64 m] w fun e w' => e = .returned (.bool (freeB f a m)) ∧ w = w' := by
  have HR := Lib.hid hr
  clear hr
  go_enter Tryz.func93, Tryz.ntmps93
  go_wp2
  go_loop [7] (fun i => ∃ q : Nat, a ≤ q ∧ q ≤ a + m ∧ i = .int .i64 q ∧ Open f a (q - a)) (fun i => a + m - (intOf i).toNat)
  case atStart => exact ⟨a, by omega, by omega, rfl, by rw [Nat.sub_self]; exact Open.zero f a⟩
  case round =>
    obtain ⟨q, hq1, hq2, rfl, ho⟩ := hrel
    have HO := Lib.hid ho
    clear ho
    by_cases hlt : q < a + m
    · obtain ⟨b, off, rfl, _, hc⟩ := HR.out (by omega)
      obtain ⟨c0, c1⟩ := hc q (by omega)
      have hd : decide ((q : Int) < a + m) = true := by simp; omega
      clear hc
      by_cases hf : (f q).1 = 0
      · have HO2 := Lib.hid (HO.out.next (by rw [show a + (q - a) = q by omega]; exact hf))
        have e0 : ((f q).1 != 0) = false := by simpa using hf
        clear hf
        go_wp2
        go_round
        case rel => exact ⟨q + 1, by omega, by omega, by go_num, by rw [show q + 1 - a = q - a + 1 by omega]; exact HO2.out⟩
        case measure => simp [intOf]; omega
      · have HF := Lib.hid (freeB_not (f := f) (a := a) (n := m) (j := q - a) (by omega) (by rw [show a + (q - a) = q by omega]; exact hf))
        have e0 : ((f q).1 != 0) = true := by simpa using hf
        clear hf
        go_wp2
        go_ret
        exact ⟨rint HF.out.symm, rfl⟩
    · have hd : decide ((q : Int) < a + m) = false := by simp; omega
      have HF := Lib.hid ((freeB_iff f a m).2 (by have := HO.out; rwa [show q - a = m by omega] at this))
      go_wp2
      go_ret
      exact ⟨rint HF.out.symm, rfl⟩
theorem rfree_yes (B : Nat) (A : Option Addr) (n c : Nat) (f : Nat → Int × Int) (a m : Nat) (w : World) (h : freeB f a m = true) (hn : n ≤ 1000) (ham : a + m ≤ n) (hr : PRow w B A n f) :
    Calls Tryz.prog 93 #[.slice A n c, .int .i64 a, .int .i64 m] w fun e w' => e = .returned (.bool true) ∧ w = w' := by
  rw [← h]; exact rfree_any B A n c f a m w hn ham hr
theorem rfree_no (B : Nat) (A : Option Addr) (n c : Nat) (f : Nat → Int × Int) (a m : Nat) (w : World) (h : freeB f a m = false) (hn : n ≤ 1000) (ham : a + m ≤ n) (hr : PRow w B A n f) :
    Calls Tryz.prog 93 #[.slice A n c, .int .i64 a, .int .i64 m] w fun e w' => e = .returned (.bool false) ∧ w = w' := by
  rw [← h]; exact rfree_any B A n c f a m w hn ham hr

set_option maxHeartbeats 1000000 in
theorem rfind_core (B : Nat) (A : Option Addr) (n c : Nat) (f : Nat → Int × Int) (m : Nat) (w : World) (hM : mayB f n = true) (hm1 : 1 ≤ m) (hm4 : m ≤ 4) (hr : PRow w B A n f) (hB : B ≤ w.heap.size) :
    Calls Tryz.prog 43 #[.slice A n c, .int .i64 m] w fun e w' => e = .returned (.tuple #[.int .i64 (findV f n m), .bool (findS f n m)]) ∧ Below w.heap.size w w' := by
  obtain ⟨n1, n64, -, -⟩ := (mayB_iff f n).1 hM
  have HM := Lib.hid hM
  have HR := Lib.hid hr
  have HRun := Lib.hid ((runB_iff (m : Int)).2 (by omega))
  clear hM hr
  go_enter Tryz.func43, Tryz.ntmps43
  go_wp2_with fail
  refine (rmay_yes B _ _ _ _ _ HM.out HR.out hB).mono ?_
  rintro e w1 ⟨rfl, hb1⟩
  have HR1 := Lib.hid (HR.out.over hb1 hB)
  have HB1 := Lib.hid hb1
  clear hb1
  have d1 : decide ((m : Int) < 1) = false := by simp; omega
  have d2 : decide (4 < (m : Int)) = false := by simp; omega
  go_wp2
  go_loop [7] (fun i => ∃ j : Nat, j ≤ n ∧ i = .int .i64 j ∧ Passed f m j) (fun i => n + 1 - (intOf i).toNat)
  case atStart => exact ⟨0, by omega, rfl, Passed.zero f m⟩
  case round =>
    obtain ⟨j, hj, rfl, hp⟩ := hrel
    have HP := Lib.hid hp
    clear hp
    by_cases hlt : j + m ≤ n
    · have hd : decide ((j : Int) + m ≤ n) = true := by simp; omega
      cases hf : freeB f j m
      · have HF := Lib.hid hf
        clear hf
        go_wp2_with fail
        refine (rfree_no B _ _ _ _ _ _ _ HF.out (by omega) hlt HR1.out).mono ?_
        rintro e w2 ⟨rfl, rfl⟩
        go_wp2
        go_round
        case rel => exact ⟨j + 1, by omega, by go_num, HP.out.next HF.out⟩
        case measure => simp [intOf]; omega
      · have HF := Lib.hid hf
        have HO := Lib.hid (findO_some.2 ⟨HM.out, HRun.out, by simp; omega, by simpa using hf, fun i hi => by rw [Int.toNat_natCast]; exact HP.out i hi⟩ : findO f n m = some j)
        clear hf
        go_wp2_with fail
        refine (rfree_yes B _ _ _ _ _ _ _ HF.out (by omega) hlt HR1.out).mono ?_
        rintro e w2 ⟨rfl, rfl⟩
        go_wp2
        go_ret2
        exact ⟨found HO.out, HB1.out⟩
    · have hd : decide ((j : Int) + m ≤ n) = false := by simp; omega
      have HN := Lib.hid (findO_none (f := f) (n := n) (m := m) (fun i hi => by have := HP.out i (by simp at hi; omega); simpa using this))
      go_wp2
      go_ret2
      exact ⟨nowhere HN.out, HB1.out⟩

theorem rfind_any (B : Nat) (A : Option Addr) (n c : Nat) (f : Nat → Int × Int) (m : Int) (w : World) (hn : n ≤ 1000) (hr : PRow w B A n f) (hB : B ≤ w.heap.size) :
    Calls Tryz.prog 43 #[.slice A n c, .int .i64 m] w fun e w' => e = .returned (.tuple #[.int .i64 (findV f n m), .bool (findS f n m)]) ∧ Below w.heap.size w w' := by
  cases hM : mayB f n
  · have HN := Lib.hid (findO_bad (f := f) (n := n) (m := m) (.inl hM))
    have HM := Lib.hid hM
    have HR := Lib.hid hr
    clear hM hr
    go_enter Tryz.func43, Tryz.ntmps43
    go_wp2_with fail
    refine (rmay_no B _ _ _ _ _ HM.out hn HR.out hB).mono ?_
    rintro e w1 ⟨rfl, hb1⟩
    go_wp2
    go_ret2
    exact ⟨nowhere HN.out, hb1⟩
  cases hrun : runB m
  · have HN := Lib.hid (findO_bad (f := f) (n := n) (m := m) (.inr hrun))
    have HM := Lib.hid hM
    have HR := Lib.hid hr
    by_cases h1 : m < 1
    · have d1 : decide (m < 1) = true := by simpa using h1
      clear hM hr hrun
      go_enter Tryz.func43, Tryz.ntmps43
      go_wp2_with fail
      refine (rmay_yes B _ _ _ _ _ HM.out HR.out hB).mono ?_
      rintro e w1 ⟨rfl, hb1⟩
      go_wp2
      go_ret2
      exact ⟨nowhere HN.out, hb1⟩
    · have d1 : decide (m < 1) = false := by simpa using h1
      have d2 : decide (4 < m) = true := by
        by_cases h : 4 < m
        · simpa using h
        · exact absurd ((runB_iff m).2 (by omega)) (by rw [hrun]; decide)
      clear hM hr hrun
      go_enter Tryz.func43, Tryz.ntmps43
      go_wp2_with fail
      refine (rmay_yes B _ _ _ _ _ HM.out HR.out hB).mono ?_
      rintro e w1 ⟨rfl, hb1⟩
      go_wp2
      go_ret2
      exact ⟨nowhere HN.out, hb1⟩
  · have hm := (runB_iff m).1 hrun
    obtain ⟨k, rfl⟩ : ∃ k : Nat, m = k := ⟨m.toNat, by omega⟩
    exact rfind_core B A n c f k w hM (by omega) (by omega) hr hB
end Go.Proofs.YtcbnefjfoeanoaaGreatDoor.Cl
end
