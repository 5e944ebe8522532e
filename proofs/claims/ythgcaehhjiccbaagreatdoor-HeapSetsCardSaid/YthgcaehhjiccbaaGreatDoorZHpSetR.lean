/-
  The reference's Set, where a head is set.
-/
import Derived.Test.YthgcaehhjiccbaaGreatDoorHpZM
namespace Go.Proofs.YthgcaehhjiccbaaGreatDoor
open Go.RowKit
set_option maxRecDepth 100000

theorem mine_next {w w' : World} {base e g n c : Nat} {xs : List Int} (h : Mine w base e g n c xs) (hb : Below w.heap.size w w') : Mine w' base e g n c xs :=
  ⟨Ls.World.ownsRow.same h.1 fun k _ hk => hb.block k hk, h.2.1, Nat.lt_of_lt_of_le h.2.2.1 hb.size, h.2.2.2⟩
theorem rset_ok_end {w w3 w4 w5 w6 W' : World} {s : Hs} {d d' : Hd_} {u o e : Bool} {n b m : Int} {ob : Obj} {g c i : Nat} {x : Int} {tp tc : Ls.Sl} {tu : Nat → Ls.Sl} {v0 v1 v2 v3 v4 v5 : Value} (h3 : St w w3 s d u o e n b m) (hb4 : Below w3.heap.size w3 w4)
    (ht : Hp w4 w4.heap.size ⟨⟨some ⟨g, 0, none⟩, s.w.n, c⟩, tp, tu, tc⟩ d) (hl : Lens s ⟨⟨some ⟨g, 0, none⟩, s.w.n, c⟩, tp, tu, tc⟩) (hn : News w3.heap.size ⟨⟨some ⟨g, 0, none⟩, s.w.n, c⟩, tp, tu, tc⟩)
    (hap : ∀ z, (some (⟨g, 0, none⟩ : Addr)) = some z → (0 < tp.n → ∀ y, tp.a = some y → ¬ y.block = z.block) ∧ (∀ j, j < 3 → 0 < (tu j).n → ∀ y, (tu j).a = some y → ¬ y.block = z.block) ∧ (0 < tc.n → ∀ y, tc.a = some y → ¬ y.block = z.block))
    (hm : Mine w5 w3.heap.size 3 g s.w.n c d.ws) (hb5 : Below (w4.alloc ob).heap.size (w4.alloc ob) w5) (hg : w3.heap.size ≤ g) (hg4 : g < w4.heap.size) (h6 : w6 = w5.setCell ⟨g, i, none⟩ (.int .i64 x)) (hW : W' = put6 w6 (w.heap.size + 2) v0 v1 v2 v3 v4 v5) (hd : d' = ⟨d.ws.set i x, d.f, d.F, d.cs⟩) :
    SetOk w s d' (.returned (.tuple #[(.agg #[.slice (⟨⟨some ⟨g, 0, none⟩, s.w.n, c⟩, tp, tu, tc⟩ : Hs).w.a (⟨⟨some ⟨g, 0, none⟩, s.w.n, c⟩, tp, tu, tc⟩ : Hs).w.n (⟨⟨some ⟨g, 0, none⟩, s.w.n, c⟩, tp, tu, tc⟩ : Hs).w.c, .slice (⟨⟨some ⟨g, 0, none⟩, s.w.n, c⟩, tp, tu, tc⟩ : Hs).p.a (⟨⟨some ⟨g, 0, none⟩, s.w.n, c⟩, tp, tu, tc⟩ : Hs).p.n (⟨⟨some ⟨g, 0, none⟩, s.w.n, c⟩, tp, tu, tc⟩ : Hs).p.c, .slice ((⟨⟨some ⟨g, 0, none⟩, s.w.n, c⟩, tp, tu, tc⟩ : Hs).u 0).a ((⟨⟨some ⟨g, 0, none⟩, s.w.n, c⟩, tp, tu, tc⟩ : Hs).u 0).n ((⟨⟨some ⟨g, 0, none⟩, s.w.n, c⟩, tp, tu, tc⟩ : Hs).u 0).c, .slice ((⟨⟨some ⟨g, 0, none⟩, s.w.n, c⟩, tp, tu, tc⟩ : Hs).u 1).a ((⟨⟨some ⟨g, 0, none⟩, s.w.n, c⟩, tp, tu, tc⟩ : Hs).u 1).n ((⟨⟨some ⟨g, 0, none⟩, s.w.n, c⟩, tp, tu, tc⟩ : Hs).u 1).c, .slice ((⟨⟨some ⟨g, 0, none⟩, s.w.n, c⟩, tp, tu, tc⟩ : Hs).u 2).a ((⟨⟨some ⟨g, 0, none⟩, s.w.n, c⟩, tp, tu, tc⟩ : Hs).u 2).n ((⟨⟨some ⟨g, 0, none⟩, s.w.n, c⟩, tp, tu, tc⟩ : Hs).u 2).c, .slice (⟨⟨some ⟨g, 0, none⟩, s.w.n, c⟩, tp, tu, tc⟩ : Hs).c.a (⟨⟨some ⟨g, 0, none⟩, s.w.n, c⟩, tp, tu, tc⟩ : Hs).c.n (⟨⟨some ⟨g, 0, none⟩, s.w.n, c⟩, tp, tu, tc⟩ : Hs).c.c]), .int .i64 0])) W' := by
  have hr := h3.rb.box.lt
  have hs3 := h3.bel.size
  have hs4 := hb4.size
  have hs5 := hb5.size
  simp only [World.size_alloc] at hs5
  obtain ⟨a1, a2, a3⟩ := hap _ rfl
  have st : Stp g (w.heap.size + 2) w4 W' := by
    rw [hW, h6]
    exact (Stp.of_below ((Below.refl _ _).alloc (Nat.le_refl _) ob)).trans ((Stp.of_below hb5).trans ((Stp.set i _).trans (Stp.put _ _ _ _ _ _)))
  have st6 : Stp (w.heap.size + 2) (w.heap.size + 2) w6 W' := by
    rw [hW]
    exact Stp.put _ _ _ _ _ _
  have hm6 : Mine w6 w3.heap.size 3 g s.w.n c (d.ws.set i x) := by rw [h6]; exact hm.stored i x
  have hbel : Below w.heap.size w W' := by
    rw [hW]
    refine below_put6 ?_ (by omega) _ _ _ _ _ _
    rw [h6]
    refine Below.setCell ?_ (p := ⟨g, i, none⟩) (by show _ ≤ g; omega) _
    exact (h3.bel.trans (hb4.mono hs3)).trans (((Below.refl _ _).alloc (Nat.le_refl _) ob |>.mono (by omega)).trans (hb5.mono (by simp; omega)))
  subst hd
  refine ⟨⟨⟨some ⟨g, 0, none⟩, s.w.n, c⟩, tp, tu, tc⟩, rfl, ⟨?_, ?_, fun j hj => ⟨?_, (ht.free j hj).2⟩, ?_⟩, hl, hbel⟩
  · exact row_stp (v := ⟨some ⟨g, 0, none⟩, s.w.n, c⟩) hm6.row (fun _ z hz => by cases hz; exact ⟨by show ¬ g = _; omega, by show ¬ g = _; omega⟩) st6
  · exact prow_stp (v := tp) ht.pages (fun h0 z hz => ⟨a1 h0 z hz, by have := hn.p h0 z hz; omega⟩) st
  · exact row_stp (v := tu j) (ht.free j hj).1 (fun h0 z hz => ⟨a2 j hj h0 z hz, by have := hn.u j hj h0 z hz; omega⟩) st
  · exact brow_stp (v := tc) ht.cards (fun h0 z hz => ⟨a3 h0 z hz, by have := hn.c h0 z hz; omega⟩) st
section
variable (s : Hs) (d : Hd_) (a : Int) (u o e : Bool) (n b m : Int) (w : World)
set_option maxHeartbeats 2000000 in
theorem rset_ok (N : Int) (hp : Hp w w.heap.size s d) (hf : Fine s d) (he : headE s d a = 0) (o' e' : Bool) (b' m' : Int) (hv : headV s d a = .agg #[.bool true, .bool o', .bool e', .int .i64 N, .int .i64 b', .int .i64 m']) (hm0 : mayB0 s d = true) (hx : Hd.mayB true o e N b m = true) : Calls Tryz.prog 14 #[(.agg #[.slice s.w.a s.w.n s.w.c, .slice s.p.a s.p.n s.p.c, .slice (s.u 0).a (s.u 0).n (s.u 0).c, .slice (s.u 1).a (s.u 1).n (s.u 1).c, .slice (s.u 2).a (s.u 2).n (s.u 2).c, .slice s.c.a s.c.n s.c.c]), .int .i64 a, (.agg #[.bool true, .bool o, .bool e, .int .i64 N, .int .i64 b, .int .i64 m])] w (SetOk w s (dSet d a o e N b m)) := by
  have HF := Lib.hid hf
  have HP := Lib.hid hp
  have HE := Lib.hid he
  have HV := Lib.hid hv
  have HX := Lib.hid hx
  have hfb := (mayH_all hm0).1
  have HFB := Lib.hid hfb
  have hb : ¬ Cl.bg d.f s.p.n a = 0 := by
    unfold headE at he
    rw [if_neg (by rw [hm0]; decide)] at he
    split at he
    · omega
    · next h => exact fun e => h (.inl e)
  have hw := may0_word hm0 hb
  have HA := Lib.hid (And.intro hw.2.1 (show a < 16 + (s.w.n : Int) by omega))
  obtain ⟨i, hi⟩ : ∃ i : Nat, a - 16 = i := ⟨(a - 16).toNat, by omega⟩
  have hin : i < s.w.n := by omega
  have HUN : Hid (∀ j, j < 3 → (s.u j).n ≤ 2000000) := Lib.hid (fun j hj => by
    have h1 := hf.len
    rw [show (Ls.upTo d.F 3).length = (d.F 0).length + (d.F 1).length + (d.F 2).length by simp [Ls.upTo, List.range_succ]; omega] at h1
    have h2 := hp.free.len j hj
    rcases (show j = 0 ∨ j = 1 ∨ j = 2 by omega) with rfl | rfl | rfl <;> omega)
  have HI := Lib.hid hi
  clear hp hf he hv hx hm0 hfb hb hw hi
  go_enter Tryz.func14, Tryz.ntmps14
  go_wp2_with fail
  obtain ⟨W1, hW1⟩ : ∃ W1, W1 = ((w.alloc (.cells #[.slice s.w.a s.w.n s.w.c, .slice s.p.a s.p.n s.p.c, .slice (s.u 0).a (s.u 0).n (s.u 0).c, .slice (s.u 1).a (s.u 1).n (s.u 1).c, .slice (s.u 2).a (s.u 2).n (s.u 2).c, .slice s.c.a s.c.n s.c.c] 28)).alloc (.cells #[.bool true, .bool o, .bool e, .int .i64 N, .int .i64 b, .int .i64 m] 30)).alloc (.cells #[.slice none 0 0, .slice none 0 0, .slice none 0 0, .slice none 0 0, .slice none 0 0, .slice none 0 0] 28) := ⟨_, rfl⟩
  have S1 := Lib.hid (st_start (u := true) HP.out hW1)
  rw [← hW1]
  clear hW1
  refine (rhead_any s d a W1 S1.out.hp HF.out).mono ?_
  rw [HE.out, HV.out]
  rintro e9 w1 ⟨rfl, hb1⟩
  have S2 := Lib.hid (S1.out.next hb1)
  have S3 := Lib.hid (S2.out.next ((Below.refl w1.heap.size w1).alloc (Nat.le_refl _) (.cells #[.bool true, .bool o', .bool e', .int .i64 N, .int .i64 b', .int .i64 m'] 30)))
  have W3 := Lib.hid (X6.new w1 true o' e' N b' m' 30)
  have x0 := S3.out.xb.c0
  have x1 := S3.out.xb.c1
  have x2 := S3.out.xb.c2
  have x3 := S3.out.xb.c3
  have x4 := S3.out.xb.c4
  have x5 := S3.out.xb.c5
  have xl := S3.out.xb.lt
  clear hb1 S1 S2
  go_wp2_with fail
  refine (Hd.rmay_yes _ _ _ _ _ _ _ HX.out).mono ?_
  rintro e9 w3 ⟨rfl, hb3⟩
  have S9 := Lib.hid (S3.out.next hb3)
  have W9 := Lib.hid (W3.out.next hb3)
  clear hb3 S3 W3 x0 x1 x2 x3 x4 x5 xl
  have r0 := S9.out.xb.c0
  have r3 := S9.out.xb.c3
  have rl := S9.out.xb.lt
  have v3 := W9.out.c3
  have vl := W9.out.lt
  have dn : (N != N) = false := by simp
  have q0 := S9.out.hb.c0
  have q1 := S9.out.hb.c1
  have q2 := S9.out.hb.c2
  have q3 := S9.out.hb.c3
  have q4 := S9.out.hb.c4
  have q5 := S9.out.hb.c5
  have ql := S9.out.hb.lt
  go_wp2_with fail
  refine (rown7_any s d w3 S9.out.hp HF.out.wn (by have := HF.out.pn; omega) HF.out.cn HUN.out).mono ?_
  rintro e9 w4 ⟨⟨⟨ta, tn, c⟩, tp, tu, tc⟩, rfl, hown, ht, hl, hn, hap, hb4⟩
  dsimp only at hown ht hl hn hap ⊢
  obtain rfl : tn = s.w.n := hl.1
  obtain ⟨g, c9, e, hm⟩ := mine_of hown (by omega)
  simp only [Value.slice.injEq, true_and] at e
  obtain ⟨rfl, rfl⟩ := e
  have bo := HBox.new w4 ⟨⟨some ⟨g, 0, none⟩, s.w.n, c⟩, tp, tu, tc⟩ 28
  have S4 := S9.out.next hb4
  have b5 := (Below.refl w4.heap.size w4).alloc (Nat.le_refl _) (.cells #[.slice (some ⟨g, 0, none⟩) s.w.n c, .slice tp.a tp.n tp.c, .slice (tu 0).a (tu 0).n (tu 0).c, .slice (tu 1).a (tu 1).n (tu 1).c, .slice (tu 2).a (tu 2).n (tu 2).c, .slice tc.a tc.n tc.c] 28)
  have S5 := Lib.hid (S4.next b5)
  have B5 := Lib.hid bo
  have M5 := Lib.hid (And.intro hm b5)
  have T4 := Lib.hid (And.intro ht (And.intro hl (And.intro hn (And.intro hap hb4))))
  have hg3 := hm.2.1
  have hg4 := hm.2.2.1
  have hr9 := S9.out.rb.box.lt
  have hs34 := hb4.size
  have G := Lib.hid (show w3.heap.size ≤ g ∧ g < w4.heap.size ∧ w.heap.size + 2 < w3.heap.size from ⟨hg3, hg4, hr9⟩)
  clear hown ht hl hn hap hb4 hm bo S4 b5 r0 r3 rl v3 vl dn q0 q1 q2 q3 q4 q5 ql hg3 hg4 hr9 hs34
  have x0 := S5.out.xb.c0
  have x1 := S5.out.xb.c1
  have x2 := S5.out.xb.c2
  have x3 := S5.out.xb.c3
  have x4 := S5.out.xb.c4
  have x5 := S5.out.xb.c5
  have xl := S5.out.xb.lt
  have c0 := B5.out.c0
  have cl := B5.out.lt
  dsimp only at c0
  have ei := HI.out
  have ew : IntKind.i64.wrap (i : Int) = i := by simp [IntKind.wrap, IntKind.signed, IntKind.bits]; have := HF.out.wn; omega
  have i0 : (0 : Int) ≤ i := by omega
  have i1 : (i : Int) < s.w.n := by omega
  go_wp2_with fail
  go_region_with ((go_at_call 40; refine (Hd.rword_yes _ _ _ _ _ _ _ HX.out).mono ?_; rintro e9 w5 ⟨rfl, hb5⟩; have b5 : Below (w4.alloc (.cells #[.slice (some ⟨g, 0, none⟩) s.w.n c, .slice tp.a tp.n tp.c, .slice (tu 0).a (tu 0).n (tu 0).c, .slice (tu 1).a (tu 1).n (tu 1).c, .slice (tu 2).a (tu 2).n (tu 2).c, .slice tc.a tc.n tc.c] 28)).heap.size (w4.alloc (.cells #[.slice (some ⟨g, 0, none⟩) s.w.n c, .slice tp.a tp.n tp.c, .slice (tu 0).a (tu 0).n (tu 0).c, .slice (tu 1).a (tu 1).n (tu 1).c, .slice (tu 2).a (tu 2).n (tu 2).c, .slice tc.a tc.n tc.c] 28)) w5 := (below_drawn' (Below.refl _ _) 1).trans hb5; have S6 := Lib.hid (S5.out.next b5); have M6 := Lib.hid (And.intro (mine_next (mine_next M5.out.1 M5.out.2) b5) b5); have c0 := (B5.out.next b5).c0; have cl := (B5.out.next b5).lt; have gc := M6.out.1.cell i hin; have gf := M6.out.1.free i; have gl := M6.out.1.2.2.1; clear hb5 b5))
  all_goals obtain ⟨w6, hw6⟩ : ∃ w6, w6 = w5.setCell ⟨g, i, none⟩ (.int .i64 (Hd.word true o e N b m)) := ⟨_, rfl⟩
  all_goals rw [← hw6]
  all_goals have hne : ¬ w4.heap.size = g := by have h1 := G.out.2.1; omega
  all_goals have hne2 : ¬ w.heap.size + 2 = g := by have h1 := G.out.1; have h2 := G.out.2.2; omega
  all_goals have hB6 := hbox_same (W' := w6) (B5.out.next M6.out.2) (by rw [hw6]; exact Below.heap_setCell _ _ _ _ hne) (by rw [hw6]; simp [World.setCell])
  all_goals have R6 := Lib.hid (S6.out.rb.same (W' := w6) (by rw [hw6]; exact Below.heap_setCell _ _ _ _ hne2) (by rw [hw6]; simp [World.setCell]))
  all_goals have W6 := Lib.hid hw6
  all_goals clear hw6 x0 x1 x2 x3 x4 x5 xl c0 cl gc gf gl
  all_goals have c0 := hB6.c0
  all_goals have c1 := hB6.c1
  all_goals have c2 := hB6.c2
  all_goals have c3 := hB6.c3
  all_goals have c4 := hB6.c4
  all_goals have c5 := hB6.c5
  all_goals have cl := hB6.lt
  all_goals have y0 := R6.out.free 0
  all_goals have y1 := R6.out.free 1
  all_goals have y2 := R6.out.free 2
  all_goals have y3 := R6.out.free 3
  all_goals have y4 := R6.out.free 4
  all_goals have y5 := R6.out.free 5
  all_goals have x0 := R6.out.box.c0
  all_goals have x1 := R6.out.box.c1
  all_goals have x2 := R6.out.box.c2
  all_goals have x3 := R6.out.box.c3
  all_goals have x4 := R6.out.box.c4
  all_goals have x5 := R6.out.box.c5
  all_goals have xl := R6.out.box.lt
  all_goals dsimp only [noHs, Ls.noSl] at x0 x1 x2 x3 x4 x5 c0 c1 c2 c3 c4 c5
  all_goals clear hB6 hne hne2
  all_goals go_wp2
  all_goals refine bodyPost_ret (v := .tuple #[(.agg #[.slice (⟨⟨some ⟨g, 0, none⟩, s.w.n, c⟩, tp, tu, tc⟩ : Hs).w.a (⟨⟨some ⟨g, 0, none⟩, s.w.n, c⟩, tp, tu, tc⟩ : Hs).w.n (⟨⟨some ⟨g, 0, none⟩, s.w.n, c⟩, tp, tu, tc⟩ : Hs).w.c, .slice (⟨⟨some ⟨g, 0, none⟩, s.w.n, c⟩, tp, tu, tc⟩ : Hs).p.a (⟨⟨some ⟨g, 0, none⟩, s.w.n, c⟩, tp, tu, tc⟩ : Hs).p.n (⟨⟨some ⟨g, 0, none⟩, s.w.n, c⟩, tp, tu, tc⟩ : Hs).p.c, .slice ((⟨⟨some ⟨g, 0, none⟩, s.w.n, c⟩, tp, tu, tc⟩ : Hs).u 0).a ((⟨⟨some ⟨g, 0, none⟩, s.w.n, c⟩, tp, tu, tc⟩ : Hs).u 0).n ((⟨⟨some ⟨g, 0, none⟩, s.w.n, c⟩, tp, tu, tc⟩ : Hs).u 0).c, .slice ((⟨⟨some ⟨g, 0, none⟩, s.w.n, c⟩, tp, tu, tc⟩ : Hs).u 1).a ((⟨⟨some ⟨g, 0, none⟩, s.w.n, c⟩, tp, tu, tc⟩ : Hs).u 1).n ((⟨⟨some ⟨g, 0, none⟩, s.w.n, c⟩, tp, tu, tc⟩ : Hs).u 1).c, .slice ((⟨⟨some ⟨g, 0, none⟩, s.w.n, c⟩, tp, tu, tc⟩ : Hs).u 2).a ((⟨⟨some ⟨g, 0, none⟩, s.w.n, c⟩, tp, tu, tc⟩ : Hs).u 2).n ((⟨⟨some ⟨g, 0, none⟩, s.w.n, c⟩, tp, tu, tc⟩ : Hs).u 2).c, .slice (⟨⟨some ⟨g, 0, none⟩, s.w.n, c⟩, tp, tu, tc⟩ : Hs).c.a (⟨⟨some ⟨g, 0, none⟩, s.w.n, c⟩, tp, tu, tc⟩ : Hs).c.n (⟨⟨some ⟨g, 0, none⟩, s.w.n, c⟩, tp, tu, tc⟩ : Hs).c.c]), .int .i64 0]) ?_ rfl (rset_ok_end S9.out T4.out.2.2.2.2 T4.out.1 T4.out.2.1 T4.out.2.2.1 T4.out.2.2.2.1 M6.out.1 M6.out.2 G.out.1 G.out.2.1 W6.out rfl (by unfold dSet; rw [HI.out]; rfl))
  all_goals obtain ⟨k0, k1, k2, k3, k4, k5⟩ := put6_at R6.out (.slice (some ⟨g, 0, none⟩) s.w.n c) (.slice tp.a tp.n tp.c) (.slice (tu 0).a (tu 0).n (tu 0).c) (.slice (tu 1).a (tu 1).n (tu 1).c) (.slice (tu 2).a (tu 2).n (tu 2).c) (.slice tc.a tc.n tc.c)
  all_goals exact res_rset rfl rfl k0 k1 k2 k3 k4 k5
end
end Go.Proofs.YthgcaehhjiccbaaGreatDoor
