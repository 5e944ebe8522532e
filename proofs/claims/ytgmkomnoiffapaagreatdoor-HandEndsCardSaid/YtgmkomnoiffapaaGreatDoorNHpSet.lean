/-
  Package heap's Set, where a head is set.
-/
import Derived.Test.YtgmkomnoiffapaaGreatDoorHpNG
namespace Go.Proofs.YtgmkomnoiffapaaGreatDoor
open Go.RowKit
set_option maxRecDepth 100000

/-- What Set leaves, and that its memory is new. -/
def SetOkN (w : World) (s : Hs) (d' : Hd_) (e : Ending) (w' : World) : Prop :=
  ∃ t : Hs, e = .returned (.tuple #[(.agg #[.slice t.w.a t.w.n t.w.c, .slice t.p.a t.p.n t.p.c, .slice (t.u 0).a (t.u 0).n (t.u 0).c, .slice (t.u 1).a (t.u 1).n (t.u 1).c, .slice (t.u 2).a (t.u 2).n (t.u 2).c, .slice t.c.a t.c.n t.c.c]), .int .i64 0]) ∧ Hp w' w'.heap.size t d' ∧ Lens s t ∧ News w.heap.size t ∧ Below w.heap.size w w'
/-- .. its end: words were put, and the copy's box and the result's were turned. -/
theorem set_ok_end {w w3 w4 w5 W' : World} {s t : Hs} {d d' : Hd_} {u o e : Bool} {n b m : Int} {ob : Obj} {g c i : Nat} {x : Int} {v0 v1 v2 v3 v4 v5 : Value} (h3 : St w w3 s d u o e n b m) (ht : Hp w4 w4.heap.size t d) (hl : Lens s t) (hn : News w3.heap.size t) (hb4 : Below w3.heap.size w3 w4)
    (hm : Mine w5 (w4.alloc ob).heap.size 3 g s.w.n c (d.ws.set i x)) (hb5 : Below (w4.alloc ob).heap.size (w4.alloc ob) w5) (hd : d' = ⟨d.ws.set i x, d.f, d.F, d.cs⟩)
    (hW : W' = put6 (w5.setCell ⟨w4.heap.size, 0, none⟩ (.slice (some ⟨g, 0, none⟩) s.w.n c)) (w.heap.size + 2) v0 v1 v2 v3 v4 v5) : SetOkN w s d' (.returned (.tuple #[(.agg #[.slice (⟨⟨some ⟨g, 0, none⟩, s.w.n, c⟩, t.p, t.u, t.c⟩ : Hs).w.a (⟨⟨some ⟨g, 0, none⟩, s.w.n, c⟩, t.p, t.u, t.c⟩ : Hs).w.n (⟨⟨some ⟨g, 0, none⟩, s.w.n, c⟩, t.p, t.u, t.c⟩ : Hs).w.c, .slice (⟨⟨some ⟨g, 0, none⟩, s.w.n, c⟩, t.p, t.u, t.c⟩ : Hs).p.a (⟨⟨some ⟨g, 0, none⟩, s.w.n, c⟩, t.p, t.u, t.c⟩ : Hs).p.n (⟨⟨some ⟨g, 0, none⟩, s.w.n, c⟩, t.p, t.u, t.c⟩ : Hs).p.c, .slice ((⟨⟨some ⟨g, 0, none⟩, s.w.n, c⟩, t.p, t.u, t.c⟩ : Hs).u 0).a ((⟨⟨some ⟨g, 0, none⟩, s.w.n, c⟩, t.p, t.u, t.c⟩ : Hs).u 0).n ((⟨⟨some ⟨g, 0, none⟩, s.w.n, c⟩, t.p, t.u, t.c⟩ : Hs).u 0).c, .slice ((⟨⟨some ⟨g, 0, none⟩, s.w.n, c⟩, t.p, t.u, t.c⟩ : Hs).u 1).a ((⟨⟨some ⟨g, 0, none⟩, s.w.n, c⟩, t.p, t.u, t.c⟩ : Hs).u 1).n ((⟨⟨some ⟨g, 0, none⟩, s.w.n, c⟩, t.p, t.u, t.c⟩ : Hs).u 1).c, .slice ((⟨⟨some ⟨g, 0, none⟩, s.w.n, c⟩, t.p, t.u, t.c⟩ : Hs).u 2).a ((⟨⟨some ⟨g, 0, none⟩, s.w.n, c⟩, t.p, t.u, t.c⟩ : Hs).u 2).n ((⟨⟨some ⟨g, 0, none⟩, s.w.n, c⟩, t.p, t.u, t.c⟩ : Hs).u 2).c, .slice (⟨⟨some ⟨g, 0, none⟩, s.w.n, c⟩, t.p, t.u, t.c⟩ : Hs).c.a (⟨⟨some ⟨g, 0, none⟩, s.w.n, c⟩, t.p, t.u, t.c⟩ : Hs).c.n (⟨⟨some ⟨g, 0, none⟩, s.w.n, c⟩, t.p, t.u, t.c⟩ : Hs).c.c]), .int .i64 0])) W' := by
  have hs3 := h3.bel.size
  have hs4 := hb4.size
  have hr := h3.rb.box.lt
  have hg := hm.2.1
  have hg2 := hm.2.2.1
  have hs5 := hb5.size
  simp only [World.size_alloc] at hg hs5
  have hsz : W'.heap.size = w5.heap.size := by rw [hW, put6_size]; simp [World.setCell]
  have hoth : ∀ k, ¬ k = w4.heap.size → ¬ k = w.heap.size + 2 → W'.heap[k]? = w5.heap[k]? := fun k h1 h2 => by
    rw [hW, put6_other _ _ _ _ _ _ _ _ h2]
    exact Below.heap_setCell _ _ _ _ h1
  have hbel : Below w.heap.size w W' := by
    rw [hW]
    refine below_put6 (Below.setCell ?_ (p := ⟨w4.heap.size, 0, none⟩) (by show _ ≤ w4.heap.size; omega) _) (by omega) _ _ _ _ _ _
    exact (h3.bel.trans (hb4.mono hs3)).trans (((Below.refl _ _).alloc (Nat.le_refl _) ob |>.mono (by omega)).trans (hb5.mono (by simp; omega)))
  have hk : Hp W' W'.heap.size t d := hn.kept ht (fun k h1 h2 => by
    rw [hoth k (by omega) (by omega)]
    exact (hb5.block k (by simp; omega)).trans (Below.heap_alloc _ _ _ h2)) (by omega)
  subst hd
  refine ⟨⟨⟨some ⟨g, 0, none⟩, s.w.n, c⟩, t.p, t.u, t.c⟩, rfl, ⟨?_, hk.pages, hk.free, hk.cards⟩, ⟨rfl, hl.2.1, hl.2.2.1, hl.2.2.2⟩, ⟨fun _ x hx => by cases hx; show w.heap.size ≤ g; omega, fun h0 x hx => by have := hn.p h0 x hx; omega, fun j hj h0 x hx => by have := hn.u j hj h0 x hx; omega, fun h0 x hx => by have := hn.c h0 x hx; omega⟩, hbel⟩
  have hrow := row_same (w' := W') hm.row (fun _ x hx => by
    cases hx
    exact hoth g (by omega) (by omega))
  exact hrow.more (by omega)
section
variable (s : Hs) (d : Hd_) (a : Int) (u o e : Bool) (n b m : Int) (w : World)
set_option maxHeartbeats 2000000 in
theorem set_okn (N : Int) (hp : Hp w w.heap.size s d) (hz : Cl.Sz w) (hf : Fine s d) (he : headE s d a = 0) (o' e' : Bool) (b' m' : Int) (hv : headV s d a = .agg #[.bool true, .bool o', .bool e', .int .i64 N, .int .i64 b', .int .i64 m']) (hm0 : mayB0 s d = true) (hx : Hd.mayB true o e N b m = true) : Calls Tryz.prog 129 #[(.agg #[.slice s.w.a s.w.n s.w.c, .slice s.p.a s.p.n s.p.c, .slice (s.u 0).a (s.u 0).n (s.u 0).c, .slice (s.u 1).a (s.u 1).n (s.u 1).c, .slice (s.u 2).a (s.u 2).n (s.u 2).c, .slice s.c.a s.c.n s.c.c]), .int .i64 a, (.agg #[.bool true, .bool o, .bool e, .int .i64 N, .int .i64 b, .int .i64 m])] w (SetOkN w s (dSet d a o e N b m)) := by
  have HZ := Lib.hid hz
  have hz0 := hz.pos
  have HF := Lib.hid hf
  have HP := Lib.hid hp
  have HE := Lib.hid he
  have HV := Lib.hid hv
  have HX := Lib.hid hx
  have hfb := (mayH_all hm0).1
  have HFB := Lib.hid hfb
  have hb : ¬ Cl.bg d.f s.p.n a = 0 := by
    unfold headE at he
    rw [if_neg (by rw [hm0]; decide)] at he
    split at he
    · omega
    · next h => exact fun e => h (.inl e)
  have hw := may0_word hm0 hb
  have HA := Lib.hid (And.intro hw.2.1 (show a < 16 + (s.w.n : Int) by omega))
  have HMB : Hid (Ar.mayB s.w.n = true) := Lib.hid (by
    unfold firstB wordsB at hfb
    simp only [Bool.and_eq_true, decide_eq_true_eq] at hfb
    exact Ar.mayB_iff.2 hfb.1)
  clear hp hz hf he hv hx hm0 hfb hb hw
  go_enter Tryz.func129, Tryz.ntmps129
  go_wp2_with fail
  obtain ⟨W1, hW1⟩ : ∃ W1, W1 = ((w.alloc (.cells #[.slice s.w.a s.w.n s.w.c, .slice s.p.a s.p.n s.p.c, .slice (s.u 0).a (s.u 0).n (s.u 0).c, .slice (s.u 1).a (s.u 1).n (s.u 1).c, .slice (s.u 2).a (s.u 2).n (s.u 2).c, .slice s.c.a s.c.n s.c.c] 28)).alloc (.cells #[.bool true, .bool o, .bool e, .int .i64 N, .int .i64 b, .int .i64 m] 56)).alloc (.cells #[.slice none 0 0, .slice none 0 0, .slice none 0 0, .slice none 0 0, .slice none 0 0, .slice none 0 0] 28) := ⟨_, rfl⟩
  have S1 := Lib.hid (st_start (u := true) HP.out hW1)
  rw [← hW1]
  clear hW1
  refine (phead_any s d a W1 S1.out.hp (HZ.out.over S1.out.bel hz0) HF.out).mono ?_
  rw [HE.out, HV.out]
  rintro e9 w1 ⟨rfl, hb1⟩
  have S2 := Lib.hid (S1.out.next hb1)
  have S3 := Lib.hid (S2.out.next ((Below.refl w1.heap.size w1).alloc (Nat.le_refl _) (.cells #[.bool true, .bool o', .bool e', .int .i64 N, .int .i64 b', .int .i64 m'] 56)))
  have W3 := Lib.hid (X6.new w1 true o' e' N b' m' 56)
  have x0 := S3.out.xb.c0
  have x1 := S3.out.xb.c1
  have x2 := S3.out.xb.c2
  have x3 := S3.out.xb.c3
  have x4 := S3.out.xb.c4
  have x5 := S3.out.xb.c5
  have xl := S3.out.xb.lt
  clear hb1 S1 S2
  go_wp2_with fail
  refine (Hd.pack_yes _ _ _ _ _ _ _ HX.out).mono ?_
  rintro e9 w3 ⟨rfl, hb3⟩
  have S9 := Lib.hid (S3.out.next hb3)
  have W9 := Lib.hid (W3.out.next hb3)
  clear hb3 S3 W3 x0 x1 x2 x3 x4 x5 xl
  have r0 := S9.out.xb.c0
  have r3 := S9.out.xb.c3
  have rl := S9.out.xb.lt
  have v3 := W9.out.c3
  have vl := W9.out.lt
  have dn : (N != N) = false := by simp
  have q0 := S9.out.hb.c0
  have q1 := S9.out.hb.c1
  have q2 := S9.out.hb.c2
  have q3 := S9.out.hb.c3
  have q4 := S9.out.hb.c4
  have q5 := S9.out.hb.c5
  have ql := S9.out.hb.lt
  go_wp2_with fail
  refine (hcopied_any s d w3 S9.out.hp HF.out HFB.out).mono ?_
  rintro e9 w4 ⟨t, rfl, ht, hl, hn, hb4⟩
  have bo := HBox.new w4 t 28
  have bf : ∀ j, (w4.alloc (.cells #[.slice t.w.a t.w.n t.w.c, .slice t.p.a t.p.n t.p.c, .slice (t.u 0).a (t.u 0).n (t.u 0).c, .slice (t.u 1).a (t.u 1).n (t.u 1).c, .slice (t.u 2).a (t.u 2).n (t.u 2).c, .slice t.c.a t.c.n t.c.c] 28)).frozen? ⟨w4.heap.size, j, none⟩ = false := fun j => by simp [go_sem]
  have S4 := Lib.hid (S9.out.next hb4)
  have T4 := Lib.hid (And.intro ht (And.intro hl (And.intro hn hb4)))
  have S5 := Lib.hid (S4.out.next ((Below.refl w4.heap.size w4).alloc (Nat.le_refl _) (.cells #[.slice t.w.a t.w.n t.w.c, .slice t.p.a t.p.n t.p.c, .slice (t.u 0).a (t.u 0).n (t.u 0).c, .slice (t.u 1).a (t.u 1).n (t.u 1).c, .slice (t.u 2).a (t.u 2).n (t.u 2).c, .slice t.c.a t.c.n t.c.c] 28)))
  have B5 := Lib.hid (And.intro bo bf)
  clear ht hl hn hb4 bo bf r0 r3 rl v3 vl dn q0 q1 q2 q3 q4 q5 ql
  have q0 := S5.out.hb.c0
  have ql := S5.out.hb.lt
  go_wp2_with fail
  clear q0 ql
  obtain ⟨ob, hob⟩ : ∃ ob, ob = ((.cells #[.slice t.w.a t.w.n t.w.c, .slice t.p.a t.p.n t.p.c, .slice (t.u 0).a (t.u 0).n (t.u 0).c, .slice (t.u 1).a (t.u 1).n (t.u 1).c, .slice (t.u 2).a (t.u 2).n (t.u 2).c, .slice t.c.a t.c.n t.c.c] 28) : Obj) := ⟨_, rfl⟩
  rw [← hob] at B5 S5 ⊢
  refine (Ar.put_ok w.heap.size s.w.a s.w.n s.w.c d.ws a (Hd.word true o e N b m) (w4.alloc ob) HMB.out HA.out.1 HA.out.2 (HP.out.words.below S5.out.bel)).mono ?_
  rintro e9 w5 ⟨g, c, rfl, hm5, hb5⟩
  have M5 := Lib.hid (And.intro hm5 hb5)
  have S6 := Lib.hid (S5.out.next hb5)
  have c0 := (B5.out.1.next hb5).c0
  have c1 := (B5.out.1.next hb5).c1
  have c2 := (B5.out.1.next hb5).c2
  have c3 := (B5.out.1.next hb5).c3
  have c4 := (B5.out.1.next hb5).c4
  have c5 := (B5.out.1.next hb5).c5
  have cl := (B5.out.1.next hb5).lt
  have cf := (hb5.frozen (p := ⟨w4.heap.size, 0, none⟩) B5.out.1.lt).trans (B5.out.2 0)
  have hne : ¬ w.heap.size + 2 = w4.heap.size := by have h1 := S4.out.rb.box.lt; omega
  have R6 : Hid (Box6 (w5.setCell ⟨w4.heap.size, 0, none⟩ (.slice (some ⟨g, 0, none⟩) s.w.n c)) (w.heap.size + 2) noHs) := Lib.hid (S6.out.rb.same (Below.heap_setCell _ _ _ _ hne) (by simp [World.setCell]))
  have y0 := S6.out.rb.free 0
  have y1 := S6.out.rb.free 1
  have y2 := S6.out.rb.free 2
  have y3 := S6.out.rb.free 3
  have y4 := S6.out.rb.free 4
  have y5 := S6.out.rb.free 5
  have x0 := S6.out.rb.box.c0
  have x1 := S6.out.rb.box.c1
  have x2 := S6.out.rb.box.c2
  have x3 := S6.out.rb.box.c3
  have x4 := S6.out.rb.box.c4
  have x5 := S6.out.rb.box.c5
  have xl := S6.out.rb.box.lt
  dsimp only [noHs, Ls.noSl] at x0 x1 x2 x3 x4 x5
  clear hm5 hb5
  go_wp2
  refine bodyPost_ret (v := .tuple #[(.agg #[.slice (⟨⟨some ⟨g, 0, none⟩, s.w.n, c⟩, t.p, t.u, t.c⟩ : Hs).w.a (⟨⟨some ⟨g, 0, none⟩, s.w.n, c⟩, t.p, t.u, t.c⟩ : Hs).w.n (⟨⟨some ⟨g, 0, none⟩, s.w.n, c⟩, t.p, t.u, t.c⟩ : Hs).w.c, .slice (⟨⟨some ⟨g, 0, none⟩, s.w.n, c⟩, t.p, t.u, t.c⟩ : Hs).p.a (⟨⟨some ⟨g, 0, none⟩, s.w.n, c⟩, t.p, t.u, t.c⟩ : Hs).p.n (⟨⟨some ⟨g, 0, none⟩, s.w.n, c⟩, t.p, t.u, t.c⟩ : Hs).p.c, .slice ((⟨⟨some ⟨g, 0, none⟩, s.w.n, c⟩, t.p, t.u, t.c⟩ : Hs).u 0).a ((⟨⟨some ⟨g, 0, none⟩, s.w.n, c⟩, t.p, t.u, t.c⟩ : Hs).u 0).n ((⟨⟨some ⟨g, 0, none⟩, s.w.n, c⟩, t.p, t.u, t.c⟩ : Hs).u 0).c, .slice ((⟨⟨some ⟨g, 0, none⟩, s.w.n, c⟩, t.p, t.u, t.c⟩ : Hs).u 1).a ((⟨⟨some ⟨g, 0, none⟩, s.w.n, c⟩, t.p, t.u, t.c⟩ : Hs).u 1).n ((⟨⟨some ⟨g, 0, none⟩, s.w.n, c⟩, t.p, t.u, t.c⟩ : Hs).u 1).c, .slice ((⟨⟨some ⟨g, 0, none⟩, s.w.n, c⟩, t.p, t.u, t.c⟩ : Hs).u 2).a ((⟨⟨some ⟨g, 0, none⟩, s.w.n, c⟩, t.p, t.u, t.c⟩ : Hs).u 2).n ((⟨⟨some ⟨g, 0, none⟩, s.w.n, c⟩, t.p, t.u, t.c⟩ : Hs).u 2).c, .slice (⟨⟨some ⟨g, 0, none⟩, s.w.n, c⟩, t.p, t.u, t.c⟩ : Hs).c.a (⟨⟨some ⟨g, 0, none⟩, s.w.n, c⟩, t.p, t.u, t.c⟩ : Hs).c.n (⟨⟨some ⟨g, 0, none⟩, s.w.n, c⟩, t.p, t.u, t.c⟩ : Hs).c.c]), .int .i64 0]) ?_ rfl (set_ok_end S9.out T4.out.1 T4.out.2.1 T4.out.2.2.1 T4.out.2.2.2 M5.out.1 M5.out.2 rfl rfl)
  obtain ⟨k0, k1, k2, k3, k4, k5⟩ := put6_at R6.out (.slice (some ⟨g, 0, none⟩) s.w.n c) (.slice t.p.a t.p.n t.p.c) (.slice (t.u 0).a (t.u 0).n (t.u 0).c) (.slice (t.u 1).a (t.u 1).n (t.u 1).c) (.slice (t.u 2).a (t.u 2).n (t.u 2).c) (.slice t.c.a t.c.n t.c.c)
  exact res_set rfl rfl k0 k1 k2 k3 k4 k5
end
end Go.Proofs.YtgmkomnoiffapaaGreatDoor
