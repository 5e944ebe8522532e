/-
  Package reap's drop and giveBack: a page is free again; a page is given back, if it may be.
-/
import Derived.Test.YtcbnefjfoeanoaaGreatDoorHpYE
import Derived.Test.YtcbnefjfoeanoaaGreatDoorHpYA
import Derived.Test.YtcbnefjfoeanoaaGreatDoorHpZB
import Derived.Test.YtcbnefjfoeanoaaGreatDoorHpZH
namespace Go.Proofs.YtcbnefjfoeanoaaGreatDoor
open Go.RowKit
set_option maxRecDepth 100000

theorem res_end {w W : World} {rb : Nat} {s t t0 : Hs} {d : Hd_} (hb : Below w.heap.size w W) (hp : Hp W W.heap.size t d) (hr : Rm W rb t0) (hi : w.heap.size ≤ rb) (hl : t.w.n = s.w.n ∧ t.p.n = s.p.n ∧ t.c.n = s.c.n) : RoOut w s d (.returned (.agg #[.slice t.w.a t.w.n t.w.c, .slice t.p.a t.p.n t.p.c, .slice (t.u 0).a (t.u 0).n (t.u 0).c, .slice (t.u 1).a (t.u 1).n (t.u 1).c, .slice (t.u 2).a (t.u 2).n (t.u 2).c, .slice t.c.a t.c.n t.c.c])) (put6 W rb (.slice t.w.a t.w.n t.w.c) (.slice t.p.a t.p.n t.p.c) (.slice (t.u 0).a (t.u 0).n (t.u 0).c) (.slice (t.u 1).a (t.u 1).n (t.u 1).c) (.slice (t.u 2).a (t.u 2).n (t.u 2).c) (.slice t.c.a t.c.n t.c.c)) :=
  ⟨t, rfl, hp_turn hr.sl hp (fun _ hi => put6_other _ _ _ _ _ _ _ _ hi) (put6_size _ _ _ _ _ _ _ _).symm, hl, below_put6 hb hi _ _ _ _ _ _⟩
theorem res_rdrop {W : World} {b : Nat} {tm : Array Value} {v0 v1 v2 v3 v4 v5 : Value} (ht : tm[4]? = some (.pointer (some ⟨b, 0, none⟩))) (k0 : W.cell? ⟨b, 0, none⟩ = some v0) (k1 : W.cell? ⟨b, 1, none⟩ = some v1) (k2 : W.cell? ⟨b, 2, none⟩ = some v2) (k3 : W.cell? ⟨b, 3, none⟩ = some v3) (k4 : W.cell? ⟨b, 4, none⟩ = some v4) (k5 : W.cell? ⟨b, 5, none⟩ = some v5) :
    (results Tryz.f66 tm).run Tryz.prog W = .ok (.agg #[v0, v1, v2, v3, v4, v5]) W := by
  simp [results, Tryz.results66, go_sem, ht, k0, k1, k2, k3, k4, k5]
theorem res_giveb {W : World} {b : Nat} {tm : Array Value} {v0 v1 v2 v3 v4 v5 : Value} (ht : tm[4]? = some (.pointer (some ⟨b, 0, none⟩))) (k0 : W.cell? ⟨b, 0, none⟩ = some v0) (k1 : W.cell? ⟨b, 1, none⟩ = some v1) (k2 : W.cell? ⟨b, 2, none⟩ = some v2) (k3 : W.cell? ⟨b, 3, none⟩ = some v3) (k4 : W.cell? ⟨b, 4, none⟩ = some v4) (k5 : W.cell? ⟨b, 5, none⟩ = some v5) :
    (results Tryz.f68 tm).run Tryz.prog W = .ok (.agg #[v0, v1, v2, v3, v4, v5]) W := by
  simp [results, Tryz.results68, go_sem, ht, k0, k1, k2, k3, k4, k5]
theorem tout_zero {w w' : World} {n : Nat} {g : Nat → Int × Int} {e : Ending} (h : Cl.TOut w 0 n g e w') : ∃ A c, e = .returned (.tuple #[.slice A n c, .int .i64 0]) ∧ Cl.PRow w' w'.heap.size A n g ∧ n ≤ c ∧ Below w.heap.size w w' := by
  obtain ⟨A, c, h1, h2, h3, h4⟩ := h
  have e0 : Cl.outN 0 n = n := if_pos rfl
  rw [e0] at h1 h2 h3
  exact ⟨A, c, h1, h2, h3, h4⟩
/-- Both boxes of such a call. -/
theorem two_rooms {w W : World} {s : Hs} {d : Hd_} {t1 t2 : TypeId} (hp : Hp w w.heap.size s d) (hW : W = (w.alloc (.cells #[.slice s.w.a s.w.n s.w.c, .slice s.p.a s.p.n s.p.c, .slice (s.u 0).a (s.u 0).n (s.u 0).c, .slice (s.u 1).a (s.u 1).n (s.u 1).c, .slice (s.u 2).a (s.u 2).n (s.u 2).c, .slice s.c.a s.c.n s.c.c] t1)).alloc (.cells #[.slice none 0 0, .slice none 0 0, .slice none 0 0, .slice none 0 0, .slice none 0 0, .slice none 0 0] t2)) : Ro w W w.heap.size s d ∧ Rm W (w.heap.size + 1) noHs := by
  obtain ⟨W1, h1⟩ : ∃ W1, W1 = w.alloc (.cells #[.slice s.w.a s.w.n s.w.c, .slice s.p.a s.p.n s.p.c, .slice (s.u 0).a (s.u 0).n (s.u 0).c, .slice (s.u 1).a (s.u 1).n (s.u 1).c, .slice (s.u 2).a (s.u 2).n (s.u 2).c, .slice s.c.a s.c.n s.c.c] t1) := ⟨_, rfl⟩
  rw [← h1] at hW
  have z1 : W1.heap.size = w.heap.size + 1 := by rw [h1]; simp
  have r1 : Ro w W1 w.heap.size s d := by rw [h1]; exact ro_start hp
  have b2 : Below W1.heap.size W1 W := by rw [hW]; exact (Below.refl _ _).alloc (Nat.le_refl _) _
  have r2 := Rm.new W1 noHs t2
  refine ⟨r1.next b2, ?_⟩
  rw [hW, ← z1]
  exact r2
section
variable (s : Hs) (d : Hd_) (p : Nat) (w : World)
set_option maxHeartbeats 2000000 in
theorem rdrop9_any (hp : Hp w w.heap.size s d) (hpn : s.p.n ≤ 1000) (hE : Cl.dropE d.f s.p.n (p : Int) = 0) : Calls Tryz.prog 66 #[(.agg #[.slice s.w.a s.w.n s.w.c, .slice s.p.a s.p.n s.p.c, .slice (s.u 0).a (s.u 0).n (s.u 0).c, .slice (s.u 1).a (s.u 1).n (s.u 1).c, .slice (s.u 2).a (s.u 2).n (s.u 2).c, .slice s.c.a s.c.n s.c.c]), .int .i64 (p : Int)] w (RoOut w s ⟨d.ws, Cl.drop d.f p, d.F, d.cs⟩) := by
  have HD : Hid (∀ W, Below w.heap.size w W → Calls Tryz.prog 102 #[.slice s.p.a s.p.n s.p.c, .int .i64 (p : Int)] W fun e w' => ∃ A c, e = .returned (.tuple #[.slice A s.p.n c, .int .i64 0]) ∧ Cl.PRow w' w'.heap.size A s.p.n (Cl.drop d.f p) ∧ s.p.n ≤ c ∧ Below W.heap.size W w') := Lib.hid (fun W hb => by
    have := Cl.drop_any w.heap.size s.p.a s.p.n s.p.c d.f (p : Int) W hpn (hp.pages.below hb) hb.size
    rw [hE] at this
    exact this.mono fun _ _ h => tout_zero h)
  have HP := Lib.hid hp
  clear hp hpn hE
  go_enter Tryz.func66, Tryz.ntmps66
  go_wp2_with fail
  obtain ⟨W0, hW0⟩ : ∃ W0, W0 = (w.alloc (.cells #[.slice s.w.a s.w.n s.w.c, .slice s.p.a s.p.n s.p.c, .slice (s.u 0).a (s.u 0).n (s.u 0).c, .slice (s.u 1).a (s.u 1).n (s.u 1).c, .slice (s.u 2).a (s.u 2).n (s.u 2).c, .slice s.c.a s.c.n s.c.c] 91)).alloc (.cells #[.slice none 0 0, .slice none 0 0, .slice none 0 0, .slice none 0 0, .slice none 0 0, .slice none 0 0] 91) := ⟨_, rfl⟩
  have R0 := two_rooms HP.out hW0
  rw [← hW0]
  have R1 := Lib.hid R0.1
  have R2 := Lib.hid R0.2
  clear hW0 R0
  refine (HD.out W0 R1.out.bel).mono ?_
  rintro e9 w1 ⟨A, c, rfl, hr1, hc1, hb1⟩
  have R3 := Lib.hid (R1.out.next hb1)
  have R4 := Lib.hid (R2.out.next hb1)
  have P3 := Lib.hid (R3.out.pages ⟨A, s.p.n, c⟩ (Cl.drop d.f p) hr1)
  have R5 : Hid (Rm (w1.setCell ⟨w.heap.size, 1, none⟩ (.slice A s.p.n c)) (w.heap.size + 1) noHs) := Lib.hid (R4.out.same (set_others _ (by omega)) (Nat.le_of_eq set_size.symm))
  clear hr1 hc1 hb1 R1 R2
  have q0 := (R3.out.rm.box.box).c0
  have q1 := (R3.out.rm.box.box).c1
  have q2 := (R3.out.rm.box.box).c2
  have q3 := (R3.out.rm.box.box).c3
  have q4 := (R3.out.rm.box.box).c4
  have q5 := (R3.out.rm.box.box).c5
  have ql := (R3.out.rm.box.box).lt
  have y0 := (R3.out.rm.box).free 0
  have y1 := (R3.out.rm.box).free 1
  have y2 := (R3.out.rm.box).free 2
  have y3 := (R3.out.rm.box).free 3
  have y4 := (R3.out.rm.box).free 4
  have y5 := (R3.out.rm.box).free 5
  have x0 := (R4.out.box.box).c0
  have x1 := (R4.out.box.box).c1
  have x2 := (R4.out.box.box).c2
  have x3 := (R4.out.box.box).c3
  have x4 := (R4.out.box.box).c4
  have x5 := (R4.out.box.box).c5
  have xl := (R4.out.box.box).lt
  have z0 := (R4.out.box).free 0
  have z1 := (R4.out.box).free 1
  have z2 := (R4.out.box).free 2
  have z3 := (R4.out.box).free 3
  have z4 := (R4.out.box).free 4
  have z5 := (R4.out.box).free 5
  dsimp only [noHs, Ls.noSl] at x0 x1 x2 x3 x4 x5
  go_wp2
  refine bodyPost_ret (v := (.agg #[.slice (⟨s.w, ⟨A, s.p.n, c⟩, s.u, s.c⟩ : Hs).w.a (⟨s.w, ⟨A, s.p.n, c⟩, s.u, s.c⟩ : Hs).w.n (⟨s.w, ⟨A, s.p.n, c⟩, s.u, s.c⟩ : Hs).w.c, .slice (⟨s.w, ⟨A, s.p.n, c⟩, s.u, s.c⟩ : Hs).p.a (⟨s.w, ⟨A, s.p.n, c⟩, s.u, s.c⟩ : Hs).p.n (⟨s.w, ⟨A, s.p.n, c⟩, s.u, s.c⟩ : Hs).p.c, .slice ((⟨s.w, ⟨A, s.p.n, c⟩, s.u, s.c⟩ : Hs).u 0).a ((⟨s.w, ⟨A, s.p.n, c⟩, s.u, s.c⟩ : Hs).u 0).n ((⟨s.w, ⟨A, s.p.n, c⟩, s.u, s.c⟩ : Hs).u 0).c, .slice ((⟨s.w, ⟨A, s.p.n, c⟩, s.u, s.c⟩ : Hs).u 1).a ((⟨s.w, ⟨A, s.p.n, c⟩, s.u, s.c⟩ : Hs).u 1).n ((⟨s.w, ⟨A, s.p.n, c⟩, s.u, s.c⟩ : Hs).u 1).c, .slice ((⟨s.w, ⟨A, s.p.n, c⟩, s.u, s.c⟩ : Hs).u 2).a ((⟨s.w, ⟨A, s.p.n, c⟩, s.u, s.c⟩ : Hs).u 2).n ((⟨s.w, ⟨A, s.p.n, c⟩, s.u, s.c⟩ : Hs).u 2).c, .slice (⟨s.w, ⟨A, s.p.n, c⟩, s.u, s.c⟩ : Hs).c.a (⟨s.w, ⟨A, s.p.n, c⟩, s.u, s.c⟩ : Hs).c.n (⟨s.w, ⟨A, s.p.n, c⟩, s.u, s.c⟩ : Hs).c.c])) ?_ rfl (res_end (t := ⟨s.w, ⟨A, s.p.n, c⟩, s.u, s.c⟩) P3.out.bel P3.out.hp R5.out (by omega) ⟨rfl, rfl, rfl⟩)
  obtain ⟨k0, k1, k2, k3, k4, k5⟩ := put6_at R5.out.box (.slice s.w.a s.w.n s.w.c) (.slice A s.p.n c) (.slice (s.u 0).a (s.u 0).n (s.u 0).c) (.slice (s.u 1).a (s.u 1).n (s.u 1).c) (.slice (s.u 2).a (s.u 2).n (s.u 2).c) (.slice s.c.a s.c.n s.c.c)
  exact res_rdrop rfl k0 k1 k2 k3 k4 k5
/-- What giveBack asks. -/
theorem back_no {d : Hd_} {p : Nat} (h : ¬ (d.f p).1 = 1) : backD d p = d := by
  unfold backD givenB
  rw [decide_eq_false h]
  rfl
theorem back_less {d : Hd_} {p : Nat} (h : ((onFree d p).length : Int) < Cl.perPage (d.f p).2) : backD d p = d := by
  unfold backD givenB
  rw [decide_eq_true h]
  simp
theorem back_yes {d : Hd_} {p : Nat} (h1 : (d.f p).1 = 1) (h : ¬ ((onFree d p).length : Int) < Cl.perPage (d.f p).2) : backD d p = gaveD d p := by
  unfold backD givenB
  rw [decide_eq_true h1, decide_eq_false h]
  rfl
theorem drop_fine {f : Nat → Int × Int} {n p : Nat} (hm : Cl.mayB f n = true) (hp : p < n) (hk : (f p).1 = 1 ∨ (f p).1 = 2) : Cl.dropE f n (p : Int) = 0 := Cl.dropE_ok hm hp hk
set_option maxHeartbeats 2000000 in
theorem giveback_other (hp : Hp w w.heap.size s d) (hpn : p < s.p.n) (hk : ¬ (d.f p).1 = 1) : Calls Tryz.prog 68 #[(.agg #[.slice s.w.a s.w.n s.w.c, .slice s.p.a s.p.n s.p.c, .slice (s.u 0).a (s.u 0).n (s.u 0).c, .slice (s.u 1).a (s.u 1).n (s.u 1).c, .slice (s.u 2).a (s.u 2).n (s.u 2).c, .slice s.c.a s.c.n s.c.c]), .int .i64 (p : Int)] w (RoOut w s d) := by
  obtain ⟨b, off, e, hb, hc⟩ := hp.pages (show 0 < s.p.n by omega)
  obtain ⟨c0, c1⟩ := hc p hpn
  have HP := Lib.hid hp
  obtain ⟨⟨aw, nw, cw⟩, ⟨ap, np, cp⟩, su, ⟨ac, nc, cc⟩⟩ := s
  dsimp only at e hpn
  subst e
  have d1 : ((d.f p).1 != 1) = true := by simp [hk]
  obtain ⟨pk, hpk⟩ : ∃ pk, pk = (d.f p).1 := ⟨_, rfl⟩
  obtain ⟨pa, hpa⟩ : ∃ pa, pa = (d.f p).2 := ⟨_, rfl⟩
  rw [← hpk] at c0 d1
  rw [← hpa] at c1
  have i0 : (0 : Int) ≤ (p : Int) := by omega
  have i1 : (p : Int) < np := by omega
  have C0 := Lib.hid c0
  have C1 := Lib.hid c1
  have HB := Lib.hid hb
  clear hp hk hc hpk hpa c0 c1 hb hpn
  go_enter Tryz.func68, Tryz.ntmps68
  go_upto_region 1 with fail
  obtain ⟨W0, hW0⟩ : ∃ W0, W0 = (w.alloc (.cells #[.slice (⟨⟨aw, nw, cw⟩, ⟨some ⟨b, off, none⟩, np, cp⟩, su, ⟨ac, nc, cc⟩⟩ : Hs).w.a (⟨⟨aw, nw, cw⟩, ⟨some ⟨b, off, none⟩, np, cp⟩, su, ⟨ac, nc, cc⟩⟩ : Hs).w.n (⟨⟨aw, nw, cw⟩, ⟨some ⟨b, off, none⟩, np, cp⟩, su, ⟨ac, nc, cc⟩⟩ : Hs).w.c, .slice (⟨⟨aw, nw, cw⟩, ⟨some ⟨b, off, none⟩, np, cp⟩, su, ⟨ac, nc, cc⟩⟩ : Hs).p.a (⟨⟨aw, nw, cw⟩, ⟨some ⟨b, off, none⟩, np, cp⟩, su, ⟨ac, nc, cc⟩⟩ : Hs).p.n (⟨⟨aw, nw, cw⟩, ⟨some ⟨b, off, none⟩, np, cp⟩, su, ⟨ac, nc, cc⟩⟩ : Hs).p.c, .slice ((⟨⟨aw, nw, cw⟩, ⟨some ⟨b, off, none⟩, np, cp⟩, su, ⟨ac, nc, cc⟩⟩ : Hs).u 0).a ((⟨⟨aw, nw, cw⟩, ⟨some ⟨b, off, none⟩, np, cp⟩, su, ⟨ac, nc, cc⟩⟩ : Hs).u 0).n ((⟨⟨aw, nw, cw⟩, ⟨some ⟨b, off, none⟩, np, cp⟩, su, ⟨ac, nc, cc⟩⟩ : Hs).u 0).c, .slice ((⟨⟨aw, nw, cw⟩, ⟨some ⟨b, off, none⟩, np, cp⟩, su, ⟨ac, nc, cc⟩⟩ : Hs).u 1).a ((⟨⟨aw, nw, cw⟩, ⟨some ⟨b, off, none⟩, np, cp⟩, su, ⟨ac, nc, cc⟩⟩ : Hs).u 1).n ((⟨⟨aw, nw, cw⟩, ⟨some ⟨b, off, none⟩, np, cp⟩, su, ⟨ac, nc, cc⟩⟩ : Hs).u 1).c, .slice ((⟨⟨aw, nw, cw⟩, ⟨some ⟨b, off, none⟩, np, cp⟩, su, ⟨ac, nc, cc⟩⟩ : Hs).u 2).a ((⟨⟨aw, nw, cw⟩, ⟨some ⟨b, off, none⟩, np, cp⟩, su, ⟨ac, nc, cc⟩⟩ : Hs).u 2).n ((⟨⟨aw, nw, cw⟩, ⟨some ⟨b, off, none⟩, np, cp⟩, su, ⟨ac, nc, cc⟩⟩ : Hs).u 2).c, .slice (⟨⟨aw, nw, cw⟩, ⟨some ⟨b, off, none⟩, np, cp⟩, su, ⟨ac, nc, cc⟩⟩ : Hs).c.a (⟨⟨aw, nw, cw⟩, ⟨some ⟨b, off, none⟩, np, cp⟩, su, ⟨ac, nc, cc⟩⟩ : Hs).c.n (⟨⟨aw, nw, cw⟩, ⟨some ⟨b, off, none⟩, np, cp⟩, su, ⟨ac, nc, cc⟩⟩ : Hs).c.c] 91)).alloc (.cells #[.slice none 0 0, .slice none 0 0, .slice none 0 0, .slice none 0 0, .slice none 0 0, .slice none 0 0] 91) := ⟨_, rfl⟩
  have R0 := two_rooms HP.out hW0
  dsimp only at hW0
  rw [← hW0]
  have R1 := Lib.hid R0.1
  have R2 := Lib.hid R0.2
  clear hW0 R0
  have q0 := (R1.out.rm.box.box).c0
  have q1 := (R1.out.rm.box.box).c1
  have q2 := (R1.out.rm.box.box).c2
  have q3 := (R1.out.rm.box.box).c3
  have q4 := (R1.out.rm.box.box).c4
  have q5 := (R1.out.rm.box.box).c5
  have ql := (R1.out.rm.box.box).lt
  have x0 := (R2.out.box.box).c0
  have x1 := (R2.out.box.box).c1
  have x2 := (R2.out.box.box).c2
  have x3 := (R2.out.box.box).c3
  have x4 := (R2.out.box.box).c4
  have x5 := (R2.out.box.box).c5
  have xl := (R2.out.box.box).lt
  have z0 := (R2.out.box).free 0
  have z1 := (R2.out.box).free 1
  have z2 := (R2.out.box).free 2
  have z3 := (R2.out.box).free 3
  have z4 := (R2.out.box).free 4
  have z5 := (R2.out.box).free 5
  dsimp only [noHs, Ls.noSl] at x0 x1 x2 x3 x4 x5 q0 q1 q2 q3 q4 q5
  have c0 := (R1.out.bel.cell (p := ⟨b, off + p * 2, none⟩) HB.out).trans C0.out
  have c1 := (R1.out.bel.cell (p := ⟨b, off + p * 2 + 1, none⟩) HB.out).trans C1.out
  have cl : b < W0.heap.size := Nat.lt_of_lt_of_le HB.out R1.out.bel.size
  go_upto_region 2 with fail
  obtain ⟨W1, hW1⟩ : ∃ W1, W1 = W0.alloc (.cells #[.int .i64 pk, .int .i64 pa] 81) := ⟨_, rfl⟩
  have b2 : Below W0.heap.size W0 W1 := by rw [hW1]; exact (Below.refl _ _).alloc (Nat.le_refl _) _
  have p0 : W1.cell? ⟨W0.heap.size, 0, none⟩ = some (.int .i64 pk) := by rw [hW1]; simp [go_sem]
  have pl : W0.heap.size < W1.heap.size := by rw [hW1]; simp
  rw [← hW1]
  have R3 := Lib.hid (R1.out.next b2)
  have R4 := Lib.hid (R2.out.next b2)
  clear b2 hW1 c0 c1 cl z0 z1 z2 z3 z4 z5
  clear q0 q1 q2 q3 q4 q5 ql
  clear x0 x1 x2 x3 x4 x5 xl
  have q0 := (R3.out.rm.box.box).c0
  have q1 := (R3.out.rm.box.box).c1
  have q2 := (R3.out.rm.box.box).c2
  have q3 := (R3.out.rm.box.box).c3
  have q4 := (R3.out.rm.box.box).c4
  have q5 := (R3.out.rm.box.box).c5
  have ql := (R3.out.rm.box.box).lt
  have x0 := (R4.out.box.box).c0
  have x1 := (R4.out.box.box).c1
  have x2 := (R4.out.box.box).c2
  have x3 := (R4.out.box.box).c3
  have x4 := (R4.out.box.box).c4
  have x5 := (R4.out.box.box).c5
  have xl := (R4.out.box.box).lt
  have z0 := (R4.out.box).free 0
  have z1 := (R4.out.box).free 1
  have z2 := (R4.out.box).free 2
  have z3 := (R4.out.box).free 3
  have z4 := (R4.out.box).free 4
  have z5 := (R4.out.box).free 5
  dsimp only [noHs, Ls.noSl] at x0 x1 x2 x3 x4 x5 q0 q1 q2 q3 q4 q5
  go_wp2
  refine bodyPost_ret (v := (.agg #[.slice (⟨⟨aw, nw, cw⟩, ⟨some ⟨b, off, none⟩, np, cp⟩, su, ⟨ac, nc, cc⟩⟩ : Hs).w.a (⟨⟨aw, nw, cw⟩, ⟨some ⟨b, off, none⟩, np, cp⟩, su, ⟨ac, nc, cc⟩⟩ : Hs).w.n (⟨⟨aw, nw, cw⟩, ⟨some ⟨b, off, none⟩, np, cp⟩, su, ⟨ac, nc, cc⟩⟩ : Hs).w.c, .slice (⟨⟨aw, nw, cw⟩, ⟨some ⟨b, off, none⟩, np, cp⟩, su, ⟨ac, nc, cc⟩⟩ : Hs).p.a (⟨⟨aw, nw, cw⟩, ⟨some ⟨b, off, none⟩, np, cp⟩, su, ⟨ac, nc, cc⟩⟩ : Hs).p.n (⟨⟨aw, nw, cw⟩, ⟨some ⟨b, off, none⟩, np, cp⟩, su, ⟨ac, nc, cc⟩⟩ : Hs).p.c, .slice ((⟨⟨aw, nw, cw⟩, ⟨some ⟨b, off, none⟩, np, cp⟩, su, ⟨ac, nc, cc⟩⟩ : Hs).u 0).a ((⟨⟨aw, nw, cw⟩, ⟨some ⟨b, off, none⟩, np, cp⟩, su, ⟨ac, nc, cc⟩⟩ : Hs).u 0).n ((⟨⟨aw, nw, cw⟩, ⟨some ⟨b, off, none⟩, np, cp⟩, su, ⟨ac, nc, cc⟩⟩ : Hs).u 0).c, .slice ((⟨⟨aw, nw, cw⟩, ⟨some ⟨b, off, none⟩, np, cp⟩, su, ⟨ac, nc, cc⟩⟩ : Hs).u 1).a ((⟨⟨aw, nw, cw⟩, ⟨some ⟨b, off, none⟩, np, cp⟩, su, ⟨ac, nc, cc⟩⟩ : Hs).u 1).n ((⟨⟨aw, nw, cw⟩, ⟨some ⟨b, off, none⟩, np, cp⟩, su, ⟨ac, nc, cc⟩⟩ : Hs).u 1).c, .slice ((⟨⟨aw, nw, cw⟩, ⟨some ⟨b, off, none⟩, np, cp⟩, su, ⟨ac, nc, cc⟩⟩ : Hs).u 2).a ((⟨⟨aw, nw, cw⟩, ⟨some ⟨b, off, none⟩, np, cp⟩, su, ⟨ac, nc, cc⟩⟩ : Hs).u 2).n ((⟨⟨aw, nw, cw⟩, ⟨some ⟨b, off, none⟩, np, cp⟩, su, ⟨ac, nc, cc⟩⟩ : Hs).u 2).c, .slice (⟨⟨aw, nw, cw⟩, ⟨some ⟨b, off, none⟩, np, cp⟩, su, ⟨ac, nc, cc⟩⟩ : Hs).c.a (⟨⟨aw, nw, cw⟩, ⟨some ⟨b, off, none⟩, np, cp⟩, su, ⟨ac, nc, cc⟩⟩ : Hs).c.n (⟨⟨aw, nw, cw⟩, ⟨some ⟨b, off, none⟩, np, cp⟩, su, ⟨ac, nc, cc⟩⟩ : Hs).c.c])) ?_ rfl (res_end (t := ⟨⟨aw, nw, cw⟩, ⟨some ⟨b, off, none⟩, np, cp⟩, su, ⟨ac, nc, cc⟩⟩) R3.out.bel R3.out.hp R4.out (by omega) ⟨rfl, rfl, rfl⟩)
  obtain ⟨k0, k1, k2, k3, k4, k5⟩ := put6_at R4.out.box (.slice aw nw cw) (.slice (some ⟨b, off, none⟩) np cp) (.slice (su 0).a (su 0).n (su 0).c) (.slice (su 1).a (su 1).n (su 1).c) (.slice (su 2).a (su 2).n (su 2).c) (.slice ac nc cc)
  exact res_giveb rfl k0 k1 k2 k3 k4 k5
set_option maxHeartbeats 4000000 in
theorem giveback_small (k : Nat) (hk : k < 3) (hkind : d.f p = (1, (k : Int))) (hp : Hp w w.heap.size s d) (hpn : p < s.p.n) (hf : Fit s) (hm : Cl.mayB d.f s.p.n = true) (hz : Cl.Sz w) (hu : ∀ j, j < 3 → (s.u j).n ≤ 2000000) : Calls Tryz.prog 68 #[(.agg #[.slice s.w.a s.w.n s.w.c, .slice s.p.a s.p.n s.p.c, .slice (s.u 0).a (s.u 0).n (s.u 0).c, .slice (s.u 1).a (s.u 1).n (s.u 1).c, .slice (s.u 2).a (s.u 2).n (s.u 2).c, .slice s.c.a s.c.n s.c.c]), .int .i64 (p : Int)] w (RoOut w s (backD d p)) := by
  obtain ⟨b, off, e, hb, hc⟩ := hp.pages (show 0 < s.p.n by omega)
  obtain ⟨c0, c1⟩ := hc p hpn
  have h64 := hf.p
  have hwp := hf.wp
  have eo : onFree d p = Ls.inOf (16 + 16 * (p : Int)) (32 + 16 * (p : Int)) (d.F k) := by unfold onFree; rw [hkind]; rfl
  have HA : Hid (∀ w1, Calls Tryz.prog 105 #[.slice s.w.a s.w.n s.w.c, .int .i64 (p : Int)] w1 fun e w' => e = .returned (.tuple #[.int .i64 (16 + 16 * (p : Int)), .int .i64 0]) ∧ w1 = w') := Lib.hid (fun w1 => by
    have := Ar.at_ok s.w.a s.w.n s.w.c (p : Int) w1 hf.w (by omega) (by omega)
    rwa [show 16 + (p : Int) * 16 = 16 + 16 * (p : Int) by omega] at this)
  have HPT : Hid (∀ W, Below w.heap.size w W → Calls Tryz.prog 106 #[(.agg #[.slice (s.u 0).a (s.u 0).n (s.u 0).c, .slice (s.u 1).a (s.u 1).n (s.u 1).c, .slice (s.u 2).a (s.u 2).n (s.u 2).c]), .int .i64 (k : Int), .int .i64 (16 + 16 * (p : Int)), .int .i64 (16 + 16 * (p : Int) + 16)] W (Ls.PartOut W (Ls.upd d.F k (Ls.outOf (16 + 16 * (p : Int)) (32 + 16 * (p : Int)) (d.F k))) (onFree d p) 0)) := Lib.hid (fun W hb => by
    have := Ls.part_ok w.heap.size s.u d.F k hk (16 + 16 * (p : Int)) (32 + 16 * (p : Int)) W (fun j hj => ⟨(hp.free j hj).1.below hb, (hp.free j hj).2⟩) hb.size hu
    rw [← eo] at this
    rwa [show 32 + 16 * (p : Int) = 16 + 16 * (p : Int) + 16 by omega] at this ⊢)
  obtain ⟨m, hmm⟩ : ∃ m, m = Cl.perPage (k : Int) := ⟨_, rfl⟩
  have HC : Hid (∀ W, Below w.heap.size w W → Calls Tryz.prog 107 #[.int .i64 (k : Int)] W fun e w' => e = .returned (.int .i64 m) ∧ W = w') := Lib.hid (fun W hb => by rw [hmm]; exact Cl.cells_of _ W (hz.over hb hz.pos))
  have HDR : Hid (∀ (W : World) (t : Hs) (F : Nat → List Int), Hp W W.heap.size t ⟨d.ws, d.f, F, d.cs⟩ → t.p.n = s.p.n → Calls Tryz.prog 66 #[(.agg #[.slice t.w.a t.w.n t.w.c, .slice t.p.a t.p.n t.p.c, .slice (t.u 0).a (t.u 0).n (t.u 0).c, .slice (t.u 1).a (t.u 1).n (t.u 1).c, .slice (t.u 2).a (t.u 2).n (t.u 2).c, .slice t.c.a t.c.n t.c.c]), .int .i64 (p : Int)] W (RoOut W t ⟨d.ws, Cl.drop d.f p, F, d.cs⟩)) := Lib.hid (fun W t F h1 h2 => rdrop9_any t ⟨d.ws, d.f, F, d.cs⟩ p W h1 (by omega) (by rw [h2]; exact drop_fine hm hpn (.inl (by rw [hkind]))))
  have HE1 : Hid (((onFree d p).length : Int) < m → backD d p = d) := Lib.hid (fun h => back_less (by rw [hkind]; rw [← hmm]; exact h))
  have HE2 : Hid (m ≤ ((onFree d p).length : Int) → backD d p = ⟨d.ws, Cl.drop d.f p, Ls.upd d.F k (Ls.outOf (16 + 16 * (p : Int)) (32 + 16 * (p : Int)) (d.F k)), d.cs⟩) := Lib.hid (fun h => by
    rw [back_yes (by rw [hkind]) (by rw [hkind]; rw [← hmm]; exact Int.not_lt.2 h)]
    unfold gaveD
    rw [hkind]
    rfl)
  have HP := Lib.hid hp
  obtain ⟨⟨aw, nw, cw⟩, ⟨ap, np, cp⟩, su, ⟨ac, nc, cc⟩⟩ := s
  dsimp only at e hpn h64 hwp
  subst e
  rw [hkind] at c0 c1
  have i0 : (0 : Int) ≤ (p : Int) := by omega
  have i1 : (p : Int) < np := by omega
  have i2 : (p : Int) ≤ 64 := by omega
  have C0 := Lib.hid c0
  have C1 := Lib.hid c1
  have HB := Lib.hid hb
  clear hp hc c0 c1 hb hpn hf hm hz hu eo hwp h64 hmm hkind
  dsimp only at HA HPT HDR
  go_enter Tryz.func68, Tryz.ntmps68
  go_upto_region 1 with fail
  obtain ⟨W0, hW0⟩ : ∃ W0, W0 = (w.alloc (.cells #[.slice (⟨⟨aw, nw, cw⟩, ⟨some ⟨b, off, none⟩, np, cp⟩, su, ⟨ac, nc, cc⟩⟩ : Hs).w.a (⟨⟨aw, nw, cw⟩, ⟨some ⟨b, off, none⟩, np, cp⟩, su, ⟨ac, nc, cc⟩⟩ : Hs).w.n (⟨⟨aw, nw, cw⟩, ⟨some ⟨b, off, none⟩, np, cp⟩, su, ⟨ac, nc, cc⟩⟩ : Hs).w.c, .slice (⟨⟨aw, nw, cw⟩, ⟨some ⟨b, off, none⟩, np, cp⟩, su, ⟨ac, nc, cc⟩⟩ : Hs).p.a (⟨⟨aw, nw, cw⟩, ⟨some ⟨b, off, none⟩, np, cp⟩, su, ⟨ac, nc, cc⟩⟩ : Hs).p.n (⟨⟨aw, nw, cw⟩, ⟨some ⟨b, off, none⟩, np, cp⟩, su, ⟨ac, nc, cc⟩⟩ : Hs).p.c, .slice ((⟨⟨aw, nw, cw⟩, ⟨some ⟨b, off, none⟩, np, cp⟩, su, ⟨ac, nc, cc⟩⟩ : Hs).u 0).a ((⟨⟨aw, nw, cw⟩, ⟨some ⟨b, off, none⟩, np, cp⟩, su, ⟨ac, nc, cc⟩⟩ : Hs).u 0).n ((⟨⟨aw, nw, cw⟩, ⟨some ⟨b, off, none⟩, np, cp⟩, su, ⟨ac, nc, cc⟩⟩ : Hs).u 0).c, .slice ((⟨⟨aw, nw, cw⟩, ⟨some ⟨b, off, none⟩, np, cp⟩, su, ⟨ac, nc, cc⟩⟩ : Hs).u 1).a ((⟨⟨aw, nw, cw⟩, ⟨some ⟨b, off, none⟩, np, cp⟩, su, ⟨ac, nc, cc⟩⟩ : Hs).u 1).n ((⟨⟨aw, nw, cw⟩, ⟨some ⟨b, off, none⟩, np, cp⟩, su, ⟨ac, nc, cc⟩⟩ : Hs).u 1).c, .slice ((⟨⟨aw, nw, cw⟩, ⟨some ⟨b, off, none⟩, np, cp⟩, su, ⟨ac, nc, cc⟩⟩ : Hs).u 2).a ((⟨⟨aw, nw, cw⟩, ⟨some ⟨b, off, none⟩, np, cp⟩, su, ⟨ac, nc, cc⟩⟩ : Hs).u 2).n ((⟨⟨aw, nw, cw⟩, ⟨some ⟨b, off, none⟩, np, cp⟩, su, ⟨ac, nc, cc⟩⟩ : Hs).u 2).c, .slice (⟨⟨aw, nw, cw⟩, ⟨some ⟨b, off, none⟩, np, cp⟩, su, ⟨ac, nc, cc⟩⟩ : Hs).c.a (⟨⟨aw, nw, cw⟩, ⟨some ⟨b, off, none⟩, np, cp⟩, su, ⟨ac, nc, cc⟩⟩ : Hs).c.n (⟨⟨aw, nw, cw⟩, ⟨some ⟨b, off, none⟩, np, cp⟩, su, ⟨ac, nc, cc⟩⟩ : Hs).c.c] 91)).alloc (.cells #[.slice none 0 0, .slice none 0 0, .slice none 0 0, .slice none 0 0, .slice none 0 0, .slice none 0 0] 91) := ⟨_, rfl⟩
  have R0 := two_rooms HP.out hW0
  dsimp only at hW0
  rw [← hW0]
  have R1 := Lib.hid R0.1
  have R2 := Lib.hid R0.2
  clear hW0 R0
  have q0 := (R1.out.rm.box.box).c0
  have q1 := (R1.out.rm.box.box).c1
  have q2 := (R1.out.rm.box.box).c2
  have q3 := (R1.out.rm.box.box).c3
  have q4 := (R1.out.rm.box.box).c4
  have q5 := (R1.out.rm.box.box).c5
  have ql := (R1.out.rm.box.box).lt
  dsimp only at q0 q1 q2 q3 q4 q5
  have c0 := (R1.out.bel.cell (p := ⟨b, off + p * 2, none⟩) HB.out).trans C0.out
  have c1 := (R1.out.bel.cell (p := ⟨b, off + p * 2 + 1, none⟩) HB.out).trans C1.out
  have cl : b < W0.heap.size := Nat.lt_of_lt_of_le HB.out R1.out.bel.size
  go_wp2_with fail
  obtain ⟨W1, hW1⟩ : ∃ W1, W1 = W0.alloc (.cells #[.int .i64 1, .int .i64 (k : Int)] 81) := ⟨_, rfl⟩
  have b2 : Below W0.heap.size W0 W1 := by rw [hW1]; exact (Below.refl _ _).alloc (Nat.le_refl _) _
  have p0 : W1.cell? ⟨W0.heap.size, 0, none⟩ = some (.int .i64 1) := by rw [hW1]; simp [go_sem]
  have p1 : W1.cell? ⟨W0.heap.size, 1, none⟩ = some (.int .i64 (k : Int)) := by rw [hW1]; simp [go_sem]
  have pl : W0.heap.size < W1.heap.size := by rw [hW1]; simp
  rw [← hW1]
  clear hW1 c0 c1 cl
  clear q0 q1 q2 q3 q4 q5 ql
  have R3 := Lib.hid (R1.out.next b2)
  have R4 := Lib.hid (R2.out.next b2)
  clear b2 R1 R2
  refine (HA.out W1).mono ?_
  rintro e9 w2 ⟨rfl, rfl⟩
  have q0 := (R3.out.rm.box.box).c0
  have q1 := (R3.out.rm.box.box).c1
  have q2 := (R3.out.rm.box.box).c2
  have q3 := (R3.out.rm.box.box).c3
  have q4 := (R3.out.rm.box.box).c4
  have q5 := (R3.out.rm.box.box).c5
  have ql := (R3.out.rm.box.box).lt
  dsimp only at q0 q1 q2 q3 q4 q5
  go_wp2_with fail
  refine (HPT.out W1 R3.out.bel).mono ?_
  rintro e9 w3 ⟨u, v, rfl, hl3, hrow, hb3⟩
  have R5 := R3.out.next hb3
  have R6 := R4.out.next hb3
  have p2 := (hb3.cell (p := ⟨W0.heap.size, 1, none⟩) pl).trans p1
  have pl2 : W0.heap.size < w3.heap.size := Nat.lt_of_lt_of_le pl hb3.size
  have hvn : ((onFree d p).length : Int) = v.n := by rw [hrow.1.1]
  rw [hvn] at HE1 HE2
  have U3 := Lib.hid hl3
  clear hl3 hrow hb3 p0 p1 pl hvn R3 R4
  clear q0 q1 q2 q3 q4 q5 ql
  obtain ⟨W4, hW4⟩ : ∃ W4, W4 = w3.alloc (.cells #[.slice (u 0).a (u 0).n (u 0).c, .slice (u 1).a (u 1).n (u 1).c, .slice (u 2).a (u 2).n (u 2).c] 25) := ⟨_, rfl⟩
  have b4 : Below w3.heap.size w3 W4 := by rw [hW4]; exact (Below.refl _ _).alloc (Nat.le_refl _) _
  have B4 : Ls.Box3 W4 w3.heap.size u := by rw [hW4]; exact Ls.Box3.new w3 u _
  have R7 := Lib.hid (R5.next b4)
  have R8 := Lib.hid (R6.next b4)
  have U4 := Lib.hid (Ls.L3.next U3.out b4)
  have p3 := (b4.cell (p := ⟨W0.heap.size, 1, none⟩) pl2).trans p2
  have pl3 : W0.heap.size < W4.heap.size := Nat.lt_of_lt_of_le pl2 b4.size
  have u0 := B4.cell 0 (by decide)
  have u1 := B4.cell 1 (by decide)
  have u2 := B4.cell 2 (by decide)
  have ul := B4.lt
  go_wp2_with fail
  rw [← hW4]
  clear hW4 b4 B4 p2 pl2 R5 R6 U3
  refine (HC.out W4 R7.out.bel).mono ?_
  rintro e9 w5 ⟨rfl, rfl⟩
  clear p3 pl3
  have q0 := (R7.out.rm.box.box).c0
  have q1 := (R7.out.rm.box.box).c1
  have q2 := (R7.out.rm.box.box).c2
  have q3 := (R7.out.rm.box.box).c3
  have q4 := (R7.out.rm.box.box).c4
  have q5 := (R7.out.rm.box.box).c5
  have ql := (R7.out.rm.box.box).lt
  have y0 := (R7.out.rm.box).free 0
  have y1 := (R7.out.rm.box).free 1
  have y2 := (R7.out.rm.box).free 2
  have y3 := (R7.out.rm.box).free 3
  have y4 := (R7.out.rm.box).free 4
  have y5 := (R7.out.rm.box).free 5
  have x0 := (R8.out.box.box).c0
  have x1 := (R8.out.box.box).c1
  have x2 := (R8.out.box.box).c2
  have x3 := (R8.out.box.box).c3
  have x4 := (R8.out.box.box).c4
  have x5 := (R8.out.box.box).c5
  have xl := (R8.out.box.box).lt
  have z0 := (R8.out.box).free 0
  have z1 := (R8.out.box).free 1
  have z2 := (R8.out.box).free 2
  have z3 := (R8.out.box).free 3
  have z4 := (R8.out.box).free 4
  have z5 := (R8.out.box).free 5
  dsimp only [noHs, Ls.noSl] at x0 x1 x2 x3 x4 x5 q0 q1 q2 q3 q4 q5
  by_cases hlt : (v.n : Int) < m
  · have d1 : decide ((v.n : Int) < m) = true := by simpa using hlt
    have E := Lib.hid (HE1.out hlt)
    clear hlt HE1 HE2 u0 u1 u2 ul
    go_wp2
    refine bodyPost_ret (v := (.agg #[.slice (⟨⟨aw, nw, cw⟩, ⟨some ⟨b, off, none⟩, np, cp⟩, su, ⟨ac, nc, cc⟩⟩ : Hs).w.a (⟨⟨aw, nw, cw⟩, ⟨some ⟨b, off, none⟩, np, cp⟩, su, ⟨ac, nc, cc⟩⟩ : Hs).w.n (⟨⟨aw, nw, cw⟩, ⟨some ⟨b, off, none⟩, np, cp⟩, su, ⟨ac, nc, cc⟩⟩ : Hs).w.c, .slice (⟨⟨aw, nw, cw⟩, ⟨some ⟨b, off, none⟩, np, cp⟩, su, ⟨ac, nc, cc⟩⟩ : Hs).p.a (⟨⟨aw, nw, cw⟩, ⟨some ⟨b, off, none⟩, np, cp⟩, su, ⟨ac, nc, cc⟩⟩ : Hs).p.n (⟨⟨aw, nw, cw⟩, ⟨some ⟨b, off, none⟩, np, cp⟩, su, ⟨ac, nc, cc⟩⟩ : Hs).p.c, .slice ((⟨⟨aw, nw, cw⟩, ⟨some ⟨b, off, none⟩, np, cp⟩, su, ⟨ac, nc, cc⟩⟩ : Hs).u 0).a ((⟨⟨aw, nw, cw⟩, ⟨some ⟨b, off, none⟩, np, cp⟩, su, ⟨ac, nc, cc⟩⟩ : Hs).u 0).n ((⟨⟨aw, nw, cw⟩, ⟨some ⟨b, off, none⟩, np, cp⟩, su, ⟨ac, nc, cc⟩⟩ : Hs).u 0).c, .slice ((⟨⟨aw, nw, cw⟩, ⟨some ⟨b, off, none⟩, np, cp⟩, su, ⟨ac, nc, cc⟩⟩ : Hs).u 1).a ((⟨⟨aw, nw, cw⟩, ⟨some ⟨b, off, none⟩, np, cp⟩, su, ⟨ac, nc, cc⟩⟩ : Hs).u 1).n ((⟨⟨aw, nw, cw⟩, ⟨some ⟨b, off, none⟩, np, cp⟩, su, ⟨ac, nc, cc⟩⟩ : Hs).u 1).c, .slice ((⟨⟨aw, nw, cw⟩, ⟨some ⟨b, off, none⟩, np, cp⟩, su, ⟨ac, nc, cc⟩⟩ : Hs).u 2).a ((⟨⟨aw, nw, cw⟩, ⟨some ⟨b, off, none⟩, np, cp⟩, su, ⟨ac, nc, cc⟩⟩ : Hs).u 2).n ((⟨⟨aw, nw, cw⟩, ⟨some ⟨b, off, none⟩, np, cp⟩, su, ⟨ac, nc, cc⟩⟩ : Hs).u 2).c, .slice (⟨⟨aw, nw, cw⟩, ⟨some ⟨b, off, none⟩, np, cp⟩, su, ⟨ac, nc, cc⟩⟩ : Hs).c.a (⟨⟨aw, nw, cw⟩, ⟨some ⟨b, off, none⟩, np, cp⟩, su, ⟨ac, nc, cc⟩⟩ : Hs).c.n (⟨⟨aw, nw, cw⟩, ⟨some ⟨b, off, none⟩, np, cp⟩, su, ⟨ac, nc, cc⟩⟩ : Hs).c.c])) ?_ rfl ((congrArg (fun D => RoOut w _ D _ _) E.out).mpr (res_end (t := ⟨⟨aw, nw, cw⟩, ⟨some ⟨b, off, none⟩, np, cp⟩, su, ⟨ac, nc, cc⟩⟩) R7.out.bel R7.out.hp R8.out (by omega) ⟨rfl, rfl, rfl⟩))
    obtain ⟨k0, k1, k2, k3, k4, k5⟩ := put6_at R8.out.box (.slice aw nw cw) (.slice (some ⟨b, off, none⟩) np cp) (.slice (su 0).a (su 0).n (su 0).c) (.slice (su 1).a (su 1).n (su 1).c) (.slice (su 2).a (su 2).n (su 2).c) (.slice ac nc cc)
    exact res_giveb rfl k0 k1 k2 k3 k4 k5
  · have d1 : decide ((v.n : Int) < m) = false := by simpa using hlt
    have E := Lib.hid (HE2.out (Int.not_lt.1 hlt))
    have R9 := Lib.hid (R7.out.free3 u _ U4.out)
    have RX : Hid (Rm (((W4.setCell ⟨w.heap.size, 2, none⟩ (.slice (u 0).a (u 0).n (u 0).c)).setCell ⟨w.heap.size, 3, none⟩ (.slice (u 1).a (u 1).n (u 1).c)).setCell ⟨w.heap.size, 4, none⟩ (.slice (u 2).a (u 2).n (u 2).c)) (w.heap.size + 1) noHs) := Lib.hid (R8.out.same (set3_others _ (by omega)) (by simp))
    clear hlt HE1 HE2 x0 x1 x2 x3 x4 x5 xl z0 z1 z2 z3 z4 z5
    go_wp2_with fail
    refine (HDR.out _ ⟨⟨aw, nw, cw⟩, ⟨some ⟨b, off, none⟩, np, cp⟩, u, ⟨ac, nc, cc⟩⟩ _ R9.out.hp rfl).mono ?_
    rintro e9 w7 ⟨t7, rfl, hp7, hl7, hb7⟩
    have RY := Lib.hid (RX.out.next hb7)
    have T7 := Lib.hid (And.intro hp7 hl7)
    have BY := Lib.hid (R9.out.bel.trans (hb7.mono R9.out.bel.size))
    clear hp7 hl7 hb7 u0 u1 u2 ul y0 y1 y2 y3 y4 y5
    clear q0 q1 q2 q3 q4 q5 ql
    have x0 := (RY.out.box.box).c0
    have x1 := (RY.out.box.box).c1
    have x2 := (RY.out.box.box).c2
    have x3 := (RY.out.box.box).c3
    have x4 := (RY.out.box.box).c4
    have x5 := (RY.out.box.box).c5
    have xl := (RY.out.box.box).lt
    have z0 := (RY.out.box).free 0
    have z1 := (RY.out.box).free 1
    have z2 := (RY.out.box).free 2
    have z3 := (RY.out.box).free 3
    have z4 := (RY.out.box).free 4
    have z5 := (RY.out.box).free 5
    dsimp only [noHs, Ls.noSl] at x0 x1 x2 x3 x4 x5
    go_wp2
    refine bodyPost_ret (v := (.agg #[.slice t7.w.a t7.w.n t7.w.c, .slice t7.p.a t7.p.n t7.p.c, .slice (t7.u 0).a (t7.u 0).n (t7.u 0).c, .slice (t7.u 1).a (t7.u 1).n (t7.u 1).c, .slice (t7.u 2).a (t7.u 2).n (t7.u 2).c, .slice t7.c.a t7.c.n t7.c.c])) ?_ rfl ((congrArg (fun D => RoOut w _ D _ _) E.out).mpr (res_end (t := t7) BY.out T7.out.1 RY.out (by omega) T7.out.2))
    obtain ⟨k0, k1, k2, k3, k4, k5⟩ := put6_at RY.out.box (.slice t7.w.a t7.w.n t7.w.c) (.slice t7.p.a t7.p.n t7.p.c) (.slice (t7.u 0).a (t7.u 0).n (t7.u 0).c) (.slice (t7.u 1).a (t7.u 1).n (t7.u 1).c) (.slice (t7.u 2).a (t7.u 2).n (t7.u 2).c) (.slice t7.c.a t7.c.n t7.c.c)
    exact res_giveb rfl k0 k1 k2 k3 k4 k5
theorem giveback_any (hp : Hp w w.heap.size s d) (hpn : p < s.p.n) (hf : Fit s) (hm : Cl.mayB d.f s.p.n = true) (hz : Cl.Sz w) (hu : ∀ j, j < 3 → (s.u j).n ≤ 2000000) : Calls Tryz.prog 68 #[(.agg #[.slice s.w.a s.w.n s.w.c, .slice s.p.a s.p.n s.p.c, .slice (s.u 0).a (s.u 0).n (s.u 0).c, .slice (s.u 1).a (s.u 1).n (s.u 1).c, .slice (s.u 2).a (s.u 2).n (s.u 2).c, .slice s.c.a s.c.n s.c.c]), .int .i64 (p : Int)] w (RoOut w s (backD d p)) := by
  by_cases h1 : (d.f p).1 = 1
  · obtain ⟨hk, e⟩ := small_kind hm hpn h1
    exact giveback_small s d p w _ hk e hp hpn hf hm hz hu
  · rw [back_no h1]
    exact giveback_other s d p w hp hpn h1
end
end Go.Proofs.YtcbnefjfoeanoaaGreatDoor
