/-
  Package reap's copied: a heap with memory of its own.
-/
import Derived.Test.YtcbnefjfoeanoaaGreatDoorYRpRoom
import Derived.Test.YtcbnefjfoeanoaaGreatDoorHpZK
import Derived.Deep.Cut
import Derived.Deep.CutRange
namespace Go.Proofs.YtcbnefjfoeanoaaGreatDoor
open Go.RowKit
set_option maxRecDepth 100000

/-- The box that a call holds its heap in, and its result's. -/
structure Rr (w W : World) (t : Hs) (d : Hd_) : Prop where
  ro : Ro w W w.heap.size t d
  rm : Rm W (w.heap.size + 1) noHs
section
variable {w W W' : World} {t : Hs} {d : Hd_}
theorem Rr.next (h : Rr w W t d) (hb : Below W.heap.size W W') : Rr w W' t d := ⟨h.ro.next hb, h.rm.next hb⟩
theorem Rr.drew (h : Rr w W t d) : Rr w W.drew t d := h.next (below_drawn' (Below.refl _ _) 1)
theorem Rr.words (h : Rr w W t d) (v : Ls.Sl) (ws : List Int) (hr : Row W W.heap.size v.a v.n ws) : Rr w (W.setCell ⟨w.heap.size, 0, none⟩ (.slice v.a v.n v.c)) ⟨v, t.p, t.u, t.c⟩ ⟨ws, d.f, d.F, d.cs⟩ := ⟨h.ro.words v ws hr, h.rm.same (set_others _ (by omega)) (Nat.le_of_eq set_size.symm)⟩
theorem Rr.pages (h : Rr w W t d) (v : Ls.Sl) (f : Nat → Int × Int) (hr : Cl.PRow W W.heap.size v.a v.n f) : Rr w (W.setCell ⟨w.heap.size, 1, none⟩ (.slice v.a v.n v.c)) ⟨t.w, v, t.u, t.c⟩ ⟨d.ws, f, d.F, d.cs⟩ := ⟨h.ro.pages v f hr, h.rm.same (set_others _ (by omega)) (Nat.le_of_eq set_size.symm)⟩
theorem Rr.cards (h : Rr w W t d) (v : Ls.Sl) (cs : Nat → Bool) (hr : BRow W W.heap.size v.a v.n cs) : Rr w (W.setCell ⟨w.heap.size, 5, none⟩ (.slice v.a v.n v.c)) ⟨t.w, t.p, t.u, v⟩ ⟨d.ws, d.f, d.F, cs⟩ := ⟨h.ro.cards v cs hr, h.rm.same (set_others _ (by omega)) (Nat.le_of_eq set_size.symm)⟩
theorem Rr.free3 (h : Rr w W t d) (v : Nat → Ls.Sl) (F : Nat → List Int) (hl : Ls.L3 W W.heap.size v F) : Rr w (((W.setCell ⟨w.heap.size, 2, none⟩ (.slice (v 0).a (v 0).n (v 0).c)).setCell ⟨w.heap.size, 3, none⟩ (.slice (v 1).a (v 1).n (v 1).c)).setCell ⟨w.heap.size, 4, none⟩ (.slice (v 2).a (v 2).n (v 2).c)) ⟨t.w, t.p, v, t.c⟩ ⟨d.ws, d.f, F, d.cs⟩ := ⟨h.ro.free3 v F hl, h.rm.same (set3_others _ (by omega)) (by simp)⟩
theorem rr_start {s : Hs} {t1 t2 : TypeId} (hp : Hp w w.heap.size s d) (hW : W = (w.alloc (.cells #[.slice s.w.a s.w.n s.w.c, .slice s.p.a s.p.n s.p.c, .slice (s.u 0).a (s.u 0).n (s.u 0).c, .slice (s.u 1).a (s.u 1).n (s.u 1).c, .slice (s.u 2).a (s.u 2).n (s.u 2).c, .slice s.c.a s.c.n s.c.c] t1)).alloc (.cells #[.slice none 0 0, .slice none 0 0, .slice none 0 0, .slice none 0 0, .slice none 0 0, .slice none 0 0] t2)) : Rr w W s d := ⟨(two_rooms hp hW).1, (two_rooms hp hW).2⟩
theorem row_next {n : Nat} {a : Option Addr} {xs : List Int} (h : Row W W.heap.size a n xs) (hb : Below W.heap.size W W') : Row W' W'.heap.size a n xs := (h.below hb).more hb.size
theorem prow_set {b k : Nat} {v : Value} {n : Nat} {a : Option Addr} {f : Nat → Int × Int} (hS : Slices W b) (h : Cl.PRow W W.heap.size a n f) : Cl.PRow (W.setCell ⟨b, k, none⟩ v) (W.setCell ⟨b, k, none⟩ v).heap.size a n f := fun hn => by
  obtain ⟨b', off, e, hlt, hc⟩ := h hn
  rw [set_size]
  refine ⟨b', off, e, hlt, fun i hi => ?_⟩
  have hb' := set_others (W := W) (b := b) (k := k) (v := v) b' (hS.prow h hn _ e)
  exact ⟨(World.cell?_of_block (a := ⟨b', off + i * 2, none⟩) hb').trans (hc i hi).1, (World.cell?_of_block (a := ⟨b', off + i * 2 + 1, none⟩) hb').trans (hc i hi).2⟩
theorem brow_set {b k : Nat} {v : Value} {n : Nat} {a : Option Addr} {f : Nat → Bool} (hS : Slices W b) (h : BRow W W.heap.size a n f) : BRow (W.setCell ⟨b, k, none⟩ v) (W.setCell ⟨b, k, none⟩ v).heap.size a n f := fun hn => by
  obtain ⟨b', off, e, hlt, hc⟩ := h hn
  rw [set_size]
  exact ⟨b', off, e, hlt, fun i hi => (World.cell?_of_block (a := ⟨b', off + i, none⟩) (set_others (W := W) (b := b) (k := k) (v := v) b' (hS.brow h hn _ e))).trans (hc i hi)⟩
/-- Words, pages and cards are stored at once. -/
theorem Rr.three (h : Rr w W t d) (vw vp vc : Ls.Sl) (hw : Row W W.heap.size vw.a vw.n d.ws) (hp : Cl.PRow W W.heap.size vp.a vp.n d.f) (hc : BRow W W.heap.size vc.a vc.n d.cs) :
    Rr w (((W.setCell ⟨w.heap.size, 0, none⟩ (.slice vw.a vw.n vw.c)).setCell ⟨w.heap.size, 1, none⟩ (.slice vp.a vp.n vp.c)).setCell ⟨w.heap.size, 5, none⟩ (.slice vc.a vc.n vc.c)) ⟨vw, vp, t.u, vc⟩ d := by
  have h1 := h.words vw d.ws hw
  have h2 := h1.pages vp d.f (prow_set h.ro.rm.sl hp)
  exact h2.cards vc d.cs (brow_set h1.ro.rm.sl (brow_set h.ro.rm.sl hc))
end
theorem res_rcopied {W : World} {b : Nat} {tm : Array Value} {v0 v1 v2 v3 v4 v5 : Value} (ht : tm[2]? = some (.pointer (some ⟨b, 0, none⟩))) (k0 : W.cell? ⟨b, 0, none⟩ = some v0) (k1 : W.cell? ⟨b, 1, none⟩ = some v1) (k2 : W.cell? ⟨b, 2, none⟩ = some v2) (k3 : W.cell? ⟨b, 3, none⟩ = some v3) (k4 : W.cell? ⟨b, 4, none⟩ = some v4) (k5 : W.cell? ⟨b, 5, none⟩ = some v5) :
    (results Tryz.f63 tm).run Tryz.prog W = .ok (.agg #[v0, v1, v2, v3, v4, v5]) W := by
  simp [results, Tryz.results63, go_sem, ht, k0, k1, k2, k3, k4, k5]
theorem upd_nil (d : Hd_) : (⟨d.ws, d.f, Ls.upd d.F 0 (d.F 0 ++ []), d.cs⟩ : Hd_) = d := by
  have e : Ls.upd d.F 0 (d.F 0 ++ []) = d.F := by
    funext j
    unfold Ls.upd
    split
    · next h => rw [h, List.append_nil]
    · rfl
  rw [e]
set_option maxHeartbeats 4000000 in
theorem rcopied_any (s : Hs) (d : Hd_) (w : World) (hp : Hp w w.heap.size s d) (hf : Fine s d) (hfb : firstB s d = true) : Calls Tryz.prog 63 #[(.agg #[.slice s.w.a s.w.n s.w.c, .slice s.p.a s.p.n s.p.c, .slice (s.u 0).a (s.u 0).n (s.u 0).c, .slice (s.u 1).a (s.u 1).n (s.u 1).c, .slice (s.u 2).a (s.u 2).n (s.u 2).c, .slice s.c.a s.c.n s.c.c])] w (RoOut w s d) := by
  have hpos : 0 < s.p.n ∧ 0 < s.c.n := by
    unfold firstB at hfb
    simp only [Bool.and_eq_true, decide_eq_true_eq] at hfb
    have := ((Cl.mayB_iff _ _).1 hfb.2.1).1
    omega
  have hun : ∀ j, j < 3 → (s.u j).n ≤ 2000000 := fun j hj => by
    have h1 := hf.len
    rw [show (Ls.upTo d.F 3).length = (d.F 0).length + (d.F 1).length + (d.F 2).length by simp [Ls.upTo, List.range_succ]; omega] at h1
    have h2 := hp.free.len j hj
    rcases (show j = 0 ∨ j = 1 ∨ j = 2 by omega) with rfl | rfl | rfl <;> omega
  have C1 := Lib.hid (fun W (h : Below w.heap.size w W) => iclone_any w.heap.size s.w.a s.w.n s.w.c d.ws W (by have := hf.wn; omega) h.size (hp.words.below h))
  have C2 := Lib.hid (fun W (h : Below w.heap.size w W) => Cl.pclone_ok w.heap.size s.p.a s.p.n s.p.c d.f W hpos.1 (by have := hf.pn; omega) (hp.pages.below h))
  have C3 := Lib.hid (fun W (h : Below w.heap.size w W) => bclone_ok w.heap.size s.c.a s.c.n s.c.c d.cs W hpos.2 (by have := hf.cn; omega) (hp.cards.below h))
  have C4 := Lib.hid (fun W (h : Below w.heap.size w W) => Ls.push_ok w.heap.size s.u d.F 0 (by decide) none 0 0 [] W (fun j hj => ⟨(hp.free j hj).1.below h, (hp.free j hj).2⟩) h.size hun ⟨rfl, fun h0 => absurd h0 (by omega)⟩ (by omega))
  have HWN : Hid (s.w.n = d.ws.length) := Lib.hid hp.words.1.symm
  have HP := Lib.hid hp
  clear hp hf hfb hpos hun
  go_enter Tryz.func63, Tryz.ntmps63
  go_wp2_with fail
  obtain ⟨W0, hW0⟩ : ∃ W0, W0 = (w.alloc (.cells #[.slice s.w.a s.w.n s.w.c, .slice s.p.a s.p.n s.p.c, .slice (s.u 0).a (s.u 0).n (s.u 0).c, .slice (s.u 1).a (s.u 1).n (s.u 1).c, .slice (s.u 2).a (s.u 2).n (s.u 2).c, .slice s.c.a s.c.n s.c.c] 28)).alloc (.cells #[.slice none 0 0, .slice none 0 0, .slice none 0 0, .slice none 0 0, .slice none 0 0, .slice none 0 0] 28) := ⟨_, rfl⟩
  have K0 := Lib.hid (rr_start HP.out hW0)
  rw [← hW0]
  clear hW0
  go_cut [5] from 5 to 16 (fun _ wc => ∃ t : Hs, Hid (Rr w wc t d ∧ (t.w.n = s.w.n ∧ t.p.n = s.p.n ∧ t.c.n = s.c.n) ∧ t.u = s.u))
  case first =>
    have q0 := K0.out.ro.rm.box.box.c0
    have q1 := K0.out.ro.rm.box.box.c1
    have q5 := K0.out.ro.rm.box.box.c5
    have ql := K0.out.ro.rm.box.box.lt
    go_region_with (first
      | ((go_at_call 80; refine (C1.out _ (below_drawn' K0.out.ro.bel 1)).mono ?_; rintro e w5 ⟨v5, rfl, ho5, hb5⟩; have K5 := Lib.hid (K0.out.drew.next hb5); have R5 := Lib.hid (own_off ho5 (b := w.heap.size) (by have := K0.out.rm.box.box.lt; show _ ≤ W0.heap.size; omega)); have q1 := K5.out.ro.rm.box.box.c1; have q5 := K5.out.ro.rm.box.box.c5; have ql := K5.out.ro.rm.box.box.lt; clear ho5 hb5))
      | ((go_at_call 81; refine (C2.out _ K5.out.ro.bel).mono ?_; rintro e w6 ⟨g6, c6, rfl, hm6, hb6⟩; have K6 := Lib.hid (K5.out.next hb6); have M6 := Lib.hid hm6; have R6 := Lib.hid (And.intro (row_next R5.out.1 hb6) R5.out.2); have q5 := K6.out.ro.rm.box.box.c5; have ql := K6.out.ro.rm.box.box.lt; clear hb6 hm6))
      | ((go_at_call 82; refine (C3.out _ K6.out.ro.bel).mono ?_; rintro e w7 ⟨g7, c7, rfl, hm7, hb7, hl7, hbel7⟩; have K7 := Lib.hid (K6.out.next hbel7); have M7 := Lib.hid (prow_more (M6.out.row.below hbel7) hbel7.size); have N7 := Lib.hid hm7; have L7 := Lib.hid hl7; have R7 := Lib.hid (And.intro (row_next R6.out.1 hbel7) R6.out.2); have q0 := K7.out.ro.rm.box.box.c0; have q1 := K7.out.ro.rm.box.box.c1; have q5 := K7.out.ro.rm.box.box.c5; have f0 := K7.out.ro.rm.box.free 0; have f1 := K7.out.ro.rm.box.free 1; have f5 := K7.out.ro.rm.box.free 5; have ql := K7.out.ro.rm.box.box.lt; clear hbel7 hm7 hb7 hl7)))
    all_goals go_wp2_with fail
    all_goals go_meet
    all_goals exact ⟨⟨v5, ⟨some ⟨g6, 0, none⟩, s.p.n, c6⟩, s.u, ⟨some ⟨g7, 0, none⟩, s.c.n, c7⟩⟩, Lib.hid ⟨K7.out.three v5 ⟨some ⟨g6, 0, none⟩, s.p.n, c6⟩ ⟨some ⟨g7, 0, none⟩, s.c.n, c7⟩ R7.out.1 M7.out (fun _ => ⟨g7, 0, rfl, L7.out, fun i hi => by rw [Nat.zero_add]; exact N7.out i hi⟩), ⟨by have := R7.out.1.1; have := HWN.out; show v5.n = _; omega, rfl, rfl⟩, rfl⟩⟩
  case rest =>
    obtain ⟨t0, HT⟩ := hcut
    have hu0 := HT.out.2.2
    obtain ⟨tw, tp, tu, tc⟩ := t0
    dsimp only at hu0
    subst hu0
    have q2 := HT.out.1.ro.rm.box.box.c2
    have q3 := HT.out.1.ro.rm.box.box.c3
    have q4 := HT.out.1.ro.rm.box.box.c4
    have ql := HT.out.1.ro.rm.box.box.lt
    dsimp only at q2 q3 q4
    go_wp2_with fail
    refine (C4.out _ HT.out.1.ro.bel).mono ?_
    rintro e w5 ⟨v, rfl, hv5, hb5⟩
    rw [show Ls.upd d.F 0 (d.F 0 ++ []) = d.F from congrArg Hd_.F (upd_nil d)] at hv5
    have K5 := Lib.hid (HT.out.1.next hb5)
    have V5 := Lib.hid hv5
    clear hv5 hb5 q2 q3 q4 ql
    have KS := Lib.hid (K5.out.free3 v d.F V5.out)
    have LN : Hid (tw.n = s.w.n ∧ tp.n = s.p.n ∧ tc.n = s.c.n) := Lib.hid HT.out.2.1
    have q0 := (K5.out.ro.rm.box.box).c0
    have q1 := (K5.out.ro.rm.box.box).c1
    have q2 := (K5.out.ro.rm.box.box).c2
    have q3 := (K5.out.ro.rm.box.box).c3
    have q4 := (K5.out.ro.rm.box.box).c4
    have q5 := (K5.out.ro.rm.box.box).c5
    have ql := (K5.out.ro.rm.box.box).lt
    have y0 := (K5.out.ro.rm.box).free 0
    have y1 := (K5.out.ro.rm.box).free 1
    have y2 := (K5.out.ro.rm.box).free 2
    have y3 := (K5.out.ro.rm.box).free 3
    have y4 := (K5.out.ro.rm.box).free 4
    have y5 := (K5.out.ro.rm.box).free 5
    have x0 := (K5.out.rm.box.box).c0
    have x1 := (K5.out.rm.box.box).c1
    have x2 := (K5.out.rm.box.box).c2
    have x3 := (K5.out.rm.box.box).c3
    have x4 := (K5.out.rm.box.box).c4
    have x5 := (K5.out.rm.box.box).c5
    have xl := (K5.out.rm.box.box).lt
    have z0 := (K5.out.rm.box).free 0
    have z1 := (K5.out.rm.box).free 1
    have z2 := (K5.out.rm.box).free 2
    have z3 := (K5.out.rm.box).free 3
    have z4 := (K5.out.rm.box).free 4
    have z5 := (K5.out.rm.box).free 5
    dsimp only [noHs, Ls.noSl] at x0 x1 x2 x3 x4 x5 q0 q1 q2 q3 q4 q5
    clear HT C1 C2 C3 C4
    go_wp2
    refine bodyPost_ret (v := (.agg #[.slice (⟨tw, tp, v, tc⟩ : Hs).w.a (⟨tw, tp, v, tc⟩ : Hs).w.n (⟨tw, tp, v, tc⟩ : Hs).w.c, .slice (⟨tw, tp, v, tc⟩ : Hs).p.a (⟨tw, tp, v, tc⟩ : Hs).p.n (⟨tw, tp, v, tc⟩ : Hs).p.c, .slice ((⟨tw, tp, v, tc⟩ : Hs).u 0).a ((⟨tw, tp, v, tc⟩ : Hs).u 0).n ((⟨tw, tp, v, tc⟩ : Hs).u 0).c, .slice ((⟨tw, tp, v, tc⟩ : Hs).u 1).a ((⟨tw, tp, v, tc⟩ : Hs).u 1).n ((⟨tw, tp, v, tc⟩ : Hs).u 1).c, .slice ((⟨tw, tp, v, tc⟩ : Hs).u 2).a ((⟨tw, tp, v, tc⟩ : Hs).u 2).n ((⟨tw, tp, v, tc⟩ : Hs).u 2).c, .slice (⟨tw, tp, v, tc⟩ : Hs).c.a (⟨tw, tp, v, tc⟩ : Hs).c.n (⟨tw, tp, v, tc⟩ : Hs).c.c])) ?_ rfl (res_end (t := ⟨tw, tp, v, tc⟩) KS.out.ro.bel KS.out.ro.hp KS.out.rm (by omega) LN.out)
    obtain ⟨k0, k1, k2, k3, k4, k5⟩ := put6_at KS.out.rm.box (.slice tw.a tw.n tw.c) (.slice tp.a tp.n tp.c) (.slice (v 0).a (v 0).n (v 0).c) (.slice (v 1).a (v 1).n (v 1).c) (.slice (v 2).a (v 2).n (v 2).c) (.slice tc.a tc.n tc.c)
    exact res_rcopied rfl k0 k1 k2 k3 k4 k5
end Go.Proofs.YtcbnefjfoeanoaaGreatDoor
