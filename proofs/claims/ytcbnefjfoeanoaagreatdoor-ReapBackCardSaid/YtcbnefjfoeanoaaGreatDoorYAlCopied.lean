/-
  Package alloc's copied: a heap with memory of its own.
-/
import Derived.Test.YtcbnefjfoeanoaaGreatDoorYAlOwn
import Derived.Test.YtcbnefjfoeanoaaGreatDoorHpZL
import Derived.Test.YtcbnefjfoeanoaaGreatDoorHpZK
namespace Go.Proofs.YtcbnefjfoeanoaaGreatDoor
open Go.RowKit
set_option maxRecDepth 100000

/-- A copy was returned. -/
def ACopyOut (w : World) (s : Hs) (d : Hd_) (e : Ending) (w' : World) : Prop :=
  ∃ t : Hs, e = .returned (.agg #[.slice t.w.a t.w.n t.w.c, .slice t.p.a t.p.n t.p.c, .slice (t.u 0).a (t.u 0).n (t.u 0).c, .slice (t.u 1).a (t.u 1).n (t.u 1).c, .slice (t.u 2).a (t.u 2).n (t.u 2).c, .slice t.c.a t.c.n t.c.c]) ∧ Hp w' w'.heap.size t d ∧ Lens s t ∧ t.p.n ≤ t.p.c ∧ Below w.heap.size w w'
def tri4 (a b c : Ls.Sl) : Nat → Ls.Sl := fun | 0 => a | 1 => b | _ => c
theorem tri4_all {P : Ls.Sl → Nat → Prop} {a b c : Ls.Sl} (h0 : P a 0) (h1 : P b 1) (h2 : P c 2) : ∀ j, j < 3 → P (tri4 a b c j) j := fun j hj => by
  rcases (show j = 0 ∨ j = 1 ∨ j = 2 by omega) with rfl | rfl | rfl
  · exact h0
  · exact h1
  · exact h2
theorem Cp.one {w W : World} {t : Hs} {d : Hd_} (h : Cp w W t d) (u' : Nat → Ls.Sl) (k : Nat) (x : Value) (hu : ∀ j, j < 3 → (Row W W.heap.size (u' j).a (u' j).n (d.F j) ∧ (u' j).n ≤ (u' j).c ∧ (u' j).c ≤ maxLen) ∧ Off w.heap.size (u' j)) (hk : 2 ≤ k ∧ k < 5)
    (e2 : Value.slice (u' 0).a (u' 0).n (u' 0).c = if 2 = k then x else .slice (t.u 0).a (t.u 0).n (t.u 0).c) (e3 : Value.slice (u' 1).a (u' 1).n (u' 1).c = if 3 = k then x else .slice (t.u 1).a (t.u 1).n (t.u 1).c)
    (e4 : Value.slice (u' 2).a (u' 2).n (u' 2).c = if 4 = k then x else .slice (t.u 2).a (t.u 2).n (t.u 2).c) : Cp w (W.setCell ⟨w.heap.size, k, none⟩ x) ⟨t.w, t.p, u', t.c⟩ d :=
  h.set k x ⟨h.hp.words, h.hp.pages, fun j hj => (hu j hj).1, h.hp.cards⟩ h.ow h.op (fun j hj => (hu j hj).2) h.oc (by rw [if_neg (by omega)]) (by rw [if_neg (by omega)]) e2 e3 e4 (by rw [if_neg (by omega)])
theorem Cp.free3 {w W : World} {t : Hs} {d : Hd_} (h : Cp w W t d) (v : Nat → Ls.Sl) (hv : Ls.Own3 W (w.heap.size + 2) v d.F) :
    Cp w (((W.setCell ⟨w.heap.size, 2, none⟩ (.slice (v 0).a (v 0).n (v 0).c)).setCell ⟨w.heap.size, 3, none⟩ (.slice (v 1).a (v 1).n (v 1).c)).setCell ⟨w.heap.size, 4, none⟩ (.slice (v 2).a (v 2).n (v 2).c)) ⟨t.w, t.p, v, t.c⟩ d := by
  have key : ∀ {X : World} {t' : Hs}, Cp w X t' d → Ls.Own3 X (w.heap.size + 2) v d.F → ∀ j, j < 3 → ((Row X X.heap.size (t'.u j).a (t'.u j).n (d.F j) ∧ (t'.u j).n ≤ (t'.u j).c ∧ (t'.u j).c ≤ maxLen) ∧ Off w.heap.size (t'.u j)) ∧ ((Row X X.heap.size (v j).a (v j).n (d.F j) ∧ (v j).n ≤ (v j).c ∧ (v j).c ≤ maxLen) ∧ Off w.heap.size (v j)) := fun hX hO j hj =>
    ⟨⟨hX.hp.free j hj, hX.ou j hj⟩, hO.l3 j hj, fun _ x hx => by have := (hO.block j hj hx).1; omega⟩
  have own : ∀ {X : World} (k : Nat) (x : Value), Ls.Own3 X (w.heap.size + 2) v d.F → Ls.Own3 (X.setCell ⟨w.heap.size, k, none⟩ x) (w.heap.size + 2) v d.F := fun k x hO => hO.setBelow (p := ⟨w.heap.size, k, none⟩) (by show w.heap.size < _; omega) x
  have k1 := key h hv
  have h1 := h.one (tri4 (v 0) (t.u 1) (t.u 2)) 2 (.slice (v 0).a (v 0).n (v 0).c) (tri4_all (P := fun y j => (Row W W.heap.size y.a y.n (d.F j) ∧ y.n ≤ y.c ∧ y.c ≤ maxLen) ∧ Off w.heap.size y) (k1 0 (by decide)).2 (k1 1 (by decide)).1 (k1 2 (by decide)).1) (by decide) rfl rfl rfl
  have o1 := own 2 (.slice (v 0).a (v 0).n (v 0).c) hv
  have k2 := key h1 o1
  have h2 := h1.one (tri4 (v 0) (v 1) (t.u 2)) 3 (.slice (v 1).a (v 1).n (v 1).c) (tri4_all (P := fun y j => (Row _ _ y.a y.n (d.F j) ∧ y.n ≤ y.c ∧ y.c ≤ maxLen) ∧ Off w.heap.size y) (k2 0 (by decide)).2 (k2 1 (by decide)).2 (k2 2 (by decide)).1) (by decide) rfl rfl rfl
  have o2 := own 3 (.slice (v 1).a (v 1).n (v 1).c) o1
  have k3 := key h2 o2
  exact h2.one v 4 (.slice (v 2).a (v 2).n (v 2).c) (fun j hj => (k3 j hj).2) (by decide) rfl rfl rfl
theorem acp_end {w W : World} {s t : Hs} {d : Hd_} (h : Cp w W t d) (hl : Lens s t) (pc : t.p.n ≤ t.p.c) (v0 v1 v2 v3 v4 v5 : Value) : ACopyOut w s d (.returned (.agg #[.slice t.w.a t.w.n t.w.c, .slice t.p.a t.p.n t.p.c, .slice (t.u 0).a (t.u 0).n (t.u 0).c, .slice (t.u 1).a (t.u 1).n (t.u 1).c, .slice (t.u 2).a (t.u 2).n (t.u 2).c, .slice t.c.a t.c.n t.c.c])) (put6 W (w.heap.size + 1) v0 v1 v2 v3 v4 v5) :=
  ⟨t, rfl, hp_off h.hp h.ow h.op h.ou h.oc (fun _ _ hk => put6_other _ _ _ _ _ _ _ _ hk) (put6_size _ _ _ _ _ _ _ _).symm, hl, pc, below_put6 h.bel (by omega) _ _ _ _ _ _⟩
theorem res_acopied {W : World} {b : Nat} {tm : Array Value} {v0 v1 v2 v3 v4 v5 : Value} (ht : tm[2]? = some (.pointer (some ⟨b, 0, none⟩))) (k0 : W.cell? ⟨b, 0, none⟩ = some v0) (k1 : W.cell? ⟨b, 1, none⟩ = some v1) (k2 : W.cell? ⟨b, 2, none⟩ = some v2) (k3 : W.cell? ⟨b, 3, none⟩ = some v3) (k4 : W.cell? ⟨b, 4, none⟩ = some v4) (k5 : W.cell? ⟨b, 5, none⟩ = some v5) :
    (results Tryz.f35 tm).run Tryz.prog W = .ok (.agg #[v0, v1, v2, v3, v4, v5]) W := by
  simp [results, Tryz.results35, go_sem, ht, k0, k1, k2, k3, k4, k5]
set_option maxHeartbeats 4000000 in
theorem acopied_any (s : Hs) (d : Hd_) (w : World) (hp : Hp w w.heap.size s d) (hf : Fine s d) (hfb : firstB s d = true) : Calls Tryz.prog 35 #[(.agg #[.slice s.w.a s.w.n s.w.c, .slice s.p.a s.p.n s.p.c, .slice (s.u 0).a (s.u 0).n (s.u 0).c, .slice (s.u 1).a (s.u 1).n (s.u 1).c, .slice (s.u 2).a (s.u 2).n (s.u 2).c, .slice s.c.a s.c.n s.c.c])] w (ACopyOut w s d) := by
  have hpos : 0 < s.p.n ∧ 0 < s.c.n := by
    unfold firstB at hfb
    simp only [Bool.and_eq_true, decide_eq_true_eq] at hfb
    have := ((Cl.mayB_iff _ _).1 hfb.2.1).1
    omega
  have hun : ∀ j, j < 3 → (s.u j).n ≤ 2000000 := fun j hj => by
    have h1 := hf.len
    rw [show (Ls.upTo d.F 3).length = (d.F 0).length + (d.F 1).length + (d.F 2).length by simp [Ls.upTo, List.range_succ]; omega] at h1
    have h2 := hp.free.len j hj
    rcases (show j = 0 ∨ j = 1 ∨ j = 2 by omega) with rfl | rfl | rfl <;> omega
  have C1 := Lib.hid (fun W (h : Below w.heap.size w W) => iclone_any w.heap.size s.w.a s.w.n s.w.c d.ws W (by have := hf.wn; omega) h.size (hp.words.below h))
  have C2 := Lib.hid (fun W (h : Below w.heap.size w W) => Cl.pclone_ok w.heap.size s.p.a s.p.n s.p.c d.f W hpos.1 (by have := hf.pn; omega) (hp.pages.below h))
  have C3 := Lib.hid (fun W (h : Below w.heap.size w W) => bclone_ok w.heap.size s.c.a s.c.n s.c.c d.cs W hpos.2 (by have := hf.cn; omega) (hp.cards.below h))
  have C4 := Lib.hid (fun j (hj : j < 3) W (h : Below w.heap.size w W) => iclone_any w.heap.size (s.u j).a (s.u j).n (s.u j).c (d.F j) W (hun j hj) h.size ((hp.free j hj).1.below h))
  have HWN : Hid (s.w.n = d.ws.length) := Lib.hid hp.words.1.symm
  have HUN : Hid (∀ j, j < 3 → (s.u j).n = (d.F j).length) := Lib.hid hp.free.len
  have HP := Lib.hid hp
  have LUN := Lib.hid hun
  clear hp hf hfb hpos hun
  go_enter Tryz.func35, Tryz.ntmps35
  go_wp2_with fail
  obtain ⟨W0, hW0⟩ : ∃ W0, W0 = (w.alloc (.cells #[.slice s.w.a s.w.n s.w.c, .slice s.p.a s.p.n s.p.c, .slice (s.u 0).a (s.u 0).n (s.u 0).c, .slice (s.u 1).a (s.u 1).n (s.u 1).c, .slice (s.u 2).a (s.u 2).n (s.u 2).c, .slice s.c.a s.c.n s.c.c] 28)).alloc (.cells #[.slice none 0 0, .slice none 0 0, .slice none 0 0, .slice none 0 0, .slice none 0 0, .slice none 0 0] 28) := ⟨_, rfl⟩
  have K0 := Lib.hid (cp_start HP.out hW0)
  rw [← hW0]
  clear hW0
  go_cut [5] from 5 to 16 (fun _ wc => ∃ t : Hs, Hid (Cp w wc t d ∧ Lens s t ∧ t.u = s.u ∧ t.p.n ≤ t.p.c))
  case first =>
    have q0 := K0.out.box.box.c0
    have q1 := K0.out.box.box.c1
    have q5 := K0.out.box.box.c5
    have ql := K0.out.box.box.lt
    go_region_with (first
      | ((go_at_call 80; refine (C1.out _ (below_drawn' K0.out.bel 1)).mono ?_; rintro e w5 ⟨v5, rfl, ho5, hb5⟩; have K5 := Lib.hid (K0.out.drew.next hb5); have R5 := Lib.hid (own_off ho5 (b := w.heap.size) (by have := K0.out.res.box.lt; show _ ≤ W0.heap.size; omega)); have q1 := K5.out.box.box.c1; have q5 := K5.out.box.box.c5; have ql := K5.out.box.box.lt; clear ho5 hb5))
      | ((go_at_call 81; refine (C2.out _ K5.out.bel).mono ?_; rintro e w6 ⟨g6, c6, rfl, hm6, hb6⟩; have K6 := Lib.hid (K5.out.next hb6); have M6 := Lib.hid hm6; have C6 := Lib.hid hm6.2.2.2.1; have R6 := Lib.hid (And.intro ((R5.out.1.below hb6).more hb6.size) R5.out.2); have g6b : w.heap.size + 2 ≤ g6 := (by have := hm6.2.1; have := K5.out.res.box.lt; omega); have q5 := K6.out.box.box.c5; have ql := K6.out.box.box.lt; clear hb6 hm6))
      | ((go_at_call 82; refine (C3.out _ K6.out.bel).mono ?_; rintro e w7 ⟨g7, c7, rfl, hm7, hb7, hl7, hbel7⟩; have K7 := Lib.hid (K6.out.next hbel7); have M7 := Lib.hid (prow_more (M6.out.row.below hbel7) hbel7.size); have N7 := Lib.hid hm7; have L7 := Lib.hid hl7; have R7 := Lib.hid (And.intro ((R6.out.1.below hbel7).more hbel7.size) R6.out.2); have g7b : w.heap.size + 2 ≤ g7 := (by have := K6.out.res.box.lt; omega); have q0 := K7.out.box.box.c0; have q1 := K7.out.box.box.c1; have q5 := K7.out.box.box.c5; have f0 := K7.out.box.free 0; have f1 := K7.out.box.free 1; have f5 := K7.out.box.free 5; have ql := K7.out.box.box.lt; clear hbel7 hm7 hb7 hl7)))
    all_goals go_wp2_with fail
    all_goals go_meet
    all_goals exact ⟨⟨v5, ⟨some ⟨g6, 0, none⟩, s.p.n, c6⟩, s.u, ⟨some ⟨g7, 0, none⟩, s.c.n, c7⟩⟩, Lib.hid ⟨K7.out.three (t := ⟨v5, ⟨some ⟨g6, 0, none⟩, s.p.n, c6⟩, s.u, ⟨some ⟨g7, 0, none⟩, s.c.n, c7⟩⟩) ⟨R7.out.1, M7.out, K7.out.hp.free, fun _ => ⟨g7, 0, rfl, L7.out, fun i hi => by rw [Nat.zero_add]; exact N7.out i hi⟩⟩ R7.out.2.2.2.1 (off_new _ _ _ g6b) (off_new _ _ _ g7b) rfl, ⟨by have := R7.out.1.1; have := HWN.out; show v5.n = _; omega, rfl, fun _ _ => rfl, rfl⟩, rfl, C6.out⟩⟩
  case rest =>
    obtain ⟨t0, HT⟩ := hcut
    have q2 := HT.out.1.box.box.c2
    have q3 := HT.out.1.box.box.c3
    have q4 := HT.out.1.box.box.c4
    have ql := HT.out.1.box.box.lt
    rw [HT.out.2.2.1] at q2 q3 q4
    have HUL : Hid (∀ j, j < 3 → (s.u j).n ≤ 2000000) := Lib.hid LUN.out
    have HL3 : Hid (∀ W, Cp w W t0 d → Ls.L3 W W.heap.size s.u d.F) := Lib.hid (fun W h => by have := h.hp.free; rwa [HT.out.2.2.1] at this)
    go_wp2_with fail
    refine (Ls.aown_any _ s.u d.F _ (HL3.out _ HT.out.1) (Nat.le_refl _) HUL.out).mono ?_
    rintro e w5 ⟨v, rfl, ho5, hb5⟩
    have K5 := HT.out.1.next hb5
    have q2 := K5.box.box.c2
    have q3 := K5.box.box.c3
    have q4 := K5.box.box.c4
    have f2 := K5.box.free 2
    have f3 := K5.box.free 3
    have f4 := K5.box.free 4
    have ql := K5.box.box.lt
    have hs2 := HT.out.1.res.box.lt
    have KS := Lib.hid (K5.free3 v (ho5.less (by omega)))
    have OV := Lib.hid (And.intro ho5 True.intro)
    have LN : Hid (Lens s ⟨t0.w, t0.p, v, t0.c⟩) := Lib.hid ⟨HT.out.2.1.1, HT.out.2.1.2.1, fun j hj => by have h1 := ho5.l3.len j hj; have h2 := HP.out.free.len j hj; show (v j).n = _; omega, HT.out.2.1.2.2.2⟩
    have q0 := K5.box.box.c0
    have q1 := K5.box.box.c1
    have q5 := K5.box.box.c5
    have x0 := K5.res.box.c0
    have x1 := K5.res.box.c1
    have x2 := K5.res.box.c2
    have x3 := K5.res.box.c3
    have x4 := K5.res.box.c4
    have x5 := K5.res.box.c5
    have xl := K5.res.box.lt
    dsimp only [noHs, Ls.noSl] at x0 x1 x2 x3 x4 x5
    have y0 := K5.res.free 0
    have y1 := K5.res.free 1
    have y2 := K5.res.free 2
    have y3 := K5.res.free 3
    have y4 := K5.res.free 4
    have y5 := K5.res.free 5
    have PC := Lib.hid HT.out.2.2.2
    clear ho5 hb5 K5 hs2 HT HL3
    go_wp2
    refine bodyPost_ret (v := (.agg #[.slice (⟨t0.w, t0.p, v, t0.c⟩ : Hs).w.a (⟨t0.w, t0.p, v, t0.c⟩ : Hs).w.n (⟨t0.w, t0.p, v, t0.c⟩ : Hs).w.c, .slice (⟨t0.w, t0.p, v, t0.c⟩ : Hs).p.a (⟨t0.w, t0.p, v, t0.c⟩ : Hs).p.n (⟨t0.w, t0.p, v, t0.c⟩ : Hs).p.c, .slice ((⟨t0.w, t0.p, v, t0.c⟩ : Hs).u 0).a ((⟨t0.w, t0.p, v, t0.c⟩ : Hs).u 0).n ((⟨t0.w, t0.p, v, t0.c⟩ : Hs).u 0).c, .slice ((⟨t0.w, t0.p, v, t0.c⟩ : Hs).u 1).a ((⟨t0.w, t0.p, v, t0.c⟩ : Hs).u 1).n ((⟨t0.w, t0.p, v, t0.c⟩ : Hs).u 1).c, .slice ((⟨t0.w, t0.p, v, t0.c⟩ : Hs).u 2).a ((⟨t0.w, t0.p, v, t0.c⟩ : Hs).u 2).n ((⟨t0.w, t0.p, v, t0.c⟩ : Hs).u 2).c, .slice (⟨t0.w, t0.p, v, t0.c⟩ : Hs).c.a (⟨t0.w, t0.p, v, t0.c⟩ : Hs).c.n (⟨t0.w, t0.p, v, t0.c⟩ : Hs).c.c])) ?_ rfl (acp_end KS.out LN.out PC.out _ _ _ _ _ _)
    obtain ⟨k0, k1, k2, k3, k4, k5⟩ := put6_at KS.out.res (.slice t0.w.a t0.w.n t0.w.c) (.slice t0.p.a t0.p.n t0.p.c) (.slice (v 0).a (v 0).n (v 0).c) (.slice (v 1).a (v 1).n (v 1).c) (.slice (v 2).a (v 2).n (v 2).c) (.slice t0.c.a t0.c.n t0.c.c)
    exact res_acopied rfl k0 k1 k2 k3 k4 k5
end Go.Proofs.YtcbnefjfoeanoaaGreatDoor
