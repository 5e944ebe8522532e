/-
  Package heap's copied: a heap with memory of its own.
-/
import Derived.Test.YthgcaehhjiccbaaGreatDoorHpZL
import Derived.Test.YthgcaehhjiccbaaGreatDoorZHpObj
namespace Go.Proofs.YthgcaehhjiccbaaGreatDoor
open Go.RowKit
set_option maxRecDepth 100000

theorem res_copied {W : World} {b : Nat} {tm : Array Value} {v0 v1 v2 v3 v4 v5 : Value} (ht : tm[2]? = some (.pointer (some ⟨b, 0, none⟩))) (k0 : W.cell? ⟨b, 0, none⟩ = some v0) (k1 : W.cell? ⟨b, 1, none⟩ = some v1) (k2 : W.cell? ⟨b, 2, none⟩ = some v2) (k3 : W.cell? ⟨b, 3, none⟩ = some v3) (k4 : W.cell? ⟨b, 4, none⟩ = some v4) (k5 : W.cell? ⟨b, 5, none⟩ = some v5) :
    (results Tryz.f36 tm).run Tryz.prog W = .ok (.agg #[v0, v1, v2, v3, v4, v5]) W := by
  simp [results, Tryz.results36, go_sem, ht, k0, k1, k2, k3, k4, k5]
set_option maxHeartbeats 4000000 in
theorem hcopied_any (s : Hs) (d : Hd_) (w : World) (hp : Hp w w.heap.size s d) (hf : Fine s d) (hfb : firstB s d = true) : Calls Tryz.prog 36 #[(.agg #[.slice s.w.a s.w.n s.w.c, .slice s.p.a s.p.n s.p.c, .slice (s.u 0).a (s.u 0).n (s.u 0).c, .slice (s.u 1).a (s.u 1).n (s.u 1).c, .slice (s.u 2).a (s.u 2).n (s.u 2).c, .slice s.c.a s.c.n s.c.c])] w (CopyOut w s d) := by
  have hpos : 0 < s.p.n ∧ 0 < s.c.n := by
    unfold firstB at hfb
    simp only [Bool.and_eq_true, decide_eq_true_eq] at hfb
    have := ((Cl.mayB_iff _ _).1 hfb.2.1).1
    omega
  have hun : ∀ j, j < 3 → (s.u j).n ≤ 2000000 := fun j hj => by
    have h1 := hf.len
    rw [show (Ls.upTo d.F 3).length = (d.F 0).length + (d.F 1).length + (d.F 2).length by simp [Ls.upTo, List.range_succ]; omega] at h1
    have h2 := hp.free.len j hj
    rcases (show j = 0 ∨ j = 1 ∨ j = 2 by omega) with rfl | rfl | rfl <;> omega
  have C1 := Lib.hid (fun W (h : Below w.heap.size w W) => iclone_any w.heap.size s.w.a s.w.n s.w.c d.ws W (by have := hf.wn; omega) h.size (hp.words.below h))
  have C2 := Lib.hid (fun W (h : Below w.heap.size w W) => Cl.pclone_ok w.heap.size s.p.a s.p.n s.p.c d.f W hpos.1 (by have := hf.pn; omega) (hp.pages.below h))
  have C3 := Lib.hid (fun W (h : Below w.heap.size w W) => bclone_ok w.heap.size s.c.a s.c.n s.c.c d.cs W hpos.2 (by have := hf.cn; omega) (hp.cards.below h))
  have C4 := Lib.hid (fun j (hj : j < 3) W (h : Below w.heap.size w W) => iclone_any w.heap.size (s.u j).a (s.u j).n (s.u j).c (d.F j) W (hun j hj) h.size ((hp.free j hj).1.below h))
  have HWN : Hid (s.w.n = d.ws.length) := Lib.hid hp.words.1.symm
  have HUN : Hid (∀ j, j < 3 → (s.u j).n = (d.F j).length) := Lib.hid hp.free.len
  have HP := Lib.hid hp
  clear hp hf hfb hpos hun
  go_enter Tryz.func36, Tryz.ntmps36
  go_wp2_with fail
  obtain ⟨W0, hW0⟩ : ∃ W0, W0 = (w.alloc (.cells #[.slice s.w.a s.w.n s.w.c, .slice s.p.a s.p.n s.p.c, .slice (s.u 0).a (s.u 0).n (s.u 0).c, .slice (s.u 1).a (s.u 1).n (s.u 1).c, .slice (s.u 2).a (s.u 2).n (s.u 2).c, .slice s.c.a s.c.n s.c.c] 28)).alloc (.cells #[.slice none 0 0, .slice none 0 0, .slice none 0 0, .slice none 0 0, .slice none 0 0, .slice none 0 0] 28) := ⟨_, rfl⟩
  have K0 := Lib.hid (cp_start HP.out hW0)
  rw [← hW0]
  clear hW0
  go_cut [5] from 5 to 16 (fun _ wc => ∃ t : Hs, Hid (Cp w wc t d ∧ Lens s t ∧ t.u = s.u ∧ New w.heap.size t.w ∧ New w.heap.size t.p ∧ New w.heap.size t.c))
  case first =>
    have q0 := K0.out.box.box.c0
    have q1 := K0.out.box.box.c1
    have q5 := K0.out.box.box.c5
    have ql := K0.out.box.box.lt
    go_region_with (first
      | ((go_at_call 76; refine (C1.out _ (below_drawn' K0.out.bel 1)).mono ?_; rintro e w5 ⟨v5, rfl, ho5, hb5⟩; have K5 := Lib.hid (K0.out.drew.next hb5); have R5 := Lib.hid (own_off ho5 (b := w.heap.size) (by have := K0.out.res.box.lt; show _ ≤ W0.heap.size; omega)); have q1 := K5.out.box.box.c1; have q5 := K5.out.box.box.c5; have ql := K5.out.box.box.lt; clear ho5 hb5))
      | ((go_at_call 77; refine (C2.out _ K5.out.bel).mono ?_; rintro e w6 ⟨g6, c6, rfl, hm6, hb6⟩; have K6 := Lib.hid (K5.out.next hb6); have M6 := Lib.hid hm6; have R6 := Lib.hid (And.intro ((R5.out.1.below hb6).more hb6.size) R5.out.2); have g6b : w.heap.size + 2 ≤ g6 := (by have := hm6.2.1; have := K5.out.res.box.lt; omega); have q5 := K6.out.box.box.c5; have ql := K6.out.box.box.lt; clear hb6 hm6))
      | ((go_at_call 78; refine (C3.out _ K6.out.bel).mono ?_; rintro e w7 ⟨g7, c7, rfl, hm7, hb7, hl7, hbel7⟩; have K7 := Lib.hid (K6.out.next hbel7); have M7 := Lib.hid (prow_more (M6.out.row.below hbel7) hbel7.size); have N7 := Lib.hid hm7; have L7 := Lib.hid hl7; have R7 := Lib.hid (And.intro ((R6.out.1.below hbel7).more hbel7.size) R6.out.2); have g7b : w.heap.size + 2 ≤ g7 := (by have := K6.out.res.box.lt; omega); have q0 := K7.out.box.box.c0; have q1 := K7.out.box.box.c1; have q5 := K7.out.box.box.c5; have f0 := K7.out.box.free 0; have f1 := K7.out.box.free 1; have f5 := K7.out.box.free 5; have ql := K7.out.box.box.lt; clear hbel7 hm7 hb7 hl7)))
    all_goals go_wp2_with fail
    all_goals go_meet
    all_goals exact ⟨⟨v5, ⟨some ⟨g6, 0, none⟩, s.p.n, c6⟩, s.u, ⟨some ⟨g7, 0, none⟩, s.c.n, c7⟩⟩, Lib.hid ⟨K7.out.three (t := ⟨v5, ⟨some ⟨g6, 0, none⟩, s.p.n, c6⟩, s.u, ⟨some ⟨g7, 0, none⟩, s.c.n, c7⟩⟩) ⟨R7.out.1, M7.out, K7.out.hp.free, fun _ => ⟨g7, 0, rfl, L7.out, fun i hi => by rw [Nat.zero_add]; exact N7.out i hi⟩⟩ R7.out.2.2.2.1 (off_new _ _ _ g6b) (off_new _ _ _ g7b) rfl, ⟨by have := R7.out.1.1; have := HWN.out; show v5.n = _; omega, rfl, fun _ _ => rfl, rfl⟩, rfl, R7.out.2.2.2.2, new_new _ _ _ g6b, new_new _ _ _ g7b⟩⟩
  case rest =>
    obtain ⟨t0, HT⟩ := hcut
    have q2 := HT.out.1.box.box.c2
    have q3 := HT.out.1.box.box.c3
    have q4 := HT.out.1.box.box.c4
    have ql := HT.out.1.box.box.lt
    rw [HT.out.2.2.1] at q2 q3 q4
    go_wp2
    go_loopw [19] (fun i wr => ∃ (k : Nat) (z : Int) (t : Hs), z = k ∧ k ≤ 3 ∧ i = .int .i64 z ∧ Hid (Cp w wr t d ∧ Lens s t ∧ New w.heap.size t.w ∧ New w.heap.size t.p ∧ New w.heap.size t.c ∧ ∀ j, j < k → New w.heap.size (t.u j))) (fun i _ => 3 - (intOf i).toNat)
    case atStart => exact ⟨0, 0, t0, rfl, by omega, rfl, Lib.hid ⟨HT.out.1, HT.out.2.1, HT.out.2.2.2.1, HT.out.2.2.2.2.1, HT.out.2.2.2.2.2, fun j h => absurd h (by omega)⟩⟩
    case round =>
      obtain ⟨k, z, t, hz, hk, rfl, HR⟩ := hrel
      clear HT q2 q3 q4 ql
      rcases (show k = 0 ∨ k = 1 ∨ k = 2 ∨ k = 3 by omega) with rfl | rfl | rfl | rfl
      · obtain rfl : z = 0 := by simpa using hz
        have hix : ∀ W, (Instr.index 25 (.agg #[.slice (s.u 0).a (s.u 0).n (s.u 0).c, .slice (s.u 1).a (s.u 1).n (s.u 1).c, .slice (s.u 2).a (s.u 2).n (s.u 2).c]) (.int .i64 0)).run Tryz.prog W = .ok (.slice (s.u 0).a (s.u 0).n (s.u 0).c) W := fun W => Ls.index_of s.u 0 (by decide) W
        clear hz hk
        go_wp2_with fail
        refine (C4.out 0 (by decide) _ HR.out.1.bel).mono ?_
        rintro e w5 ⟨v5, rfl, ho5, hb5⟩
        have K5 := HR.out.1.next hb5
        have r5 := own_off ho5 (b := w.heap.size) (by have := HR.out.1.res.box.lt; omega)
        have q := K5.box.box.c2
        have f := K5.box.free 2
        have ql := K5.box.box.lt
        have KS := Lib.hid (K5.list (k := 0) (by decide) v5 r5.1 r5.2.1 r5.2.2.1 r5.2.2.2.1)
        have NS : Hid (∀ j, j < 1 → New w.heap.size (Ls.upd t.u 0 v5 j)) := Lib.hid (fun j hj => by
          by_cases e : j = 0
          · subst e; rw [Ls.upd_same]; exact r5.2.2.2.2
          · rw [Ls.upd_other _ _ e]; exact HR.out.2.2.2.2.2 j (by omega))
        have LS : Hid (Lens s ⟨t.w, t.p, Ls.upd t.u 0 v5, t.c⟩) := Lib.hid ⟨HR.out.2.1.1, HR.out.2.1.2.1, fun j hj => (by
          by_cases e : j = 0
          · subst e; show (Ls.upd t.u 0 v5 0).n = _; rw [Ls.upd_same]; have h1 := r5.1.1; have h2 := HUN.out 0 (by decide); omega
          · show (Ls.upd t.u 0 v5 j).n = _; rw [Ls.upd_other _ _ e]; exact HR.out.2.1.2.2.1 j hj), HR.out.2.1.2.2.2⟩
        clear ho5 hb5 r5 K5
        go_wp2
        go_roundw
        case rel => exact ⟨1, 1, _, rfl, by omega, rfl, Lib.hid ⟨KS.out, LS.out, HR.out.2.2.1, HR.out.2.2.2.1, HR.out.2.2.2.2.1, NS.out⟩⟩
        case measure => simp [intOf]
      · obtain rfl : z = 1 := by simpa using hz
        have hix : ∀ W, (Instr.index 25 (.agg #[.slice (s.u 0).a (s.u 0).n (s.u 0).c, .slice (s.u 1).a (s.u 1).n (s.u 1).c, .slice (s.u 2).a (s.u 2).n (s.u 2).c]) (.int .i64 1)).run Tryz.prog W = .ok (.slice (s.u 1).a (s.u 1).n (s.u 1).c) W := fun W => Ls.index_of s.u 1 (by decide) W
        clear hz hk
        go_wp2_with fail
        refine (C4.out 1 (by decide) _ HR.out.1.bel).mono ?_
        rintro e w5 ⟨v5, rfl, ho5, hb5⟩
        have K5 := HR.out.1.next hb5
        have r5 := own_off ho5 (b := w.heap.size) (by have := HR.out.1.res.box.lt; omega)
        have q := K5.box.box.c3
        have f := K5.box.free 3
        have ql := K5.box.box.lt
        have KS := Lib.hid (K5.list (k := 1) (by decide) v5 r5.1 r5.2.1 r5.2.2.1 r5.2.2.2.1)
        have NS : Hid (∀ j, j < 2 → New w.heap.size (Ls.upd t.u 1 v5 j)) := Lib.hid (fun j hj => by
          by_cases e : j = 1
          · subst e; rw [Ls.upd_same]; exact r5.2.2.2.2
          · rw [Ls.upd_other _ _ e]; exact HR.out.2.2.2.2.2 j (by omega))
        have LS : Hid (Lens s ⟨t.w, t.p, Ls.upd t.u 1 v5, t.c⟩) := Lib.hid ⟨HR.out.2.1.1, HR.out.2.1.2.1, fun j hj => (by
          by_cases e : j = 1
          · subst e; show (Ls.upd t.u 1 v5 1).n = _; rw [Ls.upd_same]; have h1 := r5.1.1; have h2 := HUN.out 1 (by decide); omega
          · show (Ls.upd t.u 1 v5 j).n = _; rw [Ls.upd_other _ _ e]; exact HR.out.2.1.2.2.1 j hj), HR.out.2.1.2.2.2⟩
        clear ho5 hb5 r5 K5
        go_wp2
        go_roundw
        case rel => exact ⟨2, 2, _, rfl, by omega, rfl, Lib.hid ⟨KS.out, LS.out, HR.out.2.2.1, HR.out.2.2.2.1, HR.out.2.2.2.2.1, NS.out⟩⟩
        case measure => simp [intOf]
      · obtain rfl : z = 2 := by simpa using hz
        have hix : ∀ W, (Instr.index 25 (.agg #[.slice (s.u 0).a (s.u 0).n (s.u 0).c, .slice (s.u 1).a (s.u 1).n (s.u 1).c, .slice (s.u 2).a (s.u 2).n (s.u 2).c]) (.int .i64 2)).run Tryz.prog W = .ok (.slice (s.u 2).a (s.u 2).n (s.u 2).c) W := fun W => Ls.index_of s.u 2 (by decide) W
        clear hz hk
        go_wp2_with fail
        refine (C4.out 2 (by decide) _ HR.out.1.bel).mono ?_
        rintro e w5 ⟨v5, rfl, ho5, hb5⟩
        have K5 := HR.out.1.next hb5
        have r5 := own_off ho5 (b := w.heap.size) (by have := HR.out.1.res.box.lt; omega)
        have q := K5.box.box.c4
        have f := K5.box.free 4
        have ql := K5.box.box.lt
        have KS := Lib.hid (K5.list (k := 2) (by decide) v5 r5.1 r5.2.1 r5.2.2.1 r5.2.2.2.1)
        have NS : Hid (∀ j, j < 3 → New w.heap.size (Ls.upd t.u 2 v5 j)) := Lib.hid (fun j hj => by
          by_cases e : j = 2
          · subst e; rw [Ls.upd_same]; exact r5.2.2.2.2
          · rw [Ls.upd_other _ _ e]; exact HR.out.2.2.2.2.2 j (by omega))
        have LS : Hid (Lens s ⟨t.w, t.p, Ls.upd t.u 2 v5, t.c⟩) := Lib.hid ⟨HR.out.2.1.1, HR.out.2.1.2.1, fun j hj => (by
          by_cases e : j = 2
          · subst e; show (Ls.upd t.u 2 v5 2).n = _; rw [Ls.upd_same]; have h1 := r5.1.1; have h2 := HUN.out 2 (by decide); omega
          · show (Ls.upd t.u 2 v5 j).n = _; rw [Ls.upd_other _ _ e]; exact HR.out.2.1.2.2.1 j hj), HR.out.2.1.2.2.2⟩
        clear ho5 hb5 r5 K5
        go_wp2
        go_roundw
        case rel => exact ⟨3, 3, _, rfl, by omega, rfl, Lib.hid ⟨KS.out, LS.out, HR.out.2.2.1, HR.out.2.2.2.1, HR.out.2.2.2.2.1, NS.out⟩⟩
        case measure => simp [intOf]
      · obtain rfl : z = 3 := by simpa using hz
        clear hz hk
        have q0 := HR.out.1.box.box.c0
        have q1 := HR.out.1.box.box.c1
        have q2 := HR.out.1.box.box.c2
        have q3 := HR.out.1.box.box.c3
        have q4 := HR.out.1.box.box.c4
        have q5 := HR.out.1.box.box.c5
        have ql := HR.out.1.box.box.lt
        have x0 := HR.out.1.res.box.c0
        have x1 := HR.out.1.res.box.c1
        have x2 := HR.out.1.res.box.c2
        have x3 := HR.out.1.res.box.c3
        have x4 := HR.out.1.res.box.c4
        have x5 := HR.out.1.res.box.c5
        have xl := HR.out.1.res.box.lt
        dsimp only [noHs, Ls.noSl] at x0 x1 x2 x3 x4 x5
        have y0 := HR.out.1.res.free 0
        have y1 := HR.out.1.res.free 1
        have y2 := HR.out.1.res.free 2
        have y3 := HR.out.1.res.free 3
        have y4 := HR.out.1.res.free 4
        have y5 := HR.out.1.res.free 5
        go_wp2
        refine bodyPost_ret (v := (.agg #[.slice t.w.a t.w.n t.w.c, .slice t.p.a t.p.n t.p.c, .slice (t.u 0).a (t.u 0).n (t.u 0).c, .slice (t.u 1).a (t.u 1).n (t.u 1).c, .slice (t.u 2).a (t.u 2).n (t.u 2).c, .slice t.c.a t.c.n t.c.c])) ?_ rfl (cp_end HR.out.1 HR.out.2.1 ⟨HR.out.2.2.1, HR.out.2.2.2.1, HR.out.2.2.2.2.2, HR.out.2.2.2.2.1⟩ _ _ _ _ _ _)
        obtain ⟨k0, k1, k2, k3, k4, k5⟩ := put6_at HR.out.1.res (.slice t.w.a t.w.n t.w.c) (.slice t.p.a t.p.n t.p.c) (.slice (t.u 0).a (t.u 0).n (t.u 0).c) (.slice (t.u 1).a (t.u 1).n (t.u 1).c) (.slice (t.u 2).a (t.u 2).n (t.u 2).c) (.slice t.c.a t.c.n t.c.c)
        exact res_copied rfl k0 k1 k2 k3 k4 k5
end Go.Proofs.YthgcaehhjiccbaaGreatDoor
