/-
  Merged texts: CkRefD, HpInv, HpSetP, HpSetA, HpKeep, HpReg, CkAllP, HpUsedR, CkRefN, PgSame, HpSame.
-/
import Derived.Test.YtmalopciboikhaaGreatDoorHpTH
import Derived.Test.YtmalopciboikhaaGreatDoorHpTG
import Derived.Test.YtmalopciboikhaaGreatDoorHpTF
import Derived.Test.YtmalopciboikhaaGreatDoorHpTC
import Derived.Test.YtmalopciboikhaaGreatDoorHpTD
section
namespace Go.Proofs.YtmalopciboikhaaGreatDoor.Ck
open Go.Proofs.YtmalopciboikhaaGreatDoor
open Go.RowKit
set_option maxRecDepth 100000

theorem mark_fin {w W0 w1 W3 : World} {s : Hs} {d : Hd_} {g c k : Nat} {b : Bool} {tw tp : Ls.Sl} {tu : Nat → Ls.Sl} {ob : Obj} (v0 v1 v2 v3 v4 v5 : Value) (h0 : Bx w W0 s d) (hb1 : Below W0.heap.size W0 w1) (h : Hp w1 w1.heap.size ⟨tw, tp, tu, ⟨some ⟨g, 0, none⟩, s.c.n, c⟩⟩ d) (hk : k < s.c.n) (hl : Lens s ⟨tw, tp, tu, ⟨some ⟨g, 0, none⟩, s.c.n, c⟩⟩) (hn : News W0.heap.size ⟨tw, tp, tu, ⟨some ⟨g, 0, none⟩, s.c.n, c⟩⟩) (hg2 : g < w1.heap.size) (hg1 : W0.heap.size ≤ g) (o1 : Out g tw) (o2 : Out g tp) (o3 : ∀ j, j < 3 → Out g (tu j))
    (hW : W3 = (w1.alloc ob).setCell ⟨g, k, none⟩ (.bool b)) : HOut w ⟨ck d k b, s.w.n, s.p.n, s.c.n, 0⟩ (.returned (.tuple #[(.agg #[.slice (⟨tw, tp, tu, ⟨some ⟨g, 0, none⟩, s.c.n, c⟩⟩ : Hs).w.a (⟨tw, tp, tu, ⟨some ⟨g, 0, none⟩, s.c.n, c⟩⟩ : Hs).w.n (⟨tw, tp, tu, ⟨some ⟨g, 0, none⟩, s.c.n, c⟩⟩ : Hs).w.c, .slice (⟨tw, tp, tu, ⟨some ⟨g, 0, none⟩, s.c.n, c⟩⟩ : Hs).p.a (⟨tw, tp, tu, ⟨some ⟨g, 0, none⟩, s.c.n, c⟩⟩ : Hs).p.n (⟨tw, tp, tu, ⟨some ⟨g, 0, none⟩, s.c.n, c⟩⟩ : Hs).p.c, .slice ((⟨tw, tp, tu, ⟨some ⟨g, 0, none⟩, s.c.n, c⟩⟩ : Hs).u 0).a ((⟨tw, tp, tu, ⟨some ⟨g, 0, none⟩, s.c.n, c⟩⟩ : Hs).u 0).n ((⟨tw, tp, tu, ⟨some ⟨g, 0, none⟩, s.c.n, c⟩⟩ : Hs).u 0).c, .slice ((⟨tw, tp, tu, ⟨some ⟨g, 0, none⟩, s.c.n, c⟩⟩ : Hs).u 1).a ((⟨tw, tp, tu, ⟨some ⟨g, 0, none⟩, s.c.n, c⟩⟩ : Hs).u 1).n ((⟨tw, tp, tu, ⟨some ⟨g, 0, none⟩, s.c.n, c⟩⟩ : Hs).u 1).c, .slice ((⟨tw, tp, tu, ⟨some ⟨g, 0, none⟩, s.c.n, c⟩⟩ : Hs).u 2).a ((⟨tw, tp, tu, ⟨some ⟨g, 0, none⟩, s.c.n, c⟩⟩ : Hs).u 2).n ((⟨tw, tp, tu, ⟨some ⟨g, 0, none⟩, s.c.n, c⟩⟩ : Hs).u 2).c, .slice (⟨tw, tp, tu, ⟨some ⟨g, 0, none⟩, s.c.n, c⟩⟩ : Hs).c.a (⟨tw, tp, tu, ⟨some ⟨g, 0, none⟩, s.c.n, c⟩⟩ : Hs).c.n (⟨tw, tp, tu, ⟨some ⟨g, 0, none⟩, s.c.n, c⟩⟩ : Hs).c.c]), .int .i64 0])) (put6 W3 (w.heap.size + 1) v0 v1 v2 v3 v4 v5) := by
  have hr0 := h0.rb.box.lt
  have hs1 := hb1.size
  have hsz : W3.heap.size = w1.heap.size + 1 := by rw [hW]; simp [World.setCell]
  have hold : ∀ i, ¬ i = g → i < w1.heap.size → W3.heap[i]? = w1.heap[i]? := fun i hi hlt => by
    rw [hW]
    exact (Below.heap_setCell _ _ _ _ hi).trans (Below.heap_alloc _ _ _ hlt)
  obtain ⟨b', off, e, hlt, hcs⟩ := h.cards (by show 0 < s.c.n; omega)
  cases e
  have hc : ∀ i, i < s.c.n → W3.cell? ⟨g, i, none⟩ = some (.bool (if i = k then b else d.cs i)) := fun i hi => by
    have hi0 := hcs i hi
    rw [Nat.zero_add] at hi0
    have hi1 : (w1.alloc ob).cell? ⟨g, i, none⟩ = some (.bool (d.cs i)) := (World.cell?_of_block (a := ⟨g, i, none⟩) (Below.heap_alloc _ _ _ hg2)).trans hi0
    rw [hW]
    by_cases e : i = k
    · subst e
      rw [if_pos rfl]
      exact World.cell?_setCell_same' _ _ _ (by rw [hi1]; rfl)
    · rw [if_neg e, World.cell?_setCell_other _ _ _ _ (by intro hh; simp only [Addr.mk.injEq, true_and, and_true] at hh; omega)]
      exact hi1
  have h3 := hp_turnc (b := b) h hg2 o1 o2 o3 hold hc (by omega)
  have hbel : Below w.heap.size w W3 := by
    rw [hW]
    exact ((h0.bel.trans (hb1.mono h0.bel.size)).alloc (by have := h0.bel.size; omega) ob).setCell (p := ⟨g, k, none⟩) (by show w.heap.size ≤ g; omega) _
  exact ⟨_, rfl, hn.kept h3 (fun i h1 h2 => put6_other _ _ _ _ _ _ _ _ (by omega)) (by rw [put6_size]; exact Nat.le_refl _), ⟨hl.1, hl.2.1, hl.2.2.2⟩, below_put6 hbel (by omega) _ _ _ _ _ _⟩
theorem own_small {s : Hs} {d : Hd_} {w : World} {B : Nat} (hf : Fine s d) (hp : Hp w B s d) : ∀ j, j < 3 → (s.u j).n ≤ 2000000 := fun j hj => by
  have h1 := hf.len
  rw [show (Ls.upTo d.F 3).length = (d.F 0).length + (d.F 1).length + (d.F 2).length by simp [Ls.upTo, List.range_succ]; omega] at h1
  have h2 := hp.free.len j hj
  rcases (show j = 0 ∨ j = 1 ∨ j = 2 by omega) with rfl | rfl | rfl <;> omega
/-- What is known of a copy that the reference made, in a form like the package's. -/
def CopyC (w : World) (s : Hs) (d : Hd_) (e : Ending) (w' : World) : Prop :=
  ∃ (tw tp : Ls.Sl) (tu : Nat → Ls.Sl) (g c : Nat), e = .returned (.agg #[.slice (⟨tw, tp, tu, ⟨some ⟨g, 0, none⟩, s.c.n, c⟩⟩ : Hs).w.a (⟨tw, tp, tu, ⟨some ⟨g, 0, none⟩, s.c.n, c⟩⟩ : Hs).w.n (⟨tw, tp, tu, ⟨some ⟨g, 0, none⟩, s.c.n, c⟩⟩ : Hs).w.c, .slice (⟨tw, tp, tu, ⟨some ⟨g, 0, none⟩, s.c.n, c⟩⟩ : Hs).p.a (⟨tw, tp, tu, ⟨some ⟨g, 0, none⟩, s.c.n, c⟩⟩ : Hs).p.n (⟨tw, tp, tu, ⟨some ⟨g, 0, none⟩, s.c.n, c⟩⟩ : Hs).p.c, .slice ((⟨tw, tp, tu, ⟨some ⟨g, 0, none⟩, s.c.n, c⟩⟩ : Hs).u 0).a ((⟨tw, tp, tu, ⟨some ⟨g, 0, none⟩, s.c.n, c⟩⟩ : Hs).u 0).n ((⟨tw, tp, tu, ⟨some ⟨g, 0, none⟩, s.c.n, c⟩⟩ : Hs).u 0).c, .slice ((⟨tw, tp, tu, ⟨some ⟨g, 0, none⟩, s.c.n, c⟩⟩ : Hs).u 1).a ((⟨tw, tp, tu, ⟨some ⟨g, 0, none⟩, s.c.n, c⟩⟩ : Hs).u 1).n ((⟨tw, tp, tu, ⟨some ⟨g, 0, none⟩, s.c.n, c⟩⟩ : Hs).u 1).c, .slice ((⟨tw, tp, tu, ⟨some ⟨g, 0, none⟩, s.c.n, c⟩⟩ : Hs).u 2).a ((⟨tw, tp, tu, ⟨some ⟨g, 0, none⟩, s.c.n, c⟩⟩ : Hs).u 2).n ((⟨tw, tp, tu, ⟨some ⟨g, 0, none⟩, s.c.n, c⟩⟩ : Hs).u 2).c, .slice (⟨tw, tp, tu, ⟨some ⟨g, 0, none⟩, s.c.n, c⟩⟩ : Hs).c.a (⟨tw, tp, tu, ⟨some ⟨g, 0, none⟩, s.c.n, c⟩⟩ : Hs).c.n (⟨tw, tp, tu, ⟨some ⟨g, 0, none⟩, s.c.n, c⟩⟩ : Hs).c.c]) ∧ Hp w' w'.heap.size ⟨tw, tp, tu, ⟨some ⟨g, 0, none⟩, s.c.n, c⟩⟩ d ∧ Lens s ⟨tw, tp, tu, ⟨some ⟨g, 0, none⟩, s.c.n, c⟩⟩ ∧ News w.heap.size ⟨tw, tp, tu, ⟨some ⟨g, 0, none⟩, s.c.n, c⟩⟩ ∧ Below w.heap.size w w' ∧ (∀ i, w'.frozen? ⟨g, i, none⟩ = false) ∧ w.heap.size + 2 ≤ g ∧ g < w'.heap.size ∧ Out g tw ∧ Out g tp ∧ ∀ j, j < 3 → Out g (tu j)
theorem rown_copy (s : Hs) (d : Hd_) (w : World) (hp : Hp w w.heap.size s d) (hf : Fine s d) (h0 : 0 < s.c.n) : Calls Tryz.prog 8 #[(.agg #[.slice s.w.a s.w.n s.w.c, .slice s.p.a s.p.n s.p.c, .slice (s.u 0).a (s.u 0).n (s.u 0).c, .slice (s.u 1).a (s.u 1).n (s.u 1).c, .slice (s.u 2).a (s.u 2).n (s.u 2).c, .slice s.c.a s.c.n s.c.c])] w (CopyC w s d) :=
  (rown7_full s d w hp hf.wn (by have := hf.pn; omega) hf.cn (own_small hf hp)).mono fun e w' ⟨⟨tw, tp, tu, ⟨ca, cn, cc⟩⟩, h1, ⟨_, h2, h3, h4, _, h5⟩, h6⟩ => by
    have hl := h3.2.2.2
    dsimp only at hl
    subst hl
    obtain ⟨g, e1, e2, e3, e4, e5, e6, e7⟩ := h6 h0
    dsimp only at e1
    subst e1
    exact ⟨tw, tp, tu, g, cc, h1, h2, h3, h4, h5, e2, e3, e4, fun _ x hx => e5 x hx, fun _ x hx => e6 x hx, fun j hj _ x hx => e7 j hj x hx⟩
section
variable (s : Hs) (d : Hd_) (w : World)
theorem res_rdirty {W : World} {b : Nat} {er : Value} {tm : Array Value} {v0 v1 v2 v3 v4 v5 : Value} (ht : tm[4]? = some (.pointer (some ⟨b, 0, none⟩))) (h5 : tm[5]? = some er) (k0 : W.cell? ⟨b, 0, none⟩ = some v0) (k1 : W.cell? ⟨b, 1, none⟩ = some v1) (k2 : W.cell? ⟨b, 2, none⟩ = some v2) (k3 : W.cell? ⟨b, 3, none⟩ = some v3) (k4 : W.cell? ⟨b, 4, none⟩ = some v4) (k5 : W.cell? ⟨b, 5, none⟩ = some v5) :
    (results Tryz.f26 tm).run Tryz.prog W = .ok (.tuple #[.agg #[v0, v1, v2, v3, v4, v5], er]) W := by
  simp [results, Tryz.results26, go_sem, ht, h5, k0, k1, k2, k3, k4, k5]
theorem res_rclean {W : World} {b : Nat} {er : Value} {tm : Array Value} {v0 v1 v2 v3 v4 v5 : Value} (ht : tm[4]? = some (.pointer (some ⟨b, 0, none⟩))) (h5 : tm[5]? = some er) (k0 : W.cell? ⟨b, 0, none⟩ = some v0) (k1 : W.cell? ⟨b, 1, none⟩ = some v1) (k2 : W.cell? ⟨b, 2, none⟩ = some v2) (k3 : W.cell? ⟨b, 3, none⟩ = some v3) (k4 : W.cell? ⟨b, 4, none⟩ = some v4) (k5 : W.cell? ⟨b, 5, none⟩ = some v5) :
    (results Tryz.f28 tm).run Tryz.prog W = .ok (.tuple #[.agg #[v0, v1, v2, v3, v4, v5], er]) W := by
  simp [results, Tryz.results28, go_sem, ht, h5, k0, k1, k2, k3, k4, k5]
set_option maxHeartbeats 1000000 in
theorem rdirty_no (a n er : Int) (h0 : ¬ er = 0) (hp : Hp w w.heap.size s d) (hO : ∀ W, Bx w W s d → Calls Tryz.prog 24 #[(.agg #[.slice s.w.a s.w.n s.w.c, .slice s.p.a s.p.n s.p.c, .slice (s.u 0).a (s.u 0).n (s.u 0).c, .slice (s.u 1).a (s.u 1).n (s.u 1).c, .slice (s.u 2).a (s.u 2).n (s.u 2).c, .slice s.c.a s.c.n s.c.c]), .int .i64 a] W fun e w' => e = .returned (.tuple #[.int .i64 n, .int .i64 er]) ∧ Below W.heap.size W w') : Calls Tryz.prog 26 #[(.agg #[.slice s.w.a s.w.n s.w.c, .slice s.p.a s.p.n s.p.c, .slice (s.u 0).a (s.u 0).n (s.u 0).c, .slice (s.u 1).a (s.u 1).n (s.u 1).c, .slice (s.u 2).a (s.u 2).n (s.u 2).c, .slice s.c.a s.c.n s.c.c]), .int .i64 a] w (HOut w ⟨dN, 0, 0, 0, er⟩) := by
  have HP := Lib.hid hp
  have H0 := Lib.hid hO
  have d1 : (er != 0) = true := by simp [h0]
  clear hp hO h0
  go_enter Tryz.func26, Tryz.ntmps26
  go_wp2_with fail
  obtain ⟨W0, hW0⟩ : ∃ W0, W0 = (w.alloc (.cells #[.slice s.w.a s.w.n s.w.c, .slice s.p.a s.p.n s.p.c, .slice (s.u 0).a (s.u 0).n (s.u 0).c, .slice (s.u 1).a (s.u 1).n (s.u 1).c, .slice (s.u 2).a (s.u 2).n (s.u 2).c, .slice s.c.a s.c.n s.c.c] 28)).alloc (.cells #[.slice none 0 0, .slice none 0 0, .slice none 0 0, .slice none 0 0, .slice none 0 0, .slice none 0 0] 28) := ⟨_, rfl⟩
  have K0 := Lib.hid (bx_start HP.out hW0)
  rw [← hW0]
  clear hW0
  refine (H0.out W0 K0.out).mono ?_
  rintro e w1 ⟨rfl, hb1⟩
  have K1 := Lib.hid (K0.out.next hb1)
  have x0 := (K1.out.rb.box).c0
  have x1 := (K1.out.rb.box).c1
  have x2 := (K1.out.rb.box).c2
  have x3 := (K1.out.rb.box).c3
  have x4 := (K1.out.rb.box).c4
  have x5 := (K1.out.rb.box).c5
  have xl := (K1.out.rb.box).lt
  have y0 := (K1.out.rb).free 0
  have y1 := (K1.out.rb).free 1
  have y2 := (K1.out.rb).free 2
  have y3 := (K1.out.rb).free 3
  have y4 := (K1.out.rb).free 4
  have y5 := (K1.out.rb).free 5
  dsimp only [noHs, Ls.noSl] at x0 x1 x2 x3 x4 x5
  clear hb1 K0 H0 HP
  go_wp2
  refine bodyPost_ret (v := .tuple #[(.agg #[.slice noHs.w.a noHs.w.n noHs.w.c, .slice noHs.p.a noHs.p.n noHs.p.c, .slice (noHs.u 0).a (noHs.u 0).n (noHs.u 0).c, .slice (noHs.u 1).a (noHs.u 1).n (noHs.u 1).c, .slice (noHs.u 2).a (noHs.u 2).n (noHs.u 2).c, .slice noHs.c.a noHs.c.n noHs.c.c]), .int .i64 er]) ?_ rfl (hout_no K1.out er _ _ _ _ _ _)
  obtain ⟨k0, k1, k2, k3, k4, k5⟩ := put6_at K1.out.rb (.slice none 0 0) (.slice none 0 0) (.slice none 0 0) (.slice none 0 0) (.slice none 0 0) (.slice none 0 0)
  exact res_rdirty rfl rfl k0 k1 k2 k3 k4 k5
set_option maxHeartbeats 1000000 in
theorem rdirty_ok (a : Int) (k : Nat) (hp : Hp w w.heap.size s d) (hf : Fine s d) (hk : k < s.c.n) (hO : ∀ W, Bx w W s d → Calls Tryz.prog 24 #[(.agg #[.slice s.w.a s.w.n s.w.c, .slice s.p.a s.p.n s.p.c, .slice (s.u 0).a (s.u 0).n (s.u 0).c, .slice (s.u 1).a (s.u 1).n (s.u 1).c, .slice (s.u 2).a (s.u 2).n (s.u 2).c, .slice s.c.a s.c.n s.c.c]), .int .i64 a] W fun e w' => e = .returned (.tuple #[.int .i64 (k : Int), .int .i64 0]) ∧ Below W.heap.size W w') : Calls Tryz.prog 26 #[(.agg #[.slice s.w.a s.w.n s.w.c, .slice s.p.a s.p.n s.p.c, .slice (s.u 0).a (s.u 0).n (s.u 0).c, .slice (s.u 1).a (s.u 1).n (s.u 1).c, .slice (s.u 2).a (s.u 2).n (s.u 2).c, .slice s.c.a s.c.n s.c.c]), .int .i64 a] w (HOut w ⟨ck d k true, s.w.n, s.p.n, s.c.n, 0⟩) := by
  have HP := Lib.hid hp
  have HF := Lib.hid hf
  have H0 := Lib.hid hO
  have hcn := hf.cn
  clear hp hO hf
  go_enter Tryz.func26, Tryz.ntmps26
  go_wp2_with fail
  obtain ⟨W0, hW0⟩ : ∃ W0, W0 = (w.alloc (.cells #[.slice s.w.a s.w.n s.w.c, .slice s.p.a s.p.n s.p.c, .slice (s.u 0).a (s.u 0).n (s.u 0).c, .slice (s.u 1).a (s.u 1).n (s.u 1).c, .slice (s.u 2).a (s.u 2).n (s.u 2).c, .slice s.c.a s.c.n s.c.c] 28)).alloc (.cells #[.slice none 0 0, .slice none 0 0, .slice none 0 0, .slice none 0 0, .slice none 0 0, .slice none 0 0] 28) := ⟨_, rfl⟩
  have K0 := Lib.hid (bx_start HP.out hW0)
  rw [← hW0]
  clear hW0
  refine (H0.out W0 K0.out).mono ?_
  rintro e wc ⟨rfl, hbc⟩
  have KC := Lib.hid (K0.out.next hbc)
  have q0 := (KC.out.hb).c0
  have q1 := (KC.out.hb).c1
  have q2 := (KC.out.hb).c2
  have q3 := (KC.out.hb).c3
  have q4 := (KC.out.hb).c4
  have q5 := (KC.out.hb).c5
  have ql := (KC.out.hb).lt
  clear hbc K0 H0 HP
  go_wp2_with fail
  refine (rown_copy s d wc KC.out.hp HF.out (by omega)).mono ?_
  rintro e w1 ⟨tw, tp, tu, g, c, rfl, ht, hl, hn, hb1, hz, hg1, hg2, o1, o2, o3⟩
  clear q0 q1 q2 q3 q4 q5 ql
  have K1 := Lib.hid (KC.out.next hb1)
  have T1 := Lib.hid (And.intro ht (And.intro hl (And.intro hn (And.intro hb1 (And.intro (show wc.heap.size ≤ g by omega) (And.intro hg2 (And.intro o1 (And.intro o2 o3))))))))
  have HZ := Lib.hid hz
  have bo := HBox.new w1 ⟨tw, tp, tu, ⟨some ⟨g, 0, none⟩, s.c.n, c⟩⟩ 28
  have q0 := bo.c0
  have q1 := bo.c1
  have q2 := bo.c2
  have q3 := bo.c3
  have q4 := bo.c4
  have q5 := bo.c5
  have ql := bo.lt
  dsimp only at q0 q1 q2 q3 q4 q5
  obtain ⟨b', off, e, hlt, hcs⟩ := ht.cards (by show 0 < s.c.n; omega)
  cases e
  have kc := hcs k hk
  rw [Nat.zero_add] at kc
  have kf := hz k
  have hne : ¬ g = w1.heap.size := by omega
  clear ht hl hn hb1 hz hg1 o1 o2 o3 hcs hlt bo
  go_upto_region 5 with fail
  obtain ⟨ob, hob⟩ : ∃ ob : Obj, ob = .cells #[.slice (⟨tw, tp, tu, ⟨some ⟨g, 0, none⟩, s.c.n, c⟩⟩ : Hs).w.a (⟨tw, tp, tu, ⟨some ⟨g, 0, none⟩, s.c.n, c⟩⟩ : Hs).w.n (⟨tw, tp, tu, ⟨some ⟨g, 0, none⟩, s.c.n, c⟩⟩ : Hs).w.c, .slice (⟨tw, tp, tu, ⟨some ⟨g, 0, none⟩, s.c.n, c⟩⟩ : Hs).p.a (⟨tw, tp, tu, ⟨some ⟨g, 0, none⟩, s.c.n, c⟩⟩ : Hs).p.n (⟨tw, tp, tu, ⟨some ⟨g, 0, none⟩, s.c.n, c⟩⟩ : Hs).p.c, .slice ((⟨tw, tp, tu, ⟨some ⟨g, 0, none⟩, s.c.n, c⟩⟩ : Hs).u 0).a ((⟨tw, tp, tu, ⟨some ⟨g, 0, none⟩, s.c.n, c⟩⟩ : Hs).u 0).n ((⟨tw, tp, tu, ⟨some ⟨g, 0, none⟩, s.c.n, c⟩⟩ : Hs).u 0).c, .slice ((⟨tw, tp, tu, ⟨some ⟨g, 0, none⟩, s.c.n, c⟩⟩ : Hs).u 1).a ((⟨tw, tp, tu, ⟨some ⟨g, 0, none⟩, s.c.n, c⟩⟩ : Hs).u 1).n ((⟨tw, tp, tu, ⟨some ⟨g, 0, none⟩, s.c.n, c⟩⟩ : Hs).u 1).c, .slice ((⟨tw, tp, tu, ⟨some ⟨g, 0, none⟩, s.c.n, c⟩⟩ : Hs).u 2).a ((⟨tw, tp, tu, ⟨some ⟨g, 0, none⟩, s.c.n, c⟩⟩ : Hs).u 2).n ((⟨tw, tp, tu, ⟨some ⟨g, 0, none⟩, s.c.n, c⟩⟩ : Hs).u 2).c, .slice (⟨tw, tp, tu, ⟨some ⟨g, 0, none⟩, s.c.n, c⟩⟩ : Hs).c.a (⟨tw, tp, tu, ⟨some ⟨g, 0, none⟩, s.c.n, c⟩⟩ : Hs).c.n (⟨tw, tp, tu, ⟨some ⟨g, 0, none⟩, s.c.n, c⟩⟩ : Hs).c.c] 28 := ⟨_, rfl⟩
  dsimp only at hob
  rw [← hob] at q0 q1 q2 q3 q4 q5 ql
  rw [← hob]
  have kc' : (w1.alloc ob).cell? ⟨g, k, none⟩ = some (.bool (d.cs k)) := (World.cell?_of_block (a := ⟨g, k, none⟩) (Below.heap_alloc _ _ _ hg2)).trans kc
  have kf' : (w1.alloc ob).frozen? ⟨g, k, none⟩ = false := (World.frozen?_of_block (a := ⟨g, k, none⟩) (Below.heap_alloc _ _ _ hg2)).trans kf
  have kl' : g < (w1.alloc ob).heap.size := by simp; omega
  have K2 := Lib.hid (K1.out.next ((Below.refl _ _).alloc (Nat.le_refl _) ob))
  clear kc kf hob K1
  obtain ⟨W2, hW2⟩ : ∃ W2, W2 = w1.alloc ob := ⟨_, rfl⟩
  obtain ⟨bo, hbo⟩ : ∃ bo, bo = w1.heap.size := ⟨_, rfl⟩
  rw [← hW2, ← hbo] at q0 q1 q2 q3 q4 q5 ql
  rw [← hW2] at kc' kf' kl' K2
  rw [← hbo] at hne
  rw [← hW2, ← hbo]
  have HW2 := Lib.hid hW2
  clear hW2 hbo
  go_upto_region 6 with fail
  obtain ⟨W3, hW3⟩ : ∃ W3, W3 = W2.setCell ⟨g, k, none⟩ (.bool true) := ⟨_, rfl⟩
  have hoth : ∀ i, ¬ i = g → W3.heap[i]? = W2.heap[i]? := fun i hi => by rw [hW3]; exact Below.heap_setCell _ _ _ _ hi
  have hsz : W3.heap.size = W2.heap.size := by rw [hW3]; simp [World.setCell]
  have p0 := (World.cell?_of_block (a := ⟨bo, 0, none⟩) (hoth bo (fun e => hne e.symm))).trans q0
  have p1 := (World.cell?_of_block (a := ⟨bo, 1, none⟩) (hoth bo (fun e => hne e.symm))).trans q1
  have p2 := (World.cell?_of_block (a := ⟨bo, 2, none⟩) (hoth bo (fun e => hne e.symm))).trans q2
  have p3 := (World.cell?_of_block (a := ⟨bo, 3, none⟩) (hoth bo (fun e => hne e.symm))).trans q3
  have p4 := (World.cell?_of_block (a := ⟨bo, 4, none⟩) (hoth bo (fun e => hne e.symm))).trans q4
  have p5 := (World.cell?_of_block (a := ⟨bo, 5, none⟩) (hoth bo (fun e => hne e.symm))).trans q5
  have pl : bo < W3.heap.size := by omega
  have R3 : Hid (Box6 W3 (w.heap.size + 1) noHs) := Lib.hid (K2.out.rb.same (hoth _ (by have h1 := KC.out.rb.box.lt; have h2 := T1.out.2.2.2.2.1; omega)) (Nat.le_of_eq hsz.symm))
  have x0 := (R3.out.box).c0
  have x1 := (R3.out.box).c1
  have x2 := (R3.out.box).c2
  have x3 := (R3.out.box).c3
  have x4 := (R3.out.box).c4
  have x5 := (R3.out.box).c5
  have xl := (R3.out.box).lt
  have y0 := (R3.out).free 0
  have y1 := (R3.out).free 1
  have y2 := (R3.out).free 2
  have y3 := (R3.out).free 3
  have y4 := (R3.out).free 4
  have y5 := (R3.out).free 5
  dsimp only [noHs, Ls.noSl] at x0 x1 x2 x3 x4 x5
  rw [← hW3]
  have HW3 := Lib.hid hW3
  clear q0 q1 q2 q3 q4 q5 ql kc' kf' kl' hW3 hoth hsz K2
  go_wp2
  refine bodyPost_ret (v := .tuple #[(.agg #[.slice (⟨tw, tp, tu, ⟨some ⟨g, 0, none⟩, s.c.n, c⟩⟩ : Hs).w.a (⟨tw, tp, tu, ⟨some ⟨g, 0, none⟩, s.c.n, c⟩⟩ : Hs).w.n (⟨tw, tp, tu, ⟨some ⟨g, 0, none⟩, s.c.n, c⟩⟩ : Hs).w.c, .slice (⟨tw, tp, tu, ⟨some ⟨g, 0, none⟩, s.c.n, c⟩⟩ : Hs).p.a (⟨tw, tp, tu, ⟨some ⟨g, 0, none⟩, s.c.n, c⟩⟩ : Hs).p.n (⟨tw, tp, tu, ⟨some ⟨g, 0, none⟩, s.c.n, c⟩⟩ : Hs).p.c, .slice ((⟨tw, tp, tu, ⟨some ⟨g, 0, none⟩, s.c.n, c⟩⟩ : Hs).u 0).a ((⟨tw, tp, tu, ⟨some ⟨g, 0, none⟩, s.c.n, c⟩⟩ : Hs).u 0).n ((⟨tw, tp, tu, ⟨some ⟨g, 0, none⟩, s.c.n, c⟩⟩ : Hs).u 0).c, .slice ((⟨tw, tp, tu, ⟨some ⟨g, 0, none⟩, s.c.n, c⟩⟩ : Hs).u 1).a ((⟨tw, tp, tu, ⟨some ⟨g, 0, none⟩, s.c.n, c⟩⟩ : Hs).u 1).n ((⟨tw, tp, tu, ⟨some ⟨g, 0, none⟩, s.c.n, c⟩⟩ : Hs).u 1).c, .slice ((⟨tw, tp, tu, ⟨some ⟨g, 0, none⟩, s.c.n, c⟩⟩ : Hs).u 2).a ((⟨tw, tp, tu, ⟨some ⟨g, 0, none⟩, s.c.n, c⟩⟩ : Hs).u 2).n ((⟨tw, tp, tu, ⟨some ⟨g, 0, none⟩, s.c.n, c⟩⟩ : Hs).u 2).c, .slice (⟨tw, tp, tu, ⟨some ⟨g, 0, none⟩, s.c.n, c⟩⟩ : Hs).c.a (⟨tw, tp, tu, ⟨some ⟨g, 0, none⟩, s.c.n, c⟩⟩ : Hs).c.n (⟨tw, tp, tu, ⟨some ⟨g, 0, none⟩, s.c.n, c⟩⟩ : Hs).c.c]), .int .i64 0]) ?_ rfl (mark_fin _ _ _ _ _ _ KC.out T1.out.2.2.2.1 T1.out.1 hk T1.out.2.1 T1.out.2.2.1 T1.out.2.2.2.2.2.1 T1.out.2.2.2.2.1 T1.out.2.2.2.2.2.2.1 T1.out.2.2.2.2.2.2.2.1 T1.out.2.2.2.2.2.2.2.2 (by rw [HW3.out, HW2.out]))
  obtain ⟨k0, k1, k2, k3, k4, k5⟩ := put6_at R3.out (.slice tw.a tw.n tw.c) (.slice tp.a tp.n tp.c) (.slice (tu 0).a (tu 0).n (tu 0).c) (.slice (tu 1).a (tu 1).n (tu 1).c) (.slice (tu 2).a (tu 2).n (tu 2).c) (.slice (some ⟨g, 0, none⟩) s.c.n c)
  exact res_rdirty rfl rfl k0 k1 k2 k3 k4 k5
theorem rdirty_any (a : Int) (hp : Hp w w.heap.size s d) (hf : Fine s d) : Calls Tryz.prog 26 #[(.agg #[.slice s.w.a s.w.n s.w.c, .slice s.p.a s.p.n s.p.c, .slice (s.u 0).a (s.u 0).n (s.u 0).c, .slice (s.u 1).a (s.u 1).n (s.u 1).c, .slice (s.u 2).a (s.u 2).n (s.u 2).c, .slice s.c.a s.c.n s.c.c]), .int .i64 a] w (HOut w (dirR s d a)) := by
  have hO := fun (W : World) (h : Bx w W s d) => rof_any s d W a h.hp hf
  unfold dirR
  split
  · next e =>
    obtain ⟨h1, _, _, h4, h5⟩ := ofE_is e
    rw [e, h4] at hO
    exact rdirty_ok s d w a (ofK a) hp hf h5 hO
  · next e => exact rdirty_no s d w a _ _ e hp hO
set_option maxHeartbeats 1000000 in
theorem rclean_may (k : Int) (hp : Hp w w.heap.size s d) (hf : Fine s d) (hm : mayB0 s d = false) : Calls Tryz.prog 28 #[(.agg #[.slice s.w.a s.w.n s.w.c, .slice s.p.a s.p.n s.p.c, .slice (s.u 0).a (s.u 0).n (s.u 0).c, .slice (s.u 1).a (s.u 1).n (s.u 1).c, .slice (s.u 2).a (s.u 2).n (s.u 2).c, .slice s.c.a s.c.n s.c.c]), .int .i64 k] w (HOut w ⟨dN, 0, 0, 0, 1⟩) := by
  have HP := Lib.hid hp
  have HF := Lib.hid hf
  have HM := Lib.hid hm
  clear hp hf hm
  go_enter Tryz.func28, Tryz.ntmps28
  go_wp2_with fail
  obtain ⟨W0, hW0⟩ : ∃ W0, W0 = (w.alloc (.cells #[.slice s.w.a s.w.n s.w.c, .slice s.p.a s.p.n s.p.c, .slice (s.u 0).a (s.u 0).n (s.u 0).c, .slice (s.u 1).a (s.u 1).n (s.u 1).c, .slice (s.u 2).a (s.u 2).n (s.u 2).c, .slice s.c.a s.c.n s.c.c] 28)).alloc (.cells #[.slice none 0 0, .slice none 0 0, .slice none 0 0, .slice none 0 0, .slice none 0 0, .slice none 0 0] 28) := ⟨_, rfl⟩
  have K0 := Lib.hid (bx_start HP.out hW0)
  rw [← hW0]
  clear hW0
  refine (rmay0_any s d W0 K0.out.hp HF.out.wn (by have := HF.out.pn; omega) HF.out.hv HF.out.len).mono ?_
  rw [HM.out]
  rintro e w1 ⟨rfl, hb1⟩
  have K1 := Lib.hid (K0.out.next hb1)
  have x0 := (K1.out.rb.box).c0
  have x1 := (K1.out.rb.box).c1
  have x2 := (K1.out.rb.box).c2
  have x3 := (K1.out.rb.box).c3
  have x4 := (K1.out.rb.box).c4
  have x5 := (K1.out.rb.box).c5
  have xl := (K1.out.rb.box).lt
  have y0 := (K1.out.rb).free 0
  have y1 := (K1.out.rb).free 1
  have y2 := (K1.out.rb).free 2
  have y3 := (K1.out.rb).free 3
  have y4 := (K1.out.rb).free 4
  have y5 := (K1.out.rb).free 5
  dsimp only [noHs, Ls.noSl] at x0 x1 x2 x3 x4 x5
  clear hb1 K0 HP
  go_wp2
  refine bodyPost_ret (v := .tuple #[(.agg #[.slice noHs.w.a noHs.w.n noHs.w.c, .slice noHs.p.a noHs.p.n noHs.p.c, .slice (noHs.u 0).a (noHs.u 0).n (noHs.u 0).c, .slice (noHs.u 1).a (noHs.u 1).n (noHs.u 1).c, .slice (noHs.u 2).a (noHs.u 2).n (noHs.u 2).c, .slice noHs.c.a noHs.c.n noHs.c.c]), .int .i64 1]) ?_ rfl (hout_no K1.out 1 _ _ _ _ _ _)
  obtain ⟨k0, k1, k2, k3, k4, k5⟩ := put6_at K1.out.rb (.slice none 0 0) (.slice none 0 0) (.slice none 0 0) (.slice none 0 0) (.slice none 0 0) (.slice none 0 0)
  exact res_rclean rfl rfl k0 k1 k2 k3 k4 k5
set_option maxHeartbeats 1000000 in
theorem rclean_low (hp : Hp w w.heap.size s d) (hf : Fine s d) (hm : mayB0 s d = true) (k : Int) (hk : k < 0) : Calls Tryz.prog 28 #[(.agg #[.slice s.w.a s.w.n s.w.c, .slice s.p.a s.p.n s.p.c, .slice (s.u 0).a (s.u 0).n (s.u 0).c, .slice (s.u 1).a (s.u 1).n (s.u 1).c, .slice (s.u 2).a (s.u 2).n (s.u 2).c, .slice s.c.a s.c.n s.c.c]), .int .i64 k] w (HOut w ⟨dN, 0, 0, 0, 3⟩) := by
  have HP := Lib.hid hp
  have HF := Lib.hid hf
  have HM := Lib.hid hm
  have a0 : decide (k < 0) = true := decide_eq_true hk
  clear hp hf hm hk
  go_enter Tryz.func28, Tryz.ntmps28
  go_wp2_with fail
  obtain ⟨W0, hW0⟩ : ∃ W0, W0 = (w.alloc (.cells #[.slice s.w.a s.w.n s.w.c, .slice s.p.a s.p.n s.p.c, .slice (s.u 0).a (s.u 0).n (s.u 0).c, .slice (s.u 1).a (s.u 1).n (s.u 1).c, .slice (s.u 2).a (s.u 2).n (s.u 2).c, .slice s.c.a s.c.n s.c.c] 28)).alloc (.cells #[.slice none 0 0, .slice none 0 0, .slice none 0 0, .slice none 0 0, .slice none 0 0, .slice none 0 0] 28) := ⟨_, rfl⟩
  have K0 := Lib.hid (bx_start HP.out hW0)
  rw [← hW0]
  clear hW0
  refine (rmay0_any s d W0 K0.out.hp HF.out.wn (by have := HF.out.pn; omega) HF.out.hv HF.out.len).mono ?_
  rw [HM.out]
  rintro e w1 ⟨rfl, hb1⟩
  have K1 := Lib.hid (K0.out.next hb1)
  have q5 := K1.out.hb.c5
  have ql := K1.out.hb.lt
  have x0 := (K1.out.rb.box).c0
  have x1 := (K1.out.rb.box).c1
  have x2 := (K1.out.rb.box).c2
  have x3 := (K1.out.rb.box).c3
  have x4 := (K1.out.rb.box).c4
  have x5 := (K1.out.rb.box).c5
  have xl := (K1.out.rb.box).lt
  have y0 := (K1.out.rb).free 0
  have y1 := (K1.out.rb).free 1
  have y2 := (K1.out.rb).free 2
  have y3 := (K1.out.rb).free 3
  have y4 := (K1.out.rb).free 4
  have y5 := (K1.out.rb).free 5
  dsimp only [noHs, Ls.noSl] at x0 x1 x2 x3 x4 x5
  clear hb1 K0 HP
  go_wp2
  refine bodyPost_ret (v := .tuple #[(.agg #[.slice noHs.w.a noHs.w.n noHs.w.c, .slice noHs.p.a noHs.p.n noHs.p.c, .slice (noHs.u 0).a (noHs.u 0).n (noHs.u 0).c, .slice (noHs.u 1).a (noHs.u 1).n (noHs.u 1).c, .slice (noHs.u 2).a (noHs.u 2).n (noHs.u 2).c, .slice noHs.c.a noHs.c.n noHs.c.c]), .int .i64 3]) ?_ rfl (hout_no K1.out 3 _ _ _ _ _ _)
  obtain ⟨k0, k1, k2, k3, k4, k5⟩ := put6_at K1.out.rb (.slice none 0 0) (.slice none 0 0) (.slice none 0 0) (.slice none 0 0) (.slice none 0 0) (.slice none 0 0)
  exact res_rclean rfl rfl k0 k1 k2 k3 k4 k5
set_option maxHeartbeats 1000000 in
theorem rclean_high (hp : Hp w w.heap.size s d) (hf : Fine s d) (hm : mayB0 s d = true) (k : Int) (h0 : ¬ k < 0) (hk : (s.c.n : Int) ≤ k) : Calls Tryz.prog 28 #[(.agg #[.slice s.w.a s.w.n s.w.c, .slice s.p.a s.p.n s.p.c, .slice (s.u 0).a (s.u 0).n (s.u 0).c, .slice (s.u 1).a (s.u 1).n (s.u 1).c, .slice (s.u 2).a (s.u 2).n (s.u 2).c, .slice s.c.a s.c.n s.c.c]), .int .i64 k] w (HOut w ⟨dN, 0, 0, 0, 3⟩) := by
  have HP := Lib.hid hp
  have HF := Lib.hid hf
  have HM := Lib.hid hm
  have a0 : decide (k < 0) = false := decide_eq_false h0
  have a1 : decide ((s.c.n : Int) ≤ k) = true := decide_eq_true hk
  clear hp hf hm hk
  go_enter Tryz.func28, Tryz.ntmps28
  go_wp2_with fail
  obtain ⟨W0, hW0⟩ : ∃ W0, W0 = (w.alloc (.cells #[.slice s.w.a s.w.n s.w.c, .slice s.p.a s.p.n s.p.c, .slice (s.u 0).a (s.u 0).n (s.u 0).c, .slice (s.u 1).a (s.u 1).n (s.u 1).c, .slice (s.u 2).a (s.u 2).n (s.u 2).c, .slice s.c.a s.c.n s.c.c] 28)).alloc (.cells #[.slice none 0 0, .slice none 0 0, .slice none 0 0, .slice none 0 0, .slice none 0 0, .slice none 0 0] 28) := ⟨_, rfl⟩
  have K0 := Lib.hid (bx_start HP.out hW0)
  rw [← hW0]
  clear hW0
  refine (rmay0_any s d W0 K0.out.hp HF.out.wn (by have := HF.out.pn; omega) HF.out.hv HF.out.len).mono ?_
  rw [HM.out]
  rintro e w1 ⟨rfl, hb1⟩
  have K1 := Lib.hid (K0.out.next hb1)
  have q5 := K1.out.hb.c5
  have ql := K1.out.hb.lt
  have x0 := (K1.out.rb.box).c0
  have x1 := (K1.out.rb.box).c1
  have x2 := (K1.out.rb.box).c2
  have x3 := (K1.out.rb.box).c3
  have x4 := (K1.out.rb.box).c4
  have x5 := (K1.out.rb.box).c5
  have xl := (K1.out.rb.box).lt
  have y0 := (K1.out.rb).free 0
  have y1 := (K1.out.rb).free 1
  have y2 := (K1.out.rb).free 2
  have y3 := (K1.out.rb).free 3
  have y4 := (K1.out.rb).free 4
  have y5 := (K1.out.rb).free 5
  dsimp only [noHs, Ls.noSl] at x0 x1 x2 x3 x4 x5
  clear hb1 K0 HP
  go_wp2
  refine bodyPost_ret (v := .tuple #[(.agg #[.slice noHs.w.a noHs.w.n noHs.w.c, .slice noHs.p.a noHs.p.n noHs.p.c, .slice (noHs.u 0).a (noHs.u 0).n (noHs.u 0).c, .slice (noHs.u 1).a (noHs.u 1).n (noHs.u 1).c, .slice (noHs.u 2).a (noHs.u 2).n (noHs.u 2).c, .slice noHs.c.a noHs.c.n noHs.c.c]), .int .i64 3]) ?_ rfl (hout_no K1.out 3 _ _ _ _ _ _)
  obtain ⟨k0, k1, k2, k3, k4, k5⟩ := put6_at K1.out.rb (.slice none 0 0) (.slice none 0 0) (.slice none 0 0) (.slice none 0 0) (.slice none 0 0) (.slice none 0 0)
  exact res_rclean rfl rfl k0 k1 k2 k3 k4 k5
set_option maxHeartbeats 1000000 in
theorem rclean_ok (k : Nat) (hp : Hp w w.heap.size s d) (hf : Fine s d) (hm : mayB0 s d = true) (hk : k < s.c.n) : Calls Tryz.prog 28 #[(.agg #[.slice s.w.a s.w.n s.w.c, .slice s.p.a s.p.n s.p.c, .slice (s.u 0).a (s.u 0).n (s.u 0).c, .slice (s.u 1).a (s.u 1).n (s.u 1).c, .slice (s.u 2).a (s.u 2).n (s.u 2).c, .slice s.c.a s.c.n s.c.c]), .int .i64 (k : Int)] w (HOut w ⟨ck d k false, s.w.n, s.p.n, s.c.n, 0⟩) := by
  have HP := Lib.hid hp
  have HF := Lib.hid hf
  have HM := Lib.hid hm
  have hcn := hf.cn
  have a0 : decide ((k : Int) < 0) = false := decide_eq_false (by omega)
  have a1 : decide ((s.c.n : Int) ≤ (k : Int)) = false := decide_eq_false (by omega)
  have a2 : decide (s.c.n ≤ k) = false := decide_eq_false (by omega)
  clear hp hf hm
  go_enter Tryz.func28, Tryz.ntmps28
  go_wp2_with fail
  obtain ⟨W0, hW0⟩ : ∃ W0, W0 = (w.alloc (.cells #[.slice s.w.a s.w.n s.w.c, .slice s.p.a s.p.n s.p.c, .slice (s.u 0).a (s.u 0).n (s.u 0).c, .slice (s.u 1).a (s.u 1).n (s.u 1).c, .slice (s.u 2).a (s.u 2).n (s.u 2).c, .slice s.c.a s.c.n s.c.c] 28)).alloc (.cells #[.slice none 0 0, .slice none 0 0, .slice none 0 0, .slice none 0 0, .slice none 0 0, .slice none 0 0] 28) := ⟨_, rfl⟩
  have K0 := Lib.hid (bx_start HP.out hW0)
  rw [← hW0]
  clear hW0
  refine (rmay0_any s d W0 K0.out.hp HF.out.wn (by have := HF.out.pn; omega) HF.out.hv HF.out.len).mono ?_
  rw [HM.out]
  rintro e wc ⟨rfl, hbc⟩
  have KC := Lib.hid (K0.out.next hbc)
  have q0 := (KC.out.hb).c0
  have q1 := (KC.out.hb).c1
  have q2 := (KC.out.hb).c2
  have q3 := (KC.out.hb).c3
  have q4 := (KC.out.hb).c4
  have q5 := (KC.out.hb).c5
  have ql := (KC.out.hb).lt
  clear hbc K0 HP
  go_wp2_with fail
  refine (rown_copy s d wc KC.out.hp HF.out (by omega)).mono ?_
  rintro e w1 ⟨tw, tp, tu, g, c, rfl, ht, hl, hn, hb1, hz, hg1, hg2, o1, o2, o3⟩
  clear q0 q1 q2 q3 q4 q5 ql
  have K1 := Lib.hid (KC.out.next hb1)
  have T1 := Lib.hid (And.intro ht (And.intro hl (And.intro hn (And.intro hb1 (And.intro (show wc.heap.size ≤ g by omega) (And.intro hg2 (And.intro o1 (And.intro o2 o3))))))))
  have HZ := Lib.hid hz
  have bo := HBox.new w1 ⟨tw, tp, tu, ⟨some ⟨g, 0, none⟩, s.c.n, c⟩⟩ 28
  have q0 := bo.c0
  have q1 := bo.c1
  have q2 := bo.c2
  have q3 := bo.c3
  have q4 := bo.c4
  have q5 := bo.c5
  have ql := bo.lt
  dsimp only at q0 q1 q2 q3 q4 q5
  obtain ⟨b', off, e, hlt, hcs⟩ := ht.cards (by show 0 < s.c.n; omega)
  cases e
  have kc := hcs k hk
  rw [Nat.zero_add] at kc
  have kf := hz k
  have hne : ¬ g = w1.heap.size := by omega
  clear ht hl hn hb1 hz hg1 o1 o2 o3 hcs hlt bo
  go_upto_region 7 with fail
  obtain ⟨ob, hob⟩ : ∃ ob : Obj, ob = .cells #[.slice (⟨tw, tp, tu, ⟨some ⟨g, 0, none⟩, s.c.n, c⟩⟩ : Hs).w.a (⟨tw, tp, tu, ⟨some ⟨g, 0, none⟩, s.c.n, c⟩⟩ : Hs).w.n (⟨tw, tp, tu, ⟨some ⟨g, 0, none⟩, s.c.n, c⟩⟩ : Hs).w.c, .slice (⟨tw, tp, tu, ⟨some ⟨g, 0, none⟩, s.c.n, c⟩⟩ : Hs).p.a (⟨tw, tp, tu, ⟨some ⟨g, 0, none⟩, s.c.n, c⟩⟩ : Hs).p.n (⟨tw, tp, tu, ⟨some ⟨g, 0, none⟩, s.c.n, c⟩⟩ : Hs).p.c, .slice ((⟨tw, tp, tu, ⟨some ⟨g, 0, none⟩, s.c.n, c⟩⟩ : Hs).u 0).a ((⟨tw, tp, tu, ⟨some ⟨g, 0, none⟩, s.c.n, c⟩⟩ : Hs).u 0).n ((⟨tw, tp, tu, ⟨some ⟨g, 0, none⟩, s.c.n, c⟩⟩ : Hs).u 0).c, .slice ((⟨tw, tp, tu, ⟨some ⟨g, 0, none⟩, s.c.n, c⟩⟩ : Hs).u 1).a ((⟨tw, tp, tu, ⟨some ⟨g, 0, none⟩, s.c.n, c⟩⟩ : Hs).u 1).n ((⟨tw, tp, tu, ⟨some ⟨g, 0, none⟩, s.c.n, c⟩⟩ : Hs).u 1).c, .slice ((⟨tw, tp, tu, ⟨some ⟨g, 0, none⟩, s.c.n, c⟩⟩ : Hs).u 2).a ((⟨tw, tp, tu, ⟨some ⟨g, 0, none⟩, s.c.n, c⟩⟩ : Hs).u 2).n ((⟨tw, tp, tu, ⟨some ⟨g, 0, none⟩, s.c.n, c⟩⟩ : Hs).u 2).c, .slice (⟨tw, tp, tu, ⟨some ⟨g, 0, none⟩, s.c.n, c⟩⟩ : Hs).c.a (⟨tw, tp, tu, ⟨some ⟨g, 0, none⟩, s.c.n, c⟩⟩ : Hs).c.n (⟨tw, tp, tu, ⟨some ⟨g, 0, none⟩, s.c.n, c⟩⟩ : Hs).c.c] 28 := ⟨_, rfl⟩
  dsimp only at hob
  rw [← hob] at q0 q1 q2 q3 q4 q5 ql
  rw [← hob]
  have kc' : (w1.alloc ob).cell? ⟨g, k, none⟩ = some (.bool (d.cs k)) := (World.cell?_of_block (a := ⟨g, k, none⟩) (Below.heap_alloc _ _ _ hg2)).trans kc
  have kf' : (w1.alloc ob).frozen? ⟨g, k, none⟩ = false := (World.frozen?_of_block (a := ⟨g, k, none⟩) (Below.heap_alloc _ _ _ hg2)).trans kf
  have kl' : g < (w1.alloc ob).heap.size := by simp; omega
  have K2 := Lib.hid (K1.out.next ((Below.refl _ _).alloc (Nat.le_refl _) ob))
  clear kc kf hob K1
  obtain ⟨W2, hW2⟩ : ∃ W2, W2 = w1.alloc ob := ⟨_, rfl⟩
  obtain ⟨bo, hbo⟩ : ∃ bo, bo = w1.heap.size := ⟨_, rfl⟩
  rw [← hW2, ← hbo] at q0 q1 q2 q3 q4 q5 ql
  rw [← hW2] at kc' kf' kl' K2
  rw [← hbo] at hne
  rw [← hW2, ← hbo]
  have HW2 := Lib.hid hW2
  clear hW2 hbo
  go_upto_region 8 with fail
  obtain ⟨W3, hW3⟩ : ∃ W3, W3 = W2.setCell ⟨g, k, none⟩ (.bool false) := ⟨_, rfl⟩
  have hoth : ∀ i, ¬ i = g → W3.heap[i]? = W2.heap[i]? := fun i hi => by rw [hW3]; exact Below.heap_setCell _ _ _ _ hi
  have hsz : W3.heap.size = W2.heap.size := by rw [hW3]; simp [World.setCell]
  have p0 := (World.cell?_of_block (a := ⟨bo, 0, none⟩) (hoth bo (fun e => hne e.symm))).trans q0
  have p1 := (World.cell?_of_block (a := ⟨bo, 1, none⟩) (hoth bo (fun e => hne e.symm))).trans q1
  have p2 := (World.cell?_of_block (a := ⟨bo, 2, none⟩) (hoth bo (fun e => hne e.symm))).trans q2
  have p3 := (World.cell?_of_block (a := ⟨bo, 3, none⟩) (hoth bo (fun e => hne e.symm))).trans q3
  have p4 := (World.cell?_of_block (a := ⟨bo, 4, none⟩) (hoth bo (fun e => hne e.symm))).trans q4
  have p5 := (World.cell?_of_block (a := ⟨bo, 5, none⟩) (hoth bo (fun e => hne e.symm))).trans q5
  have pl : bo < W3.heap.size := by omega
  have R3 : Hid (Box6 W3 (w.heap.size + 1) noHs) := Lib.hid (K2.out.rb.same (hoth _ (by have h1 := KC.out.rb.box.lt; have h2 := T1.out.2.2.2.2.1; omega)) (Nat.le_of_eq hsz.symm))
  have x0 := (R3.out.box).c0
  have x1 := (R3.out.box).c1
  have x2 := (R3.out.box).c2
  have x3 := (R3.out.box).c3
  have x4 := (R3.out.box).c4
  have x5 := (R3.out.box).c5
  have xl := (R3.out.box).lt
  have y0 := (R3.out).free 0
  have y1 := (R3.out).free 1
  have y2 := (R3.out).free 2
  have y3 := (R3.out).free 3
  have y4 := (R3.out).free 4
  have y5 := (R3.out).free 5
  dsimp only [noHs, Ls.noSl] at x0 x1 x2 x3 x4 x5
  rw [← hW3]
  have HW3 := Lib.hid hW3
  clear q0 q1 q2 q3 q4 q5 ql kc' kf' kl' hW3 hoth hsz K2
  go_wp2
  refine bodyPost_ret (v := .tuple #[(.agg #[.slice (⟨tw, tp, tu, ⟨some ⟨g, 0, none⟩, s.c.n, c⟩⟩ : Hs).w.a (⟨tw, tp, tu, ⟨some ⟨g, 0, none⟩, s.c.n, c⟩⟩ : Hs).w.n (⟨tw, tp, tu, ⟨some ⟨g, 0, none⟩, s.c.n, c⟩⟩ : Hs).w.c, .slice (⟨tw, tp, tu, ⟨some ⟨g, 0, none⟩, s.c.n, c⟩⟩ : Hs).p.a (⟨tw, tp, tu, ⟨some ⟨g, 0, none⟩, s.c.n, c⟩⟩ : Hs).p.n (⟨tw, tp, tu, ⟨some ⟨g, 0, none⟩, s.c.n, c⟩⟩ : Hs).p.c, .slice ((⟨tw, tp, tu, ⟨some ⟨g, 0, none⟩, s.c.n, c⟩⟩ : Hs).u 0).a ((⟨tw, tp, tu, ⟨some ⟨g, 0, none⟩, s.c.n, c⟩⟩ : Hs).u 0).n ((⟨tw, tp, tu, ⟨some ⟨g, 0, none⟩, s.c.n, c⟩⟩ : Hs).u 0).c, .slice ((⟨tw, tp, tu, ⟨some ⟨g, 0, none⟩, s.c.n, c⟩⟩ : Hs).u 1).a ((⟨tw, tp, tu, ⟨some ⟨g, 0, none⟩, s.c.n, c⟩⟩ : Hs).u 1).n ((⟨tw, tp, tu, ⟨some ⟨g, 0, none⟩, s.c.n, c⟩⟩ : Hs).u 1).c, .slice ((⟨tw, tp, tu, ⟨some ⟨g, 0, none⟩, s.c.n, c⟩⟩ : Hs).u 2).a ((⟨tw, tp, tu, ⟨some ⟨g, 0, none⟩, s.c.n, c⟩⟩ : Hs).u 2).n ((⟨tw, tp, tu, ⟨some ⟨g, 0, none⟩, s.c.n, c⟩⟩ : Hs).u 2).c, .slice (⟨tw, tp, tu, ⟨some ⟨g, 0, none⟩, s.c.n, c⟩⟩ : Hs).c.a (⟨tw, tp, tu, ⟨some ⟨g, 0, none⟩, s.c.n, c⟩⟩ : Hs).c.n (⟨tw, tp, tu, ⟨some ⟨g, 0, none⟩, s.c.n, c⟩⟩ : Hs).c.c]), .int .i64 0]) ?_ rfl (mark_fin _ _ _ _ _ _ KC.out T1.out.2.2.2.1 T1.out.1 hk T1.out.2.1 T1.out.2.2.1 T1.out.2.2.2.2.2.1 T1.out.2.2.2.2.1 T1.out.2.2.2.2.2.2.1 T1.out.2.2.2.2.2.2.2.1 T1.out.2.2.2.2.2.2.2.2 (by rw [HW3.out, HW2.out]))
  obtain ⟨k0, k1, k2, k3, k4, k5⟩ := put6_at R3.out (.slice tw.a tw.n tw.c) (.slice tp.a tp.n tp.c) (.slice (tu 0).a (tu 0).n (tu 0).c) (.slice (tu 1).a (tu 1).n (tu 1).c) (.slice (tu 2).a (tu 2).n (tu 2).c) (.slice (some ⟨g, 0, none⟩) s.c.n c)
  exact res_rclean rfl rfl k0 k1 k2 k3 k4 k5
theorem rclean_any (k : Int) (hp : Hp w w.heap.size s d) (hf : Fine s d) : Calls Tryz.prog 28 #[(.agg #[.slice s.w.a s.w.n s.w.c, .slice s.p.a s.p.n s.p.c, .slice (s.u 0).a (s.u 0).n (s.u 0).c, .slice (s.u 1).a (s.u 1).n (s.u 1).c, .slice (s.u 2).a (s.u 2).n (s.u 2).c, .slice s.c.a s.c.n s.c.c]), .int .i64 k] w (HOut w (clR s d k)) := by
  unfold clR
  split
  · next e =>
    obtain ⟨h1, h2, h3⟩ := clE_is e
    obtain ⟨i, rfl⟩ : ∃ i : Nat, k = i := ⟨k.toNat, by omega⟩
    exact rclean_ok s d w i hp hf h1 (by omega)
  · next e =>
    cases hm : mayB0 s d
    · rw [show clE s d k = 1 from if_pos hm]
      exact rclean_may s d w k hp hf hm
    · by_cases h : 0 ≤ k ∧ k < (s.c.n : Int)
      · exact absurd (show clE s d k = 0 by unfold clE; rw [if_neg (by rw [hm]; decide), if_pos h]) e
      · rw [show clE s d k = 3 by unfold clE; rw [if_neg (by rw [hm]; decide), if_neg h]]
        by_cases h0 : k < 0
        · exact rclean_low s d w hp hf hm k h0
        · exact rclean_high s d w hp hf hm k h0 (by omega)
end
end Go.Proofs.YtmalopciboikhaaGreatDoor.Ck
end
section
namespace Go.Proofs.YtmalopciboikhaaGreatDoor
open Go.RowKit

section
variable {P : Program} {ops : Array Oper} {Q : Exit → Act → World → Prop} {md : Region.Mode}
theorem wpAny_inv (Inv : (Nat → Bool) → Act → World → Prop) (hdag : ∀ (i : Nat) (o : Oper), ops[i]? = some o → ∀ e ∈ o.after, Region.binds md e = true → e.on < i)
    (hstep : ∀ (i : Nat) (o : Oper) (l : Nat → Bool) (a : Act) (w : World), ops[i]? = some o → Inv l a w → l i = false → (∀ e ∈ o.after, Region.binds md e = true → l e.on = true) → ∀ K : Act → World → Prop, (∀ a' w', Inv (Ls.upd l i true) a' w' → K a' w') → wpOp P ops Q i K a w)
    (hdone : ∀ (l : Nat → Bool) (a : Act) (w : World), Inv l a w → (∀ i, i < ops.size → l i = true) → Q .normal a w) :
    ∀ (fuel : Nat) (listed : Array Bool) (l : Nat → Bool) (a : Act) (w : World), listed.size = ops.size → (∀ j, j < ops.size → listed.getD j true = l j) → Ls.todo ops.size l ≤ fuel → Inv l a w → wpAny P md ops Q fuel listed a w := by
  intro fuel
  induction fuel with
  | zero =>
    intro listed l a w hs hl ht hi
    have hall := Ls.todo_none ops.size (Nat.le_zero.1 ht)
    refine ⟨List.eq_nil_iff_forall_not_mem.2 fun j hj => ?_, hdone l a w hi hall⟩
    obtain ⟨h1, o, ho, _⟩ := mem_ready.1 hj
    have hlt : j < ops.size := (Array.getElem?_eq_some_iff.1 ho).1
    rw [hl j hlt, hall j hlt] at h1
    cases h1
  | succ fuel ih =>
    intro listed l a w hs hl ht hi
    refine ⟨fun hr => hdone l a w hi ?_, fun i hri => ?_⟩
    · intro i
      induction i using Nat.strongRecOn with
      | ind i ihi =>
        intro hlt
        cases hli : l i with
        | true => rfl
        | false =>
          have ho : ops[i]? = some ops[i] := Array.getElem?_eq_getElem hlt
          have : i ∈ Region.ready md ops listed := mem_ready.2 ⟨by rw [hl i hlt]; exact hli, _, ho, fun e he hbd => by
            have hlo := hdag i _ ho e he hbd
            have h1 := ihi e.on hlo (by omega)
            rw [← hl e.on (by omega)] at h1
            rw [Array.getD_eq_getD_getElem?] at h1 ⊢
            rw [Array.getElem?_eq_getElem (by omega)] at h1 ⊢
            exact h1⟩
          rw [hr] at this
          cases this
    · obtain ⟨h1, o, ho, ha⟩ := mem_ready.1 hri
      have hlt : i < ops.size := (Array.getElem?_eq_some_iff.1 ho).1
      rw [hl i hlt] at h1
      refine hstep i o l a w ho hi h1 (fun e he hb => ?_) _ (fun a' w' hi' => ih _ (Ls.upd l i true) a' w' (by simpa using hs) (fun j hj => ?_) ?_ hi')
      · have h2 := ha e he hb
        have hlo := hdag i o ho e he hb
        rw [← hl e.on (by omega)]
        rw [Array.getD_eq_getD_getElem?] at h2 ⊢
        rw [Array.getElem?_eq_getElem (by omega)] at h2 ⊢
        exact h2
      · by_cases e : j = i
        · subst e
          rw [Ls.upd_same, Array.getD_eq_getD_getElem?, Array.getElem?_setIfInBounds_self_of_lt (by omega)]
          rfl
        · rw [Ls.upd_other _ _ e, Array.getD_eq_getD_getElem?, Array.getElem?_setIfInBounds_ne (fun h => e h.symm), ← Array.getD_eq_getD_getElem?]
          exact hl j hj
      · have := Ls.todo_upd h1 ops.size hlt
        omega
theorem wp_region_from {id : Nat} {a : Act} {w : World} (hm : P.follows .mixedOrders = true) (Inv : Act → (Nat → Bool) → Act → World → Prop) (hdag : ∀ (i : Nat) (o : Oper), ops[i]? = some o → ∀ e ∈ o.after, Region.binds .any e = true → e.on < i)
    (hstart : Inv a (fun _ => false) a w.drew)
    (hstep : ∀ (i : Nat) (o : Oper) (l : Nat → Bool) (a' : Act) (w : World), ops[i]? = some o → Inv a l a' w → l i = false → (∀ e ∈ o.after, Region.binds .any e = true → l e.on = true) → ∀ K : Act → World → Prop, (∀ a'' w', Inv a (Ls.upd l i true) a'' w' → K a'' w') → wpOp P ops Q i K a' w)
    (hdone : ∀ (l : Nat → Bool) (a' : Act) (w : World), Inv a l a' w → (∀ i, i < ops.size → l i = true) → Q .normal a' w) : (Code.region id ops true).wp P Q a w :=
  wp_region_any hm (wpAny_inv (Inv a) hdag hstep hdone ops.size _ (fun _ => false) a w.drew (by simp) (fun j hj => by
    rw [Array.getD_eq_getD_getElem?, Array.getElem?_replicate, if_pos hj]
    rfl) (Ls.todo_le _ _) hstart)
/-- The edges that bind lead back. -/
def backAny (ops : Array Oper) : Bool := (List.range ops.size).all fun i => ((ops[i]?).map fun o => o.after.all fun e => !Region.binds .any e || decide (e.on < i)).getD true
theorem dag_any {ops : Array Oper} (h : backAny ops = true) : ∀ (i : Nat) (o : Oper), ops[i]? = some o → ∀ e ∈ o.after, Region.binds .any e = true → e.on < i := by
  intro i o ho e he hb
  have hi : i < ops.size := (Array.getElem?_eq_some_iff.1 ho).1
  have := List.all_eq_true.1 h i (List.mem_range.2 hi)
  rw [ho] at this
  simp only [Option.map_some, Option.getD_some] at this
  have := Array.all_eq_true_iff_forall_mem.1 this e he
  rw [hb] at this
  simpa using this
theorem wpOp_of {i : Nat} {o : Oper} {a : Act} {w : World} {K : Act → World → Prop} (ho : ops[i]? = some o)
    (h : if Region.wanted o (yielded ops a.tmps) = true then o.wp P a w K Q else K (a.put o.dst undef) w) : wpOp P ops Q i K a w := by
  unfold wpOp
  rw [ho]
  simp only
  split
  · next hw => rw [if_pos hw] at h; exact .inl h
  · next hw => rw [if_neg hw] at h; exact h
end
end Go.Proofs.YtmalopciboikhaaGreatDoor
end
section
namespace Go.Proofs.YtmalopciboikhaaGreatDoor
open Go.RowKit
set_option maxRecDepth 100000

/-- Another head with as many fields stands at a; all else is as it was. -/
structure Turned (s t : Hs) (d d' : Hd_) (a : Int) : Prop where
  len : Lens s t
  f : d'.f = d.f
  F : d'.F = d.F
  oth : ∀ y, 16 ≤ y → ¬ y = a → wd d' y = wd d y
  w1 : Hd.isWord (wd d' a) = true ∧ wd d' a % 2 = 1
  w2 : Hd.isWord (wd d a) = true ∧ wd d a % 2 = 1
  n : nOf (wd d' a) = nOf (wd d a)
section
variable {s t : Hs} {d d' : Hd_} {a : Int}
theorem Turned.word (h : Turned s t d d' a) {y : Int} (hy : 16 ≤ y) : Hd.isWord (wd d' y) = Hd.isWord (wd d y) ∧ (wd d' y % 2 = 1 ↔ wd d y % 2 = 1) ∧ nOf (wd d' y) = nOf (wd d y) ∧ (wd d' y = 0 ↔ wd d y = 0) := by
  by_cases e : y = a
  · subst e
    have h1 := h.w1
    have h2 := h.w2
    exact ⟨h1.1.trans h2.1.symm, ⟨fun _ => h2.2, fun _ => h1.2⟩, h.n, ⟨fun e => by omega, fun e => by omega⟩⟩
  · rw [h.oth y hy e]
    exact ⟨rfl, Iff.rfl, rfl, Iff.rfl⟩
theorem Turned.cell (h : Turned s t d d' a) {y : Int} (hy : 16 ≤ y) : cellAt d' y = cellAt d y := by
  obtain ⟨h1, h2, h3, _⟩ := h.word hy
  unfold cellAt cellB
  rw [h.f, show d'.ws.getD (y - 16).toNat 0 = wd d' y from rfl, show d.ws.getD (y - 16).toNat 0 = wd d y from rfl]
  by_cases hc : Hd.isWord (wd d y) = true ∧ wd d y % 2 = 1
  · have hc' : Hd.isWord (wd d' y) = true ∧ wd d' y % 2 = 1 := ⟨h1.trans hc.1, h2.2 hc.2⟩
    rw [if_pos hc, if_pos hc', h3]
  · have hc' : ¬ (Hd.isWord (wd d' y) = true ∧ wd d' y % 2 = 1) := fun e => hc ⟨h1.symm.trans e.1, h2.1 e.2⟩
    rw [if_neg hc, if_neg hc', h1]
theorem bg_in16 {f : Nat → Int × Int} {n : Nat} {y : Int} (h : ¬ Cl.bg f n y = 0) : 16 ≤ y :=
  Classical.byContradiction fun hn => h (Cl.bg_no fun e => hn e.2.1)
theorem Turned.freeH (h : Turned s t d d' a) (n : Nat) (y c : Int) : freeH d' n y c = Go.Proofs.YtmalopciboikhaaGreatDoor.freeH d n y c := by
  unfold Go.Proofs.YtmalopciboikhaaGreatDoor.freeH
  rw [h.f]
  by_cases hb : Cl.bg d.f n y = 0
  · rw [if_pos hb, if_pos hb]
  · rw [if_neg hb, if_neg hb]
    have h4 := (h.word (bg_in16 hb)).2.2.2
    rw [show d'.ws.getD (y - 16).toNat 0 = wd d' y from rfl, show d.ws.getD (y - 16).toNat 0 = wd d y from rfl]
    congr 1
    rw [Bool.eq_iff_iff, beq_iff_eq, beq_iff_eq]
    exact h4
theorem Turned.may (h : Turned s t d d' a) (m : Nat) (F : Nat → Nat → List Int) : mayH t d' m F = mayH s d m F := by
  unfold mayH firstB freeAll
  rw [h.len.1, h.len.2.1, h.len.2.2.2, h.f, h.F, all_congr fun y hy => h.cell (allS_in hy).1]
  simp only [h.freeH]
theorem Turned.may0 (h : Turned s t d d' a) : mayB0 t d' = mayB0 s d := h.may 0 noCaches
theorem Turned.used (h : Turned s t d d' a) : usedL t d' = usedL s d := by
  unfold usedL usedF
  rw [h.may0, h.f, h.len.2.1]
  split
  · refine List.filter_congr fun y hy => ?_
    rw [decide_eq_decide]
    exact (h.word (allS_in hy).1).2.1
  · rfl
theorem Turned.whole (h : Turned s t d d' a) (m : Nat) (F : Nat → Nat → List Int) : wholeH t d' m F = wholeH s d m F := by
  unfold wholeH
  rw [h.may, h.f, h.F, h.len.2.1]
  congr 1
  refine all_congr fun y hy => ?_
  congr 2
  rw [Bool.eq_iff_iff, beq_iff_eq, beq_iff_eq]
  exact (h.word (allS_in hy).1).2.2.2
theorem Turned.headE (h : Turned s t d d' a) (y : Int) : headE t d' y = Go.Proofs.YtmalopciboikhaaGreatDoor.headE s d y := by
  unfold Go.Proofs.YtmalopciboikhaaGreatDoor.headE
  rw [h.may0, h.f, h.len.2.1]
  by_cases hm : mayB0 s d = false
  · rw [if_pos hm, if_pos hm]
  · rw [if_neg hm, if_neg hm]
    by_cases hb : Cl.bg d.f s.p.n y = 0
    · rw [if_pos (Or.inl hb), if_pos (Or.inl hb)]
    · have h4 := (h.word (bg_in16 hb)).2.2.2
      by_cases hw : wd d y = 0
      · rw [if_pos (Or.inr hw), if_pos (Or.inr (h4.2 hw))]
      · rw [if_neg (by rintro (e | e); exact hb e; exact hw (h4.1 e)), if_neg (by rintro (e | e); exact hb e; exact hw e)]
theorem Turned.headV (h : Turned s t d d' a) {y : Int} (hy : ¬ y = a) : headV t d' y = Go.Proofs.YtmalopciboikhaaGreatDoor.headV s d y := by
  unfold Go.Proofs.YtmalopciboikhaaGreatDoor.headV
  rw [h.headE]
  split
  · next he =>
    unfold Go.Proofs.YtmalopciboikhaaGreatDoor.headE at he
    split at he
    · omega
    · split at he
      · omega
      · next hn => rw [h.oth y (bg_in16 fun e => hn (.inl e)) hy]
  · rfl
end
end Go.Proofs.YtmalopciboikhaaGreatDoor
end
section
namespace Go.Proofs.YtmalopciboikhaaGreatDoor
open Go.RowKit
set_option maxRecDepth 100000

/-- What a walk through Set has in memory: the heap's box, the head's, the result's. -/
structure St (w W : World) (s : Hs) (d : Hd_) (u o e : Bool) (n b m : Int) : Prop where
  bel : Below w.heap.size w W
  hb : HBox W w.heap.size s
  xb : X6 W (w.heap.size + 1) u o e n b m
  rb : Box6 W (w.heap.size + 2) noHs
  hp : Hp W W.heap.size s d
theorem St.next {w W W' : World} {s : Hs} {d : Hd_} {u o e : Bool} {n b m : Int} (h : St w W s d u o e n b m) (hb : Below W.heap.size W W') : St w W' s d u o e n b m :=
  ⟨h.bel.trans (hb.mono h.bel.size), h.hb.next hb, h.xb.next hb, h.rb.next hb, h.hp.next hb⟩
section
variable (s : Hs) (d : Hd_) (a : Int) (u o e : Bool) (n b m : Int) (w : World)
end
end Go.Proofs.YtmalopciboikhaaGreatDoor
end
section
namespace Go.Proofs.YtmalopciboikhaaGreatDoor
open Go.RowKit
set_option maxRecDepth 100000

/-- The other heap, in its box. -/
structure BB (W : World) (bb : Nat) (t : Hs) (d : Hd_) : Prop where
  box : HBox W bb t
  hp : Hp W W.heap.size t d
theorem BB.next {W W' : World} {bb : Nat} {t : Hs} {d : Hd_} (h : BB W bb t d) (hb : Below W.heap.size W W') : BB W' bb t d := ⟨h.box.next hb, h.hp.next hb⟩
structure KS (w W : World) (s t : Hs) (d d' : Hd_) (u o e : Bool) (n b m : Int) (bb : Nat) (A : Option Addr) (k : Nat) (us : List Int) : Prop where
  h : HNow w W s d
  x : X6 W (w.heap.size + 1) u o e n b m
  b : BB W bb t d'
  r : Row W W.heap.size A k us
theorem KS.next {w W W' : World} {s t : Hs} {d d' : Hd_} {u o e : Bool} {n b m : Int} {bb : Nat} {A : Option Addr} {k : Nat} {us : List Int} (h : KS w W s t d d' u o e n b m bb A k us) (hb : Below W.heap.size W W') : KS w W' s t d d' u o e n b m bb A k us :=
  ⟨h.h.next hb, h.x.next hb, h.b.next hb, (h.r.below hb).more hb.size⟩
/-- A head is stored into a box that was made. -/
theorem x6_put {W : World} {b : Nat} (h : XBox W b) (x0 x1 x2 : Bool) (x3 x4 x5 : Int) : X6 (put6 W b (.bool x0) (.bool x1) (.bool x2) (.int .i64 x3) (.int .i64 x4) (.int .i64 x5)) b x0 x1 x2 x3 x4 x5 := by
  have h0 := h.cell 0 (by decide)
  have h1 := h.cell 1 (by decide)
  have h2 := h.cell 2 (by decide)
  have h3 := h.cell 3 (by decide)
  have h4 := h.cell 4 (by decide)
  have h5 := h.cell 5 (by decide)
  refine ⟨?_, ?_, ?_, ?_, ?_, ?_, by rw [put6_size]; exact h.lt⟩ <;> simp [put6, go_sem, h0, h1, h2, h3, h4, h5]
theorem below_drew0 (w : World) : Below w.heap.size w w.drew := below_drawn' (Below.refl _ _) 1
section
variable {wr W : World} {bb br o : Nat} {t : Hs} {v : Value} (h : HBox wr bb t ∧ br < wr.heap.size ∧ wr.cell? ⟨br, o, none⟩ = some v)
include h
end
end Go.Proofs.YtmalopciboikhaaGreatDoor
end
section
namespace Go.Proofs.YtmalopciboikhaaGreatDoor
open Go.RowKit
set_option maxRecDepth 100000

structure RSt (wr wc : World) (l : Nat → Bool) (x13 x14 x48 x49 x50 x51 x52 x53 x54 x55 x56 : Value) (HV A kV pV yV : Value) (v0 v1 v2 : Bool) (v3 v4 v5 : Int) (b9 : Nat) : Prop where
  bel : Below wr.heap.size wr wc
  s0 : l 0 = true → x49 = HV
  s1 : l 1 = true → x50 = A
  s2 : l 2 = true → x51 = kV
  s3 : l 3 = true → x52 = pV
  s4 : l 4 = true → x53 = yV
  s5 : l 5 = true → x54 = (.tuple #[(.agg #[.bool v0, .bool v1, .bool v2, .int .i64 v3, .int .i64 v4, .int .i64 v5]), .int .i64 0])
  s6 : l 6 = true → x48 = (.tuple #[(.agg #[.bool v0, .bool v1, .bool v2, .int .i64 v3, .int .i64 v4, .int .i64 v5]), .int .i64 0])
  s7 : l 7 = true → x55 = (.agg #[.bool v0, .bool v1, .bool v2, .int .i64 v3, .int .i64 v4, .int .i64 v5])
  s8 : l 8 = true → x56 = .int .i64 0
  s9 : l 9 = true → x13 = .pointer (some ⟨b9, 0, none⟩) ∧ wr.heap.size ≤ b9 ∧ (if l 10 = true then X6 wc b9 v0 v1 v2 v3 v4 v5 else XBox wc b9)
  s11 : l 11 = true → x14 = .int .i64 0
  o10 : l 10 = true → l 9 = true ∧ l 5 = true
section
variable {wr wc wc' : World} {l : Nat → Bool} {x13 x14 x48 x49 x50 x51 x52 x53 x54 x55 x56 : Value} {HV A kV pV yV : Value} {v0 v1 v2 : Bool} {v3 v4 v5 : Int} {b9 : Nat}
theorem RSt.start (x13 x14 x48 x49 x50 x51 x52 x53 x54 x55 x56 : Value) : RSt wr wr.drew (fun _ => false) x13 x14 x48 x49 x50 x51 x52 x53 x54 x55 x56 HV A kV pV yV v0 v1 v2 v3 v4 v5 0 :=
  ⟨below_drew0 wr, (fun h => by cases h), (fun h => by cases h), (fun h => by cases h), (fun h => by cases h), (fun h => by cases h), (fun h => by cases h), (fun h => by cases h), (fun h => by cases h), (fun h => by cases h), (fun h => by cases h), (fun h => by cases h), (fun h => by cases h)⟩
theorem RSt.did0 (h : RSt wr wc l x13 x14 x48 x49 x50 x51 x52 x53 x54 x55 x56 HV A kV pV yV v0 v1 v2 v3 v4 v5 b9) : RSt wr wc (Ls.upd l 0 true) x13 x14 x48 HV x50 x51 x52 x53 x54 x55 x56 HV A kV pV yV v0 v1 v2 v3 v4 v5 b9 := ⟨h.bel, fun _ => rfl, h.s1, h.s2, h.s3, h.s4, h.s5, h.s6, h.s7, h.s8, h.s9, h.s11, h.o10⟩
theorem RSt.did1 (h : RSt wr wc l x13 x14 x48 x49 x50 x51 x52 x53 x54 x55 x56 HV A kV pV yV v0 v1 v2 v3 v4 v5 b9) : RSt wr wc (Ls.upd l 1 true) x13 x14 x48 x49 A x51 x52 x53 x54 x55 x56 HV A kV pV yV v0 v1 v2 v3 v4 v5 b9 := ⟨h.bel, h.s0, fun _ => rfl, h.s2, h.s3, h.s4, h.s5, h.s6, h.s7, h.s8, h.s9, h.s11, h.o10⟩
theorem RSt.did2 (h : RSt wr wc l x13 x14 x48 x49 x50 x51 x52 x53 x54 x55 x56 HV A kV pV yV v0 v1 v2 v3 v4 v5 b9) : RSt wr wc (Ls.upd l 2 true) x13 x14 x48 x49 x50 kV x52 x53 x54 x55 x56 HV A kV pV yV v0 v1 v2 v3 v4 v5 b9 := ⟨h.bel, h.s0, h.s1, fun _ => rfl, h.s3, h.s4, h.s5, h.s6, h.s7, h.s8, h.s9, h.s11, h.o10⟩
theorem RSt.did3 (h : RSt wr wc l x13 x14 x48 x49 x50 x51 x52 x53 x54 x55 x56 HV A kV pV yV v0 v1 v2 v3 v4 v5 b9) : RSt wr wc (Ls.upd l 3 true) x13 x14 x48 x49 x50 x51 pV x53 x54 x55 x56 HV A kV pV yV v0 v1 v2 v3 v4 v5 b9 := ⟨h.bel, h.s0, h.s1, h.s2, fun _ => rfl, h.s4, h.s5, h.s6, h.s7, h.s8, h.s9, h.s11, h.o10⟩
theorem RSt.did4 (h : RSt wr wc l x13 x14 x48 x49 x50 x51 x52 x53 x54 x55 x56 HV A kV pV yV v0 v1 v2 v3 v4 v5 b9) : RSt wr wc (Ls.upd l 4 true) x13 x14 x48 x49 x50 x51 x52 yV x54 x55 x56 HV A kV pV yV v0 v1 v2 v3 v4 v5 b9 := ⟨h.bel, h.s0, h.s1, h.s2, h.s3, fun _ => rfl, h.s5, h.s6, h.s7, h.s8, h.s9, h.s11, h.o10⟩
theorem RSt.did6 (h : RSt wr wc l x13 x14 x48 x49 x50 x51 x52 x53 x54 x55 x56 HV A kV pV yV v0 v1 v2 v3 v4 v5 b9) : RSt wr wc (Ls.upd l 6 true) x13 x14 (.tuple #[(.agg #[.bool v0, .bool v1, .bool v2, .int .i64 v3, .int .i64 v4, .int .i64 v5]), .int .i64 0]) x49 x50 x51 x52 x53 x54 x55 x56 HV A kV pV yV v0 v1 v2 v3 v4 v5 b9 := ⟨h.bel, h.s0, h.s1, h.s2, h.s3, h.s4, h.s5, fun _ => rfl, h.s7, h.s8, h.s9, h.s11, h.o10⟩
theorem RSt.did7 (h : RSt wr wc l x13 x14 x48 x49 x50 x51 x52 x53 x54 x55 x56 HV A kV pV yV v0 v1 v2 v3 v4 v5 b9) : RSt wr wc (Ls.upd l 7 true) x13 x14 x48 x49 x50 x51 x52 x53 x54 (.agg #[.bool v0, .bool v1, .bool v2, .int .i64 v3, .int .i64 v4, .int .i64 v5]) x56 HV A kV pV yV v0 v1 v2 v3 v4 v5 b9 := ⟨h.bel, h.s0, h.s1, h.s2, h.s3, h.s4, h.s5, h.s6, fun _ => rfl, h.s8, h.s9, h.s11, h.o10⟩
theorem RSt.did8 (h : RSt wr wc l x13 x14 x48 x49 x50 x51 x52 x53 x54 x55 x56 HV A kV pV yV v0 v1 v2 v3 v4 v5 b9) : RSt wr wc (Ls.upd l 8 true) x13 x14 x48 x49 x50 x51 x52 x53 x54 x55 (.int .i64 0) HV A kV pV yV v0 v1 v2 v3 v4 v5 b9 := ⟨h.bel, h.s0, h.s1, h.s2, h.s3, h.s4, h.s5, h.s6, h.s7, fun _ => rfl, h.s9, h.s11, h.o10⟩
theorem RSt.did11 (h : RSt wr wc l x13 x14 x48 x49 x50 x51 x52 x53 x54 x55 x56 HV A kV pV yV v0 v1 v2 v3 v4 v5 b9) : RSt wr wc (Ls.upd l 11 true) x13 (.int .i64 0) x48 x49 x50 x51 x52 x53 x54 x55 x56 HV A kV pV yV v0 v1 v2 v3 v4 v5 b9 := ⟨h.bel, h.s0, h.s1, h.s2, h.s3, h.s4, h.s5, h.s6, h.s7, h.s8, h.s9, fun _ => rfl, h.o10⟩
theorem RSt.did5 (h : RSt wr wc l x13 x14 x48 x49 x50 x51 x52 x53 x54 x55 x56 HV A kV pV yV v0 v1 v2 v3 v4 v5 b9) (hl : l 10 = false) (hb : Below wc.heap.size wc wc') : RSt wr wc' (Ls.upd l 5 true) x13 x14 x48 x49 x50 x51 x52 x53 (.tuple #[(.agg #[.bool v0, .bool v1, .bool v2, .int .i64 v3, .int .i64 v4, .int .i64 v5]), .int .i64 0]) x55 x56 HV A kV pV yV v0 v1 v2 v3 v4 v5 b9 := ⟨h.bel.trans (hb.mono h.bel.size), h.s0, h.s1, h.s2, h.s3, h.s4, fun _ => rfl, h.s6, h.s7, h.s8, fun h9 => ⟨(h.s9 h9).1, (h.s9 h9).2.1, by
    have h1 := (h.s9 h9).2.2
    rw [if_neg (by rw [hl]; decide)] at h1
    rw [if_neg (by show ¬ l 10 = true; rw [hl]; decide)]
    exact h1.next hb⟩, h.s11, fun h10 => absurd h10 (by show ¬ l 10 = true; rw [hl]; decide)⟩
theorem RSt.did9 (h : RSt wr wc l x13 x14 x48 x49 x50 x51 x52 x53 x54 x55 x56 HV A kV pV yV v0 v1 v2 v3 v4 v5 b9) (hl : l 10 = false) (ty : TypeId) : RSt wr (wc.alloc (.cells #[.bool false, .bool false, .bool false, .int .i64 0, .int .i64 0, .int .i64 0] ty)) (Ls.upd l 9 true) (.pointer (some ⟨wc.heap.size, 0, none⟩)) x14 x48 x49 x50 x51 x52 x53 x54 x55 x56 HV A kV pV yV v0 v1 v2 v3 v4 v5 wc.heap.size := ⟨h.bel.alloc h.bel.size _, h.s0, h.s1, h.s2, h.s3, h.s4, h.s5, h.s6, h.s7, h.s8, fun _ => ⟨rfl, h.bel.size, by
    rw [if_neg (by show ¬ l 10 = true; rw [hl]; decide)]
    exact XBox.new wc ty⟩, h.s11, fun h10 => absurd h10 (by show ¬ l 10 = true; rw [hl]; decide)⟩
theorem RSt.did10 (h : RSt wr wc l x13 x14 x48 x49 x50 x51 x52 x53 x54 x55 x56 HV A kV pV yV v0 v1 v2 v3 v4 v5 b9) (hl : l 10 = false) (h9 : l 9 = true) (h5 : l 5 = true) : RSt wr ((((((wc.setCell ⟨b9, 0, none⟩ (.bool v0)).setCell ⟨b9, 1, none⟩ (.bool v1)).setCell ⟨b9, 2, none⟩ (.bool v2)).setCell ⟨b9, 3, none⟩ (.int .i64 v3)).setCell ⟨b9, 4, none⟩ (.int .i64 v4)).setCell ⟨b9, 5, none⟩ (.int .i64 v5)) (Ls.upd l 10 true) x13 x14 x48 x49 x50 x51 x52 x53 x54 x55 x56 HV A kV pV yV v0 v1 v2 v3 v4 v5 b9 := ⟨below_put6 h.bel (h.s9 h9).2.1 _ _ _ _ _ _, h.s0, h.s1, h.s2, h.s3, h.s4, h.s5, h.s6, h.s7, h.s8, fun _ => ⟨(h.s9 h9).1, (h.s9 h9).2.1, by
    have h1 := (h.s9 h9).2.2
    rw [if_neg (by rw [hl]; decide)] at h1
    rw [if_pos (show Ls.upd l 10 true 10 = true from rfl)]
    exact x6_put h1 v0 v1 v2 v3 v4 v5⟩, h.s11, fun _ => ⟨h9, h5⟩⟩
end
end Go.Proofs.YtmalopciboikhaaGreatDoor
end
section
namespace Go.Proofs.YtmalopciboikhaaGreatDoor.Ck
open Go.Proofs.YtmalopciboikhaaGreatDoor
open Go.RowKit
set_option maxRecDepth 100000

theorem take_next {p : Int → Bool} {xs : List Int} {q : Nat} (h : q < xs.length) : (xs.take (q + 1)).filter p = (xs.take q).filter p ++ if p (xs.getD q 0) then [xs.getD q 0] else [] := by
  have g : xs.getD q 0 = xs[q] := by simp [List.getD, h]
  rw [List.take_succ_eq_append_getElem h, List.filter_append, g]
  cases hp : p xs[q] <;> simp [hp]
theorem own_next {W W' : World} {base n : Nat} {v : Value} {xs : List Value} (h : W.ownsRow base 3 1 v n xs) (hb : Below W.heap.size W W') : W'.ownsRow base 3 1 v n xs :=
  Ls.World.ownsRow.same h fun g hg _ => hb.block g (h.lt g hg).2
theorem all_next {w W W' : World} {t : Ls.Sl} {xs : List Int} (h : Ls.Alling w W t xs) (hb : Below W.heap.size W W') : Ls.Alling w W' t xs := ⟨own_next h.own hb, h.bel.trans (hb.mono h.bel.size)⟩
theorem row_next' {W W' : World} {n : Nat} {a : Option Addr} {xs : List Int} (h : Row W W.heap.size a n xs) (hb : Below W.heap.size W W') : Row W' W'.heap.size a n xs := (h.below hb).more hb.size
end Go.Proofs.YtmalopciboikhaaGreatDoor.Ck
end
section
namespace Go.Proofs.YtmalopciboikhaaGreatDoor
open Go.RowKit
set_option maxRecDepth 100000
attribute [local go_sem ↓] Go.wp_at_zero Go.wp_at_succ

def nzF (d : Hd_) (pre : List Int) : List Int := pre.filter fun a => decide (¬ wd d a = 0)
theorem nz_used {d : Hd_} {xs : List Int} (h : ∀ a ∈ xs, Hd.isWord (wd d a) = true) : nzF d xs = usedF d xs := by
  unfold nzF usedF
  refine List.filter_congr fun a ha => ?_
  rw [decide_eq_decide]
  constructor
  · intro h0
    exact Classical.byContradiction fun h1 => h0 (Hd.isWord_even (h a ha) h1)
  · intro h1 h0
    rw [h0] at h1
    exact absurd h1 (by decide)
theorem own_less {w : World} {b b' n : Nat} {v : Value} {xs : List Value} (h : w.ownsRow b 3 1 v n xs) (hb : b' ≤ b) : w.ownsRow b' 3 1 v n xs :=
  ⟨h.1, h.2.imp id fun ⟨g, cap, cur, e, hg, r⟩ => ⟨g, cap, cur, e, Nat.le_trans hb hg, r⟩⟩
theorem nz_next {d : Hd_} {xs : List Int} {q : Nat} (hq : q < xs.length) : nzF d (xs.take (q + 1)) = if wd d (xs.getD q 0) = 0 then nzF d (xs.take q) else nzF d (xs.take q) ++ [xs.getD q 0] := by
  rw [← prefix_next hq]
  unfold nzF
  rw [List.filter_append]
  generalize xs.getD q 0 = y
  split
  · next h => simp [h]
  · next h => simp [h]
section
variable (s : Hs) (d : Hd_) (w : World)
theorem rused_no (hp : Hp w w.heap.size s d) (hf : Fine s d) (hm : mayB0 s d = false) : Calls Tryz.prog 75 #[(.agg #[.slice s.w.a s.w.n s.w.c, .slice s.p.a s.p.n s.p.c, .slice (s.u 0).a (s.u 0).n (s.u 0).c, .slice (s.u 1).a (s.u 1).n (s.u 1).c, .slice (s.u 2).a (s.u 2).n (s.u 2).c, .slice s.c.a s.c.n s.c.c])] w (Ls.AllOut w []) := by
  have HP := Lib.hid hp
  have HF := Lib.hid hf
  have HM := Lib.hid hm
  have hb0 := (Below.refl w.heap.size w).alloc (Nat.le_refl _) (.cells #[.slice s.w.a s.w.n s.w.c, .slice s.p.a s.p.n s.p.c, .slice (s.u 0).a (s.u 0).n (s.u 0).c, .slice (s.u 1).a (s.u 1).n (s.u 1).c, .slice (s.u 2).a (s.u 2).n (s.u 2).c, .slice s.c.a s.c.n s.c.c] 28)
  clear hp hf hm
  go_enter Tryz.func75, Tryz.ntmps75
  go_wp2_with fail
  refine (rmay0_any s d _ (HP.out.next hb0) HF.out.wn (by have := HF.out.pn; omega) HF.out.hv HF.out.len).mono ?_
  rw [HM.out]
  rintro e w1 ⟨rfl, hb1⟩
  have bx1 := (HBox.new w s 28).next hb1
  have N1 := Lib.hid (HNow.mk (d := d) bx1 (hb0.trans (hb1.mono hb0.size)) (HP.out.below (hb0.trans (hb1.mono hb0.size))))
  have q1 := bx1.c1
  have ql := bx1.lt
  clear hb0 hb1 bx1
  go_wp2_with fail
  refine (Cl.rall_any w.heap.size s.p.a s.p.n s.p.c d.f _ (by have := HF.out.pn; omega) N1.out.hp.pages N1.out.bel.size).mono ?_
  rintro r w2 ⟨la, lc, rfl, hrow, _, _, hb2⟩
  have B2 := Lib.hid (N1.out.next hb2).bel
  have hl := allS_len d.f s.p.n
  obtain ⟨n, hn⟩ : ∃ n, (Cl.allS d.f s.p.n).length = n := ⟨_, rfl⟩
  rw [hn] at hl ⊢
  clear hrow hb2 q1 ql hn
  go_wp2
  go_loopw [3, 6] (fun o i wr => o = .slice none 0 0 ∧ i = .int .i64 0 ∧ wr = w2) (fun _ _ _ => 0)
  case atStart => exact ⟨rfl, rfl, rfl⟩
  case round =>
    obtain ⟨rfl, rfl, rfl⟩ := hrel
    by_cases h0 : 0 < n
    · have d0 : decide ((0 : Int) < n) = true := by simp; omega
      go_wp2
      go_ret
      exact ⟨⟨none, 0, 0⟩, rfl, World.ownsRow_nil _ _ _ _, B2.out⟩
    · have d0 : decide ((0 : Int) < n) = false := by simp; omega
      go_wp2
      go_ret
      exact ⟨⟨none, 0, 0⟩, rfl, World.ownsRow_nil _ _ _ _, B2.out⟩
set_option maxHeartbeats 1000000 in
theorem rused_core (xs : List Int) (hxe : Cl.allS d.f s.p.n = xs) (hp : Hp w w.heap.size s d) (hf : Fine s d) (hm : mayB0 s d = true) : Calls Tryz.prog 75 #[(.agg #[.slice s.w.a s.w.n s.w.c, .slice s.p.a s.p.n s.p.c, .slice (s.u 0).a (s.u 0).n (s.u 0).c, .slice (s.u 1).a (s.u 1).n (s.u 1).c, .slice (s.u 2).a (s.u 2).n (s.u 2).c, .slice s.c.a s.c.n s.c.c])] w (Ls.AllOut w (nzF d xs)) := by
  have hall := Cl.rall_any w.heap.size s.p.a s.p.n s.p.c d.f
  have hl := allS_len d.f s.p.n
  have hin := fun a (h : a ∈ Cl.allS d.f s.p.n) => allS_in h
  rw [hxe] at hall hl hin
  have HALL := Lib.hid hall
  have HIN := Lib.hid hin
  clear hall hin hxe
  have hfb := (mayH_all hm).1
  unfold firstB at hfb
  simp only [Bool.and_eq_true, decide_eq_true_eq] at hfb
  obtain ⟨-, hpm, hw, -⟩ := hfb
  have hpn0 : 0 < s.p.n := by have := ((Cl.mayB_iff _ _).1 hpm).1; omega
  have hpn : s.p.n ≤ 64 := ((Cl.mayB_iff _ _).1 hpm).2.1
  rcases s with ⟨⟨aw, nw, cw⟩, sp, su, sc⟩
  obtain ⟨bw, ow, rfl, hbw, hcw⟩ := hp.words.2 (show 0 < nw by dsimp only at hw hpn0; omega)
  dsimp only at hw hpn hpn0 hcw HALL HIN ⊢
  have HP := Lib.hid hp
  have HF := Lib.hid hf
  have HM := Lib.hid hm
  have HCW := Lib.hid hcw
  have HW := Lib.hid hw
  have hb0 := (Below.refl w.heap.size w).alloc (Nat.le_refl _) (.cells #[.slice (some ⟨bw, ow, none⟩) nw cw, .slice sp.a sp.n sp.c, .slice (su 0).a (su 0).n (su 0).c, .slice (su 1).a (su 1).n (su 1).c, .slice (su 2).a (su 2).n (su 2).c, .slice sc.a sc.n sc.c] 28)
  clear hp hf hm hcw hw hpm
  go_enter Tryz.func75, Tryz.ntmps75
  go_wp2_with fail
  refine (rmay0_any ⟨⟨some ⟨bw, ow, none⟩, nw, cw⟩, sp, su, sc⟩ d _ (HP.out.next hb0) HF.out.wn (by have := HF.out.pn; omega) HF.out.hv HF.out.len).mono ?_
  rw [HM.out]
  rintro e w1 ⟨rfl, hb1⟩
  have bx1 := (HBox.new w ⟨⟨some ⟨bw, ow, none⟩, nw, cw⟩, sp, su, sc⟩ 28).next hb1
  have N1 := Lib.hid (HNow.mk (d := d) bx1 (hb0.trans (hb1.mono hb0.size)) (HP.out.below (hb0.trans (hb1.mono hb0.size))))
  have q1 := bx1.c1
  have ql := bx1.lt
  clear hb0 hb1 bx1
  go_wp2_with fail
  refine (HALL.out _ (by omega) N1.out.hp.pages N1.out.bel.size).mono ?_
  rintro r w2 ⟨la, lc, rfl, hrow, _, _, hb2⟩
  have N2 := Lib.hid (N1.out.next hb2)
  obtain ⟨n, hn⟩ : ∃ n, xs.length = n := ⟨_, rfl⟩
  have HN := Lib.hid hn
  rw [hn] at hrow hl ⊢
  have HR := Lib.hid hrow
  clear hrow hb2 q1 ql N1 hn
  go_wp2
  go_loopw [3, 6] (fun o i wr => ∃ (v : Ls.Sl) (q : Nat), q ≤ n ∧ o = .slice v.a v.n v.c ∧ i = .int .i64 q ∧ Hid (Ls.Alling w2 wr v (nzF d (xs.take q)))) (fun _ i _ => n - (intOf i).toNat)
  case atStart => exact ⟨⟨none, 0, 0⟩, 0, Nat.zero_le _, rfl, rfl, Lib.hid ⟨World.ownsRow_nil _ _ _ _, Below.refl _ _⟩⟩
  case round =>
    obtain ⟨v, q, hq, rfl, rfl, HA⟩ := hrel
    by_cases hlt : q < n
    · have NN := HN.out
      obtain ⟨b, off, rfl, hbl, hcell⟩ := (HR.out.below HA.out.bel).2 (by omega)
      have hq1 := hcell q hlt
      obtain ⟨y, hy⟩ : ∃ y, y = xs.getD q 0 := ⟨_, rfl⟩
      rw [← hy] at hq1
      have hmem : y ∈ xs := by rw [hy]; exact getD_mem (by omega)
      have hyin := HIN.out y hmem
      obtain ⟨i, hi⟩ : ∃ i : Nat, y - 16 = i := ⟨(y - 16).toNat, by omega⟩
      have hiw : i < nw := by have := HW.out; omega
      obtain ⟨x, hx⟩ : ∃ x, x = wd d y := ⟨_, rfl⟩
      have hw0 := (N2.out.next HA.out.bel).bel.cell (p := ⟨bw, ow + i, none⟩) hbw |>.trans (HCW.out i hiw)
      rw [show d.ws.getD i 0 = x by rw [hx, wd, show (y - 16).toNat = i by omega]] at hw0
      have bq := (N2.out.next HA.out.bel).box
      have q0 := bq.c0
      have ql := bq.lt
      dsimp only at q0
      have hbs : b < wr.heap.size := by have := HA.out.bel.size; omega
      have hbws : bw < wr.heap.size := by have := (N2.out.next HA.out.bel).bel.size; omega
      have HNX := Lib.hid (nz_next (d := d) (xs := xs) (q := q) (by omega))
      rw [← hy, ← hx] at HNX
      have hvn : v.n + 1 ≤ 4000000 := by
        have h1 := HA.out.len
        have h2 : (nzF d (xs.take q)).length ≤ (xs.take q).length := List.length_filter_le _ _
        rw [List.length_take] at h2
        omega
      have i0 : (0 : Int) ≤ i := by omega
      have i1 : (i : Int) < nw := by omega
      have j0 : (0 : Int) ≤ q := by omega
      have j1 : (q : Int) < n := by omega
      have jt : decide ((q : Int) < n) = true := by simp; omega
      have wi : IntKind.i64.wrap (i : Int) = i := by simp [IntKind.wrap, IntKind.signed, IntKind.bits]; omega
      clear hcell hmem hyin hx hy bq NN
      by_cases hz : x = 0
      · have hz1 : (x != 0) = false := by simp [hz]
        have HA2 : ∀ k, Hid (Ls.Alling w2 (wr.drewN k) v (nzF d (xs.take (q + 1)))) := fun k => Lib.hid (by
          rw [HNX.out, if_pos hz]
          exact ⟨HA.out.own, below_drawn' HA.out.bel k⟩)
        clear hz
        go_wp2
        go_quiet (fail)
        go_wp2
        go_roundw
        case rel => exact ⟨v, q + 1, by omega, rfl, by go_num, HA2 _⟩
        case measure => simp [intOf]; omega
      · have hz1 : (x != 0) = true := by simp [hz]
        have HNX2 := Lib.hid (HNX.out.trans (if_neg hz))
        clear hz HNX
        go_wp2
        go_quiet (fail)
        have hq4 : (wr.drewN nq).cell? ⟨b, off + q, none⟩ = some (.int .i64 y) := hq1
        have ha4 : Ls.Alling w2 (wr.drewN nq) v (nzF d (xs.take q)) := ⟨HA.out.own, below_drawn' HA.out.bel nq⟩
        have hb4 : b < (wr.drewN nq).heap.size := hbs
        have HA4 := Lib.hid ha4
        clear hw0 q0 ql hbws hbs hq1 ha4
        generalize wr.drewN nq = w4 at hq4 hb4 HA4 ⊢
        go_wp2_with (at_builtin; refine Ls.list_cat rfl _ _ rfl rfl rfl (HA4.out.alloc _).own (Ls.row_lit1 _ _) (HA4.out.alloc _).bel.size hvn ?_)
        intro p' cp' w5 hcat
        have hA5 := (HA4.out.alloc _).cat hcat
        rw [← HNX2.out] at hA5
        have H5 := Lib.hid hA5
        clear hcat hA5 hq4 hb4
        go_wp2
        go_roundw
        case rel => exact ⟨⟨p', v.n + 1, cp'⟩, q + 1, by omega, rfl, by go_num, H5⟩
        case measure => simp [intOf]; omega
    · obtain rfl : q = n := by omega
      have jt : decide ((q : Int) < q) = false := by simp
      have HH := HA.out
      rw [List.take_of_length_le (by have := HN.out; omega)] at HH
      have HE := Lib.hid (And.intro (own_less HH.own N2.out.bel.size) (N2.out.next HH.bel).bel)
      clear HH
      go_wp2
      go_ret
      exact ⟨v, rfl, HE.out.1, HE.out.2⟩
theorem rused_any (hp : Hp w w.heap.size s d) (hf : Fine s d) : Calls Tryz.prog 75 #[(.agg #[.slice s.w.a s.w.n s.w.c, .slice s.p.a s.p.n s.p.c, .slice (s.u 0).a (s.u 0).n (s.u 0).c, .slice (s.u 1).a (s.u 1).n (s.u 1).c, .slice (s.u 2).a (s.u 2).n (s.u 2).c, .slice s.c.a s.c.n s.c.c])] w (Ls.AllOut w (usedL s d)) := by
  cases hm : mayB0 s d
  · rw [show usedL s d = [] by simp [usedL, hm]]
    exact rused_no s d w hp hf hm
  · rw [show usedL s d = nzF d (Cl.allS d.f s.p.n) by
      rw [usedL, if_pos hm]
      exact (nz_used fun a ha => (word_used (List.all_eq_true.1 (mayH_all hm).2.1 a ha)).1).symm]
    exact rused_core s d w _ rfl hp hf hm
end
end Go.Proofs.YtmalopciboikhaaGreatDoor
end
section
namespace Go.Proofs.YtmalopciboikhaaGreatDoor.Ck
open Go.Proofs.YtmalopciboikhaaGreatDoor
open Go.RowKit
set_option maxRecDepth 100000

/-- What a region of the reference's On keeps. -/
structure Rg (w wr W : World) (s : Hs) (d : Hd_) (bb off n : Nat) (us : List Int) : Prop where
  now : HNow w W s d
  row : Row W W.heap.size (some ⟨bb, off, none⟩) n us
  bel : Below wr.heap.size wr W
theorem rg_keep {w wr W W' : World} {s : Hs} {d : Hd_} {bb off n q : Nat} {us : List Int} {y : Int} (hq : q < n) (hy : us.getD q 0 = y) (h : Rg w wr W s d bb off n us ∧ True) (hb : Below W.heap.size W W') :
    (Rg w wr W' s d bb off n us ∧ True) ∧ (w.heap.size < W'.heap.size ∧ W'.cell? ⟨w.heap.size, 0, none⟩ = some (.slice s.w.a s.w.n s.w.c) ∧ W'.cell? ⟨w.heap.size, 1, none⟩ = some (.slice s.p.a s.p.n s.p.c) ∧ W'.cell? ⟨w.heap.size, 2, none⟩ = some (.slice (s.u 0).a (s.u 0).n (s.u 0).c) ∧ W'.cell? ⟨w.heap.size, 3, none⟩ = some (.slice (s.u 1).a (s.u 1).n (s.u 1).c) ∧ W'.cell? ⟨w.heap.size, 4, none⟩ = some (.slice (s.u 2).a (s.u 2).n (s.u 2).c) ∧ W'.cell? ⟨w.heap.size, 5, none⟩ = some (.slice s.c.a s.c.n s.c.c)) ∧ bb < W'.heap.size ∧ W'.cell? ⟨bb, off + q, none⟩ = some (.int .i64 y) := by
  have g := h.1.now.next hb
  have r := row_next' h.1.row hb
  obtain ⟨b', off', e, hl, hc⟩ := r.2 (by omega)
  simp only [Option.some.injEq, Addr.mk.injEq, and_true] at e
  obtain ⟨rfl, rfl⟩ := e
  have hc' := hc q hq
  rw [hy] at hc'
  exact ⟨⟨⟨g, r, h.1.bel.trans (hb.mono h.1.bel.size)⟩, trivial⟩, ⟨g.box.lt, g.box.c0, g.box.c1, g.box.c2, g.box.c3, g.box.c4, g.box.c5⟩, hl, hc'⟩
def KRPut (a : Act) (x13 x14 x48 x49 x50 x51 x52 x53 x54 x55 x56 : Value) : Act := (((((((((((a.put (some 10) x13).put (some 11) x14).put (some 21) x48).put (some 22) x49).put (some 23) x50).put (some 24) x51).put (some 25) x52).put (some 26) x53).put (some 27) x54).put (some 28) x55).put (some 29) x56)
def KRInv (wr : World) (HV A kV pV yV : Value) (v0 v1 v2 : Bool) (v3 v4 v5 : Int) (a0 : Act) (l : Nat → Bool) (a : Act) (wc : World) : Prop :=
  ∃ x13 x14 x48 x49 x50 x51 x52 x53 x54 x55 x56 b9, a = KRPut a0 x13 x14 x48 x49 x50 x51 x52 x53 x54 x55 x56 ∧ RSt wr wc l x13 x14 x48 x49 x50 x51 x52 x53 x54 x55 x56 HV A kV pV yV v0 v1 v2 v3 v4 v5 b9
section
variable (s : Hs) (d : Hd_) (w : World)
set_option maxHeartbeats 2000000 in
theorem ron_core (k : Int) (us : List Int) (hul : us.length ≤ 512) (hp : Hp w w.heap.size s d) (hU : ∀ W, HNow w W s d → Calls Tryz.prog 75 #[(.agg #[.slice s.w.a s.w.n s.w.c, .slice s.p.a s.p.n s.p.c, .slice (s.u 0).a (s.u 0).n (s.u 0).c, .slice (s.u 1).a (s.u 1).n (s.u 1).c, .slice (s.u 2).a (s.u 2).n (s.u 2).c, .slice s.c.a s.c.n s.c.c])] W (Ls.AllOut W us)) (hO : ∀ y, y ∈ us → ∀ W, HNow w W s d → Calls Tryz.prog 24 #[(.agg #[.slice s.w.a s.w.n s.w.c, .slice s.p.a s.p.n s.p.c, .slice (s.u 0).a (s.u 0).n (s.u 0).c, .slice (s.u 1).a (s.u 1).n (s.u 1).c, .slice (s.u 2).a (s.u 2).n (s.u 2).c, .slice s.c.a s.c.n s.c.c]), .int .i64 y] W fun e w' => e = .returned (.tuple #[.int .i64 ((y - 16) / 8), .int .i64 0]) ∧ Below W.heap.size W w') :
    Calls Tryz.prog 31 #[(.agg #[.slice s.w.a s.w.n s.w.c, .slice s.p.a s.p.n s.p.c, .slice (s.u 0).a (s.u 0).n (s.u 0).c, .slice (s.u 1).a (s.u 1).n (s.u 1).c, .slice (s.u 2).a (s.u 2).n (s.u 2).c, .slice s.c.a s.c.n s.c.c]), .int .i64 k] w (Ls.AllOut w (us.filter fun a => decide ((a - 16) / 8 = k))) := by
  have HP := Lib.hid hp
  have H1 := Lib.hid hU
  have H2 := Lib.hid hO
  have b0 := (Below.refl w.heap.size w).alloc (Nat.le_refl _) (.cells #[.slice s.w.a s.w.n s.w.c, .slice s.p.a s.p.n s.p.c, .slice (s.u 0).a (s.u 0).n (s.u 0).c, .slice (s.u 1).a (s.u 1).n (s.u 1).c, .slice (s.u 2).a (s.u 2).n (s.u 2).c, .slice s.c.a s.c.n s.c.c] 28)
  obtain ⟨p, hpd⟩ : ∃ p : Int → Bool, p = fun a => decide ((a - 16) / 8 = k) := ⟨_, rfl⟩
  have HPD := Lib.hid hpd
  rw [← hpd]
  clear hp hU hO hpd
  go_enter Tryz.func31, Tryz.ntmps31
  go_wp2_with fail
  refine (H1.out _ ⟨HBox.new w s 28, b0, HP.out.below b0⟩).mono ?_
  rintro e w2 ⟨⟨va, n, vc⟩, rfl, ho, hb2⟩
  have N2 := Lib.hid (HNow.mk (d := d) ((HBox.new w s 28).next hb2) (b0.trans (hb2.mono b0.size)) (HP.out.below (b0.trans (hb2.mono b0.size))))
  have hn : n = us.length := by have h1 := ho.1; simpa using h1.symm
  have R2 := Lib.hid (row_of ho)
  rw [← hn] at hul
  have HN := Lib.hid hn
  clear b0 hb2 ho H1 hn
  go_wp2
  go_loopw [6, 7] (fun o i wr => ∃ (t : Ls.Sl) (q : Nat), q ≤ n ∧ o = .slice t.a t.n t.c ∧ i = .int .i64 q ∧ Hid (Ls.Alling w2 wr t ((us.take q).filter p))) (fun _ i _ => n - (intOf i).toNat)
  case atStart => exact ⟨⟨none, 0, 0⟩, 0, Nat.zero_le _, rfl, rfl, Lib.hid ⟨by simp only [List.take_zero, List.filter_nil]; exact World.ownsRow_nil _ _ _ _, Below.refl _ _⟩⟩
  case round =>
    obtain ⟨t, q, hq, rfl, rfl, HA⟩ := hrel
    by_cases hlt : q < n
    · obtain ⟨bb, off, rfl, hbl, hcell⟩ := (row_next' R2.out HA.out.bel).2 (by omega)
      have hq1 := hcell q hlt
      obtain ⟨y, hy⟩ : ∃ y, y = us.getD q 0 := ⟨_, rfl⟩
      rw [← hy] at hq1
      have hmem : y ∈ us := by rw [hy]; exact getD_mem (by have := HN.out; omega)
      have HOF := Lib.hid (H2.out y hmem)
      obtain ⟨nn, hnn⟩ : ∃ x, x = (y - 16) / 8 := ⟨_, rfl⟩
      rw [← hnn] at HOF
      have HPY : Hid (p y = decide (nn = k)) := Lib.hid (by rw [HPD.out, hnn])
      have HTK := Lib.hid (take_next (p := p) (xs := us) (q := q) (by have := HN.out; omega))
      rw [← hy, HPY.out] at HTK
      have HY := Lib.hid hy.symm
      have LT : Hid (Rg w wr wr s d bb off n us ∧ True) := Lib.hid ⟨⟨N2.out.next HA.out.bel, row_next' R2.out HA.out.bel, Below.refl _ _⟩, trivial⟩
      have htn : t.n + 1 ≤ 4000000 := by
        have h1 := HA.out.len
        have h2 : ((us.take q).filter p).length ≤ (us.take q).length := List.length_filter_le _ _
        rw [List.length_take] at h2
        omega
      have i0 : (0 : Int) ≤ q := by omega
      have i1 : (q : Int) < n := by omega
      have i2 : decide ((q : Int) < n) = true := decide_eq_true i1
      have q0 := LT.out.1.now.box.c0
      have q1 := LT.out.1.now.box.c1
      have q2 := LT.out.1.now.box.c2
      have q3 := LT.out.1.now.box.c3
      have q4 := LT.out.1.now.box.c4
      have q5 := LT.out.1.now.box.c5
      have ql := LT.out.1.now.box.lt
      clear hcell hmem hnn hy
      go_wp2_with fail
      go_region_held3 (fun W => (Rg w wr W s d bb off n us ∧ True) ∧ (w.heap.size < W.heap.size ∧ W.cell? ⟨w.heap.size, 0, none⟩ = some (.slice s.w.a s.w.n s.w.c) ∧ W.cell? ⟨w.heap.size, 1, none⟩ = some (.slice s.p.a s.p.n s.p.c) ∧ W.cell? ⟨w.heap.size, 2, none⟩ = some (.slice (s.u 0).a (s.u 0).n (s.u 0).c) ∧ W.cell? ⟨w.heap.size, 3, none⟩ = some (.slice (s.u 1).a (s.u 1).n (s.u 1).c) ∧ W.cell? ⟨w.heap.size, 4, none⟩ = some (.slice (s.u 2).a (s.u 2).n (s.u 2).c) ∧ W.cell? ⟨w.heap.size, 5, none⟩ = some (.slice s.c.a s.c.n s.c.c)) ∧ bb < W.heap.size ∧ W.cell? ⟨bb, off + q, none⟩ = some (.int .i64 y)) (first
        | with_reducible exact rg_keep hlt HY.out (‹(Rg w wr _ s d bb off n us ∧ True) ∧ _›).1 ‹Below _ _ _›
        | with_reducible exact rg_keep hlt HY.out LT.out (Below.refl _ _)
        | exact rg_keep hlt HY.out LT.out (below_drawn' (Below.refl _ _) 1)) (first
        | ((go_at_call 24; refine (HOF.out _ (‹(Rg w wr _ s d bb off n us ∧ True) ∧ _›).1.1.now).mono ?_; rintro e w8 ⟨rfl, hb8⟩)))
      have G8 := Lib.hid (‹(Rg w wr w8 s d bb off n us ∧ True) ∧ _›).1.1
      have A8 := Lib.hid (all_next HA.out G8.out.bel)
      clear hb8 LT HA q0 q1 q2 q3 q4 q5 ql hq1 hbl
      obtain ⟨b', off', e', hl', hc'⟩ := G8.out.row.2 (by omega)
      cases e'
      have cy := hc' q hlt
      rw [HY.out] at cy
      clear hc'
      by_cases he : nn = k
      · have dm : (nn == k) = true := by simp [he]
        have HT : Hid ((us.take (q + 1)).filter p = (us.take q).filter p ++ [y]) := Lib.hid (by rw [HTK.out, decide_eq_true he]; rfl)
        clear he
        go_wp2_with (at_builtin; refine Ls.list_cat rfl _ _ rfl rfl rfl (A8.out.alloc _).own (Ls.row_lit1 _ _) (A8.out.alloc _).bel.size htn ?_)
        intro p' cp' w6 hcat
        have hA6 := (A8.out.alloc _).cat hcat
        rw [← HT.out] at hA6
        have H3 := Lib.hid hA6
        clear hcat hA6 cy hl' A8
        go_wp2
        go_roundw
        case rel => exact ⟨⟨p', t.n + 1, cp'⟩, q + 1, by omega, rfl, by go_num, H3⟩
        case measure => simp [intOf]; omega
      · have dm : (nn == k) = false := by simp [he]
        have HT : Hid ((us.take (q + 1)).filter p = (us.take q).filter p) := Lib.hid (by rw [HTK.out, decide_eq_false he]; simp)
        have H3 := A8.out
        rw [← HT.out] at H3
        have H4 := Lib.hid H3
        clear he H3
        go_wp2
        go_roundw
        case rel => exact ⟨t, q + 1, by omega, rfl, by go_num, H4⟩
        case measure => simp [intOf]; omega
    · obtain rfl : n = q := by omega
      have i2 : decide ((n : Int) < n) = false := by simp
      have HE : Hid (wr.ownsRow w.heap.size 3 1 (.slice t.a t.n t.c) t.n ((us.filter p).map (Value.int .i64)) ∧ Below w.heap.size w wr) := Lib.hid (by
        have h1 := own_less' HA.out.own N2.out.bel.size
        rw [List.take_of_length_le (by have := HN.out; omega)] at h1
        exact ⟨h1, (N2.out.next HA.out.bel).bel⟩)
      go_wp2
      go_ret
      exact ⟨t, rfl, HE.out.1, HE.out.2⟩
theorem ron_any (k : Int) (hp : Hp w w.heap.size s d) (hf : Fine s d) : Calls Tryz.prog 31 #[(.agg #[.slice s.w.a s.w.n s.w.c, .slice s.p.a s.p.n s.p.c, .slice (s.u 0).a (s.u 0).n (s.u 0).c, .slice (s.u 1).a (s.u 1).n (s.u 1).c, .slice (s.u 2).a (s.u 2).n (s.u 2).c, .slice s.c.a s.c.n s.c.c]), .int .i64 k] w (Ls.AllOut w (onL s d k)) :=
  ron_core s d w k (usedL s d) (Nat.le_trans (used_len s d) (allS_len d.f s.p.n)) hp (fun W h => rused_any s d W h.all hf) fun y hy W h => by
    have hi := used_in hy
    have e : ofE s d y = 0 := by unfold ofE; rw [if_neg (by rw [used_may hy]; decide), if_pos hi]
    have e2 : ofN s d y = (y - 16) / 8 := by
      unfold ofN ofK
      rw [if_pos e]
      omega
    have := rof_any s d W y h.all hf
    rwa [e, e2] at this
set_option maxHeartbeats 4000000 in
theorem rnext_core (k a : Int) (xs : List Int) (p : Int → Bool) (hpd : ∀ x, p x = (decide (a < x) && oldB s d x)) (hxl : xs.length ≤ 8) (hp : Hp w w.heap.size s d) (hon : ∀ W, HNow w W s d → Calls Tryz.prog 31 #[(.agg #[.slice s.w.a s.w.n s.w.c, .slice s.p.a s.p.n s.p.c, .slice (s.u 0).a (s.u 0).n (s.u 0).c, .slice (s.u 1).a (s.u 1).n (s.u 1).c, .slice (s.u 2).a (s.u 2).n (s.u 2).c, .slice s.c.a s.c.n s.c.c]), .int .i64 k] W (Ls.AllOut W xs))
    (hH : ∀ y, y ∈ xs → ∃ (u e : Bool) (n b m : Int), ∀ W, HNow w W s d → Calls Tryz.prog 66 #[(.agg #[.slice s.w.a s.w.n s.w.c, .slice s.p.a s.p.n s.p.c, .slice (s.u 0).a (s.u 0).n (s.u 0).c, .slice (s.u 1).a (s.u 1).n (s.u 1).c, .slice (s.u 2).a (s.u 2).n (s.u 2).c, .slice s.c.a s.c.n s.c.c]), .int .i64 y] W (HeadOut W (.agg #[.bool u, .bool (oldB s d y), .bool e, .int .i64 n, .int .i64 b, .int .i64 m]) 0)) : Calls Tryz.prog 33 #[(.agg #[.slice s.w.a s.w.n s.w.c, .slice s.p.a s.p.n s.p.c, .slice (s.u 0).a (s.u 0).n (s.u 0).c, .slice (s.u 1).a (s.u 1).n (s.u 1).c, .slice (s.u 2).a (s.u 2).n (s.u 2).c, .slice s.c.a s.c.n s.c.c]), .int .i64 k, .int .i64 a] w fun e w' => e = .returned (.tuple #[.int .i64 ((xs.find? p).getD 0), .bool (xs.find? p).isSome]) ∧ Below w.heap.size w w' := by
  have HP := Lib.hid hp
  have HON := Lib.hid hon
  have HPD := Lib.hid hpd
  have HX := Lib.hid hH
  have b0 := (Below.refl w.heap.size w).alloc (Nat.le_refl _) (.cells #[.slice s.w.a s.w.n s.w.c, .slice s.p.a s.p.n s.p.c, .slice (s.u 0).a (s.u 0).n (s.u 0).c, .slice (s.u 1).a (s.u 1).n (s.u 1).c, .slice (s.u 2).a (s.u 2).n (s.u 2).c, .slice s.c.a s.c.n s.c.c] 28)
  clear hp hon hpd hH
  go_enter Tryz.func33, Tryz.ntmps33
  go_wp2_with fail
  refine (HON.out _ ⟨HBox.new w s 28, b0, HP.out.below b0⟩).mono ?_
  rintro e w1 ⟨⟨va, n, vc⟩, rfl, ho, hb1⟩
  have N1 := Lib.hid (HNow.mk (d := d) ((HBox.new w s 28).next hb1) (b0.trans (hb1.mono b0.size)) (HP.out.below (b0.trans (hb1.mono b0.size))))
  have hn : n = xs.length := by have h1 := ho.1; simpa using h1.symm
  have R1 := Lib.hid (row_of ho)
  rw [← hn] at hxl
  have HN := Lib.hid hn
  clear b0 hb1 ho hn
  go_wp2
  go_loopw [9] (fun i wr => ∃ (q : Nat), q ≤ n ∧ i = .int .i64 q ∧ Hid (Below w1.heap.size w1 wr ∧ ∀ x ∈ xs.take q, p x = false)) (fun i _ => n - (intOf i).toNat)
  case atStart => exact ⟨0, Nat.zero_le _, rfl, Lib.hid ⟨Below.refl _ _, fun x hx => by simp at hx⟩⟩
  case round =>
    obtain ⟨q, hq, rfl, HA⟩ := hrel
    have NC := Lib.hid (N1.out.next HA.out.1)
    by_cases hlt : q < n
    · obtain ⟨bb, off, rfl, hbl, hcell⟩ := (row_next' R1.out HA.out.1).2 (by omega)
      have hq1 := hcell q hlt
      obtain ⟨y, hy⟩ : ∃ y, y = xs.getD q 0 := ⟨_, rfl⟩
      rw [← hy] at hq1
      have hmem : y ∈ xs := by rw [hy]; exact getD_mem (by have := HN.out; omega)
      obtain ⟨u1, e1, n1, b1, m1, hHd⟩ := HX.out y hmem
      have HPY := Lib.hid (HPD.out y)
      obtain ⟨o1, ho1⟩ : ∃ x, x = oldB s d y := ⟨_, rfl⟩
      rw [← ho1] at hHd HPY
      have HY := Lib.hid hy
      have HQ : Hid (q < xs.length) := Lib.hid (by have := HN.out; omega)
      have FS : Hid (HBox wr w.heap.size s ∧ bb < wr.heap.size ∧ wr.cell? ⟨bb, off + q, none⟩ = some (.int .i64 y)) := Lib.hid ⟨NC.out.box, hbl, hq1⟩
      have HC2 : Hid (∀ W, Below wr.heap.size wr W → Calls Tryz.prog 66 #[(.agg #[.slice s.w.a s.w.n s.w.c, .slice s.p.a s.p.n s.p.c, .slice (s.u 0).a (s.u 0).n (s.u 0).c, .slice (s.u 1).a (s.u 1).n (s.u 1).c, .slice (s.u 2).a (s.u 2).n (s.u 2).c, .slice s.c.a s.c.n s.c.c]), .int .i64 y] W (HeadOut W (.agg #[.bool u1, .bool o1, .bool e1, .int .i64 n1, .int .i64 b1, .int .i64 m1]) 0)) := Lib.hid (fun W h => hHd W (NC.out.next h))
      have HLT := Lib.hid (And.intro hlt hq)
      have i0 : (0 : Int) ≤ q := by omega
      have i1 : (q : Int) < n := by omega
      have i2 : decide ((q : Int) < n) = true := decide_eq_true i1
      clear hcell hmem hHd ho1 hy hbl hq1 NC
      go_wp2_with fail
      refine wp_region_from (by kernel_rfl) (KRInv wr (.agg #[.slice s.w.a s.w.n s.w.c, .slice s.p.a s.p.n s.p.c, .slice (s.u 0).a (s.u 0).n (s.u 0).c, .slice (s.u 1).a (s.u 1).n (s.u 1).c, .slice (s.u 2).a (s.u 2).n (s.u 2).c, .slice s.c.a s.c.n s.c.c]) (.slice (some ⟨bb, off, none⟩) n vc) (.int .i64 (q : Int)) (.pointer (some ⟨bb, off + q, none⟩)) (.int .i64 y) u1 o1 e1 n1 b1 m1) ?dag ?start ?step ?done
      case dag => exact dag_any (by kernel_rfl)
      case start =>
        simp only [KRInv, KRPut, Act.put, List.setIfInBounds_toArray, List.set_cons_succ, List.set_cons_zero]
        exact ⟨_, _, _, _, _, _, _, _, _, _, _, 0, rfl, RSt.start _ _ _ _ _ _ _ _ _ _ _⟩
      case step =>
        rintro i o9 l a9 wc ho ⟨x13, x14, x48, x49, x50, x51, x52, x53, x54, x55, x56, b9, rfl, hs⟩ hl haft K hK
        have hi : i < 12 := (Array.getElem?_eq_some_iff.1 ho).1
        refine wpOp_of ho ?_
        rcases (show i = 0 ∨ i = 1 ∨ i = 2 ∨ i = 3 ∨ i = 4 ∨ i = 5 ∨ i = 6 ∨ i = 7 ∨ i = 8 ∨ i = 9 ∨ i = 10 ∨ i = 11 by omega) with rfl | rfl | rfl | rfl | rfl | rfl | rfl | rfl | rfl | rfl | rfl | rfl
        · obtain rfl := Option.some.inj ho
          have q0 := (FS.out.1.next hs.bel).c0
          have q1 := (FS.out.1.next hs.bel).c1
          have q2 := (FS.out.1.next hs.bel).c2
          have q3 := (FS.out.1.next hs.bel).c3
          have q4 := (FS.out.1.next hs.bel).c4
          have q5 := (FS.out.1.next hs.bel).c5
          clear ho haft hi
          simp only [KRPut, Act.put]
          go_simp
          exact hK _ _ ⟨x13, x14, x48, (.agg #[.slice s.w.a s.w.n s.w.c, .slice s.p.a s.p.n s.p.c, .slice (s.u 0).a (s.u 0).n (s.u 0).c, .slice (s.u 1).a (s.u 1).n (s.u 1).c, .slice (s.u 2).a (s.u 2).n (s.u 2).c, .slice s.c.a s.c.n s.c.c]), x50, x51, x52, x53, x54, x55, x56, b9, (by simp only [KRPut, Act.put, List.setIfInBounds_toArray, List.set_cons_succ, List.set_cons_zero]), hs.did0⟩
        · obtain rfl := Option.some.inj ho
          clear ho haft hi
          simp only [KRPut, Act.put]
          go_simp
          exact hK _ _ ⟨x13, x14, x48, x49, (.slice (some ⟨bb, off, none⟩) n vc), x51, x52, x53, x54, x55, x56, b9, (by simp only [KRPut, Act.put, List.setIfInBounds_toArray, List.set_cons_succ, List.set_cons_zero]), hs.did1⟩
        · obtain rfl := Option.some.inj ho
          clear ho haft hi
          simp only [KRPut, Act.put]
          go_simp
          exact hK _ _ ⟨x13, x14, x48, x49, x50, (.int .i64 (q : Int)), x52, x53, x54, x55, x56, b9, (by simp only [KRPut, Act.put, List.setIfInBounds_toArray, List.set_cons_succ, List.set_cons_zero]), hs.did2⟩
        · obtain rfl := Option.some.inj ho
          have e1 := hs.s1 (haft ⟨1, .data⟩ (by simp) rfl)
          have e2 := hs.s2 (haft ⟨2, .data⟩ (by simp) rfl)
          subst e1 e2
          clear ho haft hi
          simp only [KRPut, Act.put]
          go_simp
          exact hK _ _ ⟨x13, x14, x48, x49, (.slice (some ⟨bb, off, none⟩) n vc), (.int .i64 (q : Int)), (.pointer (some ⟨bb, off + q, none⟩)), x53, x54, x55, x56, b9, (by simp only [KRPut, Act.put, List.setIfInBounds_toArray, List.set_cons_succ, List.set_cons_zero]), hs.did3⟩
        · obtain rfl := Option.some.inj ho
          have e1 := hs.s3 (haft ⟨3, .data⟩ (by simp) rfl)
          have cy := (hs.bel.cell (p := ⟨bb, off + q, none⟩) FS.out.2.1).trans FS.out.2.2
          subst e1
          clear ho haft hi
          simp only [KRPut, Act.put]
          go_simp
          exact hK _ _ ⟨x13, x14, x48, x49, x50, x51, (.pointer (some ⟨bb, off + q, none⟩)), (.int .i64 y), x54, x55, x56, b9, (by simp only [KRPut, Act.put, List.setIfInBounds_toArray, List.set_cons_succ, List.set_cons_zero]), hs.did4⟩
        · obtain rfl := Option.some.inj ho
          have e1 := hs.s0 (haft ⟨0, .data⟩ (by simp) rfl)
          have e2 := hs.s4 (haft ⟨4, .data⟩ (by simp) rfl)
          have hl10 : l 10 = false := by
            cases e : l 10
            · rfl
            · rw [(hs.o10 e).2] at hl; cases hl
          subst e1 e2
          clear ho haft hi
          simp only [KRPut, Act.put]
          go_simp
          refine (HC2.out wc hs.bel).mono ?_
          rintro e9 w8 ⟨rfl, hb8⟩
          exact hK _ _ ⟨x13, x14, x48, (.agg #[.slice s.w.a s.w.n s.w.c, .slice s.p.a s.p.n s.p.c, .slice (s.u 0).a (s.u 0).n (s.u 0).c, .slice (s.u 1).a (s.u 1).n (s.u 1).c, .slice (s.u 2).a (s.u 2).n (s.u 2).c, .slice s.c.a s.c.n s.c.c]), x50, x51, x52, (.int .i64 y), (.tuple #[(.agg #[.bool u1, .bool o1, .bool e1, .int .i64 n1, .int .i64 b1, .int .i64 m1]), .int .i64 0]), x55, x56, b9, (by simp only [KRPut, Act.put, List.setIfInBounds_toArray, List.set_cons_succ, List.set_cons_zero]), hs.did5 hl10 hb8⟩
        · obtain rfl := Option.some.inj ho
          have e1 := hs.s5 (haft ⟨5, .data⟩ (by simp) rfl)
          subst e1
          clear ho haft hi
          simp only [KRPut, Act.put]
          go_simp
          exact hK _ _ ⟨x13, x14, (.tuple #[(.agg #[.bool u1, .bool o1, .bool e1, .int .i64 n1, .int .i64 b1, .int .i64 m1]), .int .i64 0]), x49, x50, x51, x52, x53, (.tuple #[(.agg #[.bool u1, .bool o1, .bool e1, .int .i64 n1, .int .i64 b1, .int .i64 m1]), .int .i64 0]), x55, x56, b9, (by simp only [KRPut, Act.put, List.setIfInBounds_toArray, List.set_cons_succ, List.set_cons_zero]), hs.did6⟩
        · obtain rfl := Option.some.inj ho
          have e1 := hs.s6 (haft ⟨6, .data⟩ (by simp) rfl)
          subst e1
          clear ho haft hi
          simp only [KRPut, Act.put]
          go_simp
          exact hK _ _ ⟨x13, x14, (.tuple #[(.agg #[.bool u1, .bool o1, .bool e1, .int .i64 n1, .int .i64 b1, .int .i64 m1]), .int .i64 0]), x49, x50, x51, x52, x53, x54, (.agg #[.bool u1, .bool o1, .bool e1, .int .i64 n1, .int .i64 b1, .int .i64 m1]), x56, b9, (by simp only [KRPut, Act.put, List.setIfInBounds_toArray, List.set_cons_succ, List.set_cons_zero]), hs.did7⟩
        · obtain rfl := Option.some.inj ho
          have e1 := hs.s6 (haft ⟨6, .data⟩ (by simp) rfl)
          subst e1
          clear ho haft hi
          simp only [KRPut, Act.put]
          go_simp
          exact hK _ _ ⟨x13, x14, (.tuple #[(.agg #[.bool u1, .bool o1, .bool e1, .int .i64 n1, .int .i64 b1, .int .i64 m1]), .int .i64 0]), x49, x50, x51, x52, x53, x54, x55, (.int .i64 0), b9, (by simp only [KRPut, Act.put, List.setIfInBounds_toArray, List.set_cons_succ, List.set_cons_zero]), hs.did8⟩
        · obtain rfl := Option.some.inj ho
          have hl10 : l 10 = false := by
            cases e : l 10
            · rfl
            · rw [(hs.o10 e).1] at hl; cases hl
          clear ho haft hi
          simp only [KRPut, Act.put]
          go_simp
          exact hK _ _ ⟨(.pointer (some ⟨wc.heap.size, 0, none⟩)), x14, x48, x49, x50, x51, x52, x53, x54, x55, x56, _, (by simp only [KRPut, Act.put, List.setIfInBounds_toArray, List.set_cons_succ, List.set_cons_zero]), hs.did9 hl10 30⟩
        · obtain rfl := Option.some.inj ho
          have h9 := haft ⟨9, .data⟩ (by simp) rfl
          have e2 := hs.s7 (haft ⟨7, .data⟩ (by simp) rfl)
          have h5 := haft ⟨5, .chain⟩ (by simp) rfl
          have hx : XBox wc b9 := by
            have := (hs.s9 h9).2.2
            rwa [if_neg (by rw [hl]; decide)] at this
          have z0 : wc.cell? ⟨b9, 0, none⟩ = some (.bool false) := hx.cell 0 (by decide)
          have z1 : wc.cell? ⟨b9, 1, none⟩ = some (.bool false) := hx.cell 1 (by decide)
          have z2 : wc.cell? ⟨b9, 2, none⟩ = some (.bool false) := hx.cell 2 (by decide)
          have z3 : wc.cell? ⟨b9, 3, none⟩ = some (.int .i64 0) := hx.cell 3 (by decide)
          have z4 : wc.cell? ⟨b9, 4, none⟩ = some (.int .i64 0) := hx.cell 4 (by decide)
          have z5 : wc.cell? ⟨b9, 5, none⟩ = some (.int .i64 0) := hx.cell 5 (by decide)
          have f0 : wc.frozen? ⟨b9, 0, none⟩ = false := hx.free 0
          have f1 : wc.frozen? ⟨b9, 1, none⟩ = false := hx.free 1
          have f2 : wc.frozen? ⟨b9, 2, none⟩ = false := hx.free 2
          have f3 : wc.frozen? ⟨b9, 3, none⟩ = false := hx.free 3
          have f4 : wc.frozen? ⟨b9, 4, none⟩ = false := hx.free 4
          have f5 : wc.frozen? ⟨b9, 5, none⟩ = false := hx.free 5
          have zl : b9 < wc.heap.size := hx.lt
          have e1 := (hs.s9 h9).1
          have HS := Lib.hid (hs.did10 hl h9 h5)
          subst e1 e2
          clear ho haft hi hx
          simp only [KRPut, Act.put]
          go_simp
          exact hK _ _ ⟨(.pointer (some ⟨b9, 0, none⟩)), x14, x48, x49, x50, x51, x52, x53, x54, (.agg #[.bool u1, .bool o1, .bool e1, .int .i64 n1, .int .i64 b1, .int .i64 m1]), x56, b9, (by simp only [KRPut, Act.put, List.setIfInBounds_toArray, List.set_cons_succ, List.set_cons_zero]), HS.out⟩
        · obtain rfl := Option.some.inj ho
          have e1 := hs.s8 (haft ⟨8, .data⟩ (by simp) rfl)
          subst e1
          clear ho haft hi
          simp only [KRPut, Act.put]
          go_simp
          exact hK _ _ ⟨x13, (.int .i64 0), x48, x49, x50, x51, x52, x53, x54, x55, (.int .i64 0), b9, (by simp only [KRPut, Act.put, List.setIfInBounds_toArray, List.set_cons_succ, List.set_cons_zero]), hs.did11⟩
      case done =>
        rintro l a9 wc ⟨x13, x14, x48, x49, x50, x51, x52, x53, x54, x55, x56, b9, rfl, hs⟩ hall
        have e0 := hs.s0 (hall 0 (by simp))
        have e1 := hs.s1 (hall 1 (by simp))
        have e2 := hs.s2 (hall 2 (by simp))
        have e3 := hs.s3 (hall 3 (by simp))
        have e4 := hs.s4 (hall 4 (by simp))
        have e5 := hs.s5 (hall 5 (by simp))
        have e6 := hs.s6 (hall 6 (by simp))
        have e7 := hs.s7 (hall 7 (by simp))
        have e8 := hs.s8 (hall 8 (by simp))
        have e11 := hs.s11 (hall 11 (by simp))
        obtain ⟨e9, _, hx9⟩ := hs.s9 (hall 9 (by simp))
        rw [if_pos (hall 10 (by simp))] at hx9
        have H2 := Lib.hid (And.intro hs.bel hx9)
        clear hs hall hx9
        subst e0 e1 e2 e3 e4 e5 e6 e7 e8 e9 e11
        obtain ⟨wd, rfl⟩ : ∃ x : World, x = wc := ⟨_, rfl⟩
        obtain ⟨bz9, rfl⟩ : ∃ x : Nat, x = b9 := ⟨_, rfl⟩
        simp only [KRPut, Act.put, List.setIfInBounds_toArray, List.set_cons_succ, List.set_cons_zero]
        have B2 := Lib.hid (HA.out.1.trans (H2.out.1.mono HA.out.1.size))
        have Z2 := Lib.hid H2.out.2
        have cy : wd.cell? ⟨bb, off + q, none⟩ = some (.int .i64 y) := (H2.out.1.cell (p := ⟨bb, off + q, none⟩) FS.out.2.1).trans FS.out.2.2
        have cyl : bb < wd.heap.size := by have := FS.out.2.1; have := H2.out.1.size; omega
        have x1 := Z2.out.c1
        have xl := Z2.out.lt
        clear H2 FS HC2
        by_cases hya : a < y
        · have a0 : decide (a < y) = true := decide_eq_true hya
          cases o1
          · have HM := Lib.hid (take_more HQ.out HA.out.2 (by rw [← HY.out, HPY.out, Bool.and_false]))
            clear hya
            go_wp2
            go_roundw
            case rel => exact ⟨q + 1, by have := HLT.out.1; omega, by go_num, Lib.hid ⟨B2.out, HM.out⟩⟩
            case measure => have := HLT.out.1; simp [intOf]; omega
          · have HM := Lib.hid (find_at HQ.out HA.out.2 (by rw [← HY.out, HPY.out, a0]; rfl))
            have HB := Lib.hid (N1.out.next B2.out).bel
            clear hya
            go_wp2
            go_ret2
            refine ⟨?_, HB.out⟩
            rw [HM.out, ← HY.out]
            rfl
        · have a0 : decide (a < y) = false := decide_eq_false hya
          have HM := Lib.hid (take_more HQ.out HA.out.2 (by rw [← HY.out, HPY.out, a0, Bool.false_and]))
          clear hya
          go_wp2
          go_roundw
          case rel => exact ⟨q + 1, by have := HLT.out.1; omega, by go_num, Lib.hid ⟨B2.out, HM.out⟩⟩
          case measure => have := HLT.out.1; simp [intOf]; omega
    · obtain rfl : n = q := by omega
      have i2 : decide ((n : Int) < n) = false := by simp
      have HE := Lib.hid (And.intro (find_no (p := p) (xs := xs) (by have h1 := HA.out.2; rwa [List.take_of_length_le (by have := HN.out; omega)] at h1)) NC.out.bel)
      go_wp2
      go_ret2
      refine ⟨?_, HE.out.2⟩
      rw [HE.out.1]
      rfl
theorem rnext_any (k a : Int) (hp : Hp w w.heap.size s d) (hf : Fine s d) : Calls Tryz.prog 33 #[(.agg #[.slice s.w.a s.w.n s.w.c, .slice s.p.a s.p.n s.p.c, .slice (s.u 0).a (s.u 0).n (s.u 0).c, .slice (s.u 1).a (s.u 1).n (s.u 1).c, .slice (s.u 2).a (s.u 2).n (s.u 2).c, .slice s.c.a s.c.n s.c.c]), .int .i64 k, .int .i64 a] w fun e w' => e = .returned (.tuple #[.int .i64 (nextA s d k a), .bool (nextB s d k a)]) ∧ Below w.heap.size w w' :=
  rnext_core s d w k a (onL s d k) _ (fun _ => rfl) (on_len s d k) hp (fun W h => ron_any s d W k h.all hf) fun y hy => by
    obtain ⟨u, e, n, b, m, hV⟩ := old_form s d y
    refine ⟨u, e, n, b, m, fun W h => ?_⟩
    have g := rhead_any s d y W h.all hf
    have hy2 := (on_mem.1 hy).1
    have hE : headE s d y = 0 := by
      rcases used_head (used_may hy2) y with h1 | h1
      · exact h1.2.1
      · exact absurd hy2 h1.1
    rwa [hV, hE] at g
end
end Go.Proofs.YtmalopciboikhaaGreatDoor.Ck
end
section
namespace Go.Proofs.YtmalopciboikhaaGreatDoor.Cl
open Go.Proofs.YtmalopciboikhaaGreatDoor
set_option maxRecDepth 100000
open Go.RowKit

set_option maxHeartbeats 1000000 in
theorem same_yes (B B' : Nat) (A A' : Option Addr) (n c c' : Nat) (f g : Nat → Int × Int) (w : World) (hn : n ≤ 1000) (he : ∀ i, i < n → g i = f i) (hr : PRow w B A n f) (hr' : PRow w B' A' n g) (hB : B ≤ w.heap.size) (hB' : B' ≤ w.heap.size) :
    Calls Tryz.prog 58 #[.slice A n c, .slice A' n c'] w fun e w' => e = .returned (.bool true) ∧ Below w.heap.size w w' := by
  have HR := Lib.hid hr
  have HR' := Lib.hid (hr'.congr (fun i hi => (he i hi).symm))
  clear hr hr' he
  go_enter Tryz.func58, Tryz.ntmps58
  go_wp2
  go_loopw [5] (fun i wr => ∃ k : Nat, k ≤ n ∧ i = .int .i64 k ∧ Below w.heap.size w wr) (fun i _ => n - (intOf i).toNat)
  case atStart => exact ⟨0, Nat.zero_le _, rfl, Below.refl _ _⟩
  case round =>
    obtain ⟨k, hk, rfl, hb⟩ := hrel
    by_cases hlt : k < n
    · obtain ⟨b, off, rfl, hbB, hc⟩ := (HR.out.over hb hB) (by omega)
      obtain ⟨p0, p1⟩ := hc k hlt
      obtain ⟨b', off', rfl, hbB', hc'⟩ := (HR'.out.over hb hB') (by omega)
      obtain ⟨q0, q1⟩ := hc' k hlt
      have HB := Lib.hid hb
      have hz := hb.size
      have HQ := pneq_no (a := (f k).1) (b := (f k).2) ⟨rfl, rfl⟩
      clear hb hc hc'
      go_wp2
      go_quiet (fail)
      go_wp2
      go_roundw
      case rel => exact ⟨k + 1, by omega, by go_num, below_drewN HB.out _⟩
      case measure => simp [intOf]; omega
    · go_wp2
      go_ret
      exact ⟨rfl, hb⟩
end Go.Proofs.YtmalopciboikhaaGreatDoor.Cl
end
section
namespace Go.Proofs.YtmalopciboikhaaGreatDoor
open Go.RowKit
set_option maxRecDepth 100000

/-- Two heaps' boxes. -/
structure Two (w W : World) (s t : Hs) (d d2 : Hd_) : Prop where
  bel : Below w.heap.size w W
  b1 : HBox W w.heap.size s
  b2 : HBox W (w.heap.size + 1) t
  h1 : Hp W W.heap.size s d
  h2 : Hp W W.heap.size t d2
theorem Two.next {w W W' : World} {s t : Hs} {d d2 : Hd_} (h : Two w W s t d d2) (hb : Below W.heap.size W W') : Two w W' s t d d2 := ⟨h.bel.trans (hb.mono h.bel.size), h.b1.next hb, h.b2.next hb, h.h1.next hb, h.h2.next hb⟩
theorem two_start {w W : World} {s t : Hs} {d d2 : Hd_} (hp : Hp w w.heap.size s d) (ht : Hp w w.heap.size t d2) (h : W = (w.alloc (.cells #[.slice s.w.a s.w.n s.w.c, .slice s.p.a s.p.n s.p.c, .slice (s.u 0).a (s.u 0).n (s.u 0).c, .slice (s.u 1).a (s.u 1).n (s.u 1).c, .slice (s.u 2).a (s.u 2).n (s.u 2).c, .slice s.c.a s.c.n s.c.c] 28)).alloc (.cells #[.slice t.w.a t.w.n t.w.c, .slice t.p.a t.p.n t.p.c, .slice (t.u 0).a (t.u 0).n (t.u 0).c, .slice (t.u 1).a (t.u 1).n (t.u 1).c, .slice (t.u 2).a (t.u 2).n (t.u 2).c, .slice t.c.a t.c.n t.c.c] 28)) : Two w W s t d d2 := by
  have hb : Below w.heap.size w W := by rw [h]; exact ((Below.refl _ _).alloc (Nat.le_refl _) _).alloc (by simp) _
  have bx : Below (w.alloc (.cells #[.slice s.w.a s.w.n s.w.c, .slice s.p.a s.p.n s.p.c, .slice (s.u 0).a (s.u 0).n (s.u 0).c, .slice (s.u 1).a (s.u 1).n (s.u 1).c, .slice (s.u 2).a (s.u 2).n (s.u 2).c, .slice s.c.a s.c.n s.c.c] 28)).heap.size (w.alloc (.cells #[.slice s.w.a s.w.n s.w.c, .slice s.p.a s.p.n s.p.c, .slice (s.u 0).a (s.u 0).n (s.u 0).c, .slice (s.u 1).a (s.u 1).n (s.u 1).c, .slice (s.u 2).a (s.u 2).n (s.u 2).c, .slice s.c.a s.c.n s.c.c] 28)) W := by rw [h]; exact (Below.refl _ _).alloc (Nat.le_refl _) _
  have z := HBox.new (w.alloc (.cells #[.slice s.w.a s.w.n s.w.c, .slice s.p.a s.p.n s.p.c, .slice (s.u 0).a (s.u 0).n (s.u 0).c, .slice (s.u 1).a (s.u 1).n (s.u 1).c, .slice (s.u 2).a (s.u 2).n (s.u 2).c, .slice s.c.a s.c.n s.c.c] 28)) t 28
  rw [World.size_alloc] at z
  exact ⟨hb, (HBox.new w s 28).next bx, by rw [h]; exact z, hp.next hb, ht.next hb⟩
set_option maxHeartbeats 1000000 in
theorem rsame_yes (s : Hs) (d d2 : Hd_) (A1 A2 A3 : Option Addr) (C1 C2 C3 : Nat) (v : Nat → Ls.Sl) (w : World) (hp : Hp w w.heap.size s d) (ht : Hp w w.heap.size ⟨⟨A1, s.w.n, C1⟩, ⟨A2, s.p.n, C2⟩, v, ⟨A3, s.c.n, C3⟩⟩ d2) (e1 : d2.ws = d.ws) (e2 : ∀ i, i < s.p.n → d2.f i = d.f i) (e3 : ∀ j, j < 3 → d.F j = d2.F j) (e4 : ∀ i, i < s.c.n → d2.cs i = d.cs i)
    (hwn : s.w.n ≤ 4000) (hpn : s.p.n ≤ 1000) (hcn : s.c.n ≤ 100000) (hun : ∀ j, j < 3 → (s.u j).n ≤ 4000000) (hvn : ∀ j, j < 3 → (v j).n ≤ 4000000) :
    Calls Tryz.prog 11 #[(.agg #[.slice s.w.a s.w.n s.w.c, .slice s.p.a s.p.n s.p.c, .slice (s.u 0).a (s.u 0).n (s.u 0).c, .slice (s.u 1).a (s.u 1).n (s.u 1).c, .slice (s.u 2).a (s.u 2).n (s.u 2).c, .slice s.c.a s.c.n s.c.c]), (.agg #[.slice A1 s.w.n C1, .slice A2 s.p.n C2, .slice (v 0).a (v 0).n (v 0).c, .slice (v 1).a (v 1).n (v 1).c, .slice (v 2).a (v 2).n (v 2).c, .slice A3 s.c.n C3])] w fun e w' => e = .returned (.bool true) ∧ Below w.heap.size w w' := by
  have HP := Lib.hid hp
  have HT := Lib.hid ht
  have E1 := Lib.hid e1
  have E2 := Lib.hid e2
  have E3 := Lib.hid e3
  have E4 := Lib.hid e4
  have HUN := Lib.hid hun
  have HVN := Lib.hid hvn
  clear hp ht e1 e2 e3 e4 hun hvn
  go_enter Tryz.func11, Tryz.ntmps11
  go_wp2_with fail
  obtain ⟨W1, hW1⟩ : ∃ W1, W1 = (w.alloc (.cells #[.slice s.w.a s.w.n s.w.c, .slice s.p.a s.p.n s.p.c, .slice (s.u 0).a (s.u 0).n (s.u 0).c, .slice (s.u 1).a (s.u 1).n (s.u 1).c, .slice (s.u 2).a (s.u 2).n (s.u 2).c, .slice s.c.a s.c.n s.c.c] 28)).alloc (.cells #[.slice A1 s.w.n C1, .slice A2 s.p.n C2, .slice (v 0).a (v 0).n (v 0).c, .slice (v 1).a (v 1).n (v 1).c, .slice (v 2).a (v 2).n (v 2).c, .slice A3 s.c.n C3] 28) := ⟨_, rfl⟩
  have S1 := Lib.hid (two_start HP.out HT.out hW1)
  rw [← hW1]
  clear hW1
  refine (Ls.ints_tell W1.heap.size W1.heap.size s.w.a A1 s.w.n s.w.n s.w.c C1 d.ws d2.ws W1 (by omega) (by omega) S1.out.h1.words S1.out.h2.words).mono ?_
  rw [decide_eq_true E1.out.symm]
  rintro e9 w2 ⟨rfl, hb2⟩
  have S2 := Lib.hid (S1.out.next hb2)
  clear hb2 S1
  have q1 := S2.out.b1.c1
  have ql := S2.out.b1.lt
  have r1 := S2.out.b2.c1
  have rl := S2.out.b2.lt
  go_wp2_with fail
  refine (Cl.same_yes w2.heap.size w2.heap.size s.p.a A2 s.p.n s.p.c C2 d.f d2.f w2 hpn E2.out S2.out.h1.pages S2.out.h2.pages (Nat.le_refl _) (Nat.le_refl _)).mono ?_
  rintro e9 w3 ⟨rfl, hb3⟩
  have S3 := Lib.hid (S2.out.next hb3)
  clear hb3 S2 q1 ql r1 rl
  have q2 := S3.out.b1.c2
  have q3 := S3.out.b1.c3
  have q4 := S3.out.b1.c4
  have ql := S3.out.b1.lt
  have r2 := S3.out.b2.c2
  have r3 := S3.out.b2.c3
  have r4 := S3.out.b2.c4
  have rl := S3.out.b2.lt
  go_wp2_with fail
  refine (Ls.same_any w3.heap.size w3.heap.size s.u v d.F d2.F w3 S3.out.h1.free (Nat.le_refl _) S3.out.h2.free (Nat.le_refl _) HUN.out HVN.out).mono ?_
  rw [decide_eq_true (show Ls.sameUp d.F d2.F 3 from E3.out)]
  rintro e9 w4 ⟨rfl, hb4⟩
  have S4 := Lib.hid (S3.out.next hb4)
  clear hb4 S3 q2 q3 q4 ql r2 r3 r4 rl
  have q5 := S4.out.b1.c5
  have ql := S4.out.b1.lt
  have r5 := S4.out.b2.c5
  have rl := S4.out.b2.lt
  have dn : ((s.c.n : Int) != s.c.n) = false := by simp
  go_wp2
  go_loopw [8] (fun i wr => ∃ k : Nat, k ≤ s.c.n ∧ i = .int .i64 k ∧ Hid (Two w wr s ⟨⟨A1, s.w.n, C1⟩, ⟨A2, s.p.n, C2⟩, v, ⟨A3, s.c.n, C3⟩⟩ d d2)) (fun i _ => s.c.n - (intOf i).toNat)
  case atStart => exact ⟨0, Nat.zero_le _, rfl, S4⟩
  case round =>
    obtain ⟨k, hk, rfl, HR⟩ := hrel
    clear S4 q5 ql r5 rl
    have q5 := HR.out.b1.c5
    have ql := HR.out.b1.lt
    have r5 := HR.out.b2.c5
    have rl := HR.out.b2.lt
    by_cases hlt : k < s.c.n
    · have dq : decide ((k : Int) < s.c.n) = true := by simp; omega
      have ik0 : (0 : Int) ≤ k := by omega
      have ik1 : (k : Int) < s.c.n := by omega
      obtain ⟨b, off, ea, hbl, hc⟩ := HR.out.h1.cards (by omega)
      obtain ⟨b', off', ea', hbl', hc'⟩ := HR.out.h2.cards (show 0 < s.c.n by omega)
      have c1 := hc k hlt
      have c2 := hc' k hlt
      dsimp only at c2 ea' r5
      rw [E4.out k hlt] at c2
      rw [ea] at q5
      rw [ea'] at r5
      generalize d.cs k = x at c1 c2
      have dx : (x != x) = false := by simp
      clear hc hc' ea ea'
      go_wp2
      go_quiet (fail)
      have HR2 : Hid (Two w (wr.drewN nq) s ⟨⟨A1, s.w.n, C1⟩, ⟨A2, s.p.n, C2⟩, v, ⟨A3, s.c.n, C3⟩⟩ d d2) := Lib.hid (HR.out.next (below_drawn' (Below.refl _ _) nq))
      go_wp2
      go_roundw
      case rel => exact ⟨k + 1, by omega, by go_num, HR2⟩
      case measure => simp [intOf]; omega
    · have dq : decide ((k : Int) < s.c.n) = false := by simp; omega
      go_wp2
      go_ret
      exact ⟨rfl, HR.out.bel⟩
end Go.Proofs.YtmalopciboikhaaGreatDoor
end
