/-
  Package reap's Free: an object is given back.
-/
import Derived.Test.YtmalopciboikhaaGreatDoorRRpFlush
import Derived.Test.YtmalopciboikhaaGreatDoorHpRH
namespace Go.Proofs.YtmalopciboikhaaGreatDoor
open Go.RowKit
set_option maxRecDepth 100000

theorem room9_bg (B : Nat) (A : Option Addr) (n c : Nat) (f : Nat → Int × Int) (a : Int) (w : World) (hn : n ≤ 1000) (hz : Cl.Sz w) (hr : Cl.PRow w B A n f) (hB : B ≤ w.heap.size) :
    Calls Tryz.prog 61 #[.slice A n c, .int .i64 a] w fun e w' => e = .returned (.int .i64 (Cl.bg f n a)) ∧ Below w.heap.size w w' := by
  rw [← Cl.bg_room]
  exact Cl.room_any B A n c f a w hn hz hr hB
theorem res_free {W : World} {b : Nat} {tm : Array Value} {v0 v1 v2 v3 v4 v5 er : Value} (ht : tm[4]? = some (.pointer (some ⟨b, 0, none⟩))) (h5 : tm[5]? = some er) (k0 : W.cell? ⟨b, 0, none⟩ = some v0) (k1 : W.cell? ⟨b, 1, none⟩ = some v1) (k2 : W.cell? ⟨b, 2, none⟩ = some v2) (k3 : W.cell? ⟨b, 3, none⟩ = some v3) (k4 : W.cell? ⟨b, 4, none⟩ = some v4) (k5 : W.cell? ⟨b, 5, none⟩ = some v5) :
    (results Tryz.f16 tm).run Tryz.prog W = .ok (.tuple #[.agg #[v0, v1, v2, v3, v4, v5], er]) W := by
  simp [results, Tryz.results16, go_sem, ht, h5, k0, k1, k2, k3, k4, k5]
/-- What a walk through Free has in memory, behind the copy. -/
structure FrR (w W : World) (s : Hs) (bb : Nat) (t : Hs) (d : Hd_) : Prop where
  ro : Ro w W bb t d
  rm : Rm W (w.heap.size + 1) noHs
  lo : w.heap.size + 2 ≤ bb
  ln : t.w.n = s.w.n ∧ t.p.n = s.p.n ∧ t.c.n = s.c.n
section
variable {w W W' : World} {s t : Hs} {d : Hd_} {bb : Nat}
theorem FrR.next (h : FrR w W s bb t d) (hb : Below W.heap.size W W') : FrR w W' s bb t d := ⟨h.ro.next hb, h.rm.next hb, h.lo, h.ln⟩
theorem FrR.drew (h : FrR w W s bb t d) : FrR w W.drew s bb t d := h.next (below_drawn' (Below.refl _ _) 1)
theorem FrR.words (h : FrR w W s bb t d) {g c : Nat} {ws : List Int} {wb : Nat} (hm : Mine W wb 3 g t.w.n c ws) : FrR w (W.setCell ⟨bb, 0, none⟩ (.slice (some ⟨g, 0, none⟩) t.w.n c)) s bb ⟨⟨some ⟨g, 0, none⟩, t.w.n, c⟩, t.p, t.u, t.c⟩ ⟨ws, d.f, d.F, d.cs⟩ :=
  ⟨h.ro.words ⟨some ⟨g, 0, none⟩, t.w.n, c⟩ ws hm.row, h.rm.same (set_others _ (by have := h.lo; omega)) (Nat.le_of_eq set_size.symm), h.lo, h.ln⟩
theorem FrR.free3 (h : FrR w W s bb t d) (v : Nat → Ls.Sl) (F : Nat → List Int) (hv : Ls.L3 W W.heap.size v F) : FrR w (((W.setCell ⟨bb, 2, none⟩ (.slice (v 0).a (v 0).n (v 0).c)).setCell ⟨bb, 3, none⟩ (.slice (v 1).a (v 1).n (v 1).c)).setCell ⟨bb, 4, none⟩ (.slice (v 2).a (v 2).n (v 2).c)) s bb ⟨t.w, t.p, v, t.c⟩ ⟨d.ws, d.f, F, d.cs⟩ :=
  ⟨h.ro.free3 v F hv, h.rm.same (set3_others _ (by have := h.lo; omega)) (by simp), h.lo, h.ln⟩
end
section
variable (s : Hs) (d : Hd_) (a : Int) (w : World)
set_option maxHeartbeats 1000000 in
theorem free_no (er : Int) (her : ¬ er = 0) (hE : headE s d a = er) (hp : Hp w w.heap.size s d) (hz : Cl.Sz w) (hf : Fine s d) : Calls Tryz.prog 16 #[(.agg #[.slice s.w.a s.w.n s.w.c, .slice s.p.a s.p.n s.p.c, .slice (s.u 0).a (s.u 0).n (s.u 0).c, .slice (s.u 1).a (s.u 1).n (s.u 1).c, .slice (s.u 2).a (s.u 2).n (s.u 2).c, .slice s.c.a s.c.n s.c.c]), .int .i64 a] w (RkOut w er 0 0 0 dNone) := by
  have hV : headV s d a = noHead := by
    unfold headV
    rw [if_neg (by rw [hE]; exact her)]
  have HP := Lib.hid hp
  have HH : Hid (∀ W, Rr w W s d → Calls Tryz.prog 59 #[(.agg #[.slice s.w.a s.w.n s.w.c, .slice s.p.a s.p.n s.p.c, .slice (s.u 0).a (s.u 0).n (s.u 0).c, .slice (s.u 1).a (s.u 1).n (s.u 1).c, .slice (s.u 2).a (s.u 2).n (s.u 2).c, .slice s.c.a s.c.n s.c.c]), .int .i64 a] W (HeadOut W (.agg #[.bool false, .bool false, .bool false, .int .i64 0, .int .i64 0, .int .i64 0]) er)) := Lib.hid (fun W h => by
    have := phead_any s d a W h.ro.hp (hz.over h.ro.bel hz.pos) hf
    rw [hV, hE] at this
    exact this)
  have d1 : (er != 0) = true := by simp [her]
  clear hp hz hf hE hV her
  go_enter Tryz.func16, Tryz.ntmps16
  go_wp2_with fail
  obtain ⟨W0, hW0⟩ : ∃ W0, W0 = (w.alloc (.cells #[.slice s.w.a s.w.n s.w.c, .slice s.p.a s.p.n s.p.c, .slice (s.u 0).a (s.u 0).n (s.u 0).c, .slice (s.u 1).a (s.u 1).n (s.u 1).c, .slice (s.u 2).a (s.u 2).n (s.u 2).c, .slice s.c.a s.c.n s.c.c] 28)).alloc (.cells #[.slice none 0 0, .slice none 0 0, .slice none 0 0, .slice none 0 0, .slice none 0 0, .slice none 0 0] 28) := ⟨_, rfl⟩
  have K0 := Lib.hid (rr_start HP.out hW0)
  rw [← hW0]
  clear hW0
  refine (HH.out W0 K0.out).mono ?_
  rintro e9 w1 ⟨rfl, hb1⟩
  have K1 := Lib.hid (K0.out.next hb1)
  clear hb1 K0
  go_upto_region 2 with fail
  obtain ⟨W2, hW2⟩ : ∃ W2, W2 = w1.alloc (.cells #[.bool false, .bool false, .bool false, .int .i64 0, .int .i64 0, .int .i64 0] 30) := ⟨_, rfl⟩
  have b2 : Below w1.heap.size w1 W2 := by rw [hW2]; exact (Below.refl _ _).alloc (Nat.le_refl _) _
  rw [← hW2]
  have K2 := Lib.hid (K1.out.next b2)
  clear hW2 b2 K1
  have x0 := (K2.out.rm.box.box).c0
  have x1 := (K2.out.rm.box.box).c1
  have x2 := (K2.out.rm.box.box).c2
  have x3 := (K2.out.rm.box.box).c3
  have x4 := (K2.out.rm.box.box).c4
  have x5 := (K2.out.rm.box.box).c5
  have xl := (K2.out.rm.box.box).lt
  have z0 := (K2.out.rm.box).free 0
  have z1 := (K2.out.rm.box).free 1
  have z2 := (K2.out.rm.box).free 2
  have z3 := (K2.out.rm.box).free 3
  have z4 := (K2.out.rm.box).free 4
  have z5 := (K2.out.rm.box).free 5
  dsimp only [noHs, Ls.noSl] at x0 x1 x2 x3 x4 x5
  go_wp2
  refine bodyPost_ret (v := .tuple #[(.agg #[.slice noHs.w.a noHs.w.n noHs.w.c, .slice noHs.p.a noHs.p.n noHs.p.c, .slice (noHs.u 0).a (noHs.u 0).n (noHs.u 0).c, .slice (noHs.u 1).a (noHs.u 1).n (noHs.u 1).c, .slice (noHs.u 2).a (noHs.u 2).n (noHs.u 2).c, .slice noHs.c.a noHs.c.n noHs.c.c]), .int .i64 er]) ?_ rfl (rk_end (t := noHs) er K2.out.ro.bel (hp_none W2) K2.out.rm (by omega) ⟨rfl, rfl, rfl⟩)
  obtain ⟨k0, k1, k2, k3, k4, k5⟩ := put6_at K2.out.rm.box (.slice noHs.w.a noHs.w.n noHs.w.c) (.slice noHs.p.a noHs.p.n noHs.p.c) (.slice (noHs.u 0).a (noHs.u 0).n (noHs.u 0).c) (.slice (noHs.u 1).a (noHs.u 1).n (noHs.u 1).c) (.slice (noHs.u 2).a (noHs.u 2).n (noHs.u 2).c) (.slice noHs.c.a noHs.c.n noHs.c.c)
  exact res_free rfl rfl k0 k1 k2 k3 k4 k5
set_option maxHeartbeats 8000000 in
theorem free_large (p : Nat) (hpe : p = (a / 16 - 1).toNat) (pa : Int) (hk : d.f p = (2, pa)) (hE : headE s d a = 0) (hp : Hp w w.heap.size s d) (hz : Cl.Sz w) (hf : Fine s d) : Calls Tryz.prog 16 #[(.agg #[.slice s.w.a s.w.n s.w.c, .slice s.p.a s.p.n s.p.c, .slice (s.u 0).a (s.u 0).n (s.u 0).c, .slice (s.u 1).a (s.u 1).n (s.u 1).c, .slice (s.u 2).a (s.u 2).n (s.u 2).c, .slice s.c.a s.c.n s.c.c]), .int .i64 a] w (RkOut w 0 s.w.n s.p.n s.c.n (freedD d s.p.n a)) := by
  obtain ⟨h0, hb, hw⟩ := head_is hE
  have hfb := (mayH_all h0).1
  have hfit := fit_first hfb
  have h64 := hfit.p
  have hwp := hfit.wp
  have hz0 := hz.pos
  have hce := cell_end hb
  have hpg := bg_page hb
  have hmb := hpg.1
  have hpn : p < s.p.n := by omega
  have hpa : pgAt d a = d.f p := by unfold pgAt; rw [hpe]
  have hlw : d.ws.length = s.w.n := hp.words.1
  obtain ⟨o, e, N, b, m, hV⟩ : ∃ o e N b m, headV s d a = .agg #[.bool true, .bool o, .bool e, .int .i64 N, .int .i64 b, .int .i64 m] := by
    have hall : (Cl.allS d.f s.p.n).all (cellAt d) = true := (mayH_all h0).2.1
    have hwu := word_used (List.all_eq_true.1 hall a (mem_allS.2 hb))
    have h1 : wd d a % 2 = 1 := Classical.byContradiction fun h => hw (hwu.2 h).2
    unfold headV
    rw [if_pos hE, headOf_yes hwu.1, decide_eq_true h1]
    exact ⟨_, _, _, _, _, rfl⟩
  obtain ⟨r, hr⟩ : ∃ r, r = Cl.bg d.f s.p.n a := ⟨_, rfl⟩
  obtain ⟨ws', hws'⟩ : ∃ ws', ws' = Ar.wipe d.ws (a - 16).toNat (Cl.bg d.f s.p.n a).toNat := ⟨_, rfl⟩
  have HH : Hid (∀ W, Rr w W s d → Calls Tryz.prog 59 #[(.agg #[.slice s.w.a s.w.n s.w.c, .slice s.p.a s.p.n s.p.c, .slice (s.u 0).a (s.u 0).n (s.u 0).c, .slice (s.u 1).a (s.u 1).n (s.u 1).c, .slice (s.u 2).a (s.u 2).n (s.u 2).c, .slice s.c.a s.c.n s.c.c]), .int .i64 a] W (HeadOut W (.agg #[.bool true, .bool o, .bool e, .int .i64 N, .int .i64 b, .int .i64 m]) 0)) := Lib.hid (fun W h => by
    have := phead_any s d a W h.ro.hp (hz.over h.ro.bel hz.pos) hf
    rwa [hV, hE] at this)
  have HC : Hid (∀ W, Rr w W s d → Calls Tryz.prog 42 #[(.agg #[.slice s.w.a s.w.n s.w.c, .slice s.p.a s.p.n s.p.c, .slice (s.u 0).a (s.u 0).n (s.u 0).c, .slice (s.u 1).a (s.u 1).n (s.u 1).c, .slice (s.u 2).a (s.u 2).n (s.u 2).c, .slice s.c.a s.c.n s.c.c])] W (RoOut W s d)) := Lib.hid (fun W h => rcopied_any s d W h.ro.hp hf hfb)
  have HRM : Hid (∀ W bb t d', d'.f = d.f → FrR w W s bb t d' → Calls Tryz.prog 61 #[.slice t.p.a t.p.n t.p.c, .int .i64 a] W fun e w' => e = .returned (.int .i64 r) ∧ Below W.heap.size W w') := Lib.hid (fun W bb t d' hd h => by
    have := room9_bg W.heap.size t.p.a t.p.n t.p.c d'.f a W (by rw [h.ln.2.1]; omega) (hz.over h.ro.bel hz0) h.ro.hp.pages (Nat.le_refl _)
    exact this.mono fun _ _ hh => by rw [h.ln.2.1, hd, ← hr] at hh; exact hh)
  have HZR : Hid (∀ W bb t, FrR w W s bb t d → Calls Tryz.prog 60 #[.slice t.w.a t.w.n t.w.c, .int .i64 a, .int .i64 r] W (Ar.Made W t.w.n ws')) := Lib.hid (fun W bb t h => by
    have := Ar.zero_ok W.heap.size t.w.a t.w.n t.w.c d.ws (a - 16).toNat (Cl.bg d.f s.p.n a).toNat W (by rw [h.ln.1]; exact hfit.w) (by omega) (by rw [h.ln.1]; omega) h.ro.hp.words
    rw [hws', hr]
    rwa [show (16 : Int) + ((a - 16).toNat : Nat) = a by omega, show (((Cl.bg d.f s.p.n a).toNat : Nat) : Int) = Cl.bg d.f s.p.n a by omega] at this)
  have HPG : Hid (∀ W A c, Calls Tryz.prog 62 #[.slice A s.w.n c, .int .i64 a] W fun e w' => e = .returned (.tuple #[.int .i64 (p : Int), .int .i64 0]) ∧ W = w') := Lib.hid (fun W A c => by
    have := Ar.page_ok A s.w.n c a W hfit.w (by omega) (by omega)
    rwa [show (a - 16) / 16 = (p : Int) by omega] at this)
  have HD : Hid (freedD d s.p.n a = ⟨ws', Cl.drop d.f p, d.F, d.cs⟩) := Lib.hid (by
    unfold freedD
    rw [hpa, if_neg (by rw [hk]; exact (by decide : ¬ (2 : Int) = 1))]
    unfold dropD
    rw [← hws', ← hpe])
  have HDR : Hid (∀ W bb t, FrR w W s bb t ⟨ws', d.f, d.F, d.cs⟩ → Calls Tryz.prog 63 #[(.agg #[.slice t.w.a t.w.n t.w.c, .slice t.p.a t.p.n t.p.c, .slice (t.u 0).a (t.u 0).n (t.u 0).c, .slice (t.u 1).a (t.u 1).n (t.u 1).c, .slice (t.u 2).a (t.u 2).n (t.u 2).c, .slice t.c.a t.c.n t.c.c]), .int .i64 (p : Int)] W (RoOut W t ⟨ws', Cl.drop d.f p, d.F, d.cs⟩)) := Lib.hid (fun W bb t h => rdrop9_any t ⟨ws', d.f, d.F, d.cs⟩ p W h.ro.hp (by rw [h.ln.2.1]; omega) (by rw [h.ln.2.1]; exact drop_fine hmb hpn (.inr (by rw [hk]))))
  have HP := Lib.hid hp
  have HPN := Lib.hid hpn
  clear hp hz hf hE hV h0 hb hw hfb hfit h64 hwp hce hpg hmb hpa hlw hpe hr hws' hpn
  go_enter Tryz.func16, Tryz.ntmps16
  go_wp2_with fail
  obtain ⟨W0, hW0⟩ : ∃ W0, W0 = (w.alloc (.cells #[.slice s.w.a s.w.n s.w.c, .slice s.p.a s.p.n s.p.c, .slice (s.u 0).a (s.u 0).n (s.u 0).c, .slice (s.u 1).a (s.u 1).n (s.u 1).c, .slice (s.u 2).a (s.u 2).n (s.u 2).c, .slice s.c.a s.c.n s.c.c] 28)).alloc (.cells #[.slice none 0 0, .slice none 0 0, .slice none 0 0, .slice none 0 0, .slice none 0 0, .slice none 0 0] 28) := ⟨_, rfl⟩
  have K0 := Lib.hid (rr_start HP.out hW0)
  rw [← hW0]
  clear hW0
  refine (HH.out W0 K0.out).mono ?_
  rintro e9 w1 ⟨rfl, hb1⟩
  have K1 := Lib.hid (K0.out.next hb1)
  clear hb1 K0
  go_upto_region 2 with fail
  obtain ⟨W2, hW2⟩ : ∃ W2, W2 = w1.alloc (.cells #[.bool true, .bool o, .bool e, .int .i64 N, .int .i64 b, .int .i64 m] 30) := ⟨_, rfl⟩
  have b2 : Below w1.heap.size w1 W2 := by rw [hW2]; exact (Below.refl _ _).alloc (Nat.le_refl _) _
  rw [← hW2]
  have K2 := Lib.hid (K1.out.next b2)
  clear hW2 b2 K1
  have q0 := (K2.out.ro.rm.box.box).c0
  have q1 := (K2.out.ro.rm.box.box).c1
  have q2 := (K2.out.ro.rm.box.box).c2
  have q3 := (K2.out.ro.rm.box.box).c3
  have q4 := (K2.out.ro.rm.box.box).c4
  have q5 := (K2.out.ro.rm.box.box).c5
  have ql := (K2.out.ro.rm.box.box).lt
  go_wp2_with fail
  refine (HC.out W2 K2.out).mono ?_
  rintro e9 w3 ⟨t, rfl, hp3, hl3, hb3⟩
  obtain ⟨bp, off, et, hbp, hcp⟩ := hp3.pages (by rw [hl3.2.1]; have := HPN.out; omega)
  have g0 := hcp p (by rw [hl3.2.1]; exact HPN.out)
  have K3 := Lib.hid (K2.out.next hb3)
  have G3 := Lib.hid (And.intro hbp g0)
  have L3 := Lib.hid hl3
  have P3 := Lib.hid hp3
  clear hp3 hb3 K2 hcp hbp g0
  clear q0 q1 q2 q3 q4 q5 ql
  obtain ⟨⟨aw, nw, cw⟩, ⟨ap, np, cp⟩, tu, ⟨ac, nc, cc⟩⟩ := t
  dsimp only at hl3 et
  obtain ⟨l0, l1, l2⟩ := hl3
  subst et l0 l1 l2
  obtain ⟨W4, hW4⟩ : ∃ W4, W4 = w3.alloc (.cells #[.slice (⟨⟨aw, s.w.n, cw⟩, ⟨some ⟨bp, off, none⟩, s.p.n, cp⟩, tu, ⟨ac, s.c.n, cc⟩⟩ : Hs).w.a (⟨⟨aw, s.w.n, cw⟩, ⟨some ⟨bp, off, none⟩, s.p.n, cp⟩, tu, ⟨ac, s.c.n, cc⟩⟩ : Hs).w.n (⟨⟨aw, s.w.n, cw⟩, ⟨some ⟨bp, off, none⟩, s.p.n, cp⟩, tu, ⟨ac, s.c.n, cc⟩⟩ : Hs).w.c, .slice (⟨⟨aw, s.w.n, cw⟩, ⟨some ⟨bp, off, none⟩, s.p.n, cp⟩, tu, ⟨ac, s.c.n, cc⟩⟩ : Hs).p.a (⟨⟨aw, s.w.n, cw⟩, ⟨some ⟨bp, off, none⟩, s.p.n, cp⟩, tu, ⟨ac, s.c.n, cc⟩⟩ : Hs).p.n (⟨⟨aw, s.w.n, cw⟩, ⟨some ⟨bp, off, none⟩, s.p.n, cp⟩, tu, ⟨ac, s.c.n, cc⟩⟩ : Hs).p.c, .slice ((⟨⟨aw, s.w.n, cw⟩, ⟨some ⟨bp, off, none⟩, s.p.n, cp⟩, tu, ⟨ac, s.c.n, cc⟩⟩ : Hs).u 0).a ((⟨⟨aw, s.w.n, cw⟩, ⟨some ⟨bp, off, none⟩, s.p.n, cp⟩, tu, ⟨ac, s.c.n, cc⟩⟩ : Hs).u 0).n ((⟨⟨aw, s.w.n, cw⟩, ⟨some ⟨bp, off, none⟩, s.p.n, cp⟩, tu, ⟨ac, s.c.n, cc⟩⟩ : Hs).u 0).c, .slice ((⟨⟨aw, s.w.n, cw⟩, ⟨some ⟨bp, off, none⟩, s.p.n, cp⟩, tu, ⟨ac, s.c.n, cc⟩⟩ : Hs).u 1).a ((⟨⟨aw, s.w.n, cw⟩, ⟨some ⟨bp, off, none⟩, s.p.n, cp⟩, tu, ⟨ac, s.c.n, cc⟩⟩ : Hs).u 1).n ((⟨⟨aw, s.w.n, cw⟩, ⟨some ⟨bp, off, none⟩, s.p.n, cp⟩, tu, ⟨ac, s.c.n, cc⟩⟩ : Hs).u 1).c, .slice ((⟨⟨aw, s.w.n, cw⟩, ⟨some ⟨bp, off, none⟩, s.p.n, cp⟩, tu, ⟨ac, s.c.n, cc⟩⟩ : Hs).u 2).a ((⟨⟨aw, s.w.n, cw⟩, ⟨some ⟨bp, off, none⟩, s.p.n, cp⟩, tu, ⟨ac, s.c.n, cc⟩⟩ : Hs).u 2).n ((⟨⟨aw, s.w.n, cw⟩, ⟨some ⟨bp, off, none⟩, s.p.n, cp⟩, tu, ⟨ac, s.c.n, cc⟩⟩ : Hs).u 2).c, .slice (⟨⟨aw, s.w.n, cw⟩, ⟨some ⟨bp, off, none⟩, s.p.n, cp⟩, tu, ⟨ac, s.c.n, cc⟩⟩ : Hs).c.a (⟨⟨aw, s.w.n, cw⟩, ⟨some ⟨bp, off, none⟩, s.p.n, cp⟩, tu, ⟨ac, s.c.n, cc⟩⟩ : Hs).c.n (⟨⟨aw, s.w.n, cw⟩, ⟨some ⟨bp, off, none⟩, s.p.n, cp⟩, tu, ⟨ac, s.c.n, cc⟩⟩ : Hs).c.c] 79) := ⟨_, rfl⟩
  have b4 : Below w3.heap.size w3 W4 := by rw [hW4]; exact (Below.refl _ _).alloc (Nat.le_refl _) _
  have F4 := Lib.hid (show FrR w W4 s w3.heap.size ⟨⟨aw, s.w.n, cw⟩, ⟨some ⟨bp, off, none⟩, s.p.n, cp⟩, tu, ⟨ac, s.c.n, cc⟩⟩ d from by
    have h1 : Ro w3 W4 w3.heap.size ⟨⟨aw, s.w.n, cw⟩, ⟨some ⟨bp, off, none⟩, s.p.n, cp⟩, tu, ⟨ac, s.c.n, cc⟩⟩ d := by rw [hW4]; exact ro_start P3.out
    have hs := K3.out.rm.box.box.lt
    exact ⟨⟨(K3.out.next b4).ro.bel, by omega, h1.rm, h1.hp⟩, (K3.out.next b4).rm, by omega, rfl, rfl, rfl⟩)
  have G4 := Lib.hid (show bp < W4.heap.size ∧ W4.cell? ⟨bp, off + p * 2, none⟩ = some (.int .i64 (d.f p).1) ∧ W4.cell? ⟨bp, off + p * 2 + 1, none⟩ = some (.int .i64 (d.f p).2) from ⟨Nat.lt_of_lt_of_le G3.out.1 b4.size, (b4.cell (p := ⟨bp, off + p * 2, none⟩) G3.out.1).trans G3.out.2.1, (b4.cell (p := ⟨bp, off + p * 2 + 1, none⟩) G3.out.1).trans G3.out.2.2⟩)
  clear b4 G3 K3 L3 P3
  go_upto_region 5 with fail
  rw [← hW4]
  clear hW4
  have F5 := Lib.hid F4.out.drew
  have C1 := Lib.hid (HRM.out W4.drew _ _ d rfl F5.out)
  have q0 := (F4.out.ro.rm.box.box).c0
  have q1 := (F4.out.ro.rm.box.box).c1
  have q2 := (F4.out.ro.rm.box.box).c2
  have q3 := (F4.out.ro.rm.box.box).c3
  have q4 := (F4.out.ro.rm.box.box).c4
  have q5 := (F4.out.ro.rm.box.box).c5
  have ql := (F4.out.ro.rm.box.box).lt
  dsimp only at q0 q1 q2 q3 q4 q5 C1
  clear F4
  go_region_with (first
    | ((go_at_call 61; refine C1.out.mono ?_; rintro e1 w5 ⟨rfl, hb5⟩; have F6 := Lib.hid (F5.out.next hb5); have q0 := F6.out.ro.rm.box.box.c0; have ql := F6.out.ro.rm.box.box.lt; have G6 := Lib.hid (show bp < w5.heap.size ∧ w5.cell? ⟨bp, off + p * 2, none⟩ = some (.int .i64 (d.f p).1) ∧ w5.cell? ⟨bp, off + p * 2 + 1, none⟩ = some (.int .i64 (d.f p).2) from ⟨Nat.lt_of_lt_of_le G4.out.1 hb5.size, (hb5.cell (p := ⟨bp, off + p * 2, none⟩) G4.out.1).trans G4.out.2.1, (hb5.cell (p := ⟨bp, off + p * 2 + 1, none⟩) G4.out.1).trans G4.out.2.2⟩); dsimp only at q0; clear hb5))
    | ((go_at_call 60; refine (HZR.out w5 _ _ F6.out).mono ?_; rintro e2 w6 ⟨g, cz, rfl, hm6, hb6⟩; have F7 := Lib.hid (F6.out.next hb6); have M7 := Lib.hid hm6; have r0 := F7.out.ro.rm.box.box.c0; have rl := F7.out.ro.rm.box.box.lt; have f0 := F7.out.ro.rm.box.free 0; have G7 := Lib.hid (show bp < w6.heap.size ∧ w6.cell? ⟨bp, off + p * 2, none⟩ = some (.int .i64 (d.f p).1) ∧ w6.cell? ⟨bp, off + p * 2 + 1, none⟩ = some (.int .i64 (d.f p).2) from ⟨Nat.lt_of_lt_of_le G6.out.1 hb6.size, (hb6.cell (p := ⟨bp, off + p * 2, none⟩) G6.out.1).trans G6.out.2.1, (hb6.cell (p := ⟨bp, off + p * 2 + 1, none⟩) G6.out.1).trans G6.out.2.2⟩); dsimp only at r0; clear hb6 hm6 q0)))
  all_goals
    have F8 := Lib.hid (F7.out.words M7.out)
    have hsl := F7.out.ro.rm.sl
    have hnb : ¬ bp = w3.heap.size := fun e0 => by
      subst e0
      obtain ⟨_, _, _, hv⟩ := hsl _ _ G7.out.2.1
      cases hv
    have G8 := Lib.hid (show bp < (w6.setCell ⟨w3.heap.size, 0, none⟩ (.slice (some ⟨g, 0, none⟩) s.w.n cz)).heap.size ∧ (w6.setCell ⟨w3.heap.size, 0, none⟩ (.slice (some ⟨g, 0, none⟩) s.w.n cz)).cell? ⟨bp, off + p * 2, none⟩ = some (.int .i64 (d.f p).1) ∧ (w6.setCell ⟨w3.heap.size, 0, none⟩ (.slice (some ⟨g, 0, none⟩) s.w.n cz)).cell? ⟨bp, off + p * 2 + 1, none⟩ = some (.int .i64 (d.f p).2) from ⟨by rw [set_size]; exact G7.out.1, (World.cell?_of_block (a := ⟨bp, off + p * 2, none⟩) (set_others bp hnb)).trans G7.out.2.1, (World.cell?_of_block (a := ⟨bp, off + p * 2 + 1, none⟩) (set_others bp hnb)).trans G7.out.2.2⟩)
    dsimp only at F8
    clear hsl hnb r0 rl f0 F7 M7 G7 q1 q2 q3 q4 q5
    obtain ⟨W8, hW8⟩ : ∃ W8, W8 = w6.setCell ⟨w3.heap.size, 0, none⟩ (.slice (some ⟨g, 0, none⟩) s.w.n cz) := ⟨_, rfl⟩
    rw [← hW8] at F8 G8 ⊢
    clear hW8
    have q0 := (F8.out.ro.rm.box.box).c0
    have q1 := (F8.out.ro.rm.box.box).c1
    have q2 := (F8.out.ro.rm.box.box).c2
    have q3 := (F8.out.ro.rm.box.box).c3
    have q4 := (F8.out.ro.rm.box.box).c4
    have q5 := (F8.out.ro.rm.box.box).c5
    have ql := (F8.out.ro.rm.box.box).lt
    dsimp only at q0 q1 q2 q3 q4 q5
    go_wp2_with fail
    refine (HPG.out W8 (some ⟨g, 0, none⟩) cz).mono ?_
    rintro e9 w9 ⟨rfl, rfl⟩
    have i0 : (0 : Int) ≤ (p : Int) := by omega
    have i1 : (p : Int) < s.p.n := by have := HPN.out; omega
    have c0 := G8.out.2.1
    have c1 := G8.out.2.2
    have cl := G8.out.1
    rw [hk] at c0 c1
    dsimp only at c0 c1
    go_upto_region 9 with fail
    obtain ⟨W9, hW9⟩ : ∃ W9, W9 = W8.alloc (.cells #[.int .i64 2, .int .i64 pa] 76) := ⟨_, rfl⟩
    have b9 : Below W8.heap.size W8 W9 := by rw [hW9]; exact (Below.refl _ _).alloc (Nat.le_refl _) _
    have p0 : W9.cell? ⟨W8.heap.size, 0, none⟩ = some (.int .i64 2) := by rw [hW9]; simp [go_sem]
    have p1 : W9.cell? ⟨W8.heap.size, 1, none⟩ = some (.int .i64 pa) := by rw [hW9]; simp [go_sem]
    have pl : W8.heap.size < W9.heap.size := by rw [hW9]; simp
    rw [← hW9]
    have F9 := Lib.hid (F8.out.next b9)
    clear hW9 b9 c0 c1 cl F8 G8 i0 i1
    clear q0 q1 q2 q3 q4 q5 ql
    have q0 := (F9.out.ro.rm.box.box).c0
    have q1 := (F9.out.ro.rm.box.box).c1
    have q2 := (F9.out.ro.rm.box.box).c2
    have q3 := (F9.out.ro.rm.box.box).c3
    have q4 := (F9.out.ro.rm.box.box).c4
    have q5 := (F9.out.ro.rm.box.box).c5
    have ql := (F9.out.ro.rm.box.box).lt
    dsimp only at q0 q1 q2 q3 q4 q5
    go_wp2_with fail
    refine (HDR.out W9 _ _ F9.out).mono ?_
    have FX := F9
    rintro e9 w12 ⟨t2, rfl, hp2, hl2, hb2⟩
    have FY := Lib.hid (FX.out.next hb2)
    have PY := Lib.hid (And.intro hp2 (show t2.w.n = s.w.n ∧ t2.p.n = s.p.n ∧ t2.c.n = s.c.n from ⟨hl2.1.trans FX.out.ln.1, hl2.2.1.trans FX.out.ln.2.1, hl2.2.2.trans FX.out.ln.2.2⟩))
    clear hp2 hl2 hb2 FX F9 p0 p1 pl
    clear q0 q1 q2 q3 q4 q5 ql
    have x0 := (FY.out.rm.box.box).c0
    have x1 := (FY.out.rm.box.box).c1
    have x2 := (FY.out.rm.box.box).c2
    have x3 := (FY.out.rm.box.box).c3
    have x4 := (FY.out.rm.box.box).c4
    have x5 := (FY.out.rm.box.box).c5
    have xl := (FY.out.rm.box.box).lt
    have z0 := (FY.out.rm.box).free 0
    have z1 := (FY.out.rm.box).free 1
    have z2 := (FY.out.rm.box).free 2
    have z3 := (FY.out.rm.box).free 3
    have z4 := (FY.out.rm.box).free 4
    have z5 := (FY.out.rm.box).free 5
    dsimp only [noHs, Ls.noSl] at x0 x1 x2 x3 x4 x5
    go_wp2
    refine bodyPost_ret (v := .tuple #[(.agg #[.slice t2.w.a t2.w.n t2.w.c, .slice t2.p.a t2.p.n t2.p.c, .slice (t2.u 0).a (t2.u 0).n (t2.u 0).c, .slice (t2.u 1).a (t2.u 1).n (t2.u 1).c, .slice (t2.u 2).a (t2.u 2).n (t2.u 2).c, .slice t2.c.a t2.c.n t2.c.c]), .int .i64 0]) ?_ rfl ((congrArg (fun D => RkOut w 0 s.w.n s.p.n s.c.n D _ _) HD.out).mpr (rk_end (t := t2) 0 FY.out.ro.bel PY.out.1 FY.out.rm (by omega) PY.out.2))
    obtain ⟨k0, k1, k2, k3, k4, k5⟩ := put6_at FY.out.rm.box (.slice t2.w.a t2.w.n t2.w.c) (.slice t2.p.a t2.p.n t2.p.c) (.slice (t2.u 0).a (t2.u 0).n (t2.u 0).c) (.slice (t2.u 1).a (t2.u 1).n (t2.u 1).c) (.slice (t2.u 2).a (t2.u 2).n (t2.u 2).c) (.slice t2.c.a t2.c.n t2.c.c)
    exact res_free rfl rfl k0 k1 k2 k3 k4 k5
set_option maxHeartbeats 8000000 in
theorem free_small (p : Nat) (hpe : p = (a / 16 - 1).toNat) (k : Nat) (hk3 : k < 3) (hk : d.f p = (1, (k : Int))) (hE : headE s d a = 0) (hp : Hp w w.heap.size s d) (hz : Cl.Sz w) (hf : Fine s d) (hu : ∀ j, j < 3 → (s.u j).n ≤ 1000000) : Calls Tryz.prog 16 #[(.agg #[.slice s.w.a s.w.n s.w.c, .slice s.p.a s.p.n s.p.c, .slice (s.u 0).a (s.u 0).n (s.u 0).c, .slice (s.u 1).a (s.u 1).n (s.u 1).c, .slice (s.u 2).a (s.u 2).n (s.u 2).c, .slice s.c.a s.c.n s.c.c]), .int .i64 a] w (RkOut w 0 s.w.n s.p.n s.c.n (freedD d s.p.n a)) := by
  obtain ⟨h0, hb, hw⟩ := head_is hE
  have hfb := (mayH_all h0).1
  have hfit := fit_first hfb
  have h64 := hfit.p
  have hwp := hfit.wp
  have hz0 := hz.pos
  have hce := cell_end hb
  have hpg := bg_page hb
  have hmb := hpg.1
  have hpn : p < s.p.n := by omega
  have hpa : pgAt d a = d.f p := by unfold pgAt; rw [hpe]
  have hlw : d.ws.length = s.w.n := hp.words.1
  obtain ⟨o, e, N, b, m, hV⟩ : ∃ o e N b m, headV s d a = .agg #[.bool true, .bool o, .bool e, .int .i64 N, .int .i64 b, .int .i64 m] := by
    have hall : (Cl.allS d.f s.p.n).all (cellAt d) = true := (mayH_all h0).2.1
    have hwu := word_used (List.all_eq_true.1 hall a (mem_allS.2 hb))
    have h1 : wd d a % 2 = 1 := Classical.byContradiction fun h => hw (hwu.2 h).2
    unfold headV
    rw [if_pos hE, headOf_yes hwu.1, decide_eq_true h1]
    exact ⟨_, _, _, _, _, rfl⟩
  obtain ⟨r, hr⟩ : ∃ r, r = Cl.bg d.f s.p.n a := ⟨_, rfl⟩
  obtain ⟨ws', hws'⟩ : ∃ ws', ws' = Ar.wipe d.ws (a - 16).toNat (Cl.bg d.f s.p.n a).toNat := ⟨_, rfl⟩
  have HH : Hid (∀ W, Rr w W s d → Calls Tryz.prog 59 #[(.agg #[.slice s.w.a s.w.n s.w.c, .slice s.p.a s.p.n s.p.c, .slice (s.u 0).a (s.u 0).n (s.u 0).c, .slice (s.u 1).a (s.u 1).n (s.u 1).c, .slice (s.u 2).a (s.u 2).n (s.u 2).c, .slice s.c.a s.c.n s.c.c]), .int .i64 a] W (HeadOut W (.agg #[.bool true, .bool o, .bool e, .int .i64 N, .int .i64 b, .int .i64 m]) 0)) := Lib.hid (fun W h => by
    have := phead_any s d a W h.ro.hp (hz.over h.ro.bel hz.pos) hf
    rwa [hV, hE] at this)
  have HC : Hid (∀ W, Rr w W s d → Calls Tryz.prog 42 #[(.agg #[.slice s.w.a s.w.n s.w.c, .slice s.p.a s.p.n s.p.c, .slice (s.u 0).a (s.u 0).n (s.u 0).c, .slice (s.u 1).a (s.u 1).n (s.u 1).c, .slice (s.u 2).a (s.u 2).n (s.u 2).c, .slice s.c.a s.c.n s.c.c])] W (RoOut W s d)) := Lib.hid (fun W h => rcopied_any s d W h.ro.hp hf hfb)
  have HRM : Hid (∀ W bb t d', d'.f = d.f → FrR w W s bb t d' → Calls Tryz.prog 61 #[.slice t.p.a t.p.n t.p.c, .int .i64 a] W fun e w' => e = .returned (.int .i64 r) ∧ Below W.heap.size W w') := Lib.hid (fun W bb t d' hd h => by
    have := room9_bg W.heap.size t.p.a t.p.n t.p.c d'.f a W (by rw [h.ln.2.1]; omega) (hz.over h.ro.bel hz0) h.ro.hp.pages (Nat.le_refl _)
    exact this.mono fun _ _ hh => by rw [h.ln.2.1, hd, ← hr] at hh; exact hh)
  have HZR : Hid (∀ W bb t, FrR w W s bb t d → Calls Tryz.prog 60 #[.slice t.w.a t.w.n t.w.c, .int .i64 a, .int .i64 r] W (Ar.Made W t.w.n ws')) := Lib.hid (fun W bb t h => by
    have := Ar.zero_ok W.heap.size t.w.a t.w.n t.w.c d.ws (a - 16).toNat (Cl.bg d.f s.p.n a).toNat W (by rw [h.ln.1]; exact hfit.w) (by omega) (by rw [h.ln.1]; omega) h.ro.hp.words
    rw [hws', hr]
    rwa [show (16 : Int) + ((a - 16).toNat : Nat) = a by omega, show (((Cl.bg d.f s.p.n a).toNat : Nat) : Int) = Cl.bg d.f s.p.n a by omega] at this)
  have HPG : Hid (∀ W A c, Calls Tryz.prog 62 #[.slice A s.w.n c, .int .i64 a] W fun e w' => e = .returned (.tuple #[.int .i64 (p : Int), .int .i64 0]) ∧ W = w') := Lib.hid (fun W A c => by
    have := Ar.page_ok A s.w.n c a W hfit.w (by omega) (by omega)
    rwa [show (a - 16) / 16 = (p : Int) by omega] at this)
  have hF : Ls.upd d.F k (d.F k ++ [a]) = (pushD d s.p.n a).F := by unfold pushD; simp only; rw [hpa, hk]; rfl
  have HD : Hid (freedD d s.p.n a = backD ⟨ws', d.f, Ls.upd d.F k (d.F k ++ [a]), d.cs⟩ p) := Lib.hid (by
    unfold freedD
    rw [hpa, if_pos (by rw [hk]), ← hpe, hF, hws']
    rfl)
  have HPU : Hid (∀ W bb t, FrR w W s bb t ⟨ws', d.f, d.F, d.cs⟩ → Calls Tryz.prog 64 #[(.agg #[.slice (t.u 0).a (t.u 0).n (t.u 0).c, .slice (t.u 1).a (t.u 1).n (t.u 1).c, .slice (t.u 2).a (t.u 2).n (t.u 2).c]), .int .i64 (k : Int), .slice (some ⟨W.heap.size, 0, none⟩) 1 1] (W.alloc (.cells #[.int .i64 a] 3)) (Ls.POut (W.alloc (.cells #[.int .i64 a] 3)) (Ls.upd d.F k (d.F k ++ [a])) 0)) := Lib.hid (fun W bb t h => by
    have h2 := h.next ((Below.refl W.heap.size W).alloc (Nat.le_refl _) (.cells #[.int .i64 a] 3))
    exact Ls.push_ok (W.alloc (.cells #[.int .i64 a] 3)).heap.size t.u d.F k hk3 _ 1 1 [a] _ h2.ro.hp.free (Nat.le_refl _) (fun j hj => by
      have g1 := h.ro.hp.free.len j hj
      have g2 := hp.free.len j hj
      have g3 := hu j hj
      show (t.u j).n ≤ _
      have g4 : (t.u j).n = (d.F j).length := g1
      omega) ((Ls.row_lit1 W a).more (by simp)) (by omega))
  have HGB : Hid (∀ W bb t, FrR w W s bb t ⟨ws', d.f, Ls.upd d.F k (d.F k ++ [a]), d.cs⟩ → Calls Tryz.prog 65 #[(.agg #[.slice t.w.a t.w.n t.w.c, .slice t.p.a t.p.n t.p.c, .slice (t.u 0).a (t.u 0).n (t.u 0).c, .slice (t.u 1).a (t.u 1).n (t.u 1).c, .slice (t.u 2).a (t.u 2).n (t.u 2).c, .slice t.c.a t.c.n t.c.c]), .int .i64 (p : Int)] W (RoOut W t (backD ⟨ws', d.f, Ls.upd d.F k (d.F k ++ [a]), d.cs⟩ p))) := Lib.hid (fun W bb t h => giveback_any t _ p W h.ro.hp (by rw [h.ln.2.1]; exact hpn) ⟨by rw [h.ln.1]; exact hfit.w, by rw [h.ln.1, h.ln.2.1]; exact hfit.wp, by rw [h.ln.2.1]; exact hfit.p⟩ (by rw [h.ln.2.1]; exact hmb) (hz.over h.ro.bel hz0) (fun j hj => by
    have g1 := h.ro.hp.free.len j hj
    have g2 := hp.free.len j hj
    have g3 := hu j hj
    have g4 : (Ls.upd d.F k (d.F k ++ [a]) j).length ≤ (d.F j).length + 1 := by
      unfold Ls.upd
      split
      · next e0 => rw [e0, List.length_append]; exact Nat.le_refl _
      · omega
    have g5 : (t.u j).n = (Ls.upd d.F k (d.F k ++ [a]) j).length := g1
    omega))
  have HP := Lib.hid hp
  have HPN := Lib.hid hpn
  clear hp hz hf hE hV hu h0 hb hw hfb hfit h64 hwp hce hpg hmb hpa hlw hpe hr hws' hpn
  go_enter Tryz.func16, Tryz.ntmps16
  go_wp2_with fail
  obtain ⟨W0, hW0⟩ : ∃ W0, W0 = (w.alloc (.cells #[.slice s.w.a s.w.n s.w.c, .slice s.p.a s.p.n s.p.c, .slice (s.u 0).a (s.u 0).n (s.u 0).c, .slice (s.u 1).a (s.u 1).n (s.u 1).c, .slice (s.u 2).a (s.u 2).n (s.u 2).c, .slice s.c.a s.c.n s.c.c] 28)).alloc (.cells #[.slice none 0 0, .slice none 0 0, .slice none 0 0, .slice none 0 0, .slice none 0 0, .slice none 0 0] 28) := ⟨_, rfl⟩
  have K0 := Lib.hid (rr_start HP.out hW0)
  rw [← hW0]
  clear hW0
  refine (HH.out W0 K0.out).mono ?_
  rintro e9 w1 ⟨rfl, hb1⟩
  have K1 := Lib.hid (K0.out.next hb1)
  clear hb1 K0
  go_upto_region 2 with fail
  obtain ⟨W2, hW2⟩ : ∃ W2, W2 = w1.alloc (.cells #[.bool true, .bool o, .bool e, .int .i64 N, .int .i64 b, .int .i64 m] 30) := ⟨_, rfl⟩
  have b2 : Below w1.heap.size w1 W2 := by rw [hW2]; exact (Below.refl _ _).alloc (Nat.le_refl _) _
  rw [← hW2]
  have K2 := Lib.hid (K1.out.next b2)
  clear hW2 b2 K1
  have q0 := (K2.out.ro.rm.box.box).c0
  have q1 := (K2.out.ro.rm.box.box).c1
  have q2 := (K2.out.ro.rm.box.box).c2
  have q3 := (K2.out.ro.rm.box.box).c3
  have q4 := (K2.out.ro.rm.box.box).c4
  have q5 := (K2.out.ro.rm.box.box).c5
  have ql := (K2.out.ro.rm.box.box).lt
  go_wp2_with fail
  refine (HC.out W2 K2.out).mono ?_
  rintro e9 w3 ⟨t, rfl, hp3, hl3, hb3⟩
  obtain ⟨bp, off, et, hbp, hcp⟩ := hp3.pages (by rw [hl3.2.1]; have := HPN.out; omega)
  have g0 := hcp p (by rw [hl3.2.1]; exact HPN.out)
  have K3 := Lib.hid (K2.out.next hb3)
  have G3 := Lib.hid (And.intro hbp g0)
  have L3 := Lib.hid hl3
  have P3 := Lib.hid hp3
  clear hp3 hb3 K2 hcp hbp g0
  clear q0 q1 q2 q3 q4 q5 ql
  obtain ⟨⟨aw, nw, cw⟩, ⟨ap, np, cp⟩, tu, ⟨ac, nc, cc⟩⟩ := t
  dsimp only at hl3 et
  obtain ⟨l0, l1, l2⟩ := hl3
  subst et l0 l1 l2
  obtain ⟨W4, hW4⟩ : ∃ W4, W4 = w3.alloc (.cells #[.slice (⟨⟨aw, s.w.n, cw⟩, ⟨some ⟨bp, off, none⟩, s.p.n, cp⟩, tu, ⟨ac, s.c.n, cc⟩⟩ : Hs).w.a (⟨⟨aw, s.w.n, cw⟩, ⟨some ⟨bp, off, none⟩, s.p.n, cp⟩, tu, ⟨ac, s.c.n, cc⟩⟩ : Hs).w.n (⟨⟨aw, s.w.n, cw⟩, ⟨some ⟨bp, off, none⟩, s.p.n, cp⟩, tu, ⟨ac, s.c.n, cc⟩⟩ : Hs).w.c, .slice (⟨⟨aw, s.w.n, cw⟩, ⟨some ⟨bp, off, none⟩, s.p.n, cp⟩, tu, ⟨ac, s.c.n, cc⟩⟩ : Hs).p.a (⟨⟨aw, s.w.n, cw⟩, ⟨some ⟨bp, off, none⟩, s.p.n, cp⟩, tu, ⟨ac, s.c.n, cc⟩⟩ : Hs).p.n (⟨⟨aw, s.w.n, cw⟩, ⟨some ⟨bp, off, none⟩, s.p.n, cp⟩, tu, ⟨ac, s.c.n, cc⟩⟩ : Hs).p.c, .slice ((⟨⟨aw, s.w.n, cw⟩, ⟨some ⟨bp, off, none⟩, s.p.n, cp⟩, tu, ⟨ac, s.c.n, cc⟩⟩ : Hs).u 0).a ((⟨⟨aw, s.w.n, cw⟩, ⟨some ⟨bp, off, none⟩, s.p.n, cp⟩, tu, ⟨ac, s.c.n, cc⟩⟩ : Hs).u 0).n ((⟨⟨aw, s.w.n, cw⟩, ⟨some ⟨bp, off, none⟩, s.p.n, cp⟩, tu, ⟨ac, s.c.n, cc⟩⟩ : Hs).u 0).c, .slice ((⟨⟨aw, s.w.n, cw⟩, ⟨some ⟨bp, off, none⟩, s.p.n, cp⟩, tu, ⟨ac, s.c.n, cc⟩⟩ : Hs).u 1).a ((⟨⟨aw, s.w.n, cw⟩, ⟨some ⟨bp, off, none⟩, s.p.n, cp⟩, tu, ⟨ac, s.c.n, cc⟩⟩ : Hs).u 1).n ((⟨⟨aw, s.w.n, cw⟩, ⟨some ⟨bp, off, none⟩, s.p.n, cp⟩, tu, ⟨ac, s.c.n, cc⟩⟩ : Hs).u 1).c, .slice ((⟨⟨aw, s.w.n, cw⟩, ⟨some ⟨bp, off, none⟩, s.p.n, cp⟩, tu, ⟨ac, s.c.n, cc⟩⟩ : Hs).u 2).a ((⟨⟨aw, s.w.n, cw⟩, ⟨some ⟨bp, off, none⟩, s.p.n, cp⟩, tu, ⟨ac, s.c.n, cc⟩⟩ : Hs).u 2).n ((⟨⟨aw, s.w.n, cw⟩, ⟨some ⟨bp, off, none⟩, s.p.n, cp⟩, tu, ⟨ac, s.c.n, cc⟩⟩ : Hs).u 2).c, .slice (⟨⟨aw, s.w.n, cw⟩, ⟨some ⟨bp, off, none⟩, s.p.n, cp⟩, tu, ⟨ac, s.c.n, cc⟩⟩ : Hs).c.a (⟨⟨aw, s.w.n, cw⟩, ⟨some ⟨bp, off, none⟩, s.p.n, cp⟩, tu, ⟨ac, s.c.n, cc⟩⟩ : Hs).c.n (⟨⟨aw, s.w.n, cw⟩, ⟨some ⟨bp, off, none⟩, s.p.n, cp⟩, tu, ⟨ac, s.c.n, cc⟩⟩ : Hs).c.c] 79) := ⟨_, rfl⟩
  have b4 : Below w3.heap.size w3 W4 := by rw [hW4]; exact (Below.refl _ _).alloc (Nat.le_refl _) _
  have F4 := Lib.hid (show FrR w W4 s w3.heap.size ⟨⟨aw, s.w.n, cw⟩, ⟨some ⟨bp, off, none⟩, s.p.n, cp⟩, tu, ⟨ac, s.c.n, cc⟩⟩ d from by
    have h1 : Ro w3 W4 w3.heap.size ⟨⟨aw, s.w.n, cw⟩, ⟨some ⟨bp, off, none⟩, s.p.n, cp⟩, tu, ⟨ac, s.c.n, cc⟩⟩ d := by rw [hW4]; exact ro_start P3.out
    have hs := K3.out.rm.box.box.lt
    exact ⟨⟨(K3.out.next b4).ro.bel, by omega, h1.rm, h1.hp⟩, (K3.out.next b4).rm, by omega, rfl, rfl, rfl⟩)
  have G4 := Lib.hid (show bp < W4.heap.size ∧ W4.cell? ⟨bp, off + p * 2, none⟩ = some (.int .i64 (d.f p).1) ∧ W4.cell? ⟨bp, off + p * 2 + 1, none⟩ = some (.int .i64 (d.f p).2) from ⟨Nat.lt_of_lt_of_le G3.out.1 b4.size, (b4.cell (p := ⟨bp, off + p * 2, none⟩) G3.out.1).trans G3.out.2.1, (b4.cell (p := ⟨bp, off + p * 2 + 1, none⟩) G3.out.1).trans G3.out.2.2⟩)
  clear b4 G3 K3 L3 P3
  go_upto_region 5 with fail
  rw [← hW4]
  clear hW4
  have F5 := Lib.hid F4.out.drew
  have C1 := Lib.hid (HRM.out W4.drew _ _ d rfl F5.out)
  have q0 := (F4.out.ro.rm.box.box).c0
  have q1 := (F4.out.ro.rm.box.box).c1
  have q2 := (F4.out.ro.rm.box.box).c2
  have q3 := (F4.out.ro.rm.box.box).c3
  have q4 := (F4.out.ro.rm.box.box).c4
  have q5 := (F4.out.ro.rm.box.box).c5
  have ql := (F4.out.ro.rm.box.box).lt
  dsimp only at q0 q1 q2 q3 q4 q5 C1
  clear F4
  go_region_with (first
    | ((go_at_call 61; refine C1.out.mono ?_; rintro e1 w5 ⟨rfl, hb5⟩; have F6 := Lib.hid (F5.out.next hb5); have q0 := F6.out.ro.rm.box.box.c0; have ql := F6.out.ro.rm.box.box.lt; have G6 := Lib.hid (show bp < w5.heap.size ∧ w5.cell? ⟨bp, off + p * 2, none⟩ = some (.int .i64 (d.f p).1) ∧ w5.cell? ⟨bp, off + p * 2 + 1, none⟩ = some (.int .i64 (d.f p).2) from ⟨Nat.lt_of_lt_of_le G4.out.1 hb5.size, (hb5.cell (p := ⟨bp, off + p * 2, none⟩) G4.out.1).trans G4.out.2.1, (hb5.cell (p := ⟨bp, off + p * 2 + 1, none⟩) G4.out.1).trans G4.out.2.2⟩); dsimp only at q0; clear hb5))
    | ((go_at_call 60; refine (HZR.out w5 _ _ F6.out).mono ?_; rintro e2 w6 ⟨g, cz, rfl, hm6, hb6⟩; have F7 := Lib.hid (F6.out.next hb6); have M7 := Lib.hid hm6; have r0 := F7.out.ro.rm.box.box.c0; have rl := F7.out.ro.rm.box.box.lt; have f0 := F7.out.ro.rm.box.free 0; have G7 := Lib.hid (show bp < w6.heap.size ∧ w6.cell? ⟨bp, off + p * 2, none⟩ = some (.int .i64 (d.f p).1) ∧ w6.cell? ⟨bp, off + p * 2 + 1, none⟩ = some (.int .i64 (d.f p).2) from ⟨Nat.lt_of_lt_of_le G6.out.1 hb6.size, (hb6.cell (p := ⟨bp, off + p * 2, none⟩) G6.out.1).trans G6.out.2.1, (hb6.cell (p := ⟨bp, off + p * 2 + 1, none⟩) G6.out.1).trans G6.out.2.2⟩); dsimp only at r0; clear hb6 hm6 q0)))
  all_goals
    have F8 := Lib.hid (F7.out.words M7.out)
    have hsl := F7.out.ro.rm.sl
    have hnb : ¬ bp = w3.heap.size := fun e0 => by
      subst e0
      obtain ⟨_, _, _, hv⟩ := hsl _ _ G7.out.2.1
      cases hv
    have G8 := Lib.hid (show bp < (w6.setCell ⟨w3.heap.size, 0, none⟩ (.slice (some ⟨g, 0, none⟩) s.w.n cz)).heap.size ∧ (w6.setCell ⟨w3.heap.size, 0, none⟩ (.slice (some ⟨g, 0, none⟩) s.w.n cz)).cell? ⟨bp, off + p * 2, none⟩ = some (.int .i64 (d.f p).1) ∧ (w6.setCell ⟨w3.heap.size, 0, none⟩ (.slice (some ⟨g, 0, none⟩) s.w.n cz)).cell? ⟨bp, off + p * 2 + 1, none⟩ = some (.int .i64 (d.f p).2) from ⟨by rw [set_size]; exact G7.out.1, (World.cell?_of_block (a := ⟨bp, off + p * 2, none⟩) (set_others bp hnb)).trans G7.out.2.1, (World.cell?_of_block (a := ⟨bp, off + p * 2 + 1, none⟩) (set_others bp hnb)).trans G7.out.2.2⟩)
    dsimp only at F8
    clear hsl hnb r0 rl f0 F7 M7 G7 q1 q2 q3 q4 q5
    obtain ⟨W8, hW8⟩ : ∃ W8, W8 = w6.setCell ⟨w3.heap.size, 0, none⟩ (.slice (some ⟨g, 0, none⟩) s.w.n cz) := ⟨_, rfl⟩
    rw [← hW8] at F8 G8 ⊢
    clear hW8
    have q0 := (F8.out.ro.rm.box.box).c0
    have q1 := (F8.out.ro.rm.box.box).c1
    have q2 := (F8.out.ro.rm.box.box).c2
    have q3 := (F8.out.ro.rm.box.box).c3
    have q4 := (F8.out.ro.rm.box.box).c4
    have q5 := (F8.out.ro.rm.box.box).c5
    have ql := (F8.out.ro.rm.box.box).lt
    dsimp only at q0 q1 q2 q3 q4 q5
    go_wp2_with fail
    refine (HPG.out W8 (some ⟨g, 0, none⟩) cz).mono ?_
    rintro e9 w9 ⟨rfl, rfl⟩
    have i0 : (0 : Int) ≤ (p : Int) := by omega
    have i1 : (p : Int) < s.p.n := by have := HPN.out; omega
    have c0 := G8.out.2.1
    have c1 := G8.out.2.2
    have cl := G8.out.1
    rw [hk] at c0 c1
    dsimp only at c0 c1
    go_upto_region 9 with fail
    obtain ⟨W9, hW9⟩ : ∃ W9, W9 = W8.alloc (.cells #[.int .i64 1, .int .i64 (k : Int)] 76) := ⟨_, rfl⟩
    have b9 : Below W8.heap.size W8 W9 := by rw [hW9]; exact (Below.refl _ _).alloc (Nat.le_refl _) _
    have p0 : W9.cell? ⟨W8.heap.size, 0, none⟩ = some (.int .i64 1) := by rw [hW9]; simp [go_sem]
    have p1 : W9.cell? ⟨W8.heap.size, 1, none⟩ = some (.int .i64 (k : Int)) := by rw [hW9]; simp [go_sem]
    have pl : W8.heap.size < W9.heap.size := by rw [hW9]; simp
    rw [← hW9]
    have F9 := Lib.hid (F8.out.next b9)
    clear hW9 b9 c0 c1 cl F8 G8 i0 i1
    clear q0 q1 q2 q3 q4 q5 ql
    have q0 := (F9.out.ro.rm.box.box).c0
    have q1 := (F9.out.ro.rm.box.box).c1
    have q2 := (F9.out.ro.rm.box.box).c2
    have q3 := (F9.out.ro.rm.box.box).c3
    have q4 := (F9.out.ro.rm.box.box).c4
    have q5 := (F9.out.ro.rm.box.box).c5
    have ql := (F9.out.ro.rm.box.box).lt
    dsimp only at q0 q1 q2 q3 q4 q5
    go_wp2_with fail
    refine (HPU.out W9 _ _ F9.out).mono ?_
    rintro e9 w10 ⟨v, rfl, hv10, hb10⟩
    have F10 := Lib.hid ((F9.out.next ((Below.refl W9.heap.size W9).alloc (Nat.le_refl _) (.cells #[.int .i64 a] 3))).next hb10)
    have FX := Lib.hid (F10.out.free3 v _ hv10)
    clear hv10 hb10 F9 p0 p1 pl
    clear q0 q1 q2 q3 q4 q5 ql
    dsimp only at FX
    have q0 := (F10.out.ro.rm.box.box).c0
    have q1 := (F10.out.ro.rm.box.box).c1
    have q2 := (F10.out.ro.rm.box.box).c2
    have q3 := (F10.out.ro.rm.box.box).c3
    have q4 := (F10.out.ro.rm.box.box).c4
    have q5 := (F10.out.ro.rm.box.box).c5
    have ql := (F10.out.ro.rm.box.box).lt
    have y0 := (F10.out.ro.rm.box).free 0
    have y1 := (F10.out.ro.rm.box).free 1
    have y2 := (F10.out.ro.rm.box).free 2
    have y3 := (F10.out.ro.rm.box).free 3
    have y4 := (F10.out.ro.rm.box).free 4
    have y5 := (F10.out.ro.rm.box).free 5
    dsimp only at q0 q1 q2 q3 q4 q5
    go_wp2_with fail
    refine (HGB.out _ _ _ FX.out).mono ?_
    rintro e9 w12 ⟨t2, rfl, hp2, hl2, hb2⟩
    have FY := Lib.hid (FX.out.next hb2)
    have PY := Lib.hid (And.intro hp2 (show t2.w.n = s.w.n ∧ t2.p.n = s.p.n ∧ t2.c.n = s.c.n from ⟨hl2.1.trans FX.out.ln.1, hl2.2.1.trans FX.out.ln.2.1, hl2.2.2.trans FX.out.ln.2.2⟩))
    clear hp2 hl2 hb2 FX F10 y0 y1 y2 y3 y4 y5
    clear q0 q1 q2 q3 q4 q5 ql
    have x0 := (FY.out.rm.box.box).c0
    have x1 := (FY.out.rm.box.box).c1
    have x2 := (FY.out.rm.box.box).c2
    have x3 := (FY.out.rm.box.box).c3
    have x4 := (FY.out.rm.box.box).c4
    have x5 := (FY.out.rm.box.box).c5
    have xl := (FY.out.rm.box.box).lt
    have z0 := (FY.out.rm.box).free 0
    have z1 := (FY.out.rm.box).free 1
    have z2 := (FY.out.rm.box).free 2
    have z3 := (FY.out.rm.box).free 3
    have z4 := (FY.out.rm.box).free 4
    have z5 := (FY.out.rm.box).free 5
    dsimp only [noHs, Ls.noSl] at x0 x1 x2 x3 x4 x5
    go_wp2
    refine bodyPost_ret (v := .tuple #[(.agg #[.slice t2.w.a t2.w.n t2.w.c, .slice t2.p.a t2.p.n t2.p.c, .slice (t2.u 0).a (t2.u 0).n (t2.u 0).c, .slice (t2.u 1).a (t2.u 1).n (t2.u 1).c, .slice (t2.u 2).a (t2.u 2).n (t2.u 2).c, .slice t2.c.a t2.c.n t2.c.c]), .int .i64 0]) ?_ rfl ((congrArg (fun D => RkOut w 0 s.w.n s.p.n s.c.n D _ _) HD.out).mpr (rk_end (t := t2) 0 FY.out.ro.bel PY.out.1 FY.out.rm (by omega) PY.out.2))
    obtain ⟨k0, k1, k2, k3, k4, k5⟩ := put6_at FY.out.rm.box (.slice t2.w.a t2.w.n t2.w.c) (.slice t2.p.a t2.p.n t2.p.c) (.slice (t2.u 0).a (t2.u 0).n (t2.u 0).c) (.slice (t2.u 1).a (t2.u 1).n (t2.u 1).c) (.slice (t2.u 2).a (t2.u 2).n (t2.u 2).c) (.slice t2.c.a t2.c.n t2.c.c)
    exact res_free rfl rfl k0 k1 k2 k3 k4 k5
end
/-- What Free tells. -/
def rkFree (s : Hs) (d : Hd_) (a : Int) : Rk := if headE s d a = 0 then ⟨0, s.w.n, s.p.n, s.c.n, freedD d s.p.n a⟩ else rkNo (headE s d a)
section
variable (s : Hs) (d : Hd_) (a : Int) (w : World)
theorem free_any (hp : Hp w w.heap.size s d) (hz : Cl.Sz w) (hf : Fine s d) (hu : ∀ j, j < 3 → (s.u j).n ≤ 1000000) : Calls Tryz.prog 16 #[(.agg #[.slice s.w.a s.w.n s.w.c, .slice s.p.a s.p.n s.p.c, .slice (s.u 0).a (s.u 0).n (s.u 0).c, .slice (s.u 1).a (s.u 1).n (s.u 1).c, .slice (s.u 2).a (s.u 2).n (s.u 2).c, .slice s.c.a s.c.n s.c.c]), .int .i64 a] w (RkO w (rkFree s d a)) := by
  unfold rkFree
  by_cases hE : headE s d a = 0
  · rw [if_pos hE]
    obtain ⟨h0, hb, hw⟩ := head_is hE
    have hpg := bg_page hb
    have hpn : (a / 16 - 1).toNat < s.p.n := by have := hpg.2.1; have := hpg.2.2.1; omega
    rcases kind_of (d := d) hb with h1 | h2
    · obtain ⟨hk3, e⟩ := small_kind hpg.1 hpn h1
      exact free_small s d a w _ rfl _ hk3 e hE hp hz hf hu
    · exact free_large s d a w _ rfl (d.f (a / 16 - 1).toNat).2 (Prod.ext h2 rfl) hE hp hz hf
  · rw [if_neg hE]
    exact free_no s d a w _ hE rfl hp hz hf
end
end Go.Proofs.YtmalopciboikhaaGreatDoor
