/-
  Package reap's Flush and Tidy: a cache's cells are told of by Free, and pages are given back.
-/
import Derived.Test.YtmalopciboikhaaGreatDoorHpRI
import Derived.Test.YtmalopciboikhaaGreatDoorHpRG
import Derived.Test.YtmalopciboikhaaGreatDoorHpRE
namespace Go.Proofs.YtmalopciboikhaaGreatDoor
open Go.RowKit
set_option maxRecDepth 100000

/-- A heap was returned, or an error. -/
def RkOut (w : World) (er : Int) (wn pn cn : Nat) (d' : Hd_) (e : Ending) (w' : World) : Prop :=
  ∃ t : Hs, e = .returned (.tuple #[(.agg #[.slice t.w.a t.w.n t.w.c, .slice t.p.a t.p.n t.p.c, .slice (t.u 0).a (t.u 0).n (t.u 0).c, .slice (t.u 1).a (t.u 1).n (t.u 1).c, .slice (t.u 2).a (t.u 2).n (t.u 2).c, .slice t.c.a t.c.n t.c.c]), .int .i64 er]) ∧ Hp w' w'.heap.size t d' ∧ (t.w.n = wn ∧ t.p.n = pn ∧ t.c.n = cn) ∧ Below w.heap.size w w'
theorem hp_none (W : World) : Hp W W.heap.size noHs dNone := ⟨Row.none_ _ _, fun h => absurd h (Nat.lt_irrefl 0), Ls.L3.none_ _ _, fun h => absurd h (Nat.lt_irrefl 0)⟩
theorem rk_end {w W : World} {rb : Nat} {t t0 : Hs} {d : Hd_} (er : Int) (hb : Below w.heap.size w W) (hp : Hp W W.heap.size t d) (hr : Rm W rb t0) (hi : w.heap.size ≤ rb) {wn pn cn : Nat} (hl : t.w.n = wn ∧ t.p.n = pn ∧ t.c.n = cn) : RkOut w er wn pn cn d (.returned (.tuple #[(.agg #[.slice t.w.a t.w.n t.w.c, .slice t.p.a t.p.n t.p.c, .slice (t.u 0).a (t.u 0).n (t.u 0).c, .slice (t.u 1).a (t.u 1).n (t.u 1).c, .slice (t.u 2).a (t.u 2).n (t.u 2).c, .slice t.c.a t.c.n t.c.c]), .int .i64 er])) (put6 W rb (.slice t.w.a t.w.n t.w.c) (.slice t.p.a t.p.n t.p.c) (.slice (t.u 0).a (t.u 0).n (t.u 0).c) (.slice (t.u 1).a (t.u 1).n (t.u 1).c) (.slice (t.u 2).a (t.u 2).n (t.u 2).c) (.slice t.c.a t.c.n t.c.c)) :=
  ⟨t, rfl, hp_turn hr.sl hp (fun _ hi => put6_other _ _ _ _ _ _ _ _ hi) (put6_size _ _ _ _ _ _ _ _).symm, hl, below_put6 hb hi _ _ _ _ _ _⟩
theorem res_flush {W : World} {b : Nat} {tm : Array Value} {v0 v1 v2 v3 v4 v5 er : Value} (ht : tm[4]? = some (.pointer (some ⟨b, 0, none⟩))) (h5 : tm[5]? = some er) (k0 : W.cell? ⟨b, 0, none⟩ = some v0) (k1 : W.cell? ⟨b, 1, none⟩ = some v1) (k2 : W.cell? ⟨b, 2, none⟩ = some v2) (k3 : W.cell? ⟨b, 3, none⟩ = some v3) (k4 : W.cell? ⟨b, 4, none⟩ = some v4) (k5 : W.cell? ⟨b, 5, none⟩ = some v5) :
    (results Tryz.f18 tm).run Tryz.prog W = .ok (.tuple #[.agg #[v0, v1, v2, v3, v4, v5], er]) W := by
  simp [results, Tryz.results18, go_sem, ht, h5, k0, k1, k2, k3, k4, k5]
theorem res_tidy {W : World} {b : Nat} {tm : Array Value} {v0 v1 v2 v3 v4 v5 er : Value} (ht : tm[2]? = some (.pointer (some ⟨b, 0, none⟩))) (h5 : tm[3]? = some er) (k0 : W.cell? ⟨b, 0, none⟩ = some v0) (k1 : W.cell? ⟨b, 1, none⟩ = some v1) (k2 : W.cell? ⟨b, 2, none⟩ = some v2) (k3 : W.cell? ⟨b, 3, none⟩ = some v3) (k4 : W.cell? ⟨b, 4, none⟩ = some v4) (k5 : W.cell? ⟨b, 5, none⟩ = some v5) :
    (results Tryz.f20 tm).run Tryz.prog W = .ok (.tuple #[.agg #[v0, v1, v2, v3, v4, v5], er]) W := by
  simp [results, Tryz.results20, go_sem, ht, h5, k0, k1, k2, k3, k4, k5]
/-- What a walk through Flush has in memory. -/
structure Fl (w W : World) (s : Hs) (d : Hd_) (u : Nat → Ls.Sl) (G : Nat → List Int) : Prop where
  bel : Below w.heap.size w W
  hb : HBox W w.heap.size s
  cb : Ls.Box3 W (w.heap.size + 1) u
  rm : Rm W (w.heap.size + 2) noHs
  hp : Hp W W.heap.size s d
  l3 : Ls.L3 W W.heap.size u G
section
variable {w W W' : World} {s t : Hs} {d : Hd_} {u : Nat → Ls.Sl} {G : Nat → List Int} {k bb : Nat}
theorem Fl.next (h : Fl w W s d u G) (hb : Below W.heap.size W W') : Fl w W' s d u G := ⟨h.bel.trans (hb.mono h.bel.size), h.hb.next hb, h.cb.next hb, h.rm.next hb, h.hp.next hb, h.l3.next hb⟩
theorem fl_start (hp : Hp w w.heap.size s d) (l3 : Ls.L3 w w.heap.size u G) (h : W = ((w.alloc (.cells #[.slice s.w.a s.w.n s.w.c, .slice s.p.a s.p.n s.p.c, .slice (s.u 0).a (s.u 0).n (s.u 0).c, .slice (s.u 1).a (s.u 1).n (s.u 1).c, .slice (s.u 2).a (s.u 2).n (s.u 2).c, .slice s.c.a s.c.n s.c.c] 28)).alloc (.cells #[.slice (u 0).a (u 0).n (u 0).c, .slice (u 1).a (u 1).n (u 1).c, .slice (u 2).a (u 2).n (u 2).c] 25)).alloc (.cells #[.slice none 0 0, .slice none 0 0, .slice none 0 0, .slice none 0 0, .slice none 0 0, .slice none 0 0] 28)) : Fl w W s d u G := by
  obtain ⟨W1, h1⟩ : ∃ W1, W1 = w.alloc (.cells #[.slice s.w.a s.w.n s.w.c, .slice s.p.a s.p.n s.p.c, .slice (s.u 0).a (s.u 0).n (s.u 0).c, .slice (s.u 1).a (s.u 1).n (s.u 1).c, .slice (s.u 2).a (s.u 2).n (s.u 2).c, .slice s.c.a s.c.n s.c.c] 28) := ⟨_, rfl⟩
  obtain ⟨W2, h2⟩ : ∃ W2, W2 = W1.alloc (.cells #[.slice (u 0).a (u 0).n (u 0).c, .slice (u 1).a (u 1).n (u 1).c, .slice (u 2).a (u 2).n (u 2).c] 25) := ⟨_, rfl⟩
  rw [← h1, ← h2] at h
  have z1 : W1.heap.size = w.heap.size + 1 := by rw [h1]; simp
  have z2 : W2.heap.size = w.heap.size + 2 := by rw [h2]; simp [z1]
  have b1 : Below w.heap.size w W1 := by rw [h1]; exact (Below.refl _ _).alloc (Nat.le_refl _) _
  have b2 : Below W1.heap.size W1 W2 := by rw [h2]; exact (Below.refl _ _).alloc (Nat.le_refl _) _
  have b3 : Below W2.heap.size W2 W := by rw [h]; exact (Below.refl _ _).alloc (Nat.le_refl _) _
  have x1 : HBox W1 w.heap.size s := by rw [h1]; exact HBox.new w s _
  have x2 : Ls.Box3 W2 (w.heap.size + 1) u := by rw [h2, ← z1]; exact Ls.Box3.new W1 u _
  have x3 : Rm W (w.heap.size + 2) noHs := by rw [h, ← z2]; exact Rm.new W2 noHs _
  exact ⟨b1.trans ((b2.mono (by omega)).trans (b3.mono (by omega))), (x1.next b2).next b3, x2.next b3, x3, ((hp.next b1).next b2).next b3, ((l3.next b1).next b2).next b3⟩
/-- What stands at the head of Flush's loop. -/
structure FlAt (w wr : World) (s : Hs) (d : Hd_) (u : Nat → Ls.Sl) (G : Nat → List Int) (bb k : Nat) (t : Hs) : Prop where
  ro : Ro w wr bb t (joinTo d G k)
  rm : Rm wr (w.heap.size + 2) noHs
  l3 : Ls.L3 wr wr.heap.size u G
  ln : t.w.n = s.w.n ∧ t.p.n = s.p.n ∧ t.c.n = s.c.n
  lo : w.heap.size + 3 ≤ bb
theorem FlAt.next {wr w1 : World} (h : FlAt w wr s d u G bb k t) (hb : Below wr.heap.size wr w1) : FlAt w w1 s d u G bb k t := ⟨h.ro.next hb, h.rm.next hb, h.l3.next hb, h.ln, h.lo⟩
theorem join_succ (d : Hd_) (G : Nat → List Int) (k : Nat) : Ls.upd (joinTo d G k).F k ((joinTo d G k).F k ++ G k) = (joinTo d G (k + 1)).F := by
  funext j
  unfold joinTo
  simp only
  by_cases e : j = k
  · subst e
    rw [Ls.upd_same, if_neg (Nat.lt_irrefl _), if_pos (by omega)]
  · rw [Ls.upd_other _ _ e]
    by_cases h : j < k
    · rw [if_pos h, if_pos (by omega)]
    · rw [if_neg h, if_neg (by omega)]
theorem join_zero (d : Hd_) (G : Nat → List Int) : joinTo d G 0 = d := by
  unfold joinTo
  rw [show (fun j => if j < 0 then d.F j ++ G j else d.F j) = d.F from funext fun j => if_neg (by omega)]
theorem FlAt.step {wr : World} (h : FlAt w wr s d u G bb k t) (v : Nat → Ls.Sl) (hv : Ls.L3 wr wr.heap.size v (joinTo d G (k + 1)).F) : FlAt w (((wr.setCell ⟨bb, 2, none⟩ (.slice (v 0).a (v 0).n (v 0).c)).setCell ⟨bb, 3, none⟩ (.slice (v 1).a (v 1).n (v 1).c)).setCell ⟨bb, 4, none⟩ (.slice (v 2).a (v 2).n (v 2).c)) s d u G bb (k + 1) ⟨t.w, t.p, v, t.c⟩ :=
  ⟨h.ro.free3 v _ hv, h.rm.same (set3_others _ (by have := h.lo; omega)) (by simp), l3_turn h.ro.rm.sl h.l3 set3_others (by simp), h.ln, h.lo⟩
theorem join_len (d : Hd_) (G : Nat → List Int) (k j : Nat) : ((joinTo d G k).F j).length ≤ (d.F j).length + (G j).length := by
  unfold joinTo
  simp only
  split
  · rw [List.length_append]; exact Nat.le_refl _
  · omega
end
section
variable (s : Hs) (u : Nat → Ls.Sl) (d : Hd_) (G : Nat → List Int) (w : World)
theorem flush_mayC (hz : Cl.Sz w) (hf : FineT s d u G) : ∀ W, Fl w W s d u G → Calls Tryz.prog 40 #[(.agg #[.slice s.w.a s.w.n s.w.c, .slice s.p.a s.p.n s.p.c, .slice (s.u 0).a (s.u 0).n (s.u 0).c, .slice (s.u 1).a (s.u 1).n (s.u 1).c, .slice (s.u 2).a (s.u 2).n (s.u 2).c, .slice s.c.a s.c.n s.c.c]), .slice (some ⟨W.heap.size, 0, none⟩) 1 1] (W.alloc (.cells #[.slice (u 0).a (u 0).n (u 0).c, .slice (u 1).a (u 1).n (u 1).c, .slice (u 2).a (u 2).n (u 2).c] 25)) fun e w' => e = .returned (.bool (mayH s d 1 (fun _ => G))) ∧ Below (W.alloc (.cells #[.slice (u 0).a (u 0).n (u 0).c, .slice (u 1).a (u 1).n (u 1).c, .slice (u 2).a (u 2).n (u 2).c] 25)).heap.size (W.alloc (.cells #[.slice (u 0).a (u 0).n (u 0).c, .slice (u 1).a (u 1).n (u 1).c, .slice (u 2).a (u 2).n (u 2).c] 25)) w' := fun W h => by
  have hb := (Below.refl W.heap.size W).alloc (Nat.le_refl _) (.cells #[.slice (u 0).a (u 0).n (u 0).c, .slice (u 1).a (u 1).n (u 1).c, .slice (u 2).a (u 2).n (u 2).c] 25)
  have h2 := h.next hb
  have hz0 := hz.pos
  refine pmay_any s d (some ⟨W.heap.size, 0, none⟩) 1 1 (fun _ => u) (fun _ => G) (W.alloc (.cells #[.slice (u 0).a (u 0).n (u 0).c, .slice (u 1).a (u 1).n (u 1).c, .slice (u 2).a (u 2).n (u 2).c] 25)) h2.hp (lrow_of (own_one W u) (by simp) (fun _ _ => h2.l3)) (by decide) (hz.over h2.bel hz0) hf.fine.wn ?_ hf.fine.cn hf.all
  have := hf.fine.pn
  omega
set_option maxHeartbeats 1000000 in
theorem flush_no (hp : Hp w w.heap.size s d) (l3 : Ls.L3 w w.heap.size u G) (hz : Cl.Sz w) (hf : FineT s d u G) (hm : mayH s d 1 (fun _ => G) = false) : Calls Tryz.prog 18 #[(.agg #[.slice s.w.a s.w.n s.w.c, .slice s.p.a s.p.n s.p.c, .slice (s.u 0).a (s.u 0).n (s.u 0).c, .slice (s.u 1).a (s.u 1).n (s.u 1).c, .slice (s.u 2).a (s.u 2).n (s.u 2).c, .slice s.c.a s.c.n s.c.c]), (.agg #[.slice (u 0).a (u 0).n (u 0).c, .slice (u 1).a (u 1).n (u 1).c, .slice (u 2).a (u 2).n (u 2).c])] w (RkOut w 1 0 0 0 dNone) := by
  have HP := Lib.hid hp
  have HL := Lib.hid l3
  have HM := Lib.hid (flush_mayC s u d G w hz hf)
  rw [hm] at HM
  clear hp l3 hz hf hm
  go_enter Tryz.func18, Tryz.ntmps18
  go_wp2_with fail
  obtain ⟨W3, hW3⟩ : ∃ W3, W3 = ((w.alloc (.cells #[.slice s.w.a s.w.n s.w.c, .slice s.p.a s.p.n s.p.c, .slice (s.u 0).a (s.u 0).n (s.u 0).c, .slice (s.u 1).a (s.u 1).n (s.u 1).c, .slice (s.u 2).a (s.u 2).n (s.u 2).c, .slice s.c.a s.c.n s.c.c] 28)).alloc (.cells #[.slice (u 0).a (u 0).n (u 0).c, .slice (u 1).a (u 1).n (u 1).c, .slice (u 2).a (u 2).n (u 2).c] 25)).alloc (.cells #[.slice none 0 0, .slice none 0 0, .slice none 0 0, .slice none 0 0, .slice none 0 0, .slice none 0 0] 28) := ⟨_, rfl⟩
  have T3 := Lib.hid (fl_start HP.out HL.out hW3)
  have hz3 : w.heap.size + 1 + 1 + 1 = W3.heap.size := by rw [hW3]; simp
  rw [← hW3, hz3]
  clear hW3 hz3
  refine (HM.out W3 T3.out).mono ?_
  rintro e9 w6 ⟨rfl, hb6⟩
  have T6 := Lib.hid ((T3.out.next ((Below.refl _ _).alloc (Nat.le_refl _) (.cells #[.slice (u 0).a (u 0).n (u 0).c, .slice (u 1).a (u 1).n (u 1).c, .slice (u 2).a (u 2).n (u 2).c] 25))).next hb6)
  clear hb6 T3
  have x0 := (T6.out.rm.box.box).c0
  have x1 := (T6.out.rm.box.box).c1
  have x2 := (T6.out.rm.box.box).c2
  have x3 := (T6.out.rm.box.box).c3
  have x4 := (T6.out.rm.box.box).c4
  have x5 := (T6.out.rm.box.box).c5
  have xl := (T6.out.rm.box.box).lt
  have z0 := (T6.out.rm.box).free 0
  have z1 := (T6.out.rm.box).free 1
  have z2 := (T6.out.rm.box).free 2
  have z3 := (T6.out.rm.box).free 3
  have z4 := (T6.out.rm.box).free 4
  have z5 := (T6.out.rm.box).free 5
  dsimp only [noHs, Ls.noSl] at x0 x1 x2 x3 x4 x5
  go_wp2
  refine bodyPost_ret (v := .tuple #[(.agg #[.slice noHs.w.a noHs.w.n noHs.w.c, .slice noHs.p.a noHs.p.n noHs.p.c, .slice (noHs.u 0).a (noHs.u 0).n (noHs.u 0).c, .slice (noHs.u 1).a (noHs.u 1).n (noHs.u 1).c, .slice (noHs.u 2).a (noHs.u 2).n (noHs.u 2).c, .slice noHs.c.a noHs.c.n noHs.c.c]), .int .i64 1]) ?_ rfl (rk_end (t := noHs) 1 T6.out.bel (hp_none w6) T6.out.rm (by omega) ⟨rfl, rfl, rfl⟩)
  obtain ⟨k0, k1, k2, k3, k4, k5⟩ := put6_at T6.out.rm.box (.slice noHs.w.a noHs.w.n noHs.w.c) (.slice noHs.p.a noHs.p.n noHs.p.c) (.slice (noHs.u 0).a (noHs.u 0).n (noHs.u 0).c) (.slice (noHs.u 1).a (noHs.u 1).n (noHs.u 1).c) (.slice (noHs.u 2).a (noHs.u 2).n (noHs.u 2).c) (.slice noHs.c.a noHs.c.n noHs.c.c)
  exact res_flush rfl rfl k0 k1 k2 k3 k4 k5
set_option maxHeartbeats 4000000 in
theorem flush_ok (hp : Hp w w.heap.size s d) (l3 : Ls.L3 w w.heap.size u G) (hz : Cl.Sz w) (hf : FineT s d u G) (hm : mayH s d 1 (fun _ => G) = true) : Calls Tryz.prog 18 #[(.agg #[.slice s.w.a s.w.n s.w.c, .slice s.p.a s.p.n s.p.c, .slice (s.u 0).a (s.u 0).n (s.u 0).c, .slice (s.u 1).a (s.u 1).n (s.u 1).c, .slice (s.u 2).a (s.u 2).n (s.u 2).c, .slice s.c.a s.c.n s.c.c]), (.agg #[.slice (u 0).a (u 0).n (u 0).c, .slice (u 1).a (u 1).n (u 1).c, .slice (u 2).a (u 2).n (u 2).c])] w (RkOut w 0 s.w.n s.p.n s.c.n (flushD d s.p.n G)) := by
  have hfb := (mayH_all hm).1
  have hmb : Cl.mayB d.f s.p.n = true := by
    unfold firstB at hfb
    simp only [Bool.and_eq_true] at hfb
    exact hfb.2.1
  have hfit := fit_first hfb
  have hz0 := hz.pos
  have HP := Lib.hid hp
  have HL := Lib.hid l3
  have HM := Lib.hid (flush_mayC s u d G w hz hf)
  rw [hm] at HM
  have HC : Hid (∀ W, Fl w W s d u G → Calls Tryz.prog 42 #[(.agg #[.slice s.w.a s.w.n s.w.c, .slice s.p.a s.p.n s.p.c, .slice (s.u 0).a (s.u 0).n (s.u 0).c, .slice (s.u 1).a (s.u 1).n (s.u 1).c, .slice (s.u 2).a (s.u 2).n (s.u 2).c, .slice s.c.a s.c.n s.c.c])] W (RoOut W s d)) := Lib.hid (fun W h => rcopied_any s d W h.hp hf.fine hfb)
  have HU : Hid (∀ j, j < 3 → (s.u j).n ≤ 1000000 ∧ (u j).n ≤ 1000000) := Lib.hid (fun j hj => ⟨hf.lu j hj, hf.lg j hj⟩)
  have HLen : Hid (∀ j, j < 3 → (d.F j).length ≤ 1000000 ∧ (G j).length ≤ 1000000) := Lib.hid (fun j hj => ⟨by have := hp.free.len j hj; have := hf.lu j hj; omega, by have := l3.len j hj; have := hf.lg j hj; omega⟩)
  have HPU : Hid (∀ W bb k t, k < 3 → FlAt w W s d u G bb k t → Calls Tryz.prog 64 #[(.agg #[.slice (t.u 0).a (t.u 0).n (t.u 0).c, .slice (t.u 1).a (t.u 1).n (t.u 1).c, .slice (t.u 2).a (t.u 2).n (t.u 2).c]), .int .i64 (k : Int), .slice (u k).a (u k).n (u k).c] W (Ls.POut W (joinTo d G (k + 1)).F 0)) := Lib.hid (fun W bb k t hk h => by
    have := Ls.push_ok W.heap.size t.u (joinTo d G k).F k hk (u k).a (u k).n (u k).c (G k) W h.ro.hp.free (Nat.le_refl _) (fun j hj => by
      have h1 := h.ro.hp.free.len j hj
      have h2 := join_len d G k j
      have h3 := HLen.out j hj
      omega) (h.l3 k hk).1 (by have := (HU.out k hk).2; omega)
    rwa [join_succ] at this)
  have HE : Hid (∀ W bb t, FlAt w W s d u G bb 3 t → Calls Tryz.prog 69 #[(.agg #[.slice t.w.a t.w.n t.w.c, .slice t.p.a t.p.n t.p.c, .slice (t.u 0).a (t.u 0).n (t.u 0).c, .slice (t.u 1).a (t.u 1).n (t.u 1).c, .slice (t.u 2).a (t.u 2).n (t.u 2).c, .slice t.c.a t.c.n t.c.c]), .func (.func 65) #[] #[]] W (RoOut W t (flushD d s.p.n G))) := Lib.hid (fun W bb t h => by
    have := each_any t (joinD d G) W h.ro.hp ⟨by rw [h.ln.1]; exact hfit.w, by rw [h.ln.1, h.ln.2.1]; exact hfit.wp, by rw [h.ln.2.1]; exact hfit.p⟩ (by rw [h.ln.2.1]; exact hmb) (hz.over h.ro.bel hz0) (fun j hj => by
      have h1 := h.ro.hp.free.len j hj
      have h2 := join_len d G 3 j
      have h3 := HLen.out j hj
      omega)
    exact this.mono fun _ _ hh => by rw [h.ln.2.1] at hh; exact hh)
  clear hp l3 hz hf hm hfb hmb hfit
  go_enter Tryz.func18, Tryz.ntmps18
  go_wp2_with fail
  obtain ⟨W3, hW3⟩ : ∃ W3, W3 = ((w.alloc (.cells #[.slice s.w.a s.w.n s.w.c, .slice s.p.a s.p.n s.p.c, .slice (s.u 0).a (s.u 0).n (s.u 0).c, .slice (s.u 1).a (s.u 1).n (s.u 1).c, .slice (s.u 2).a (s.u 2).n (s.u 2).c, .slice s.c.a s.c.n s.c.c] 28)).alloc (.cells #[.slice (u 0).a (u 0).n (u 0).c, .slice (u 1).a (u 1).n (u 1).c, .slice (u 2).a (u 2).n (u 2).c] 25)).alloc (.cells #[.slice none 0 0, .slice none 0 0, .slice none 0 0, .slice none 0 0, .slice none 0 0, .slice none 0 0] 28) := ⟨_, rfl⟩
  have T3 := Lib.hid (fl_start HP.out HL.out hW3)
  have hz3 : w.heap.size + 1 + 1 + 1 = W3.heap.size := by rw [hW3]; simp
  rw [← hW3, hz3]
  clear hW3 hz3
  refine (HM.out W3 T3.out).mono ?_
  rintro e9 w6 ⟨rfl, hb6⟩
  have T6 := Lib.hid ((T3.out.next ((Below.refl _ _).alloc (Nat.le_refl _) (.cells #[.slice (u 0).a (u 0).n (u 0).c, .slice (u 1).a (u 1).n (u 1).c, .slice (u 2).a (u 2).n (u 2).c] 25))).next hb6)
  clear hb6 T3
  have q0 := (T6.out.hb).c0
  have q1 := (T6.out.hb).c1
  have q2 := (T6.out.hb).c2
  have q3 := (T6.out.hb).c3
  have q4 := (T6.out.hb).c4
  have q5 := (T6.out.hb).c5
  have ql := (T6.out.hb).lt
  go_wp2_with fail
  refine (HC.out w6 T6.out).mono ?_
  rintro e9 w7 ⟨t7, rfl, hp7, hl7, hb7⟩
  have T7 := Lib.hid (T6.out.next hb7)
  have R7 := Lib.hid (And.intro hp7 hl7)
  clear hp7 hl7 hb7 T6
  clear q0 q1 q2 q3 q4 q5 ql
  obtain ⟨W8, hW8⟩ : ∃ W8, W8 = w7.alloc (.cells #[.slice t7.w.a t7.w.n t7.w.c, .slice t7.p.a t7.p.n t7.p.c, .slice (t7.u 0).a (t7.u 0).n (t7.u 0).c, .slice (t7.u 1).a (t7.u 1).n (t7.u 1).c, .slice (t7.u 2).a (t7.u 2).n (t7.u 2).c, .slice t7.c.a t7.c.n t7.c.c] 79) := ⟨_, rfl⟩
  have b8 : Below w7.heap.size w7 W8 := by rw [hW8]; exact (Below.refl _ _).alloc (Nat.le_refl _) _
  have T8 := Lib.hid (T7.out.next b8)
  have A8 := Lib.hid (show FlAt w W8 s d u G w7.heap.size 0 t7 from ⟨by
    rw [join_zero]
    have h1 : Ro w7 W8 w7.heap.size t7 d := by rw [hW8]; exact ro_start R7.out.1
    exact ⟨T8.out.bel, T7.out.bel.size, h1.rm, h1.hp⟩, T8.out.rm, T8.out.l3, R7.out.2, by have := T7.out.rm.box.box.lt; omega⟩)
  have c0 := T7.out.cb.cell 0 (by decide)
  have c1 := T7.out.cb.cell 1 (by decide)
  have c2 := T7.out.cb.cell 2 (by decide)
  have cl := T7.out.cb.lt
  go_upto_region 4 with fail
  rw [← hW8]
  clear hW8 b8 c0 c1 c2 cl T7 R7
  have c0 := T8.out.cb.cell 0 (by decide)
  have c1 := T8.out.cb.cell 1 (by decide)
  have c2 := T8.out.cb.cell 2 (by decide)
  have cl := T8.out.cb.lt
  go_wp2
  clear c0 c1 c2 cl T8
  go_loopw [18] (fun i wr => ∃ (k : Nat) (t : Hs), k ≤ 3 ∧ i = .int .i64 k ∧ Hid (FlAt w wr s d u G w7.heap.size k t)) (fun i _ => 3 - (intOf i).toNat)
  case atStart => exact ⟨0, t7, by omega, rfl, A8⟩
  case round =>
    obtain ⟨k, t, hk, rfl, HA⟩ := hrel
    have q0 := (HA.out.ro.rm.box.box).c0
    have q1 := (HA.out.ro.rm.box.box).c1
    have q2 := (HA.out.ro.rm.box.box).c2
    have q3 := (HA.out.ro.rm.box.box).c3
    have q4 := (HA.out.ro.rm.box.box).c4
    have q5 := (HA.out.ro.rm.box.box).c5
    have ql := (HA.out.ro.rm.box.box).lt
    have y0 := (HA.out.ro.rm.box).free 0
    have y1 := (HA.out.ro.rm.box).free 1
    have y2 := (HA.out.ro.rm.box).free 2
    have y3 := (HA.out.ro.rm.box).free 3
    have y4 := (HA.out.ro.rm.box).free 4
    have y5 := (HA.out.ro.rm.box).free 5
    by_cases hlt : k < 3
    · have hix := Ls.index_of u k hlt
      go_wp2_with fail
      refine (HPU.out wr _ k t hlt HA.out).mono ?_
      rintro e9 w9 ⟨v, rfl, hv9, hb9⟩
      have A9 := Lib.hid (HA.out.next hb9)
      have HX := Lib.hid (A9.out.step v hv9)
      clear q0 q1 q2 q3 q4 q5 ql
      clear y0 y1 y2 y3 y4 y5
      clear hv9 hb9 HA A8
      have q0 := (A9.out.ro.rm.box.box).c0
      have q1 := (A9.out.ro.rm.box.box).c1
      have q2 := (A9.out.ro.rm.box.box).c2
      have q3 := (A9.out.ro.rm.box.box).c3
      have q4 := (A9.out.ro.rm.box.box).c4
      have q5 := (A9.out.ro.rm.box.box).c5
      have ql := (A9.out.ro.rm.box.box).lt
      have y0 := (A9.out.ro.rm.box).free 0
      have y1 := (A9.out.ro.rm.box).free 1
      have y2 := (A9.out.ro.rm.box).free 2
      have y3 := (A9.out.ro.rm.box).free 3
      have y4 := (A9.out.ro.rm.box).free 4
      have y5 := (A9.out.ro.rm.box).free 5
      go_wp2
      go_roundw
      case rel => exact ⟨k + 1, _, by omega, by go_num, HX⟩
      case measure => simp [intOf]; omega
    · obtain rfl : k = 3 := by omega
      clear y0 y1 y2 y3 y4 y5
      go_wp2_with fail
      refine (HE.out wr _ t HA.out).mono ?_
      rintro e9 w9 ⟨t9, rfl, hp9, hl9, hb9⟩
      have A9 := Lib.hid (HA.out.next hb9)
      have R9 := Lib.hid (And.intro hp9 (show t9.w.n = s.w.n ∧ t9.p.n = s.p.n ∧ t9.c.n = s.c.n from ⟨hl9.1.trans HA.out.ln.1, hl9.2.1.trans HA.out.ln.2.1, hl9.2.2.trans HA.out.ln.2.2⟩))
      clear q0 q1 q2 q3 q4 q5 ql
      clear hp9 hl9 hb9 HA A8
      have x0 := (A9.out.rm.box.box).c0
      have x1 := (A9.out.rm.box.box).c1
      have x2 := (A9.out.rm.box.box).c2
      have x3 := (A9.out.rm.box.box).c3
      have x4 := (A9.out.rm.box.box).c4
      have x5 := (A9.out.rm.box.box).c5
      have xl := (A9.out.rm.box.box).lt
      have z0 := (A9.out.rm.box).free 0
      have z1 := (A9.out.rm.box).free 1
      have z2 := (A9.out.rm.box).free 2
      have z3 := (A9.out.rm.box).free 3
      have z4 := (A9.out.rm.box).free 4
      have z5 := (A9.out.rm.box).free 5
      dsimp only [noHs, Ls.noSl] at x0 x1 x2 x3 x4 x5
      go_wp2
      refine bodyPost_ret (v := .tuple #[(.agg #[.slice t9.w.a t9.w.n t9.w.c, .slice t9.p.a t9.p.n t9.p.c, .slice (t9.u 0).a (t9.u 0).n (t9.u 0).c, .slice (t9.u 1).a (t9.u 1).n (t9.u 1).c, .slice (t9.u 2).a (t9.u 2).n (t9.u 2).c, .slice t9.c.a t9.c.n t9.c.c]), .int .i64 0]) ?_ rfl (rk_end (t := t9) 0 A9.out.ro.bel R9.out.1 A9.out.rm (by omega) R9.out.2)
      obtain ⟨k0, k1, k2, k3, k4, k5⟩ := put6_at A9.out.rm.box (.slice t9.w.a t9.w.n t9.w.c) (.slice t9.p.a t9.p.n t9.p.c) (.slice (t9.u 0).a (t9.u 0).n (t9.u 0).c) (.slice (t9.u 1).a (t9.u 1).n (t9.u 1).c) (.slice (t9.u 2).a (t9.u 2).n (t9.u 2).c) (.slice t9.c.a t9.c.n t9.c.c)
      exact res_flush rfl rfl k0 k1 k2 k3 k4 k5
end
/-- What Flush tells. -/
structure Rk where
  er : Int
  wn : Nat
  pn : Nat
  cn : Nat
  d : Hd_
def rkNo (er : Int) : Rk := ⟨er, 0, 0, 0, dNone⟩
def rkFlush (s : Hs) (d : Hd_) (G : Nat → List Int) : Rk := if mayH s d 1 (fun _ => G) = true then ⟨0, s.w.n, s.p.n, s.c.n, flushD d s.p.n G⟩ else rkNo 1
def RkO (w : World) (r : Rk) : Ending → World → Prop := RkOut w r.er r.wn r.pn r.cn r.d
theorem flush_any (s : Hs) (u : Nat → Ls.Sl) (d : Hd_) (G : Nat → List Int) (w : World) (hp : Hp w w.heap.size s d) (l3 : Ls.L3 w w.heap.size u G) (hz : Cl.Sz w) (hf : FineT s d u G) : Calls Tryz.prog 18 #[(.agg #[.slice s.w.a s.w.n s.w.c, .slice s.p.a s.p.n s.p.c, .slice (s.u 0).a (s.u 0).n (s.u 0).c, .slice (s.u 1).a (s.u 1).n (s.u 1).c, .slice (s.u 2).a (s.u 2).n (s.u 2).c, .slice s.c.a s.c.n s.c.c]), (.agg #[.slice (u 0).a (u 0).n (u 0).c, .slice (u 1).a (u 1).n (u 1).c, .slice (u 2).a (u 2).n (u 2).c])] w (RkO w (rkFlush s d G)) := by
  unfold rkFlush
  cases hm : mayH s d 1 (fun _ => G)
  · rw [if_neg (by decide)]
    exact flush_no s u d G w hp l3 hz hf hm
  · rw [if_pos rfl]
    exact flush_ok s u d G w hp l3 hz hf hm
theorem tidy_any (s : Hs) (d : Hd_) (w : World) (hp : Hp w w.heap.size s d) (hz : Cl.Sz w) (hf : FineT s d Ls.noSl Ls.noLists) : Calls Tryz.prog 20 #[(.agg #[.slice s.w.a s.w.n s.w.c, .slice s.p.a s.p.n s.p.c, .slice (s.u 0).a (s.u 0).n (s.u 0).c, .slice (s.u 1).a (s.u 1).n (s.u 1).c, .slice (s.u 2).a (s.u 2).n (s.u 2).c, .slice s.c.a s.c.n s.c.c])] w (RkO w (rkFlush s d Ls.noLists)) := by
  have HF : Hid (∀ W, Rr w W s d → Calls Tryz.prog 18 #[(.agg #[.slice s.w.a s.w.n s.w.c, .slice s.p.a s.p.n s.p.c, .slice (s.u 0).a (s.u 0).n (s.u 0).c, .slice (s.u 1).a (s.u 1).n (s.u 1).c, .slice (s.u 2).a (s.u 2).n (s.u 2).c, .slice s.c.a s.c.n s.c.c]), .agg #[.slice none 0 0, .slice none 0 0, .slice none 0 0]] W (RkO W (rkFlush s d Ls.noLists))) := Lib.hid (fun W h => flush_any s Ls.noSl d Ls.noLists W h.ro.hp (Ls.L3.none_ _ _) (hz.over h.ro.bel hz.pos) hf)
  have HP := Lib.hid hp
  generalize rkFlush s d Ls.noLists = r at HF ⊢
  clear hp hz hf
  go_enter Tryz.func20, Tryz.ntmps20
  go_wp2_with fail
  obtain ⟨W0, hW0⟩ : ∃ W0, W0 = (w.alloc (.cells #[.slice s.w.a s.w.n s.w.c, .slice s.p.a s.p.n s.p.c, .slice (s.u 0).a (s.u 0).n (s.u 0).c, .slice (s.u 1).a (s.u 1).n (s.u 1).c, .slice (s.u 2).a (s.u 2).n (s.u 2).c, .slice s.c.a s.c.n s.c.c] 28)).alloc (.cells #[.slice none 0 0, .slice none 0 0, .slice none 0 0, .slice none 0 0, .slice none 0 0, .slice none 0 0] 28) := ⟨_, rfl⟩
  have K0 := Lib.hid (rr_start HP.out hW0)
  rw [← hW0]
  clear hW0
  refine (HF.out W0 K0.out).mono ?_
  rintro e9 w1 ⟨t, rfl, hp1, hl1, hb1⟩
  have K1 := Lib.hid (K0.out.next hb1)
  have R1 := Lib.hid (And.intro hp1 hl1)
  clear hp1 hl1 hb1 K0
  have x0 := (K1.out.rm.box.box).c0
  have x1 := (K1.out.rm.box.box).c1
  have x2 := (K1.out.rm.box.box).c2
  have x3 := (K1.out.rm.box.box).c3
  have x4 := (K1.out.rm.box.box).c4
  have x5 := (K1.out.rm.box.box).c5
  have xl := (K1.out.rm.box.box).lt
  have z0 := (K1.out.rm.box).free 0
  have z1 := (K1.out.rm.box).free 1
  have z2 := (K1.out.rm.box).free 2
  have z3 := (K1.out.rm.box).free 3
  have z4 := (K1.out.rm.box).free 4
  have z5 := (K1.out.rm.box).free 5
  dsimp only [noHs, Ls.noSl] at x0 x1 x2 x3 x4 x5
  go_wp2
  refine bodyPost_ret (v := .tuple #[(.agg #[.slice t.w.a t.w.n t.w.c, .slice t.p.a t.p.n t.p.c, .slice (t.u 0).a (t.u 0).n (t.u 0).c, .slice (t.u 1).a (t.u 1).n (t.u 1).c, .slice (t.u 2).a (t.u 2).n (t.u 2).c, .slice t.c.a t.c.n t.c.c]), .int .i64 r.er]) ?_ rfl (rk_end (t := t) r.er K1.out.ro.bel R1.out.1 K1.out.rm (by omega) R1.out.2)
  obtain ⟨k0, k1, k2, k3, k4, k5⟩ := put6_at K1.out.rm.box (.slice t.w.a t.w.n t.w.c) (.slice t.p.a t.p.n t.p.c) (.slice (t.u 0).a (t.u 0).n (t.u 0).c) (.slice (t.u 1).a (t.u 1).n (t.u 1).c) (.slice (t.u 2).a (t.u 2).n (t.u 2).c) (.slice t.c.a t.c.n t.c.c)
  exact res_tidy rfl rfl k0 k1 k2 k3 k4 k5
end Go.Proofs.YtmalopciboikhaaGreatDoor
