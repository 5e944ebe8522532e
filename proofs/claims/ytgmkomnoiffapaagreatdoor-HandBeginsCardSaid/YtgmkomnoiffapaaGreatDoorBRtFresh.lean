/-
  Package fresh's Thread: a thread with memory of its own.
-/
import Derived.Test.YtgmkomnoiffapaaGreatDoorHpBF
namespace Go.Proofs.YtgmkomnoiffapaaGreatDoor.Rt
open Go.Proofs.YtgmkomnoiffapaaGreatDoor
open Go.RowKit
set_option maxRecDepth 100000

/-- A copy was returned: its lists and operations lie in new memory. -/
def ThOut (w : World) (t : Ts) (F : Nat → List Int) (g : Nat → O4) (e : Ending) (w' : World) : Prop :=
  ∃ (u : Nat → Ls.Sl) (o : Ls.Sl), o.n = t.o.n ∧ e = .returned (.agg #[.bool t.lv, .int .i64 (t.r 0), .int .i64 (t.r 1), .int .i64 (t.r 2), .int .i64 (t.r 3), .slice (u 0).a (u 0).n (u 0).c, .slice (u 1).a (u 1).n (u 1).c, .slice (u 2).a (u 2).n (u 2).c, .int .i64 t.ep, .int .i64 t.sg, .int .i64 t.rt, .slice o.a o.n o.c, .int .i64 t.pc, .int .i64 t.x, .int .i64 t.y]) ∧ Th w' w'.heap.size (tw t u o) F g ∧ (∀ j, j < 3 → ∀ x, (u j).a = some x → w.heap.size ≤ x.block) ∧ (0 < o.n → ∀ x, o.a = some x → w.heap.size ≤ x.block) ∧ Below w.heap.size w w'
/-- The boxes of the argument and of the result. -/
structure Ft (w W : World) (t : Ts) : Prop where
  bel : Below w.heap.size w W
  box : Box W w.heap.size (tv t)
  res : Box W (w.heap.size + 1) (tv noT)
section
variable {w W W' : World} {t : Ts} {F : Nat → List Int} {g : Nat → O4}
theorem Ft.next (h : Ft w W t) (hb : Below W.heap.size W W') : Ft w W' t := ⟨h.bel.trans (hb.mono h.bel.size), h.box.next hb, h.res.next hb⟩
theorem Ft.drew (h : Ft w W t) : Ft w W.drew t := h.next ⟨rfl, rfl, rfl, Nat.le_refl _, fun _ _ => rfl⟩
theorem ft_start {ty ty' : TypeId} (h : W = (w.alloc (.cells #[.bool t.lv, .int .i64 (t.r 0), .int .i64 (t.r 1), .int .i64 (t.r 2), .int .i64 (t.r 3), .slice (t.u 0).a (t.u 0).n (t.u 0).c, .slice (t.u 1).a (t.u 1).n (t.u 1).c, .slice (t.u 2).a (t.u 2).n (t.u 2).c, .int .i64 t.ep, .int .i64 t.sg, .int .i64 t.rt, .slice t.o.a t.o.n t.o.c, .int .i64 t.pc, .int .i64 t.x, .int .i64 t.y] ty)).alloc (.cells (tv noT).toArray ty')) : Ft w W t := by
  have b2 : Below (w.alloc (.cells #[.bool t.lv, .int .i64 (t.r 0), .int .i64 (t.r 1), .int .i64 (t.r 2), .int .i64 (t.r 3), .slice (t.u 0).a (t.u 0).n (t.u 0).c, .slice (t.u 1).a (t.u 1).n (t.u 1).c, .slice (t.u 2).a (t.u 2).n (t.u 2).c, .int .i64 t.ep, .int .i64 t.sg, .int .i64 t.rt, .slice t.o.a t.o.n t.o.c, .int .i64 t.pc, .int .i64 t.x, .int .i64 t.y] ty)).heap.size (w.alloc (.cells #[.bool t.lv, .int .i64 (t.r 0), .int .i64 (t.r 1), .int .i64 (t.r 2), .int .i64 (t.r 3), .slice (t.u 0).a (t.u 0).n (t.u 0).c, .slice (t.u 1).a (t.u 1).n (t.u 1).c, .slice (t.u 2).a (t.u 2).n (t.u 2).c, .int .i64 t.ep, .int .i64 t.sg, .int .i64 t.rt, .slice t.o.a t.o.n t.o.c, .int .i64 t.pc, .int .i64 t.x, .int .i64 t.y] ty)) W := by rw [h]; exact (Below.refl _ _).alloc (Nat.le_refl _) _
  refine ⟨by rw [h]; exact ((Below.refl _ _).alloc (Nat.le_refl _) _).alloc (by simp) _, (Box.new w (tv t) ty).next b2, ?_⟩
  have := Box.new (w.alloc (.cells #[.bool t.lv, .int .i64 (t.r 0), .int .i64 (t.r 1), .int .i64 (t.r 2), .int .i64 (t.r 3), .slice (t.u 0).a (t.u 0).n (t.u 0).c, .slice (t.u 1).a (t.u 1).n (t.u 1).c, .slice (t.u 2).a (t.u 2).n (t.u 2).c, .int .i64 t.ep, .int .i64 t.sg, .int .i64 t.rt, .slice t.o.a t.o.n t.o.c, .int .i64 t.pc, .int .i64 t.x, .int .i64 t.y] ty)) (tv noT) ty'
  rw [World.size_alloc] at this
  rw [h]
  exact this
/-- The copy's lists and operations, once stored into the argument's box, and the whole into the result's. -/
theorem ft_mid {u : Nat → Ls.Sl} {o : Ls.Sl} (h : Ft w W t) (hW : W' = (((W.setCell ⟨w.heap.size, 5, none⟩ (.slice (u 0).a (u 0).n (u 0).c)).setCell ⟨w.heap.size, 6, none⟩ (.slice (u 1).a (u 1).n (u 1).c)).setCell ⟨w.heap.size, 7, none⟩ (.slice (u 2).a (u 2).n (u 2).c)).setCell ⟨w.heap.size, 11, none⟩ (.slice o.a o.n o.c)) :
    Box W' w.heap.size (tv (tw t u o)) ∧ Box W' (w.heap.size + 1) (tv noT) ∧ (∀ k, ¬ k = w.heap.size → W'.heap[k]? = W.heap[k]?) ∧ W'.heap.size = W.heap.size ∧ Below w.heap.size w W' := by
  subst hW
  refine ⟨(((h.box.set 5 (.slice (u 0).a (u 0).n (u 0).c)).set 6 (.slice (u 1).a (u 1).n (u 1).c)).set 7 (.slice (u 2).a (u 2).n (u 2).c)).set 11 (.slice o.a o.n o.c), (((h.res.other (p := ⟨w.heap.size, 5, none⟩) (by simp) _).other (p := ⟨w.heap.size, 6, none⟩) (by simp) _).other (p := ⟨w.heap.size, 7, none⟩) (by simp) _).other (p := ⟨w.heap.size, 11, none⟩) (by simp) _, fun k hk => ?_, by simp [World.setCell], ?_⟩
  · exact (Below.heap_setCell _ _ _ _ hk).trans ((Below.heap_setCell _ _ _ _ hk).trans ((Below.heap_setCell _ _ _ _ hk).trans (Below.heap_setCell _ _ _ _ hk)))
  · exact (((h.bel.setCell (p := ⟨w.heap.size, 5, none⟩) (Nat.le_refl _) _).setCell (p := ⟨w.heap.size, 6, none⟩) (Nat.le_refl _) _).setCell (p := ⟨w.heap.size, 7, none⟩) (Nat.le_refl _) _).setCell (p := ⟨w.heap.size, 11, none⟩) (Nat.le_refl _) _
theorem ft_end {V : World} {B0 B1 : Nat} {u : Nat → Ls.Sl} {o : Ls.Sl} (h0 : Box V (w.heap.size + 1) (tv noT)) (hl : V.heap.size ≤ B0) (he : ∀ k, ¬ k = w.heap.size → W'.heap[k]? = W.heap[k]?) (hs : W'.heap.size = W.heap.size) (hb : Below w.heap.size w W') (ho : Ls.Own3 W B0 u F) (hn : o.n = t.o.n) (hk : o.n ≤ o.c) (hr : ORow W W.heap.size o.a o.n g) (hw : 0 < o.n → ∀ x, o.a = some x → B1 ≤ x.block) (h1 : V.heap.size ≤ B1) :
    ThOut w t F g (.returned (.agg #[.bool t.lv, .int .i64 (t.r 0), .int .i64 (t.r 1), .int .i64 (t.r 2), .int .i64 (t.r 3), .slice (u 0).a (u 0).n (u 0).c, .slice (u 1).a (u 1).n (u 1).c, .slice (u 2).a (u 2).n (u 2).c, .int .i64 t.ep, .int .i64 t.sg, .int .i64 t.rt, .slice o.a o.n o.c, .int .i64 t.pc, .int .i64 t.x, .int .i64 t.y])) (puts (w.heap.size + 1) 0 (tv (tw t u o)) W') := by
  have hv := h0.lt
  have same : ∀ k, w.heap.size + 2 ≤ k → (puts (w.heap.size + 1) 0 (tv (tw t u o)) W').heap[k]? = W.heap[k]? := fun k hk => (puts_other _ _ _ _ (by omega)).trans (he k (by omega))
  have hz : (puts (w.heap.size + 1) 0 (tv (tw t u o)) W').heap.size = W.heap.size := (puts_size _ _ _ _).trans hs
  refine ⟨u, o, hn, rfl, ⟨?_, ?_, hk⟩, fun j hj x hx => by have := (ho.block j hj hx).1; omega, fun h0 x hx => by have := hw h0 x hx; omega, below_puts _ (by omega) _ _ _ hb⟩
  · exact (ho.same fun j x hj hx => same _ (by have := (ho.block j hj hx).1; omega)).l3
  · rw [hz]
    exact hr.same fun h0 x hx => same _ (by have := hw h0 x hx; omega)
theorem res_thread {b : Nat} {tm : Array Value} (ht : tm[2]? = some (.pointer (some ⟨b, 0, none⟩))) (h : Box W b (tv t)) : (results Tryz.f54 tm).run Tryz.prog W = .ok (.agg #[.bool t.lv, .int .i64 (t.r 0), .int .i64 (t.r 1), .int .i64 (t.r 2), .int .i64 (t.r 3), .slice (t.u 0).a (t.u 0).n (t.u 0).c, .slice (t.u 1).a (t.u 1).n (t.u 1).c, .slice (t.u 2).a (t.u 2).n (t.u 2).c, .int .i64 t.ep, .int .i64 t.sg, .int .i64 t.rt, .slice t.o.a t.o.n t.o.c, .int .i64 t.pc, .int .i64 t.x, .int .i64 t.y]) W := by
  have k0 := (h).cel 0 (.bool t.lv) rfl
  have k1 := (h).cel 1 (.int .i64 (t.r 0)) rfl
  have k2 := (h).cel 2 (.int .i64 (t.r 1)) rfl
  have k3 := (h).cel 3 (.int .i64 (t.r 2)) rfl
  have k4 := (h).cel 4 (.int .i64 (t.r 3)) rfl
  have k5 := (h).cel 5 (.slice (t.u 0).a (t.u 0).n (t.u 0).c) rfl
  have k6 := (h).cel 6 (.slice (t.u 1).a (t.u 1).n (t.u 1).c) rfl
  have k7 := (h).cel 7 (.slice (t.u 2).a (t.u 2).n (t.u 2).c) rfl
  have k8 := (h).cel 8 (.int .i64 t.ep) rfl
  have k9 := (h).cel 9 (.int .i64 t.sg) rfl
  have k10 := (h).cel 10 (.int .i64 t.rt) rfl
  have k11 := (h).cel 11 (.slice t.o.a t.o.n t.o.c) rfl
  have k12 := (h).cel 12 (.int .i64 t.pc) rfl
  have k13 := (h).cel 13 (.int .i64 t.x) rfl
  have k14 := (h).cel 14 (.int .i64 t.y) rfl
  have kl := (h).lt
  simp [results, Tryz.results54, go_sem, ht, k0, k1, k2, k3, k4, k5, k6, k7, k8, k9, k10, k11, k12, k13, k14]
end
set_option maxHeartbeats 4000000 in
theorem fthread_any (t : Ts) (F : Nat → List Int) (g : Nat → O4) (w : World) (h : Th w w.heap.size t F g) (hn : ∀ j, j < 3 → (t.u j).n ≤ 2000000) (hm : t.o.n ≤ 100000) : Calls Tryz.prog 54 #[(.agg #[.bool t.lv, .int .i64 (t.r 0), .int .i64 (t.r 1), .int .i64 (t.r 2), .int .i64 (t.r 3), .slice (t.u 0).a (t.u 0).n (t.u 0).c, .slice (t.u 1).a (t.u 1).n (t.u 1).c, .slice (t.u 2).a (t.u 2).n (t.u 2).c, .int .i64 t.ep, .int .i64 t.sg, .int .i64 t.rt, .slice t.o.a t.o.n t.o.c, .int .i64 t.pc, .int .i64 t.x, .int .i64 t.y])] w (ThOut w t F g) := by
  have C1 := Lib.hid (fun W (hb : Below w.heap.size w W) => Ls.aown_any w.heap.size t.u F W (h.c.below hb) hb.size hn)
  have C2 := Lib.hid (fun W (hb : Below w.heap.size w W) => oclone_any w.heap.size t.o.a t.o.n t.o.c g W hm (h.o.below hb))
  clear h hn hm
  go_enter Tryz.func54, Tryz.ntmps54
  go_wp2_with fail
  obtain ⟨W0, hW0⟩ : ∃ W0, W0 = (w.alloc (.cells #[.bool t.lv, .int .i64 (t.r 0), .int .i64 (t.r 1), .int .i64 (t.r 2), .int .i64 (t.r 3), .slice (t.u 0).a (t.u 0).n (t.u 0).c, .slice (t.u 1).a (t.u 1).n (t.u 1).c, .slice (t.u 2).a (t.u 2).n (t.u 2).c, .int .i64 t.ep, .int .i64 t.sg, .int .i64 t.rt, .slice t.o.a t.o.n t.o.c, .int .i64 t.pc, .int .i64 t.x, .int .i64 t.y] 34)).alloc (.cells #[.bool false, .int .i64 0, .int .i64 0, .int .i64 0, .int .i64 0, .slice none 0 0, .slice none 0 0, .slice none 0 0, .int .i64 0, .int .i64 0, .int .i64 0, .slice none 0 0, .int .i64 0, .int .i64 0, .int .i64 0] 34) := ⟨_, rfl⟩
  have K0 := Lib.hid (ft_start hW0)
  rw [← hW0]
  clear hW0
  have p5 := K0.out.box.cel 5 (.slice (t.u 0).a (t.u 0).n (t.u 0).c) rfl
  have p6 := K0.out.box.cel 6 (.slice (t.u 1).a (t.u 1).n (t.u 1).c) rfl
  have p7 := K0.out.box.cel 7 (.slice (t.u 2).a (t.u 2).n (t.u 2).c) rfl
  have p11 := K0.out.box.cel 11 (.slice t.o.a t.o.n t.o.c) rfl
  have pl := K0.out.box.lt
  go_region_with (first
    | ((go_at_call 96); (first | (refine (C1.out _ K0.out.bel).mono ?_) | (refine (C1.out _ K0.out.drew.bel).mono ?_)); (rintro e w5 ⟨v5, rfl, ho5, hb5⟩); (have K5 := Lib.hid ((show Ft w _ t from K0.out.drew).next hb5)); (have T5 := Lib.hid (And.intro ho5 hb5.size)); (have r11 := K5.out.box.cel 11 (.slice t.o.a t.o.n t.o.c) rfl); (have rl := K5.out.box.lt); (clear ho5 hb5))
    | ((go_at_call 98); (refine (C2.out _ K5.out.bel).mono ?_); (rintro e w8 ⟨v8, hn8, rfl, hr8, hw8, hb8⟩); (have K8 := Lib.hid (K5.out.next hb8)); (have T8 := Lib.hid (And.intro hn8 (And.intro hr8 (And.intro hw8 hb8)))); (have s5 := K8.out.box.cel 5 (.slice (t.u 0).a (t.u 0).n (t.u 0).c) rfl); (have s6 := K8.out.box.cel 6 (.slice (t.u 1).a (t.u 1).n (t.u 1).c) rfl); (have s7 := K8.out.box.cel 7 (.slice (t.u 2).a (t.u 2).n (t.u 2).c) rfl); (have s11 := K8.out.box.cel 11 (.slice t.o.a t.o.n t.o.c) rfl); (have f5 := K8.out.box.free 5); (have f6 := K8.out.box.free 6); (have f7 := K8.out.box.free 7); (have f11 := K8.out.box.free 11); (have sl := K8.out.box.lt); (clear hn8 hr8 hw8 hb8)))
  all_goals
    obtain ⟨W9, hW9⟩ : ∃ W9, W9 = (((w8.setCell ⟨w.heap.size, 5, none⟩ (.slice (v5 0).a (v5 0).n (v5 0).c)).setCell ⟨w.heap.size, 6, none⟩ (.slice (v5 1).a (v5 1).n (v5 1).c)).setCell ⟨w.heap.size, 7, none⟩ (.slice (v5 2).a (v5 2).n (v5 2).c)).setCell ⟨w.heap.size, 11, none⟩ (.slice v8.a t.o.n v8.c) := ⟨_, rfl⟩
    obtain ⟨t9, ht9⟩ : ∃ t9, t9 = tw t v5 ⟨v8.a, t.o.n, v8.c⟩ := ⟨_, rfl⟩
    have M9 := ft_mid (u := v5) (o := ⟨v8.a, t.o.n, v8.c⟩) K8.out hW9
    rw [← ht9] at M9
    have M9 := Lib.hid M9
    have E9 := Lib.hid ht9
    rw [← hW9]
    clear hW9 ht9 s5 s6 s7 s11 f5 f6 f7 f11 sl p5 p6 p7 p11 pl r11 rl
    have z0 := (M9.out.1).cel 0 (.bool t9.lv) rfl
    have z1 := (M9.out.1).cel 1 (.int .i64 (t9.r 0)) rfl
    have z2 := (M9.out.1).cel 2 (.int .i64 (t9.r 1)) rfl
    have z3 := (M9.out.1).cel 3 (.int .i64 (t9.r 2)) rfl
    have z4 := (M9.out.1).cel 4 (.int .i64 (t9.r 3)) rfl
    have z5 := (M9.out.1).cel 5 (.slice (t9.u 0).a (t9.u 0).n (t9.u 0).c) rfl
    have z6 := (M9.out.1).cel 6 (.slice (t9.u 1).a (t9.u 1).n (t9.u 1).c) rfl
    have z7 := (M9.out.1).cel 7 (.slice (t9.u 2).a (t9.u 2).n (t9.u 2).c) rfl
    have z8 := (M9.out.1).cel 8 (.int .i64 t9.ep) rfl
    have z9 := (M9.out.1).cel 9 (.int .i64 t9.sg) rfl
    have z10 := (M9.out.1).cel 10 (.int .i64 t9.rt) rfl
    have z11 := (M9.out.1).cel 11 (.slice t9.o.a t9.o.n t9.o.c) rfl
    have z12 := (M9.out.1).cel 12 (.int .i64 t9.pc) rfl
    have z13 := (M9.out.1).cel 13 (.int .i64 t9.x) rfl
    have z14 := (M9.out.1).cel 14 (.int .i64 t9.y) rfl
    have zl := (M9.out.1).lt
    have y0 := (M9.out.2.1).cel 0 (.bool noT.lv) rfl
    have y1 := (M9.out.2.1).cel 1 (.int .i64 (noT.r 0)) rfl
    have y2 := (M9.out.2.1).cel 2 (.int .i64 (noT.r 1)) rfl
    have y3 := (M9.out.2.1).cel 3 (.int .i64 (noT.r 2)) rfl
    have y4 := (M9.out.2.1).cel 4 (.int .i64 (noT.r 3)) rfl
    have y5 := (M9.out.2.1).cel 5 (.slice (noT.u 0).a (noT.u 0).n (noT.u 0).c) rfl
    have y6 := (M9.out.2.1).cel 6 (.slice (noT.u 1).a (noT.u 1).n (noT.u 1).c) rfl
    have y7 := (M9.out.2.1).cel 7 (.slice (noT.u 2).a (noT.u 2).n (noT.u 2).c) rfl
    have y8 := (M9.out.2.1).cel 8 (.int .i64 noT.ep) rfl
    have y9 := (M9.out.2.1).cel 9 (.int .i64 noT.sg) rfl
    have y10 := (M9.out.2.1).cel 10 (.int .i64 noT.rt) rfl
    have y11 := (M9.out.2.1).cel 11 (.slice noT.o.a noT.o.n noT.o.c) rfl
    have y12 := (M9.out.2.1).cel 12 (.int .i64 noT.pc) rfl
    have y13 := (M9.out.2.1).cel 13 (.int .i64 noT.x) rfl
    have y14 := (M9.out.2.1).cel 14 (.int .i64 noT.y) rfl
    have yl := (M9.out.2.1).lt
    have yf := M9.out.2.1.free
    dsimp only [noT, Ls.noSl] at y0 y1 y2 y3 y4 y5 y6 y7 y8 y9 y10 y11 y12 y13 y14
    go_wp2
    have BE := Box.puts (tv t9) 0 M9.out.2.1
    refine bodyPost_ret (v := (.agg #[.bool t9.lv, .int .i64 (t9.r 0), .int .i64 (t9.r 1), .int .i64 (t9.r 2), .int .i64 (t9.r 3), .slice (t9.u 0).a (t9.u 0).n (t9.u 0).c, .slice (t9.u 1).a (t9.u 1).n (t9.u 1).c, .slice (t9.u 2).a (t9.u 2).n (t9.u 2).c, .int .i64 t9.ep, .int .i64 t9.sg, .int .i64 t9.rt, .slice t9.o.a t9.o.n t9.o.c, .int .i64 t9.pc, .int .i64 t9.x, .int .i64 t9.y])) (res_thread rfl BE) rfl ?_
    rw [E9.out]
    exact ft_end (t := t) (u := v5) (o := ⟨v8.a, t.o.n, v8.c⟩) K0.out.res (Nat.le_refl _) M9.out.2.2.1 M9.out.2.2.2.1 M9.out.2.2.2.2 (T5.out.1.next T8.out.2.2.2) rfl T8.out.1.2 T8.out.2.1 T8.out.2.2.1 (Nat.le_trans (show W0.heap.size ≤ W0.drew.heap.size from Nat.le_refl _) T5.out.2)
end Go.Proofs.YtgmkomnoiffapaaGreatDoor.Rt
