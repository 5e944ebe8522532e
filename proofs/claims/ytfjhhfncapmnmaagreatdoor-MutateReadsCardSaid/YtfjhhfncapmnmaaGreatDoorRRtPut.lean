/-
  Package regs: Put.
-/
import Derived.Test.YtfjhhfncapmnmaaGreatDoorRRtFresh
import Derived.Deep.Cut
import Derived.Deep.CutRange
import Derived.Deep.RegionHeld3
namespace Go.Proofs.YtfjhhfncapmnmaaGreatDoor.Rt
open Go.Proofs.YtfjhhfncapmnmaaGreatDoor
open Go.RowKit
set_option maxRecDepth 100000

/-- A thread with a in a register; no thread, where there is no such register. -/
def putT (t : Ts) (r a : Int) : Ts := if inReg r = true then tr t (Ls.upd t.r r.toNat a) else noT
def putF (F : Nat → List Int) (r : Int) : Nat → List Int := if inReg r = true then F else Ls.noLists
/-- .. its lists and operations lie in new memory. -/
def PutNew (w : World) (t : Ts) (F : Nat → List Int) (g : Nat → O4) (r a : Int) (e : Ending) (w' : World) : Prop :=
  ∃ (u : Nat → Ls.Sl) (o : Ls.Sl), o.n = (putT t r a).o.n ∧ e = .returned (.tuple #[(.agg #[.bool (tw (putT t r a) u o).lv, .int .i64 ((tw (putT t r a) u o).r 0), .int .i64 ((tw (putT t r a) u o).r 1), .int .i64 ((tw (putT t r a) u o).r 2), .int .i64 ((tw (putT t r a) u o).r 3), .slice ((tw (putT t r a) u o).u 0).a ((tw (putT t r a) u o).u 0).n ((tw (putT t r a) u o).u 0).c, .slice ((tw (putT t r a) u o).u 1).a ((tw (putT t r a) u o).u 1).n ((tw (putT t r a) u o).u 1).c, .slice ((tw (putT t r a) u o).u 2).a ((tw (putT t r a) u o).u 2).n ((tw (putT t r a) u o).u 2).c, .int .i64 (tw (putT t r a) u o).ep, .int .i64 (tw (putT t r a) u o).sg, .int .i64 (tw (putT t r a) u o).rt, .slice (tw (putT t r a) u o).o.a (tw (putT t r a) u o).o.n (tw (putT t r a) u o).o.c, .int .i64 (tw (putT t r a) u o).pc, .int .i64 (tw (putT t r a) u o).x, .int .i64 (tw (putT t r a) u o).y]), .int .i64 (getE r)]) ∧ Th w' w'.heap.size (tw (putT t r a) u o) (putF F r) g ∧ (∀ j, j < 3 → ∀ x, (u j).a = some x → w.heap.size ≤ x.block) ∧ (0 < o.n → ∀ x, o.a = some x → w.heap.size ≤ x.block) ∧ Below w.heap.size w w'
theorem putT_no {r : Int} (hr : inReg r = false) (t : Ts) (a : Int) : putT t r a = noT := if_neg (by rw [hr]; decide)
theorem putF_no {r : Int} (hr : inReg r = false) (F : Nat → List Int) : putF F r = Ls.noLists := if_neg (by rw [hr]; decide)
theorem getE_no {r : Int} (hr : inReg r = false) : getE r = 1 := if_neg (by rw [hr]; decide)
theorem putT_at {k : Nat} (hk : k < 4) (t : Ts) (a : Int) : putT t (k : Int) a = tr t (Ls.upd t.r k a) := if_pos (inReg_nat hk)
theorem putF_at {k : Nat} (hk : k < 4) (F : Nat → List Int) : putF F (k : Int) = F := if_pos (inReg_nat hk)
theorem getE_at {k : Nat} (hk : k < 4) : getE (k : Int) = 0 := if_pos (inReg_nat hk)
theorem noTh (w : World) (B : Nat) (g : Nat → O4) : Th w B noT Ls.noLists g := ⟨Ls.L3.none_ _ _, ORow.empty _ _ _ _, Nat.le_refl _⟩
theorem res_put {t : Ts} {W : World} {b : Nat} {x : Int} {tm : Array Value} (ht : tm[6]? = some (.pointer (some ⟨b, 0, none⟩))) (hx : tm[7]? = some (.int .i64 x)) (h : Box W b (tv t)) : (results Tryz.f165 tm).run Tryz.prog W = .ok (.tuple #[(.agg #[.bool t.lv, .int .i64 (t.r 0), .int .i64 (t.r 1), .int .i64 (t.r 2), .int .i64 (t.r 3), .slice (t.u 0).a (t.u 0).n (t.u 0).c, .slice (t.u 1).a (t.u 1).n (t.u 1).c, .slice (t.u 2).a (t.u 2).n (t.u 2).c, .int .i64 t.ep, .int .i64 t.sg, .int .i64 t.rt, .slice t.o.a t.o.n t.o.c, .int .i64 t.pc, .int .i64 t.x, .int .i64 t.y]), .int .i64 x]) W := by
  have k0 := (h).cel 0 (.bool t.lv) rfl
  have k1 := (h).cel 1 (.int .i64 (t.r 0)) rfl
  have k2 := (h).cel 2 (.int .i64 (t.r 1)) rfl
  have k3 := (h).cel 3 (.int .i64 (t.r 2)) rfl
  have k4 := (h).cel 4 (.int .i64 (t.r 3)) rfl
  have k5 := (h).cel 5 (.slice (t.u 0).a (t.u 0).n (t.u 0).c) rfl
  have k6 := (h).cel 6 (.slice (t.u 1).a (t.u 1).n (t.u 1).c) rfl
  have k7 := (h).cel 7 (.slice (t.u 2).a (t.u 2).n (t.u 2).c) rfl
  have k8 := (h).cel 8 (.int .i64 t.ep) rfl
  have k9 := (h).cel 9 (.int .i64 t.sg) rfl
  have k10 := (h).cel 10 (.int .i64 t.rt) rfl
  have k11 := (h).cel 11 (.slice t.o.a t.o.n t.o.c) rfl
  have k12 := (h).cel 12 (.int .i64 t.pc) rfl
  have k13 := (h).cel 13 (.int .i64 t.x) rfl
  have k14 := (h).cel 14 (.int .i64 t.y) rfl
  have kl := (h).lt
  simp [results, Tryz.results165, go_sem, ht, hx, k0, k1, k2, k3, k4, k5, k6, k7, k8, k9, k10, k11, k12, k13, k14]
section
variable {w W W' w5 : World} {t t5 t7 : Ts} {F : Nat → List Int} {g : Nat → O4} {u : Nat → Ls.Sl} {o : Ls.Sl} {k b : Nat} {a : Int}
theorem row_same {B n : Nat} {A : Option Addr} {xs : List Int} (h : Row w B A n xs) (hs : ∀ x, A = some x → W.heap[x.block]? = w.heap[x.block]?) : Row W B A n xs :=
  ⟨h.1, fun hn => by
    obtain ⟨b, off, e, hlt, hc⟩ := h.2 hn
    exact ⟨b, off, e, hlt, fun i hi => (World.cell?_of_block (w := w) (w' := W) (a := ⟨b, off + i, none⟩) (show W.heap[b]? = w.heap[b]? from hs _ e)).trans (hc i hi)⟩⟩
theorem th_same {B : Nat} (h : Th w B t F g) (hu : ∀ j, j < 3 → ∀ x, (t.u j).a = some x → W.heap[x.block]? = w.heap[x.block]?) (ho : 0 < t.o.n → ∀ x, t.o.a = some x → W.heap[x.block]? = w.heap[x.block]?) : Th W B t F g :=
  ⟨fun j hj => ⟨row_same (h.c j hj).1 (hu j hj), (h.c j hj).2⟩, h.o.same ho, h.k⟩
/-- While the copy t5, in a box of its own, becomes t7. -/
structure Pt (w W : World) (t t5 t7 : Ts) (F : Nat → List Int) (g : Nat → O4) (b : Nat) : Prop where
  ft : Ft w W t
  box : Box W b (tv t7)
  th : Th W b t5 F g
  lt : w.heap.size + 1 < b
  nu : ∀ j, j < 3 → ∀ x, (t5.u j).a = some x → w.heap.size + 2 ≤ x.block
  no : 0 < t5.o.n → ∀ x, t5.o.a = some x → w.heap.size + 2 ≤ x.block
theorem put_mid {ty : TypeId} {W0 : World} (h : Ft w w5 t) (h0 : Ft w W0 t) (hT : Th w5 w5.heap.size (tw t u o) F g) (hx : ∀ j, j < 3 → ∀ x, (u j).a = some x → W0.heap.size ≤ x.block) (hy : 0 < o.n → ∀ x, o.a = some x → W0.heap.size ≤ x.block) (hW : W = w5.alloc (.cells #[.bool t.lv, .int .i64 (t.r 0), .int .i64 (t.r 1), .int .i64 (t.r 2), .int .i64 (t.r 3), .slice (u 0).a (u 0).n (u 0).c, .slice (u 1).a (u 1).n (u 1).c, .slice (u 2).a (u 2).n (u 2).c, .int .i64 t.ep, .int .i64 t.sg, .int .i64 t.rt, .slice o.a o.n o.c, .int .i64 t.pc, .int .i64 t.x, .int .i64 t.y] ty)) :
    Pt w W t (tw t u o) (tw t u o) F g w5.heap.size := by
  have b1 : Below w5.heap.size w5 W := by rw [hW]; exact (Below.refl _ _).alloc (Nat.le_refl _) _
  have hl := h0.res.lt
  refine ⟨h.next b1, ?_, hT.below b1, h.res.lt, fun j hj x e => by have := hx j hj x e; omega, fun h0 x e => by have := hy h0 x e; omega⟩
  rw [hW]
  exact Box.new w5 (tv (tw t u o)) ty
theorem put_store (h : Pt w W t t5 t5 F g b) (hk : k < 4) (hW : W' = W.setCell ⟨b, 1 + k, none⟩ (.int .i64 a)) : Pt w W' t t5 (tr t5 (Ls.upd t5.r k a)) F g b := by
  have hl := h.lt
  have b6 : Below b W (W.setCell ⟨b, 1 + k, none⟩ (.int .i64 a)) := (Below.refl _ _).setCell (p := ⟨b, 1 + k, none⟩) (Nat.le_refl _) _
  subst hW
  exact ⟨⟨h.ft.bel.setCell (p := ⟨b, 1 + k, none⟩) (by show w.heap.size ≤ b; omega) _, h.ft.box.other (by show ¬ w.heap.size = b; omega) _, h.ft.res.other (by show ¬ w.heap.size + 1 = b; omega) _⟩, tbox_set h.box hk a, h.th.below b6, hl, h.nu, h.no⟩
theorem put_end (hk : k < 4) (e5 : t5 = tw t u o) (hon : o.n = t.o.n) (e7 : t7 = tr t5 (Ls.upd t5.r k a)) (h : Pt w W t t5 t7 F g b) :
    PutNew w t F g k a (.returned (.tuple #[(.agg #[.bool t7.lv, .int .i64 (t7.r 0), .int .i64 (t7.r 1), .int .i64 (t7.r 2), .int .i64 (t7.r 3), .slice (t7.u 0).a (t7.u 0).n (t7.u 0).c, .slice (t7.u 1).a (t7.u 1).n (t7.u 1).c, .slice (t7.u 2).a (t7.u 2).n (t7.u 2).c, .int .i64 t7.ep, .int .i64 t7.sg, .int .i64 t7.rt, .slice t7.o.a t7.o.n t7.o.c, .int .i64 t7.pc, .int .i64 t7.x, .int .i64 t7.y]), .int .i64 0])) (puts (w.heap.size + 1) 0 (tv t7) W) := by
  have hT : Th (puts (w.heap.size + 1) 0 (tv t7) W) b t5 F g := th_same h.th (fun j hj x e => puts_other _ _ _ _ (by have := h.nu j hj x e; omega)) (fun h0 x e => puts_other _ _ _ _ (by have := h.no h0 x e; omega))
  have hl := h.box.lt
  have hb := below_puts (B := w.heap.size) (w.heap.size + 1) (by omega) (tv t7) 0 _ h.ft.bel
  subst e5 e7
  refine ⟨u, o, by rw [putT_at hk]; exact hon, by rw [putT_at hk, getE_at hk]; rfl, ?_, fun j hj x hx => by have := h.nu j hj x hx; omega, fun h0 x hx => by have := h.no h0 x hx; omega, hb⟩
  rw [putT_at hk, putF_at hk]
  have hs := puts_size (w.heap.size + 1) (tv (tr (tw t u o) (Ls.upd (tw t u o).r k a))) 0 W
  have hle : b ≤ (puts (w.heap.size + 1) 0 (tv (tr (tw t u o) (Ls.upd (tw t u o).r k a))) W).heap.size := by omega
  exact ⟨hT.c.more hle, hT.o.more hle, hT.k⟩
end
set_option maxHeartbeats 4000000 in
theorem put_no (t : Ts) (F : Nat → List Int) (g : Nat → O4) (r a : Int) (hr : inReg r = false) (w : World) : Calls Tryz.prog 165 #[(.agg #[.bool t.lv, .int .i64 (t.r 0), .int .i64 (t.r 1), .int .i64 (t.r 2), .int .i64 (t.r 3), .slice (t.u 0).a (t.u 0).n (t.u 0).c, .slice (t.u 1).a (t.u 1).n (t.u 1).c, .slice (t.u 2).a (t.u 2).n (t.u 2).c, .int .i64 t.ep, .int .i64 t.sg, .int .i64 t.rt, .slice t.o.a t.o.n t.o.c, .int .i64 t.pc, .int .i64 t.x, .int .i64 t.y]), .int .i64 r, .int .i64 a] w (PutNew w t F g r a) := by
  have C1 := Lib.hid (fun W => isReg_any r W)
  rw [hr] at C1
  have HR := Lib.hid hr
  clear hr
  go_enter Tryz.func165, Tryz.ntmps165
  go_wp2_with fail
  refine (C1.out _).mono ?_
  rintro e w1 ⟨rfl, rfl⟩
  obtain ⟨W0, hW0⟩ : ∃ W0, W0 = (w.alloc (.cells #[.bool t.lv, .int .i64 (t.r 0), .int .i64 (t.r 1), .int .i64 (t.r 2), .int .i64 (t.r 3), .slice (t.u 0).a (t.u 0).n (t.u 0).c, .slice (t.u 1).a (t.u 1).n (t.u 1).c, .slice (t.u 2).a (t.u 2).n (t.u 2).c, .int .i64 t.ep, .int .i64 t.sg, .int .i64 t.rt, .slice t.o.a t.o.n t.o.c, .int .i64 t.pc, .int .i64 t.x, .int .i64 t.y] 34)).alloc (.cells #[.bool false, .int .i64 0, .int .i64 0, .int .i64 0, .int .i64 0, .slice none 0 0, .slice none 0 0, .slice none 0 0, .int .i64 0, .int .i64 0, .int .i64 0, .slice none 0 0, .int .i64 0, .int .i64 0, .int .i64 0] 34) := ⟨_, rfl⟩
  have K0 := Lib.hid (ft_start hW0)
  rw [← hW0]
  clear hW0
  have y0 := (K0.out.res).cel 0 (.bool noT.lv) rfl
  have y1 := (K0.out.res).cel 1 (.int .i64 (noT.r 0)) rfl
  have y2 := (K0.out.res).cel 2 (.int .i64 (noT.r 1)) rfl
  have y3 := (K0.out.res).cel 3 (.int .i64 (noT.r 2)) rfl
  have y4 := (K0.out.res).cel 4 (.int .i64 (noT.r 3)) rfl
  have y5 := (K0.out.res).cel 5 (.slice (noT.u 0).a (noT.u 0).n (noT.u 0).c) rfl
  have y6 := (K0.out.res).cel 6 (.slice (noT.u 1).a (noT.u 1).n (noT.u 1).c) rfl
  have y7 := (K0.out.res).cel 7 (.slice (noT.u 2).a (noT.u 2).n (noT.u 2).c) rfl
  have y8 := (K0.out.res).cel 8 (.int .i64 noT.ep) rfl
  have y9 := (K0.out.res).cel 9 (.int .i64 noT.sg) rfl
  have y10 := (K0.out.res).cel 10 (.int .i64 noT.rt) rfl
  have y11 := (K0.out.res).cel 11 (.slice noT.o.a noT.o.n noT.o.c) rfl
  have y12 := (K0.out.res).cel 12 (.int .i64 noT.pc) rfl
  have y13 := (K0.out.res).cel 13 (.int .i64 noT.x) rfl
  have y14 := (K0.out.res).cel 14 (.int .i64 noT.y) rfl
  have yl := (K0.out.res).lt
  dsimp only [noT, Ls.noSl] at y0 y1 y2 y3 y4 y5 y6 y7 y8 y9 y10 y11 y12 y13 y14
  have yf := K0.out.res.free
  go_wp2
  have BE := Box.puts (tv noT) 0 K0.out.res
  refine bodyPost_ret (v := .tuple #[(.agg #[.bool noT.lv, .int .i64 (noT.r 0), .int .i64 (noT.r 1), .int .i64 (noT.r 2), .int .i64 (noT.r 3), .slice (noT.u 0).a (noT.u 0).n (noT.u 0).c, .slice (noT.u 1).a (noT.u 1).n (noT.u 1).c, .slice (noT.u 2).a (noT.u 2).n (noT.u 2).c, .int .i64 noT.ep, .int .i64 noT.sg, .int .i64 noT.rt, .slice noT.o.a noT.o.n noT.o.c, .int .i64 noT.pc, .int .i64 noT.x, .int .i64 noT.y]), .int .i64 1]) (res_put rfl rfl BE) rfl ?_
  have hw := HR.out
  refine ⟨Ls.noSl, ⟨none, 0, 0⟩, by rw [putT_no hw]; rfl, by rw [putT_no hw, getE_no hw]; rfl, by rw [putT_no hw, putF_no hw]; exact noTh _ _ _, (fun _ _ x h => by cases h), (fun h => absurd h (Nat.lt_irrefl 0)), below_puts _ (by omega) (tv noT) 0 _ K0.out.bel⟩
set_option maxHeartbeats 4000000 in
theorem put_yes (t : Ts) (F : Nat → List Int) (g : Nat → O4) (k : Nat) (hk : k < 4) (a : Int) (w : World) (h : Th w w.heap.size t F g) (hn : ∀ j, j < 3 → (t.u j).n ≤ 2000000) (hm : t.o.n ≤ 100000) : Calls Tryz.prog 165 #[(.agg #[.bool t.lv, .int .i64 (t.r 0), .int .i64 (t.r 1), .int .i64 (t.r 2), .int .i64 (t.r 3), .slice (t.u 0).a (t.u 0).n (t.u 0).c, .slice (t.u 1).a (t.u 1).n (t.u 1).c, .slice (t.u 2).a (t.u 2).n (t.u 2).c, .int .i64 t.ep, .int .i64 t.sg, .int .i64 t.rt, .slice t.o.a t.o.n t.o.c, .int .i64 t.pc, .int .i64 t.x, .int .i64 t.y]), .int .i64 (k : Int), .int .i64 a] w (PutNew w t F g k a) := by
  have C1 := Lib.hid (fun W => isReg_any (k : Int) W)
  rw [inReg_nat hk] at C1
  have HT := Lib.hid h
  have HN := Lib.hid hn
  clear h hn
  go_enter Tryz.func165, Tryz.ntmps165
  go_wp2_with fail
  refine (C1.out _).mono ?_
  rintro e w1 ⟨rfl, rfl⟩
  obtain ⟨W0, hW0⟩ : ∃ W0, W0 = (w.alloc (.cells #[.bool t.lv, .int .i64 (t.r 0), .int .i64 (t.r 1), .int .i64 (t.r 2), .int .i64 (t.r 3), .slice (t.u 0).a (t.u 0).n (t.u 0).c, .slice (t.u 1).a (t.u 1).n (t.u 1).c, .slice (t.u 2).a (t.u 2).n (t.u 2).c, .int .i64 t.ep, .int .i64 t.sg, .int .i64 t.rt, .slice t.o.a t.o.n t.o.c, .int .i64 t.pc, .int .i64 t.x, .int .i64 t.y] 34)).alloc (.cells #[.bool false, .int .i64 0, .int .i64 0, .int .i64 0, .int .i64 0, .slice none 0 0, .slice none 0 0, .slice none 0 0, .int .i64 0, .int .i64 0, .int .i64 0, .slice none 0 0, .int .i64 0, .int .i64 0, .int .i64 0] 34) := ⟨_, rfl⟩
  have K0 := Lib.hid (ft_start hW0)
  rw [← hW0]
  clear hW0
  have y0 := (K0.out.box).cel 0 (.bool t.lv) rfl
  have y1 := (K0.out.box).cel 1 (.int .i64 (t.r 0)) rfl
  have y2 := (K0.out.box).cel 2 (.int .i64 (t.r 1)) rfl
  have y3 := (K0.out.box).cel 3 (.int .i64 (t.r 2)) rfl
  have y4 := (K0.out.box).cel 4 (.int .i64 (t.r 3)) rfl
  have y5 := (K0.out.box).cel 5 (.slice (t.u 0).a (t.u 0).n (t.u 0).c) rfl
  have y6 := (K0.out.box).cel 6 (.slice (t.u 1).a (t.u 1).n (t.u 1).c) rfl
  have y7 := (K0.out.box).cel 7 (.slice (t.u 2).a (t.u 2).n (t.u 2).c) rfl
  have y8 := (K0.out.box).cel 8 (.int .i64 t.ep) rfl
  have y9 := (K0.out.box).cel 9 (.int .i64 t.sg) rfl
  have y10 := (K0.out.box).cel 10 (.int .i64 t.rt) rfl
  have y11 := (K0.out.box).cel 11 (.slice t.o.a t.o.n t.o.c) rfl
  have y12 := (K0.out.box).cel 12 (.int .i64 t.pc) rfl
  have y13 := (K0.out.box).cel 13 (.int .i64 t.x) rfl
  have y14 := (K0.out.box).cel 14 (.int .i64 t.y) rfl
  have yl := (K0.out.box).lt
  go_wp2_with fail
  refine (fthread_any t F g W0 (HT.out.over K0.out.bel) HN.out hm).mono ?_
  rintro e w5 ⟨u, o, hon, rfl, hth, hx1, hx2, hb5⟩
  have K5 := Lib.hid (K0.out.next hb5)
  have T5 := Lib.hid (And.intro hon (And.intro hth (And.intro hx1 hx2)))
  clear hon hth hb5 hx1 hx2
  clear y0 y1 y2 y3 y4 y5 y6 y7 y8 y9 y10 y11 y12 y13 y14 yl
  go_upto_region 4 with fail
  obtain ⟨W6, hW6⟩ : ∃ W6, W6 = w5.alloc (.cells #[.bool t.lv, .int .i64 (t.r 0), .int .i64 (t.r 1), .int .i64 (t.r 2), .int .i64 (t.r 3), .slice (u 0).a (u 0).n (u 0).c, .slice (u 1).a (u 1).n (u 1).c, .slice (u 2).a (u 2).n (u 2).c, .int .i64 t.ep, .int .i64 t.sg, .int .i64 t.rt, .slice o.a o.n o.c, .int .i64 t.pc, .int .i64 t.x, .int .i64 t.y] 34) := ⟨_, rfl⟩
  obtain ⟨t5, ht5⟩ : ∃ t5, t5 = tw t u o := ⟨_, rfl⟩
  obtain ⟨b5, hb5⟩ : ∃ b5, b5 = w5.heap.size := ⟨_, rfl⟩
  have P6 := put_mid K5.out K0.out T5.out.2.1 T5.out.2.2.1 T5.out.2.2.2 hW6
  rw [← ht5, ← hb5] at P6
  have P6 := Lib.hid P6
  have E5 := Lib.hid (And.intro ht5 T5.out.1)
  rw [← hW6, ← hb5]
  clear hW6 ht5 hb5 T5 K5
  have q := tbox_reg P6.out.box hk
  have qf := P6.out.box.free (1 + k)
  have ql := P6.out.box.lt
  have hk' : (k : Int) < 4 := by omega
  go_upto_region 5 with fail
  obtain ⟨W7, hW7⟩ : ∃ W7, W7 = W6.setCell ⟨b5, 1 + k, none⟩ (.int .i64 a) := ⟨_, rfl⟩
  obtain ⟨t7, ht7⟩ : ∃ t7, t7 = tr t5 (Ls.upd t5.r k a) := ⟨_, rfl⟩
  have P7 := put_store P6.out hk hW7
  rw [← ht7] at P7
  have P7 := Lib.hid P7
  have E7 := Lib.hid ht7
  rw [← hW7]
  clear hW7 ht7 q qf ql
  have z0 := (P7.out.box).cel 0 (.bool t7.lv) rfl
  have z1 := (P7.out.box).cel 1 (.int .i64 (t7.r 0)) rfl
  have z2 := (P7.out.box).cel 2 (.int .i64 (t7.r 1)) rfl
  have z3 := (P7.out.box).cel 3 (.int .i64 (t7.r 2)) rfl
  have z4 := (P7.out.box).cel 4 (.int .i64 (t7.r 3)) rfl
  have z5 := (P7.out.box).cel 5 (.slice (t7.u 0).a (t7.u 0).n (t7.u 0).c) rfl
  have z6 := (P7.out.box).cel 6 (.slice (t7.u 1).a (t7.u 1).n (t7.u 1).c) rfl
  have z7 := (P7.out.box).cel 7 (.slice (t7.u 2).a (t7.u 2).n (t7.u 2).c) rfl
  have z8 := (P7.out.box).cel 8 (.int .i64 t7.ep) rfl
  have z9 := (P7.out.box).cel 9 (.int .i64 t7.sg) rfl
  have z10 := (P7.out.box).cel 10 (.int .i64 t7.rt) rfl
  have z11 := (P7.out.box).cel 11 (.slice t7.o.a t7.o.n t7.o.c) rfl
  have z12 := (P7.out.box).cel 12 (.int .i64 t7.pc) rfl
  have z13 := (P7.out.box).cel 13 (.int .i64 t7.x) rfl
  have z14 := (P7.out.box).cel 14 (.int .i64 t7.y) rfl
  have zl := (P7.out.box).lt
  have y0 := (P7.out.ft.res).cel 0 (.bool noT.lv) rfl
  have y1 := (P7.out.ft.res).cel 1 (.int .i64 (noT.r 0)) rfl
  have y2 := (P7.out.ft.res).cel 2 (.int .i64 (noT.r 1)) rfl
  have y3 := (P7.out.ft.res).cel 3 (.int .i64 (noT.r 2)) rfl
  have y4 := (P7.out.ft.res).cel 4 (.int .i64 (noT.r 3)) rfl
  have y5 := (P7.out.ft.res).cel 5 (.slice (noT.u 0).a (noT.u 0).n (noT.u 0).c) rfl
  have y6 := (P7.out.ft.res).cel 6 (.slice (noT.u 1).a (noT.u 1).n (noT.u 1).c) rfl
  have y7 := (P7.out.ft.res).cel 7 (.slice (noT.u 2).a (noT.u 2).n (noT.u 2).c) rfl
  have y8 := (P7.out.ft.res).cel 8 (.int .i64 noT.ep) rfl
  have y9 := (P7.out.ft.res).cel 9 (.int .i64 noT.sg) rfl
  have y10 := (P7.out.ft.res).cel 10 (.int .i64 noT.rt) rfl
  have y11 := (P7.out.ft.res).cel 11 (.slice noT.o.a noT.o.n noT.o.c) rfl
  have y12 := (P7.out.ft.res).cel 12 (.int .i64 noT.pc) rfl
  have y13 := (P7.out.ft.res).cel 13 (.int .i64 noT.x) rfl
  have y14 := (P7.out.ft.res).cel 14 (.int .i64 noT.y) rfl
  have yl := (P7.out.ft.res).lt
  dsimp only [noT, Ls.noSl] at y0 y1 y2 y3 y4 y5 y6 y7 y8 y9 y10 y11 y12 y13 y14
  have yf := P7.out.ft.res.free
  go_wp2
  have BE := Box.puts (tv t7) 0 P7.out.ft.res
  refine bodyPost_ret (v := .tuple #[(.agg #[.bool t7.lv, .int .i64 (t7.r 0), .int .i64 (t7.r 1), .int .i64 (t7.r 2), .int .i64 (t7.r 3), .slice (t7.u 0).a (t7.u 0).n (t7.u 0).c, .slice (t7.u 1).a (t7.u 1).n (t7.u 1).c, .slice (t7.u 2).a (t7.u 2).n (t7.u 2).c, .int .i64 t7.ep, .int .i64 t7.sg, .int .i64 t7.rt, .slice t7.o.a t7.o.n t7.o.c, .int .i64 t7.pc, .int .i64 t7.x, .int .i64 t7.y]), .int .i64 0]) (res_put rfl rfl BE) rfl ?_
  exact put_end hk E5.out.1 E5.out.2 E7.out P7.out
theorem put_new (t : Ts) (F : Nat → List Int) (g : Nat → O4) (r a : Int) (w : World) (h : Th w w.heap.size t F g) (hn : ∀ j, j < 3 → (t.u j).n ≤ 2000000) (hm : t.o.n ≤ 100000) : Calls Tryz.prog 165 #[(.agg #[.bool t.lv, .int .i64 (t.r 0), .int .i64 (t.r 1), .int .i64 (t.r 2), .int .i64 (t.r 3), .slice (t.u 0).a (t.u 0).n (t.u 0).c, .slice (t.u 1).a (t.u 1).n (t.u 1).c, .slice (t.u 2).a (t.u 2).n (t.u 2).c, .int .i64 t.ep, .int .i64 t.sg, .int .i64 t.rt, .slice t.o.a t.o.n t.o.c, .int .i64 t.pc, .int .i64 t.x, .int .i64 t.y]), .int .i64 r, .int .i64 a] w (PutNew w t F g r a) := by
  cases hr : inReg r with
  | false => exact put_no t F g r a hr w
  | true =>
    obtain ⟨k, hk, rfl⟩ := inReg_yes hr
    exact put_yes t F g k hk a w h hn hm
end Go.Proofs.YtfjhhfncapmnmaaGreatDoor.Rt
