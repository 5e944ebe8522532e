/-
  Package mutate: drop, keep, load.
-/
import Derived.Test.YtfjhhfncapmnmaaGreatDoorRMuRead
namespace Go.Proofs.YtfjhhfncapmnmaaGreatDoor.Mu
open Go.Proofs.YtfjhhfncapmnmaaGreatDoor Go.Proofs.YtfjhhfncapmnmaaGreatDoor.Rt
open Go.RowKit
set_option maxRecDepth 100000

/-- With another thread. -/
def atT (n : Tn) (t : Ts) : Tn := ⟨n.s, n.k, t, n.p, n.q, n.e, n.v, n.b⟩
def putS (P : St) (r a : Int) : St := ⟨atT P.n (putT P.n.t r a), P.d, P.xs, P.F, P.g⟩
def dropS (P : St) : St := if inReg P.n.p.a = true then endS (putS P P.n.p.a 0) 0 0 else endS P 1 0
def keepS (P : St) : St := if inReg P.n.p.a = true then endS (putS P P.n.p.a P.n.t.x) 0 0 else endS P 0 0
def loadS (P : St) : St :=
  if inReg P.n.p.a = true then (if flE P.n.s P.d P.n.t P.n.p.b P.n.p.c = 0 then endS (putS P P.n.p.a (wd P.d (flX P.n.s P.d P.n.t P.n.p.b P.n.p.c))) 0 (if wd P.d (flX P.n.s P.d P.n.t P.n.p.b P.n.p.c) = 0 then 0 else 1) else endS P (flE P.n.s P.d P.n.t P.n.p.b P.n.p.c) 0) else endS P 1 0
theorem ldTh {W : World} {b : Nat} {t : Ts} (h : Box W b (tv t)) : (Instr.loadAt 34 (.pointer (some ⟨b, 0, none⟩))).run Tryz.prog W = .ok (.agg #[.bool t.lv, .int .i64 (t.r 0), .int .i64 (t.r 1), .int .i64 (t.r 2), .int .i64 (t.r 3), .slice (t.u 0).a (t.u 0).n (t.u 0).c, .slice (t.u 1).a (t.u 1).n (t.u 1).c, .slice (t.u 2).a (t.u 2).n (t.u 2).c, .int .i64 t.ep, .int .i64 t.sg, .int .i64 t.rt, .slice t.o.a t.o.n t.o.c, .int .i64 t.pc, .int .i64 t.x, .int .i64 t.y]) W := ld h (cs := tv t) (Part.refl _) _ Tryz.underlying34 rfl infT
theorem eqv_put {n : Tn} {T : Ts} {u : Nat → Ls.Sl} {o : Ls.Sl} (h : o.n = T.o.n) (e v : Int) : Eqv (endN (atT n (tw T u o)) e v) (endN (atT n T) e v) := ⟨rfl, rfl, rfl, rfl, rfl, congrArg (· - 1) h, rfl, rfl, rfl, rfl, rfl⟩
theorem awt_new {b : Nat} {w : World} {t : Ts} (hb : b + 2 ≤ w.heap.size) (h1 : ∀ j, j < 3 → ∀ x, (t.u j).a = some x → w.heap.size ≤ x.block) (h2 : 0 < t.o.n → ∀ x, t.o.a = some x → w.heap.size ≤ x.block) : AwT b t :=
  ⟨fun j hj => aw_ge fun _ x hx => Nat.le_trans hb (h1 j hj x hx), aw_ge fun hn x hx => Nat.le_trans hb (h2 hn x hx)⟩
theorem put_inh {w W : World} {n : Tn} {t : Ts} (hz : w.heap.size + 2 ≤ W.heap.size) (h1 : ∀ j, j < 3 → ∀ x, (t.u j).a = some x → W.heap.size ≤ x.block) (h2 : 0 < t.o.n → ∀ x, t.o.a = some x → W.heap.size ≤ x.block) : Inh w n (atT n t) := fun b hb ha => ⟨ha.h, ha.k, ⟨fun j hj _ x hx => by have := h1 j hj x hx; omega, fun hn x hx => by have := h2 hn x hx; omega⟩⟩
theorem Mw.sz {w W : World} {n m : Tn} {d : Hd_} {xs : List Int} {F : Nat → List Int} {g : Nat → O4} (h : Mw w W n m d xs F g) : w.heap.size + 2 ≤ W.heap.size := by have := h.nb.res.lt; omega
theorem put_k (t : Ts) (F : Nat → List Int) (g : Nat → O4) (k : Nat) (hk : k < 4) (a : Int) (w : World) (h : Th w w.heap.size t F g) (hn : ∀ j, j < 3 → (t.u j).n ≤ 2000000) (hm : t.o.n ≤ 100000) : Calls Tryz.prog 165 #[(.agg #[.bool t.lv, .int .i64 (t.r 0), .int .i64 (t.r 1), .int .i64 (t.r 2), .int .i64 (t.r 3), .slice (t.u 0).a (t.u 0).n (t.u 0).c, .slice (t.u 1).a (t.u 1).n (t.u 1).c, .slice (t.u 2).a (t.u 2).n (t.u 2).c, .int .i64 t.ep, .int .i64 t.sg, .int .i64 t.rt, .slice t.o.a t.o.n t.o.c, .int .i64 t.pc, .int .i64 t.x, .int .i64 t.y]), .int .i64 (k : Int), .int .i64 a] w fun e w' =>
    ∃ (u : Nat → Ls.Sl) (o : Ls.Sl), o.n = t.o.n ∧ e = .returned (.tuple #[(.agg #[.bool (tw (tr t (Ls.upd t.r k a)) u o).lv, .int .i64 ((tw (tr t (Ls.upd t.r k a)) u o).r 0), .int .i64 ((tw (tr t (Ls.upd t.r k a)) u o).r 1), .int .i64 ((tw (tr t (Ls.upd t.r k a)) u o).r 2), .int .i64 ((tw (tr t (Ls.upd t.r k a)) u o).r 3), .slice ((tw (tr t (Ls.upd t.r k a)) u o).u 0).a ((tw (tr t (Ls.upd t.r k a)) u o).u 0).n ((tw (tr t (Ls.upd t.r k a)) u o).u 0).c, .slice ((tw (tr t (Ls.upd t.r k a)) u o).u 1).a ((tw (tr t (Ls.upd t.r k a)) u o).u 1).n ((tw (tr t (Ls.upd t.r k a)) u o).u 1).c, .slice ((tw (tr t (Ls.upd t.r k a)) u o).u 2).a ((tw (tr t (Ls.upd t.r k a)) u o).u 2).n ((tw (tr t (Ls.upd t.r k a)) u o).u 2).c, .int .i64 (tw (tr t (Ls.upd t.r k a)) u o).ep, .int .i64 (tw (tr t (Ls.upd t.r k a)) u o).sg, .int .i64 (tw (tr t (Ls.upd t.r k a)) u o).rt, .slice (tw (tr t (Ls.upd t.r k a)) u o).o.a (tw (tr t (Ls.upd t.r k a)) u o).o.n (tw (tr t (Ls.upd t.r k a)) u o).o.c, .int .i64 (tw (tr t (Ls.upd t.r k a)) u o).pc, .int .i64 (tw (tr t (Ls.upd t.r k a)) u o).x, .int .i64 (tw (tr t (Ls.upd t.r k a)) u o).y]), .int .i64 0]) ∧ Th w' w'.heap.size (tw (tr t (Ls.upd t.r k a)) u o) F g ∧ (∀ j, j < 3 → ∀ x, (u j).a = some x → w.heap.size ≤ x.block) ∧ (0 < o.n → ∀ x, o.a = some x → w.heap.size ≤ x.block) ∧ Below w.heap.size w w' :=
  (put_new t F g k a w h hn hm).mono fun e w' ⟨u, o, h1, h2, h3, h4, h5, h6⟩ => by
    rw [putT_at hk] at h1 h2 h3
    rw [getE_at hk] at h2
    rw [putF_at hk] at h3
    exact ⟨u, o, h1, h2, h3, h4, h5, h6⟩
theorem put_bad (t : Ts) (r a : Int) (hr : inReg r = false) (w : World) : Calls Tryz.prog 165 #[(.agg #[.bool t.lv, .int .i64 (t.r 0), .int .i64 (t.r 1), .int .i64 (t.r 2), .int .i64 (t.r 3), .slice (t.u 0).a (t.u 0).n (t.u 0).c, .slice (t.u 1).a (t.u 1).n (t.u 1).c, .slice (t.u 2).a (t.u 2).n (t.u 2).c, .int .i64 t.ep, .int .i64 t.sg, .int .i64 t.rt, .slice t.o.a t.o.n t.o.c, .int .i64 t.pc, .int .i64 t.x, .int .i64 t.y]), .int .i64 r, .int .i64 a] w fun e w' =>
    ∃ (u : Nat → Ls.Sl) (o : Ls.Sl), e = .returned (.tuple #[(.agg #[.bool (tw noT u o).lv, .int .i64 ((tw noT u o).r 0), .int .i64 ((tw noT u o).r 1), .int .i64 ((tw noT u o).r 2), .int .i64 ((tw noT u o).r 3), .slice ((tw noT u o).u 0).a ((tw noT u o).u 0).n ((tw noT u o).u 0).c, .slice ((tw noT u o).u 1).a ((tw noT u o).u 1).n ((tw noT u o).u 1).c, .slice ((tw noT u o).u 2).a ((tw noT u o).u 2).n ((tw noT u o).u 2).c, .int .i64 (tw noT u o).ep, .int .i64 (tw noT u o).sg, .int .i64 (tw noT u o).rt, .slice (tw noT u o).o.a (tw noT u o).o.n (tw noT u o).o.c, .int .i64 (tw noT u o).pc, .int .i64 (tw noT u o).x, .int .i64 (tw noT u o).y]), .int .i64 1]) ∧ Below w.heap.size w w' :=
  (put_no t Ls.noLists (fun _ => o0) r a hr w).mono fun e w' ⟨u, o, _, h2, _, _, _, h6⟩ => by
    rw [putT_no hr, getE_no hr] at h2
    exact ⟨u, o, h2, h6⟩
section
variable (P : St) (w : World)
set_option maxHeartbeats 1000000 in
theorem drop_no (h : Pre w P) (ha : inReg P.n.p.a = false) : Calls Tryz.prog 119 #[.agg (nv P.n).toArray] w (SOut w P.n (endS P 1 0)) := by
  have HP := Lib.hid h
  have CP := Lib.hid (fun W => put_bad P.n.t P.n.p.a (0) ha W)
  clear ha
  clear h
  go_enter Tryz.func119, Tryz.ntmps119
  go_upto_region 1 with fail
  obtain ⟨W1, hW1⟩ : ∃ W1, W1 = (w.alloc (.cells (nv P.n).toArray 75)).alloc (.cells #[.slice none 0 0, .slice none 0 0, .slice none 0 0, .slice none 0 0, .slice none 0 0, .slice none 0 0, .int .i64 0, .int .i64 0, .bool false, .slice none 0 0, .bool false, .int .i64 0, .int .i64 0, .int .i64 0, .int .i64 0, .bool false, .bool false, .int .i64 0, .int .i64 0, .int .i64 0, .int .i64 0, .slice none 0 0, .slice none 0 0, .slice none 0 0, .int .i64 0, .int .i64 0, .int .i64 0, .slice none 0 0, .int .i64 0, .int .i64 0, .int .i64 0, .int .i64 0, .int .i64 0, .int .i64 0, .int .i64 0, .int .i64 0, .int .i64 0, .int .i64 0, .int .i64 0, .int .i64 0, .int .i64 0, .int .i64 0, .bool false] 75) := ⟨_, rfl⟩
  have B1 := Lib.hid (mw_start P HP.out.hold hW1)
  rw [← hW1]
  clear hW1
  go_upto_region 2 with (first
    | (refine w_load (ldT B1.out.nb.box) rfl rfl rfl rfl ?_)
    | (refine w_load (ld_int B1.out.nb.box (j := 32) rfl) rfl rfl rfl rfl ?_)
    | ((go_at_call 165); (with_reducible refine (CP.out _).mono ?_); rintro e9 w2 ⟨u, o, rfl, hb9⟩; have B2 := Lib.hid (B1.out.next hb9); clear hb9))
  obtain ⟨W3, hW3⟩ : ∃ W3, W3 = w2.alloc (.cells #[.bool (tw noT u o).lv, .int .i64 ((tw noT u o).r 0), .int .i64 ((tw noT u o).r 1), .int .i64 ((tw noT u o).r 2), .int .i64 ((tw noT u o).r 3), .slice ((tw noT u o).u 0).a ((tw noT u o).u 0).n ((tw noT u o).u 0).c, .slice ((tw noT u o).u 1).a ((tw noT u o).u 1).n ((tw noT u o).u 1).c, .slice ((tw noT u o).u 2).a ((tw noT u o).u 2).n ((tw noT u o).u 2).c, .int .i64 (tw noT u o).ep, .int .i64 (tw noT u o).sg, .int .i64 (tw noT u o).rt, .slice (tw noT u o).o.a (tw noT u o).o.n (tw noT u o).o.c, .int .i64 (tw noT u o).pc, .int .i64 (tw noT u o).x, .int .i64 (tw noT u o).y] 34) := ⟨_, rfl⟩
  have D3 : Hid (Below w2.heap.size w2 W3) := Lib.hid (by rw [hW3]; exact (Below.refl _ _).alloc (Nat.le_refl _) _)
  have X3 : Hid (Box W3 w2.heap.size (tv (tw noT u o))) := Lib.hid (by rw [hW3]; exact Box.new w2 (tv (tw noT u o)) _)
  have B3 := Lib.hid (B2.out.next D3.out)
  rw [← hW3]
  clear hW3
  go_wp2_with (first
    | (refine w_load (ldN B3.out.nb.box) rfl rfl rfl rfl ?_)
    | ((go_at_call 75); (with_reducible refine (fail_any P.n 1 HP.out.one _).mono ?_); rintro e9 w8 ⟨rfl, hb9⟩; have B8 := Lib.hid (B3.out.next hb9); clear hb9)
    | (refine m_fin B8.out (B8.out.hold.ends 1 0) (aw_ends B8.out.aw 1 0) rfl rfl rfl rfl rfl ?_; intro W9 h9; have B9 := Lib.hid h9; clear h9))
  exact so_fin (P := endS P 1 0) B9 (Eqv.refl _) ((Inh.refl _ _).ends _ _) rfl rfl rfl
set_option maxHeartbeats 1000000 in
theorem drop_yes (h : Pre w P) (k : Nat) (hk : k < 4) (ha : P.n.p.a = (k : Int)) : Calls Tryz.prog 119 #[.agg (nv P.n).toArray] w (SOut w P.n (endS ⟨atT P.n (tr P.n.t (Ls.upd P.n.t.r k 0)), P.d, P.xs, P.F, P.g⟩ 0 0)) := by
  have HP := Lib.hid h
  have CP := Lib.hid (fun W (hL : Mw w W P.n noN P.d P.xs P.F P.g) => put_k P.n.t P.F P.g k hk (0) W hL.hold.t (fun j hj => by have := h.u j hj; omega) h.o)
  have A9 := Lib.hid ha
  rw [← A9.out] at CP
  clear ha
  clear h
  go_enter Tryz.func119, Tryz.ntmps119
  go_upto_region 1 with fail
  obtain ⟨W1, hW1⟩ : ∃ W1, W1 = (w.alloc (.cells (nv P.n).toArray 75)).alloc (.cells #[.slice none 0 0, .slice none 0 0, .slice none 0 0, .slice none 0 0, .slice none 0 0, .slice none 0 0, .int .i64 0, .int .i64 0, .bool false, .slice none 0 0, .bool false, .int .i64 0, .int .i64 0, .int .i64 0, .int .i64 0, .bool false, .bool false, .int .i64 0, .int .i64 0, .int .i64 0, .int .i64 0, .slice none 0 0, .slice none 0 0, .slice none 0 0, .int .i64 0, .int .i64 0, .int .i64 0, .slice none 0 0, .int .i64 0, .int .i64 0, .int .i64 0, .int .i64 0, .int .i64 0, .int .i64 0, .int .i64 0, .int .i64 0, .int .i64 0, .int .i64 0, .int .i64 0, .int .i64 0, .int .i64 0, .int .i64 0, .bool false] 75) := ⟨_, rfl⟩
  have B1 := Lib.hid (mw_start P HP.out.hold hW1)
  rw [← hW1]
  clear hW1
  go_upto_region 2 with (first
    | (refine w_load (ldT B1.out.nb.box) rfl rfl rfl rfl ?_)
    | (refine w_load (ld_int B1.out.nb.box (j := 32) rfl) rfl rfl rfl rfl ?_)
    | ((go_at_call 165); (with_reducible refine (CP.out _ B1.out).mono ?_); rintro e9 w2 ⟨u, o, hon, rfl, hth, hx1, hx2, hb9⟩; have B2 := Lib.hid (B1.out.next hb9); have T2 := Lib.hid (And.intro hon (And.intro hth (And.intro hx1 hx2))); have Z2 := Lib.hid B1.out.sz; clear hon hth hx1 hx2; clear hb9))
  obtain ⟨W3, hW3⟩ : ∃ W3, W3 = w2.alloc (.cells #[.bool (tw (tr P.n.t (Ls.upd P.n.t.r k 0)) u o).lv, .int .i64 ((tw (tr P.n.t (Ls.upd P.n.t.r k 0)) u o).r 0), .int .i64 ((tw (tr P.n.t (Ls.upd P.n.t.r k 0)) u o).r 1), .int .i64 ((tw (tr P.n.t (Ls.upd P.n.t.r k 0)) u o).r 2), .int .i64 ((tw (tr P.n.t (Ls.upd P.n.t.r k 0)) u o).r 3), .slice ((tw (tr P.n.t (Ls.upd P.n.t.r k 0)) u o).u 0).a ((tw (tr P.n.t (Ls.upd P.n.t.r k 0)) u o).u 0).n ((tw (tr P.n.t (Ls.upd P.n.t.r k 0)) u o).u 0).c, .slice ((tw (tr P.n.t (Ls.upd P.n.t.r k 0)) u o).u 1).a ((tw (tr P.n.t (Ls.upd P.n.t.r k 0)) u o).u 1).n ((tw (tr P.n.t (Ls.upd P.n.t.r k 0)) u o).u 1).c, .slice ((tw (tr P.n.t (Ls.upd P.n.t.r k 0)) u o).u 2).a ((tw (tr P.n.t (Ls.upd P.n.t.r k 0)) u o).u 2).n ((tw (tr P.n.t (Ls.upd P.n.t.r k 0)) u o).u 2).c, .int .i64 (tw (tr P.n.t (Ls.upd P.n.t.r k 0)) u o).ep, .int .i64 (tw (tr P.n.t (Ls.upd P.n.t.r k 0)) u o).sg, .int .i64 (tw (tr P.n.t (Ls.upd P.n.t.r k 0)) u o).rt, .slice (tw (tr P.n.t (Ls.upd P.n.t.r k 0)) u o).o.a (tw (tr P.n.t (Ls.upd P.n.t.r k 0)) u o).o.n (tw (tr P.n.t (Ls.upd P.n.t.r k 0)) u o).o.c, .int .i64 (tw (tr P.n.t (Ls.upd P.n.t.r k 0)) u o).pc, .int .i64 (tw (tr P.n.t (Ls.upd P.n.t.r k 0)) u o).x, .int .i64 (tw (tr P.n.t (Ls.upd P.n.t.r k 0)) u o).y] 34) := ⟨_, rfl⟩
  have D3 : Hid (Below w2.heap.size w2 W3) := Lib.hid (by rw [hW3]; exact (Below.refl _ _).alloc (Nat.le_refl _) _)
  have X3 : Hid (Box W3 w2.heap.size (tv (tw (tr P.n.t (Ls.upd P.n.t.r k 0)) u o))) := Lib.hid (by rw [hW3]; exact Box.new w2 (tv (tw (tr P.n.t (Ls.upd P.n.t.r k 0)) u o)) _)
  have B3 := Lib.hid (B2.out.next D3.out)
  rw [← hW3]
  clear hW3
  have HO : Hid (1 ≤ (atT P.n (tw (tr P.n.t (Ls.upd P.n.t.r k 0)) u o)).t.o.n) := Lib.hid (by show 1 ≤ o.n; have h1 := T2.out.1; have h2 := HP.out.one; have h3 : (tr P.n.t (Ls.upd P.n.t.r k 0)).o.n = P.n.t.o.n := rfl; omega)
  go_wp2_with (first
    | (refine w_load (ldTh X3.out) rfl rfl rfl rfl ?_)
    | (refine m_one (n' := (atT P.n (tw (tr P.n.t (Ls.upd P.n.t.r k 0)) u o))) (d' := P.d) (xs' := P.xs) (F' := P.F) (g' := P.g) B3.out (stT B3.out.nb.box (tw (tr P.n.t (Ls.upd P.n.t.r k 0)) u o)) (bxT B3.out.nb.box (tw (tr P.n.t (Ls.upd P.n.t.r k 0)) u o)) ⟨B3.out.hold.h, B3.out.hold.c, T2.out.2.1.next D3.out⟩ ⟨B3.out.aw.h, B3.out.aw.k, awt_new Z2.out T2.out.2.2.1 T2.out.2.2.2⟩ rfl rfl rfl rfl rfl ?_; intro W4 h4; have B4 := Lib.hid h4; clear h4)
    | (refine w_load (ldN B4.out.nb.box) rfl rfl rfl rfl ?_)
    | ((go_at_call 166); (with_reducible refine (end_any (atT P.n (tw (tr P.n.t (Ls.upd P.n.t.r k 0)) u o)) 0 HO.out _).mono ?_); rintro e9 w8 ⟨rfl, hb9⟩; have B8 := Lib.hid (B4.out.next hb9); clear hb9)
    | (refine m_fin B8.out (B8.out.hold.ends 0 0) (aw_ends B8.out.aw 0 0) rfl rfl rfl rfl rfl ?_; intro W9 h9; have B9 := Lib.hid h9; clear h9))
  exact so_fin (P := endS ⟨atT P.n (tr P.n.t (Ls.upd P.n.t.r k 0)), P.d, P.xs, P.F, P.g⟩ 0 0) B9 (eqv_put (T := tr P.n.t (Ls.upd P.n.t.r k 0)) T2.out.1 0 0) (Inh.ends (put_inh Z2.out T2.out.2.2.1 T2.out.2.2.2) 0 0) rfl rfl rfl
theorem drop_any (h : Pre w P) : Calls Tryz.prog 119 #[.agg (nv P.n).toArray] w (SOut w P.n (dropS P)) := by
  unfold dropS
  cases ha : inReg P.n.p.a with
  | false => rw [if_neg (by decide)]; exact drop_no P w h ha
  | true =>
    obtain ⟨k, hk, e⟩ := inReg_yes ha
    rw [if_pos rfl, putS, e, putT_at hk]
    exact drop_yes P w h k hk e
set_option maxHeartbeats 1000000 in
theorem load_no (h : Pre w P) (ha : inReg P.n.p.a = false) : Calls Tryz.prog 117 #[.agg (nv P.n).toArray] w (SOut w P.n (endS P 1 0)) := by
  have HP := Lib.hid h
  have CA := Lib.hid (fun W => get_any P.n.t P.n.p.a W)
  rw [show getE P.n.p.a = 1 from if_neg (by rw [ha]; decide)] at CA
  clear ha
  clear h
  go_enter Tryz.func117, Tryz.ntmps117
  go_upto_region 1 with fail
  obtain ⟨W1, hW1⟩ : ∃ W1, W1 = (w.alloc (.cells (nv P.n).toArray 75)).alloc (.cells #[.slice none 0 0, .slice none 0 0, .slice none 0 0, .slice none 0 0, .slice none 0 0, .slice none 0 0, .int .i64 0, .int .i64 0, .bool false, .slice none 0 0, .bool false, .int .i64 0, .int .i64 0, .int .i64 0, .int .i64 0, .bool false, .bool false, .int .i64 0, .int .i64 0, .int .i64 0, .int .i64 0, .slice none 0 0, .slice none 0 0, .slice none 0 0, .int .i64 0, .int .i64 0, .int .i64 0, .slice none 0 0, .int .i64 0, .int .i64 0, .int .i64 0, .int .i64 0, .int .i64 0, .int .i64 0, .int .i64 0, .int .i64 0, .int .i64 0, .int .i64 0, .int .i64 0, .int .i64 0, .int .i64 0, .int .i64 0, .bool false] 75) := ⟨_, rfl⟩
  have B1 := Lib.hid (mw_start P HP.out.hold hW1)
  rw [← hW1]
  clear hW1
  go_wp2_with (first
    | (refine w_load (ldT B1.out.nb.box) rfl rfl rfl rfl ?_)
    | (refine w_load (ld_int B1.out.nb.box (j := 32) rfl) rfl rfl rfl rfl ?_)
    | ((go_at_call 26); (with_reducible refine (CA.out _).mono ?_); rintro e9 w2 ⟨rfl, hb9⟩; have B2 := Lib.hid (B1.out.next hb9); clear hb9)
    | (refine w_load (ldN B2.out.nb.box) rfl rfl rfl rfl ?_)
    | ((go_at_call 75); (with_reducible refine (fail_any P.n 1 HP.out.one _).mono ?_); rintro e9 w8 ⟨rfl, hb9⟩; have B8 := Lib.hid (B2.out.next hb9); clear hb9)
    | (refine m_fin B8.out (B8.out.hold.ends 1 0) (aw_ends B8.out.aw 1 0) rfl rfl rfl rfl rfl ?_; intro W9 h9; have B9 := Lib.hid h9; clear h9))
  exact so_fin (P := endS P 1 0) B9 (Eqv.refl _) ((Inh.refl _ _).ends _ _) rfl rfl rfl
set_option maxHeartbeats 1000000 in
theorem load_bad (h : Pre w P) (ha : inReg P.n.p.a = true) (e : Int) (he : flE P.n.s P.d P.n.t P.n.p.b P.n.p.c = e) (h0 : ¬ e = 0) : Calls Tryz.prog 117 #[.agg (nv P.n).toArray] w (SOut w P.n (endS P e 0)) := by
  have HP := Lib.hid h
  have CA := Lib.hid (fun W => get_any P.n.t P.n.p.a W)
  have CF := Lib.hid (fun W (hL : Mw w W P.n noN P.d P.xs P.F P.g) => field_any P.n P.d W P.n.p.b P.n.p.c hL.hold.h (hL.over h.sz) h.fine)
  rw [show getE P.n.p.a = 0 from if_pos ha] at CA
  rw [he] at CF
  have d0 : (e != 0) = true := by simpa using h0
  clear ha he h0
  clear h
  go_enter Tryz.func117, Tryz.ntmps117
  go_upto_region 1 with fail
  obtain ⟨W1, hW1⟩ : ∃ W1, W1 = (w.alloc (.cells (nv P.n).toArray 75)).alloc (.cells #[.slice none 0 0, .slice none 0 0, .slice none 0 0, .slice none 0 0, .slice none 0 0, .slice none 0 0, .int .i64 0, .int .i64 0, .bool false, .slice none 0 0, .bool false, .int .i64 0, .int .i64 0, .int .i64 0, .int .i64 0, .bool false, .bool false, .int .i64 0, .int .i64 0, .int .i64 0, .int .i64 0, .slice none 0 0, .slice none 0 0, .slice none 0 0, .int .i64 0, .int .i64 0, .int .i64 0, .slice none 0 0, .int .i64 0, .int .i64 0, .int .i64 0, .int .i64 0, .int .i64 0, .int .i64 0, .int .i64 0, .int .i64 0, .int .i64 0, .int .i64 0, .int .i64 0, .int .i64 0, .int .i64 0, .int .i64 0, .bool false] 75) := ⟨_, rfl⟩
  have B1 := Lib.hid (mw_start P HP.out.hold hW1)
  rw [← hW1]
  clear hW1
  go_wp2_with (first
    | (refine w_load (ldT B1.out.nb.box) rfl rfl rfl rfl ?_)
    | (refine w_load (ld_int B1.out.nb.box (j := 32) rfl) rfl rfl rfl rfl ?_)
    | ((go_at_call 26); (with_reducible refine (CA.out _).mono ?_); rintro e9 w2 ⟨rfl, hb9⟩; have B2 := Lib.hid (B1.out.next hb9); clear hb9)
    | (refine w_load (ldN B2.out.nb.box) rfl rfl rfl rfl ?_)
    | (refine w_load (ld_int B2.out.nb.box (j := 33) rfl) rfl rfl rfl rfl ?_)
    | (refine w_load (ld_int B2.out.nb.box (j := 34) rfl) rfl rfl rfl rfl ?_)
    | ((go_at_call 164); (with_reducible refine (CF.out _ B2.out).mono ?_); rintro e9 w3 ⟨rfl, hb9⟩; have B3 := Lib.hid (B2.out.next hb9); clear hb9)
    | (refine w_load (ldN B3.out.nb.box) rfl rfl rfl rfl ?_)
    | ((go_at_call 75); (with_reducible refine (fail_any P.n e HP.out.one _).mono ?_); rintro e9 w8 ⟨rfl, hb9⟩; have B8 := Lib.hid (B3.out.next hb9); clear hb9)
    | (refine m_fin B8.out (B8.out.hold.ends e 0) (aw_ends B8.out.aw e 0) rfl rfl rfl rfl rfl ?_; intro W9 h9; have B9 := Lib.hid h9; clear h9))
  exact so_fin (P := endS P e 0) B9 (Eqv.refl _) ((Inh.refl _ _).ends _ _) rfl rfl rfl
set_option maxHeartbeats 1000000 in
theorem load_yes (h : Pre w P) (k : Nat) (hk : k < 4) (ha : P.n.p.a = (k : Int)) (A x v c : Int) (q : Bool) (he : flE P.n.s P.d P.n.t P.n.p.b P.n.p.c = 0) (hA : flA P.n.s P.d P.n.t P.n.p.b P.n.p.c = A) (hX : flX P.n.s P.d P.n.t P.n.p.b P.n.p.c = x) (hv : wd P.d x = v) (hq : (v != 0) = q) (hc : (if q = true then (1 : Int) else 0) = c) : Calls Tryz.prog 117 #[.agg (nv P.n).toArray] w (SOut w P.n (endS ⟨atT P.n (tr P.n.t (Ls.upd P.n.t.r k v)), P.d, P.xs, P.F, P.g⟩ 0 c)) := by
  have HP := Lib.hid h
  have CA := Lib.hid (fun W => get_any P.n.t P.n.p.a W)
  have CF := Lib.hid (fun W (hL : Mw w W P.n noN P.d P.xs P.F P.g) => field_any P.n P.d W P.n.p.b P.n.p.c hL.hold.h (hL.over h.sz) h.fine)
  have CP := Lib.hid (fun W (hL : Mw w W P.n noN P.d P.xs P.F P.g) => put_k P.n.t P.F P.g k hk (v) W hL.hold.t (fun j hj => by have := h.u j hj; omega) h.o)
  have hfl := fl_at he
  have h1 := hfl.2.2.1
  have h2 := hfl.2.2.2.1
  have hm := hfl.2.2.2.2
  rw [hX] at h1 h2
  have CW := Lib.hid (fun W (hL : Mw w W P.n noN P.d P.xs P.F P.g) => Ar.get_ok W.heap.size P.n.s.w.a P.n.s.w.n P.n.s.w.c P.d.ws x W hm (by omega) h2 hL.hold.h.words)
  rw [show P.d.ws.getD (x - 16).toNat 0 = v from hv] at CW
  have C1 := Lib.hid (fun W => one_any q W)
  have A9 := Lib.hid ha
  rw [← A9.out] at CP
  rw [show getE P.n.p.a = 0 from if_pos (by rw [ha]; exact inReg_nat hk)] at CA
  rw [he, hA, hX] at CF
  rw [hc] at C1
  clear ha he hA hX hv hc hfl h1 h2 hm
  clear h
  go_enter Tryz.func117, Tryz.ntmps117
  go_upto_region 1 with fail
  obtain ⟨W1, hW1⟩ : ∃ W1, W1 = (w.alloc (.cells (nv P.n).toArray 75)).alloc (.cells #[.slice none 0 0, .slice none 0 0, .slice none 0 0, .slice none 0 0, .slice none 0 0, .slice none 0 0, .int .i64 0, .int .i64 0, .bool false, .slice none 0 0, .bool false, .int .i64 0, .int .i64 0, .int .i64 0, .int .i64 0, .bool false, .bool false, .int .i64 0, .int .i64 0, .int .i64 0, .int .i64 0, .slice none 0 0, .slice none 0 0, .slice none 0 0, .int .i64 0, .int .i64 0, .int .i64 0, .slice none 0 0, .int .i64 0, .int .i64 0, .int .i64 0, .int .i64 0, .int .i64 0, .int .i64 0, .int .i64 0, .int .i64 0, .int .i64 0, .int .i64 0, .int .i64 0, .int .i64 0, .int .i64 0, .int .i64 0, .bool false] 75) := ⟨_, rfl⟩
  have B1 := Lib.hid (mw_start P HP.out.hold hW1)
  rw [← hW1]
  clear hW1
  go_upto_region 9 with (first
    | (refine w_load (ldT B1.out.nb.box) rfl rfl rfl rfl ?_)
    | (refine w_load (ld_int B1.out.nb.box (j := 32) rfl) rfl rfl rfl rfl ?_)
    | ((go_at_call 26); (with_reducible refine (CA.out _).mono ?_); rintro e9 w2 ⟨rfl, hb9⟩; have B2 := Lib.hid (B1.out.next hb9); clear hb9)
    | (refine w_load (ldN B2.out.nb.box) rfl rfl rfl rfl ?_)
    | (refine w_load (ld_int B2.out.nb.box (j := 33) rfl) rfl rfl rfl rfl ?_)
    | (refine w_load (ld_int B2.out.nb.box (j := 34) rfl) rfl rfl rfl rfl ?_)
    | ((go_at_call 164); (with_reducible refine (CF.out _ B2.out).mono ?_); rintro e9 w3 ⟨rfl, hb9⟩; have B3 := Lib.hid (B2.out.next hb9); clear hb9)
    | (refine w_load (ld_ints B3.out.nb.box (j := 0) (x := P.n.s.w) rfl) rfl rfl rfl rfl ?_)
    | ((go_at_call 60); (with_reducible refine (CW.out _ B3.out).mono ?_); rintro e9 w9 ⟨rfl, rfl⟩)
    | (refine w_load (ldT B3.out.nb.box) rfl rfl rfl rfl ?_)
    | (refine w_load (ld_int B3.out.nb.box (j := 32) rfl) rfl rfl rfl rfl ?_)
    | ((go_at_call 165); (with_reducible refine (CP.out _ B3.out).mono ?_); rintro e9 w4 ⟨u, o, hon, rfl, hth, hx1, hx2, hb9⟩; have B4 := Lib.hid (B3.out.next hb9); have T2 := Lib.hid (And.intro hon (And.intro hth (And.intro hx1 hx2))); have Z2 := Lib.hid B3.out.sz; clear hon hth hx1 hx2; clear hb9)
    | (refine m_one (n' := (atT P.n (tw (tr P.n.t (Ls.upd P.n.t.r k v)) u o))) (d' := P.d) (xs' := P.xs) (F' := P.F) (g' := P.g) B4.out (stT B4.out.nb.box (tw (tr P.n.t (Ls.upd P.n.t.r k v)) u o)) (bxT B4.out.nb.box (tw (tr P.n.t (Ls.upd P.n.t.r k v)) u o)) ⟨B4.out.hold.h, B4.out.hold.c, T2.out.2.1⟩ ⟨B4.out.aw.h, B4.out.aw.k, awt_new Z2.out T2.out.2.2.1 T2.out.2.2.2⟩ rfl rfl rfl rfl rfl ?_; intro W5 h5; have B5 := Lib.hid h5; clear h5))
  have HO : Hid (1 ≤ (atT P.n (tw (tr P.n.t (Ls.upd P.n.t.r k v)) u o)).t.o.n) := Lib.hid (by show 1 ≤ o.n; have h1 := T2.out.1; have h2 := HP.out.one; have h3 : (tr P.n.t (Ls.upd P.n.t.r k v)).o.n = P.n.t.o.n := rfl; omega)
  have KE := B5
  refine Sh.region_gen fun a0 ha0 => ?_
  have G1 : a0.tmps[1]? = some (.pointer (some ⟨w.heap.size, 0, none⟩)) := by rw [ha0]; rfl
  have G2 : a0.tmps[2]? = some (.pointer (some ⟨w.heap.size + 1, 0, none⟩)) := by rw [ha0]; rfl
  have G8 : a0.tmps[8]? = some (.int .i64 v) := by rw [ha0]; rfl
  have TD : a0.defers = [] := congrArg Act.defers ha0
  have TZ : a0.tmps.size = 65 := by rw [ha0]; rfl
  clear ha0
  refine region_plan (by kernel_rfl) (by kernel_rfl) (by rw [TZ]; kernel_rfl) (fun (_ : Unit) (i : Nat) => (match i with | 0 => Value.agg (nv (atT P.n (tw (tr P.n.t (Ls.upd P.n.t.r k v)) u o))).toArray | 1 => Value.int .i64 v | 2 => Value.bool q | 3 => Value.int .i64 c | 4 => Value.agg (nv (endN (atT P.n (tw (tr P.n.t (Ls.upd P.n.t.r k v)) u o)) 0 c)).toArray | _ => undef : Value)) (fun _ l W => Box W w.heap.size (nv (atT P.n (tw (tr P.n.t (Ls.upd P.n.t.r k v)) u o))) ∧ (l 4 = false → Mw w W (atT P.n (tw (tr P.n.t (Ls.upd P.n.t.r k v)) u o)) noN P.d P.xs P.F P.g) ∧ (l 4 = true → l 5 = false → Mw w W (atT P.n (tw (tr P.n.t (Ls.upd P.n.t.r k v)) u o)) noN P.d P.xs P.F P.g) ∧ (l 5 = true → l 4 = true ∧ Nb w W (atT P.n (tw (tr P.n.t (Ls.upd P.n.t.r k v)) u o)) (endN (atT P.n (tw (tr P.n.t (Ls.upd P.n.t.r k v)) u o)) 0 c) ∧ Hold W ⟨(endN (atT P.n (tw (tr P.n.t (Ls.upd P.n.t.r k v)) u o)) 0 c), P.d, P.xs, P.F, gS P.g⟩)) () ?start ?step ?done
  case start =>
    have K9 := KE.out.next (W' := World.drew _) ⟨rfl, rfl, rfl, Nat.le_refl _, fun _ _ => rfl⟩
    exact ⟨K9.nb.box, fun _ => K9, (fun h => by cases h), (fun h => by cases h)⟩
  case step =>
    rintro i o9 l a9 _ W9 ho hP hI hl haft K hK
    have hi : i < 6 := (Array.getElem?_eq_some_iff.1 ho).1
    rcases (show i = 0 ∨ i = 1 ∨ i = 2 ∨ i = 3 ∨ i = 4 ∨ i = 5 by omega) with rfl | rfl | rfl | rfl | rfl | rfl
    · obtain rfl := Option.some.inj ho
      have q1 := (hP.keep (j := 1) (by kernel_rfl)).trans G1
      refine p_load rfl (ev q1) (ldN hI.1) ?_
      exact hK () _ (fun _ _ => rfl) ⟨hI.1, fun h => hI.2.1 (by rwa [Ls.upd_other _ _ (by decide)] at h), fun h h' => hI.2.2.1 (by rwa [Ls.upd_other _ _ (by decide)] at h) (by rwa [Ls.upd_other _ _ (by decide)] at h'), fun h => by rw [Ls.upd_other _ _ (by decide)] at h; exact ⟨by rw [Ls.upd_other _ _ (by decide)]; exact (hI.2.2.2 h).1, (hI.2.2.2 h).2⟩⟩
    · obtain rfl := Option.some.inj ho
      have q8 := (hP.keep (j := 8) (by kernel_rfl)).trans G8
      go_simp
      exact hK () _ (fun _ _ => rfl) ⟨hI.1, fun h => hI.2.1 (by rwa [Ls.upd_other _ _ (by decide)] at h), fun h h' => hI.2.2.1 (by rwa [Ls.upd_other _ _ (by decide)] at h) (by rwa [Ls.upd_other _ _ (by decide)] at h'), fun h => by rw [Ls.upd_other _ _ (by decide)] at h; exact ⟨by rw [Ls.upd_other _ _ (by decide)]; exact (hI.2.2.2 h).1, (hI.2.2.2 h).2⟩⟩
    · obtain rfl := Option.some.inj ho
      have e1 := hP.got 1 _ 61 rfl (haft ⟨1, .data⟩ (by simp) rfl) rfl
      try dsimp only at e1
      go_simp
      exact hK () _ (fun _ _ => rfl) ⟨hI.1, fun h => hI.2.1 (by rwa [Ls.upd_other _ _ (by decide)] at h), fun h h' => hI.2.2.1 (by rwa [Ls.upd_other _ _ (by decide)] at h) (by rwa [Ls.upd_other _ _ (by decide)] at h'), fun h => by rw [Ls.upd_other _ _ (by decide)] at h; exact ⟨by rw [Ls.upd_other _ _ (by decide)]; exact (hI.2.2.2 h).1, (hI.2.2.2 h).2⟩⟩
    · obtain rfl := Option.some.inj ho
      have e2 := hP.got 2 _ 62 rfl (haft ⟨2, .data⟩ (by simp) rfl) rfl
      try dsimp only at e2
      go_simp
      refine (C1.out _).mono ?_
      rintro e9 w9 ⟨rfl, rfl⟩
      exact hK () _ (fun _ _ => rfl) ⟨hI.1, fun h => hI.2.1 (by rwa [Ls.upd_other _ _ (by decide)] at h), fun h h' => hI.2.2.1 (by rwa [Ls.upd_other _ _ (by decide)] at h) (by rwa [Ls.upd_other _ _ (by decide)] at h'), fun h => by rw [Ls.upd_other _ _ (by decide)] at h; exact ⟨by rw [Ls.upd_other _ _ (by decide)]; exact (hI.2.2.2 h).1, (hI.2.2.2 h).2⟩⟩
    · obtain rfl := Option.some.inj ho
      have e0 := hP.got 0 _ 60 rfl (haft ⟨0, .data⟩ (by simp) rfl) rfl
      try dsimp only at e0
      have e3 := hP.got 3 _ 63 rfl (haft ⟨3, .data⟩ (by simp) rfl) rfl
      try dsimp only at e3
      go_simp
      refine (end_any (atT P.n (tw (tr P.n.t (Ls.upd P.n.t.r k v)) u o)) c HO.out _).mono ?_
      rintro e9 w9 ⟨rfl, hb9⟩
      have K9 := (hI.2.1 hl).next hb9
      exact hK () _ (fun _ _ => rfl) ⟨K9.nb.box, (fun h => by rw [Ls.upd_same] at h; cases h), fun _ _ => K9, (fun h => by rw [Ls.upd_other _ _ (by decide)] at h; have := (hI.2.2.2 h).1; rw [hl] at this; cases this)⟩
    · obtain rfl := Option.some.inj ho
      have q2 := (hP.keep (j := 2) (by kernel_rfl)).trans G2
      have e4 := hP.got 4 _ 64 rfl (haft ⟨4, .data⟩ (by simp) rfl) rfl
      try dsimp only at e4
      have h5 := haft ⟨4, .data⟩ (by simp) rfl
      have K9 := hI.2.2.1 h5 hl
      refine p_store rfl (ev q2) (ev e4) (stN K9.nb.res) ?_
      have hN := K9.nb.ends (m' := (endN (atT P.n (tw (tr P.n.t (Ls.upd P.n.t.r k v)) u o)) 0 c)) rfl
      exact hK () _ (fun _ _ => rfl) ⟨hN.box, (fun h => by rw [Ls.upd_other _ _ (by decide)] at h; rw [h5] at h; cases h), (fun _ h => by rw [Ls.upd_same] at h; cases h), fun _ => ⟨by rw [Ls.upd_other _ _ (by decide)]; exact h5, hN, hold_keep (b := w.heap.size) (K9.hold.ends 0 c) (aw_ends K9.aw 0 c) (fun _ _ hk => puts_other _ _ _ _ hk) (puts_size _ _ _ _)⟩⟩
  case done =>
    rintro l a9 _ W9 hP hI hall
    have h9 := hI.2.2.2 (hall 5 (by decide))
    have t2 := (hP.keep (j := 2) (by kernel_rfl)).trans G2
    have td := hP.df.trans TD
    have B9 := Lib.hid h9.2
    clear hP hI hall h9
    go_wp2
    exact so_fin (P := endS ⟨atT P.n (tr P.n.t (Ls.upd P.n.t.r k v)), P.d, P.xs, P.F, P.g⟩ 0 c) B9 (eqv_put (T := tr P.n.t (Ls.upd P.n.t.r k v)) T2.out.1 0 c) (Inh.ends (put_inh Z2.out T2.out.2.2.1 T2.out.2.2.2) 0 c) rfl td t2
theorem load_any (h : Pre w P) : Calls Tryz.prog 117 #[.agg (nv P.n).toArray] w (SOut w P.n (loadS P)) := by
  unfold loadS
  cases ha : inReg P.n.p.a with
  | false => rw [if_neg (by decide)]; exact load_no P w h ha
  | true =>
    rw [if_pos rfl]
    split
    · next h0 =>
      obtain ⟨k, hk, e⟩ := inReg_yes ha
      rw [putS, e, putT_at hk]
      refine load_yes P w h k hk e _ _ _ _ _ h0 rfl rfl rfl rfl ?_
      by_cases h1 : wd P.d (flX P.n.s P.d P.n.t P.n.p.b P.n.p.c) = 0
      · rw [if_pos h1, h1]; rfl
      · rw [if_neg h1, if_pos (by simpa using h1)]
    · next h0 => exact load_bad P w h ha _ rfl h0
end
end Go.Proofs.YtfjhhfncapmnmaaGreatDoor.Mu
