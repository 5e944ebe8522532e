/-
  Merged texts: HaBegL, HaRoot, HaAns, RtSame, ShGrey, ShListed, PgSame, HpSame, ShLaw, HaLaw.
-/
import Derived.Test.YtgmkomnoiffapaaGreatDoorBHaBegin
import Derived.Test.YtgmkomnoiffapaaGreatDoorHpBH
import Derived.Test.YtgmkomnoiffapaaGreatDoorHpBG
import Derived.Test.YtgmkomnoiffapaaGreatDoorHpBI
import Derived.Test.YtgmkomnoiffapaaGreatDoorBRtRef
import Derived.Deep.QuietTactic
import Derived.BigQuiet
import Derived.Test.YtgmkomnoiffapaaGreatDoorHpBE
import Derived.Test.YtgmkomnoiffapaaGreatDoorHpBB
import Derived.Test.YtgmkomnoiffapaaGreatDoorHpBC
section
namespace Go.Proofs.YtgmkomnoiffapaaGreatDoor.Ha
open Go.Proofs.YtgmkomnoiffapaaGreatDoor Go.Proofs.YtgmkomnoiffapaaGreatDoor.Rt
open Go.RowKit
set_option maxRecDepth 100000

structure BegF (t m : Ts) (z e s : Int) : Prop where
  lv : m.lv = true
  o : m.o.n = t.o.n
  r0 : m.r 0 = z
  r1 : m.r 1 = 0
  r2 : m.r 2 = 0
  r3 : m.r 3 = 0
  ep : m.ep = e
  sg : m.sg = s
  rt : m.rt = 0
  pc : m.pc = 0
  x : m.x = 0
  y : m.y = 0
def BfOut (w : World) (t : Ts) (z e s : Int) (en : Ending) (w' : World) : Prop := ∃ m : Ts, en = .returned (.agg #[.bool m.lv, .int .i64 (m.r 0), .int .i64 (m.r 1), .int .i64 (m.r 2), .int .i64 (m.r 3), .slice (m.u 0).a (m.u 0).n (m.u 0).c, .slice (m.u 1).a (m.u 1).n (m.u 1).c, .slice (m.u 2).a (m.u 2).n (m.u 2).c, .int .i64 m.ep, .int .i64 m.sg, .int .i64 m.rt, .slice m.o.a m.o.n m.o.c, .int .i64 m.pc, .int .i64 m.x, .int .i64 m.y]) ∧ BegF t m z e s ∧ Below w.heap.size w w'
section
variable {w w' : World} {k : Sh.Ks} {T : Tl} {t m t' : Ts} {F : Nat → List Int} {g : Nat → O4} {en : Ending} {z e s ph ep : Int}
theorem bt_f {u : Nat → Ls.Sl} {v : Ls.Sl} (hv : v.n = t.o.n) : BegF t (bt (tw t u v) true (reg0 z) e s 0 0 0 0) z e s := ⟨rfl, hv, rfl, rfl, rfl, rfl, rfl, rfl, rfl, rfl, rfl, rfl⟩
theorem beg_some (i : Nat) (hi : idxT lvB T = (i : Int)) (h : BgOut w k T t F g en w') : BfOut w t ((T.g i).r 0) (T.g i).ep (T.g i).sg en w' := by
  obtain ⟨u, v, hv, he, _, hb⟩ := h
  have e9 : begT k T (tw t u v) = bt (tw t u v) true (reg0 ((T.g i).r 0)) (T.g i).ep (T.g i).sg 0 0 0 0 := by unfold begT; rw [hi, if_pos (by omega)]; rfl
  rw [e9] at he
  exact ⟨_, he, bt_f hv, hb⟩
theorem beg_none (hi : idxT lvB T = -1) (h : BgOut w k T t F g en w') : BfOut w t 0 (aloneE k.ph k.ep) (aloneS k.ph) en w' := by
  obtain ⟨u, v, hv, he, _, hb⟩ := h
  have e9 : begT k T (tw t u v) = bt (tw t u v) true (reg0 0) (aloneE k.ph k.ep) (aloneS k.ph) 0 0 0 0 := by unfold begT; rw [hi, if_neg (by decide)]
  rw [e9] at he
  exact ⟨_, he, bt_f hv, hb⟩
theorem beg_holds (h : BegF t m z e s) : (holdL m).length ≤ 1 := by
  unfold holdL six
  rw [h.r0, h.r1, h.r2, h.r3, h.x, h.y]
  by_cases hz : z = 0
  · simp [hz]
  · simp [hz]
theorem beg_nil (h : BegF t m 0 e s) : (holdL m).length = 0 := by
  unfold holdL six
  rw [h.r0, h.r1, h.r2, h.r3, h.x, h.y]
  simp
theorem holds_few (h : BegF t m z e s) (W : World) : Calls Tryz.prog 40 #[(.agg #[.bool m.lv, .int .i64 (m.r 0), .int .i64 (m.r 1), .int .i64 (m.r 2), .int .i64 (m.r 3), .slice (m.u 0).a (m.u 0).n (m.u 0).c, .slice (m.u 1).a (m.u 1).n (m.u 1).c, .slice (m.u 2).a (m.u 2).n (m.u 2).c, .int .i64 m.ep, .int .i64 m.sg, .int .i64 m.rt, .slice m.o.a m.o.n m.o.c, .int .i64 m.pc, .int .i64 m.x, .int .i64 m.y])] W fun e w' => ∃ (a : Option Addr) (n c : Nat), n ≤ 1 ∧ e = .returned (.slice a n c) ∧ Below W.heap.size W w' :=
  (holds_any m W).mono fun _ _ ⟨s, he, ho, hb⟩ => ⟨s.a, s.n, s.c, by have := Ls.Alling.len ⟨ho, hb⟩; have := beg_holds h; omega, he, hb⟩
theorem holds_nil (h : BegF t m 0 e s) (W : World) : Calls Tryz.prog 40 #[(.agg #[.bool m.lv, .int .i64 (m.r 0), .int .i64 (m.r 1), .int .i64 (m.r 2), .int .i64 (m.r 3), .slice (m.u 0).a (m.u 0).n (m.u 0).c, .slice (m.u 1).a (m.u 1).n (m.u 1).c, .slice (m.u 2).a (m.u 2).n (m.u 2).c, .int .i64 m.ep, .int .i64 m.sg, .int .i64 m.rt, .slice m.o.a m.o.n m.o.c, .int .i64 m.pc, .int .i64 m.x, .int .i64 m.y])] W fun e w' => ∃ (a : Option Addr) (c : Nat), e = .returned (.slice a 0 c) ∧ Below W.heap.size W w' :=
  (holds_any m W).mono fun _ _ ⟨s, he, ho, hb⟩ => ⟨s.a, s.c, by rw [he, show s.n = 0 by have := Ls.Alling.len ⟨ho, hb⟩; have := beg_nil h; omega], hb⟩
theorem beg_open (h : BegF t m z t'.ep t'.sg) (hl : t'.lv = true) : openB ph ep m = openB ph ep t' := by
  unfold openB ansB
  rw [h.lv, hl, h.ep, h.sg]
theorem beg_black (h : BegF t m z t'.ep t'.sg) : blackB ph ep m = blackB ph ep t' := by
  unfold blackB
  rw [h.ep, h.sg]
theorem alone_ans (h : BegF t m z (aloneE ph ep) (aloneS ph)) : ansB ph ep m = true := by
  unfold ansB
  rw [h.ep, h.sg]
  unfold aloneE aloneS
  by_cases h0 : ph = 0
  · simp [h0]
  · by_cases h1 : ph = 1
    · simp [h1]
    · by_cases h2 : ph = 2
      · simp [h2]
      · simp [h0, h1, h2]
theorem alone_open (h : BegF t m z (aloneE ph ep) (aloneS ph)) : openB ph ep m = false := by
  unfold openB
  rw [alone_ans h, h.lv]
  rfl
theorem alone_ask (h : BegF t m z (aloneE ph ep) (aloneS ph)) : askB ph ep m = false := by
  unfold askB
  rw [alone_ans h]
  simp
theorem alone_black (h : BegF t m z (aloneE ph ep) (aloneS ph)) (hp : ph = 3 ∨ ph = 5) : blackB ph ep m = true ∧ armB ph ep m = true := by
  unfold blackB armB
  rw [h.ep, h.sg]
  unfold aloneE aloneS
  rcases hp with rfl | rfl <;> simp
theorem all_m {A : Bool} (h : openB k.ph k.ep m = A) (x : Nat) (W : World) (hr : TRow W W.heap.size (some ⟨x, 0, none⟩) 1 (fun _ => m)) : Calls Tryz.prog 35 #[(.agg #[.int .i64 k.ph, .int .i64 k.ep, .bool k.mj, .slice k.wk.a k.wk.n k.wk.c, .bool k.ov, .int .i64 k.pa, .int .i64 k.pf, .int .i64 k.ps, .int .i64 k.pc, .bool k.me]), .slice (some ⟨x, 0, none⟩) 1 1] W fun e w' => e = .returned (.bool (!A)) ∧ Below W.heap.size W w' :=
  (all_any k ⟨⟨some ⟨x, 0, none⟩, 1, 1⟩, fun _ => m⟩ W hr (show 1 ≤ 1000000 by decide)).mono fun _ _ h9 => ⟨by rw [h9.1, all_one _ _ _ _ rfl, h], h9.2⟩
theorem black_m {D : Bool} (h : blackB k.ph k.ep m = D) (W : World) : Calls Tryz.prog 22 #[(.agg #[.int .i64 k.ph, .int .i64 k.ep, .bool k.mj, .slice k.wk.a k.wk.n k.wk.c, .bool k.ov, .int .i64 k.pa, .int .i64 k.pf, .int .i64 k.ps, .int .i64 k.pc, .bool k.me]), (.agg #[.bool m.lv, .int .i64 (m.r 0), .int .i64 (m.r 1), .int .i64 (m.r 2), .int .i64 (m.r 3), .slice (m.u 0).a (m.u 0).n (m.u 0).c, .slice (m.u 1).a (m.u 1).n (m.u 1).c, .slice (m.u 2).a (m.u 2).n (m.u 2).c, .int .i64 m.ep, .int .i64 m.sg, .int .i64 m.rt, .slice m.o.a m.o.n m.o.c, .int .i64 m.pc, .int .i64 m.x, .int .i64 m.y])] W fun e w' => e = .returned (.bool D) ∧ Below W.heap.size W w' := by
  subst h
  exact pblack_any k m W
/-- The region that looks at the first one that lives. -/
structure O2 (w : World) (k : Sh.Ks) (t m : Ts) (T : Tl) (b9 i0 : Nat) (x : Nat × Nat) (l : Nat → Bool) (W : World) : Prop where
  lb : Lb w W ((b9, tv m) :: [(w.heap.size + 1, tv t), (w.heap.size, Mu.kv k)]) [] [T]
  r1 : l 13 = true → TRow W W.heap.size (some ⟨x.1, 0, none⟩) 1 (fun _ => m)
  r2 : l 20 = true → TRow W W.heap.size (some ⟨x.2, 0, none⟩) 1 (fun _ => T.g i0)
section
variable {W W' : World} {b9 i0 i : Nat} {x : Nat × Nat} {l : Nat → Bool}
theorem o2_start (h : Lb w W ((b9, tv m) :: [(w.heap.size + 1, tv t), (w.heap.size, Mu.kv k)]) [] [T]) : O2 w k t m T b9 i0 x (fun _ => false) W := ⟨h, fun e => (by cases e), fun e => (by cases e)⟩
theorem O2.pure (h : O2 w k t m T b9 i0 x l W) (hi : ¬ i = 13 ∧ ¬ i = 20) : O2 w k t m T b9 i0 x (Ls.upd l i true) W := ⟨h.lb, by rw [Ls.upd_other _ _ (fun e => hi.1 e.symm)]; exact h.r1, by rw [Ls.upd_other _ _ (fun e => hi.2 e.symm)]; exact h.r2⟩
theorem O2.next (h : O2 w k t m T b9 i0 x l W) (hb : Below W.heap.size W W') : O2 w k t m T b9 i0 x l W' := ⟨h.lb.next hb, fun e => (h.r1 e).next hb, fun e => (h.r2 e).next hb⟩
theorem O2.lay1 (h : O2 w k t m T b9 i0 x l W) (ty : TypeId) : O2 w k t m T b9 i0 ⟨W.heap.size, x.2⟩ (Ls.upd l 13 true) (W.alloc (.cells #[.bool m.lv, .int .i64 (m.r 0), .int .i64 (m.r 1), .int .i64 (m.r 2), .int .i64 (m.r 3), .slice (m.u 0).a (m.u 0).n (m.u 0).c, .slice (m.u 1).a (m.u 1).n (m.u 1).c, .slice (m.u 2).a (m.u 2).n (m.u 2).c, .int .i64 m.ep, .int .i64 m.sg, .int .i64 m.rt, .slice m.o.a m.o.n m.o.c, .int .i64 m.pc, .int .i64 m.x, .int .i64 m.y] ty)) := by
  have n := h.next ((Below.refl _ _).alloc (Nat.le_refl _) (.cells #[.bool m.lv, .int .i64 (m.r 0), .int .i64 (m.r 1), .int .i64 (m.r 2), .int .i64 (m.r 3), .slice (m.u 0).a (m.u 0).n (m.u 0).c, .slice (m.u 1).a (m.u 1).n (m.u 1).c, .slice (m.u 2).a (m.u 2).n (m.u 2).c, .int .i64 m.ep, .int .i64 m.sg, .int .i64 m.rt, .slice m.o.a m.o.n m.o.c, .int .i64 m.pc, .int .i64 m.x, .int .i64 m.y] ty))
  exact ⟨n.lb, fun _ => one_row (Box.new W (tv m) ty) (by rw [World.size_alloc]; omega), fun e => n.r2 (by rwa [Ls.upd_other _ _ (by decide)] at e)⟩
theorem O2.lay2 (h : O2 w k t m T b9 i0 x l W) (ty : TypeId) : O2 w k t m T b9 i0 ⟨x.1, W.heap.size⟩ (Ls.upd l 20 true) (W.alloc (.cells #[.bool (T.g i0).lv, .int .i64 ((T.g i0).r 0), .int .i64 ((T.g i0).r 1), .int .i64 ((T.g i0).r 2), .int .i64 ((T.g i0).r 3), .slice ((T.g i0).u 0).a ((T.g i0).u 0).n ((T.g i0).u 0).c, .slice ((T.g i0).u 1).a ((T.g i0).u 1).n ((T.g i0).u 1).c, .slice ((T.g i0).u 2).a ((T.g i0).u 2).n ((T.g i0).u 2).c, .int .i64 (T.g i0).ep, .int .i64 (T.g i0).sg, .int .i64 (T.g i0).rt, .slice (T.g i0).o.a (T.g i0).o.n (T.g i0).o.c, .int .i64 (T.g i0).pc, .int .i64 (T.g i0).x, .int .i64 (T.g i0).y] ty)) := by
  have n := h.next ((Below.refl _ _).alloc (Nat.le_refl _) (.cells #[.bool (T.g i0).lv, .int .i64 ((T.g i0).r 0), .int .i64 ((T.g i0).r 1), .int .i64 ((T.g i0).r 2), .int .i64 ((T.g i0).r 3), .slice ((T.g i0).u 0).a ((T.g i0).u 0).n ((T.g i0).u 0).c, .slice ((T.g i0).u 1).a ((T.g i0).u 1).n ((T.g i0).u 1).c, .slice ((T.g i0).u 2).a ((T.g i0).u 2).n ((T.g i0).u 2).c, .int .i64 (T.g i0).ep, .int .i64 (T.g i0).sg, .int .i64 (T.g i0).rt, .slice (T.g i0).o.a (T.g i0).o.n (T.g i0).o.c, .int .i64 (T.g i0).pc, .int .i64 (T.g i0).x, .int .i64 (T.g i0).y] ty))
  exact ⟨n.lb, fun e => n.r1 (by rwa [Ls.upd_other _ _ (by decide)] at e), fun _ => one_row (Box.new W (tv (T.g i0)) ty) (by rw [World.size_alloc]; omega)⟩
end
theorem few_small (h : fewT t = true) : (∀ j, j < 3 → (t.u j).n ≤ 2000000) ∧ t.o.n ≤ 100000 := by
  unfold fewT at h
  simp only [Bool.and_eq_true, decide_eq_true_eq] at h
  obtain ⟨h0, h1, h2, h3⟩ := h
  exact ⟨fun j hj => match j, hj with
    | 0, _ => by omega
    | 1, _ => by omega
    | 2, _ => by omega, by omega⟩
end
end Go.Proofs.YtgmkomnoiffapaaGreatDoor.Ha
end
section
namespace Go.Proofs.YtgmkomnoiffapaaGreatDoor.Ha
open Go.Proofs.YtgmkomnoiffapaaGreatDoor Go.Proofs.YtgmkomnoiffapaaGreatDoor.Rt
open Go.RowKit
open Go.Proofs.YtgmkomnoiffapaaGreatDoor.Mu (hv kv w_load w_store w_loadg ldHb ldKb ldTb stHb stKb stTb st_int ld_int p_load p_store ev region_plan noHs0 noK0)
set_option maxRecDepth 100000

set_option maxHeartbeats 1000000 in
theorem root_next (n : Q3) (w : World) (h : Pre w n) (hm : mayT n.t = true) (hr : ¬ n.t.rt = 3) : Calls Tryz.prog 64 #[(.agg #[.slice n.s.w.a n.s.w.n n.s.w.c, .slice n.s.p.a n.s.p.n n.s.p.c, .slice (n.s.u 0).a (n.s.u 0).n (n.s.u 0).c, .slice (n.s.u 1).a (n.s.u 1).n (n.s.u 1).c, .slice (n.s.u 2).a (n.s.u 2).n (n.s.u 2).c, .slice n.s.c.a n.s.c.n n.s.c.c]), (.agg #[.int .i64 n.k.ph, .int .i64 n.k.ep, .bool n.k.mj, .slice n.k.wk.a n.k.wk.n n.k.wk.c, .bool n.k.ov, .int .i64 n.k.pa, .int .i64 n.k.pf, .int .i64 n.k.ps, .int .i64 n.k.pc, .bool n.k.me]), (.agg #[.bool n.t.lv, .int .i64 (n.t.r 0), .int .i64 (n.t.r 1), .int .i64 (n.t.r 2), .int .i64 (n.t.r 3), .slice (n.t.u 0).a (n.t.u 0).n (n.t.u 0).c, .slice (n.t.u 1).a (n.t.u 1).n (n.t.u 1).c, .slice (n.t.u 2).a (n.t.u 2).n (n.t.u 2).c, .int .i64 n.t.ep, .int .i64 n.t.sg, .int .i64 n.t.rt, .slice n.t.o.a n.t.o.n n.t.o.c, .int .i64 n.t.pc, .int .i64 n.t.x, .int .i64 n.t.y])] w (RoOut w n) := by
  have HN := Lib.hid h.hold
  have HP := Lib.hid h
  have q := may_parts.1 hm
  have C1 := Lib.hid (fun W => get_any n.t n.t.rt W)
  have hR := Lib.hid (show rootT n.t = te n.t n.t.ep n.t.sg (n.t.rt + 1) from if_neg hr)
  have c0 : IntKind.i64.wrap (n.t.rt + 1) = n.t.rt + 1 := IntWalk.i64_in _ (by omega)
  have c1 : decide (n.t.rt + 1 = 4) = false := decide_eq_false (by omega)
  have c2 : (n.t.rt + 1 == 4) = false := c1
  have C2 := Lib.hid (fun W (hW : Hold W n) (hz : Cl.Sz W) => Sh.shade_any n.s n.d n.k n.xs (getV n.t n.t.rt) W (by have := h.x; omega) hW.h hW.c hz h.fine)
  clear h hm hr q
  go_enter Tryz.func64, Tryz.ntmps64
  go_upto_region 1 with fail
  obtain ⟨W1, hW1⟩ : ∃ W1, W1 = (((((w.alloc (.cells #[.slice n.s.w.a n.s.w.n n.s.w.c, .slice n.s.p.a n.s.p.n n.s.p.c, .slice (n.s.u 0).a (n.s.u 0).n (n.s.u 0).c, .slice (n.s.u 1).a (n.s.u 1).n (n.s.u 1).c, .slice (n.s.u 2).a (n.s.u 2).n (n.s.u 2).c, .slice n.s.c.a n.s.c.n n.s.c.c] 28)).alloc (.cells #[.int .i64 n.k.ph, .int .i64 n.k.ep, .bool n.k.mj, .slice n.k.wk.a n.k.wk.n n.k.wk.c, .bool n.k.ov, .int .i64 n.k.pa, .int .i64 n.k.pf, .int .i64 n.k.ps, .int .i64 n.k.pc, .bool n.k.me] 30)).alloc (.cells #[.bool n.t.lv, .int .i64 (n.t.r 0), .int .i64 (n.t.r 1), .int .i64 (n.t.r 2), .int .i64 (n.t.r 3), .slice (n.t.u 0).a (n.t.u 0).n (n.t.u 0).c, .slice (n.t.u 1).a (n.t.u 1).n (n.t.u 1).c, .slice (n.t.u 2).a (n.t.u 2).n (n.t.u 2).c, .int .i64 n.t.ep, .int .i64 n.t.sg, .int .i64 n.t.rt, .slice n.t.o.a n.t.o.n n.t.o.c, .int .i64 n.t.pc, .int .i64 n.t.x, .int .i64 n.t.y] 34)).alloc (.cells #[.slice none 0 0, .slice none 0 0, .slice none 0 0, .slice none 0 0, .slice none 0 0, .slice none 0 0] 28)).alloc (.cells #[.int .i64 0, .int .i64 0, .bool false, .slice none 0 0, .bool false, .int .i64 0, .int .i64 0, .int .i64 0, .int .i64 0, .bool false] 30)).alloc (.cells #[.bool false, .int .i64 0, .int .i64 0, .int .i64 0, .int .i64 0, .slice none 0 0, .slice none 0 0, .slice none 0 0, .int .i64 0, .int .i64 0, .int .i64 0, .slice none 0 0, .int .i64 0, .int .i64 0, .int .i64 0] 34) := ⟨_, rfl⟩
  have S1 : Hid (W6 w W1 (p6 w.heap.size (w.heap.size + 1) (w.heap.size + 2) (w.heap.size + 3) (w.heap.size + 4) (w.heap.size + 5)) (c6 (hv n.s) (kv n.k) (tv n.t) (hv noHs0) (kv noK0) (tv noT)) [n]) := Lib.hid ((w6_start n hW1).2 HN.out)
  rw [← hW1]
  clear hW1
  have q10 := (show Box _ (w.heap.size + 2) (tv n.t) from S1.out.box 2 (by decide)).cel 10 (.int .i64 n.t.rt) (rfl)
  go_upto_region 2 with (first
    | (refine w_load (ldTb (show Box _ (w.heap.size + 2) (tv n.t) from S1.out.box 2 (by decide))) rfl rfl rfl rfl ?_)
    | ((go_at_call 16); (with_reducible refine (C1.out _).mono ?_); rintro e9 w9 ⟨rfl, hb9⟩; have S2 := Lib.hid (S1.out.next hb9); clear hb9 q10))
  go_upto_region 3 with (first
    | (refine w_load (ldHb (show Box _ (w.heap.size) (hv n.s) from S2.out.box 0 (by decide))) rfl rfl rfl rfl ?_)
    | (refine w_load (ldKb (show Box _ (w.heap.size + 1) (kv n.k) from S2.out.box 1 (by decide))) rfl rfl rfl rfl ?_)
    | ((go_at_call 106); (with_reducible refine (C2.out _ (S2.out.at n (by simp)) (S2.out.over HP.out.sz)).mono ?_); rintro e9 w9 ⟨s', v, rfl, hp9, hl9, hn9, ha9⟩; have S3 := Lib.hid (sh_next S2.out hp9 hn9 ha9); have N3 := Lib.hid (sh_new S2.out hl9 hn9 ha9); clear hp9 hl9 hn9 ha9)
    | (refine w6_putH S3.out 0 (by decide) s' (c' := c6 (hv s') (kv n.k) (tv n.t) (hv noHs0) (kv noK0) (tv noT)) rfl (all6 ⟨rfl, rfl, rfl, rfl, rfl, rfl⟩) rfl rfl rfl rfl rfl ?_; intro W4 h4; have S4 := Lib.hid h4; clear h4 S3)
    | (refine w6_putK S4.out 1 (by decide) (shQ n (getV n.t n.t.rt) s' v).k (c' := c6 (hv s') (kv (shQ n (getV n.t n.t.rt) s' v).k) (tv n.t) (hv noHs0) (kv noK0) (tv noT)) rfl (all6 ⟨rfl, rfl, rfl, rfl, rfl, rfl⟩) rfl rfl rfl rfl rfl ?_; intro W5 h5; have S5 := Lib.hid h5; clear h5 S4))
  have p10 := (show Box _ (w.heap.size + 2) (tv n.t) from S5.out.box 2 (by decide)).cel 10 (.int .i64 n.t.rt) (rfl)
  go_upto_region 4 with (refine w6_int S5.out 2 (by decide) 10 (n.t.rt + 1) (vs := tv (te n.t n.t.ep n.t.sg (n.t.rt + 1))) (c' := c6 (hv s') (kv (shQ n (getV n.t n.t.rt) s' v).k) (tv (te n.t n.t.ep n.t.sg (n.t.rt + 1))) (hv noHs0) (kv noK0) (tv noT)) (show 10 < 15 by decide) rfl (all6 ⟨rfl, rfl, rfl, rfl, rfl, rfl⟩) rfl rfl rfl rfl rfl ?_; intro W6' h6; have S6 := Lib.hid h6; clear h6 S5)
  clear p10
  have p10 := (show Box _ (w.heap.size + 2) (tv (te n.t n.t.ep n.t.sg (n.t.rt + 1))) from S6.out.box 2 (by decide)).cel 10 (.int .i64 (n.t.rt + 1)) (rfl)
  go_upto_region 6 with fail
  clear p10
  have S9 : Hid (W6 w _ (p6 w.heap.size (w.heap.size + 1) (w.heap.size + 2) (w.heap.size + 3) (w.heap.size + 4) (w.heap.size + 5)) (c6 (hv (thQ (shQ n (getV n.t n.t.rt) s' v) (te n.t n.t.ep n.t.sg (n.t.rt + 1))).s) (kv (thQ (shQ n (getV n.t n.t.rt) s' v) (te n.t n.t.ep n.t.sg (n.t.rt + 1))).k) (tv (thQ (shQ n (getV n.t n.t.rt) s' v) (te n.t n.t.ep n.t.sg (n.t.rt + 1))).t) (hv noHs0) (kv noK0) (tv noT)) [(thQ (shQ n (getV n.t n.t.rt) s' v) (te n.t n.t.ep n.t.sg (n.t.rt + 1)))]) := Lib.hid (th_next S6.out (keep_te _ _ _ _))
  clear S6
  have KE := S9
  refine Sh.region_gen fun a0 ha0 => ?_
  have G3 : a0.tmps[3]? = some (.pointer (some ⟨w.heap.size, 0, none⟩)) := by rw [ha0]; rfl
  have G4 : a0.tmps[4]? = some (.pointer (some ⟨w.heap.size + 1, 0, none⟩)) := by rw [ha0]; rfl
  have G5 : a0.tmps[5]? = some (.pointer (some ⟨w.heap.size + 2, 0, none⟩)) := by rw [ha0]; rfl
  have G6 : a0.tmps[6]? = some (.pointer (some ⟨w.heap.size + 3, 0, none⟩)) := by rw [ha0]; rfl
  have G7 : a0.tmps[7]? = some (.pointer (some ⟨w.heap.size + 4, 0, none⟩)) := by rw [ha0]; rfl
  have G8 : a0.tmps[8]? = some (.pointer (some ⟨w.heap.size + 5, 0, none⟩)) := by rw [ha0]; rfl
  have TD : a0.defers = [] := congrArg Act.defers ha0
  have TZ : a0.tmps.size = 37 := by rw [ha0]; rfl
  clear ha0
  refine region_plan (by kernel_rfl) (by kernel_rfl) (by rw [TZ]; kernel_rfl) (fun (_ : Unit) (i : Nat) => (match i with | 0 => (.agg #[.slice (thQ (shQ n (getV n.t n.t.rt) s' v) (te n.t n.t.ep n.t.sg (n.t.rt + 1))).s.w.a (thQ (shQ n (getV n.t n.t.rt) s' v) (te n.t n.t.ep n.t.sg (n.t.rt + 1))).s.w.n (thQ (shQ n (getV n.t n.t.rt) s' v) (te n.t n.t.ep n.t.sg (n.t.rt + 1))).s.w.c, .slice (thQ (shQ n (getV n.t n.t.rt) s' v) (te n.t n.t.ep n.t.sg (n.t.rt + 1))).s.p.a (thQ (shQ n (getV n.t n.t.rt) s' v) (te n.t n.t.ep n.t.sg (n.t.rt + 1))).s.p.n (thQ (shQ n (getV n.t n.t.rt) s' v) (te n.t n.t.ep n.t.sg (n.t.rt + 1))).s.p.c, .slice ((thQ (shQ n (getV n.t n.t.rt) s' v) (te n.t n.t.ep n.t.sg (n.t.rt + 1))).s.u 0).a ((thQ (shQ n (getV n.t n.t.rt) s' v) (te n.t n.t.ep n.t.sg (n.t.rt + 1))).s.u 0).n ((thQ (shQ n (getV n.t n.t.rt) s' v) (te n.t n.t.ep n.t.sg (n.t.rt + 1))).s.u 0).c, .slice ((thQ (shQ n (getV n.t n.t.rt) s' v) (te n.t n.t.ep n.t.sg (n.t.rt + 1))).s.u 1).a ((thQ (shQ n (getV n.t n.t.rt) s' v) (te n.t n.t.ep n.t.sg (n.t.rt + 1))).s.u 1).n ((thQ (shQ n (getV n.t n.t.rt) s' v) (te n.t n.t.ep n.t.sg (n.t.rt + 1))).s.u 1).c, .slice ((thQ (shQ n (getV n.t n.t.rt) s' v) (te n.t n.t.ep n.t.sg (n.t.rt + 1))).s.u 2).a ((thQ (shQ n (getV n.t n.t.rt) s' v) (te n.t n.t.ep n.t.sg (n.t.rt + 1))).s.u 2).n ((thQ (shQ n (getV n.t n.t.rt) s' v) (te n.t n.t.ep n.t.sg (n.t.rt + 1))).s.u 2).c, .slice (thQ (shQ n (getV n.t n.t.rt) s' v) (te n.t n.t.ep n.t.sg (n.t.rt + 1))).s.c.a (thQ (shQ n (getV n.t n.t.rt) s' v) (te n.t n.t.ep n.t.sg (n.t.rt + 1))).s.c.n (thQ (shQ n (getV n.t n.t.rt) s' v) (te n.t n.t.ep n.t.sg (n.t.rt + 1))).s.c.c]) | 1 => (.agg #[.int .i64 (thQ (shQ n (getV n.t n.t.rt) s' v) (te n.t n.t.ep n.t.sg (n.t.rt + 1))).k.ph, .int .i64 (thQ (shQ n (getV n.t n.t.rt) s' v) (te n.t n.t.ep n.t.sg (n.t.rt + 1))).k.ep, .bool (thQ (shQ n (getV n.t n.t.rt) s' v) (te n.t n.t.ep n.t.sg (n.t.rt + 1))).k.mj, .slice (thQ (shQ n (getV n.t n.t.rt) s' v) (te n.t n.t.ep n.t.sg (n.t.rt + 1))).k.wk.a (thQ (shQ n (getV n.t n.t.rt) s' v) (te n.t n.t.ep n.t.sg (n.t.rt + 1))).k.wk.n (thQ (shQ n (getV n.t n.t.rt) s' v) (te n.t n.t.ep n.t.sg (n.t.rt + 1))).k.wk.c, .bool (thQ (shQ n (getV n.t n.t.rt) s' v) (te n.t n.t.ep n.t.sg (n.t.rt + 1))).k.ov, .int .i64 (thQ (shQ n (getV n.t n.t.rt) s' v) (te n.t n.t.ep n.t.sg (n.t.rt + 1))).k.pa, .int .i64 (thQ (shQ n (getV n.t n.t.rt) s' v) (te n.t n.t.ep n.t.sg (n.t.rt + 1))).k.pf, .int .i64 (thQ (shQ n (getV n.t n.t.rt) s' v) (te n.t n.t.ep n.t.sg (n.t.rt + 1))).k.ps, .int .i64 (thQ (shQ n (getV n.t n.t.rt) s' v) (te n.t n.t.ep n.t.sg (n.t.rt + 1))).k.pc, .bool (thQ (shQ n (getV n.t n.t.rt) s' v) (te n.t n.t.ep n.t.sg (n.t.rt + 1))).k.me]) | 2 => (.agg #[.bool ((thQ (shQ n (getV n.t n.t.rt) s' v) (te n.t n.t.ep n.t.sg (n.t.rt + 1))).t).lv, .int .i64 (((thQ (shQ n (getV n.t n.t.rt) s' v) (te n.t n.t.ep n.t.sg (n.t.rt + 1))).t).r 0), .int .i64 (((thQ (shQ n (getV n.t n.t.rt) s' v) (te n.t n.t.ep n.t.sg (n.t.rt + 1))).t).r 1), .int .i64 (((thQ (shQ n (getV n.t n.t.rt) s' v) (te n.t n.t.ep n.t.sg (n.t.rt + 1))).t).r 2), .int .i64 (((thQ (shQ n (getV n.t n.t.rt) s' v) (te n.t n.t.ep n.t.sg (n.t.rt + 1))).t).r 3), .slice (((thQ (shQ n (getV n.t n.t.rt) s' v) (te n.t n.t.ep n.t.sg (n.t.rt + 1))).t).u 0).a (((thQ (shQ n (getV n.t n.t.rt) s' v) (te n.t n.t.ep n.t.sg (n.t.rt + 1))).t).u 0).n (((thQ (shQ n (getV n.t n.t.rt) s' v) (te n.t n.t.ep n.t.sg (n.t.rt + 1))).t).u 0).c, .slice (((thQ (shQ n (getV n.t n.t.rt) s' v) (te n.t n.t.ep n.t.sg (n.t.rt + 1))).t).u 1).a (((thQ (shQ n (getV n.t n.t.rt) s' v) (te n.t n.t.ep n.t.sg (n.t.rt + 1))).t).u 1).n (((thQ (shQ n (getV n.t n.t.rt) s' v) (te n.t n.t.ep n.t.sg (n.t.rt + 1))).t).u 1).c, .slice (((thQ (shQ n (getV n.t n.t.rt) s' v) (te n.t n.t.ep n.t.sg (n.t.rt + 1))).t).u 2).a (((thQ (shQ n (getV n.t n.t.rt) s' v) (te n.t n.t.ep n.t.sg (n.t.rt + 1))).t).u 2).n (((thQ (shQ n (getV n.t n.t.rt) s' v) (te n.t n.t.ep n.t.sg (n.t.rt + 1))).t).u 2).c, .int .i64 ((thQ (shQ n (getV n.t n.t.rt) s' v) (te n.t n.t.ep n.t.sg (n.t.rt + 1))).t).ep, .int .i64 ((thQ (shQ n (getV n.t n.t.rt) s' v) (te n.t n.t.ep n.t.sg (n.t.rt + 1))).t).sg, .int .i64 ((thQ (shQ n (getV n.t n.t.rt) s' v) (te n.t n.t.ep n.t.sg (n.t.rt + 1))).t).rt, .slice ((thQ (shQ n (getV n.t n.t.rt) s' v) (te n.t n.t.ep n.t.sg (n.t.rt + 1))).t).o.a ((thQ (shQ n (getV n.t n.t.rt) s' v) (te n.t n.t.ep n.t.sg (n.t.rt + 1))).t).o.n ((thQ (shQ n (getV n.t n.t.rt) s' v) (te n.t n.t.ep n.t.sg (n.t.rt + 1))).t).o.c, .int .i64 ((thQ (shQ n (getV n.t n.t.rt) s' v) (te n.t n.t.ep n.t.sg (n.t.rt + 1))).t).pc, .int .i64 ((thQ (shQ n (getV n.t n.t.rt) s' v) (te n.t n.t.ep n.t.sg (n.t.rt + 1))).t).x, .int .i64 ((thQ (shQ n (getV n.t n.t.rt) s' v) (te n.t n.t.ep n.t.sg (n.t.rt + 1))).t).y]) | _ => undef : Value)) (fun _ l W => R6 w (p6 w.heap.size (w.heap.size + 1) (w.heap.size + 2) (w.heap.size + 3) (w.heap.size + 4) (w.heap.size + 5)) (thQ (shQ n (getV n.t n.t.rt) s' v) (te n.t n.t.ep n.t.sg (n.t.rt + 1))) l W) () ?start ?step ?done
  case start => exact r6_start (KE.out.next ⟨rfl, rfl, rfl, Nat.le_refl _, fun _ _ => rfl⟩)
  case step =>
    rintro i o9 l a9 _ W9 ho hP hI hl haft K hK
    have hi : i < 6 := (Array.getElem?_eq_some_iff.1 ho).1
    rcases (show i = 0 ∨ i = 1 ∨ i = 2 ∨ i = 3 ∨ i = 4 ∨ i = 5 by omega) with rfl | rfl | rfl | rfl | rfl | rfl
    · obtain rfl := Option.some.inj ho
      have q9 := (hP.keep (j := 3) (by kernel_rfl)).trans G3
      exact p_load rfl (ev q9) (ldHb (show Box W9 (w.heap.size) (hv (thQ (shQ n (getV n.t n.t.rt) s' v) (te n.t n.t.ep n.t.sg (n.t.rt + 1))).s) from hI.st.box 0 (by decide))) (hK () _ (fun _ _ => rfl) (hI.pure (i := 0) (by decide)))
    · obtain rfl := Option.some.inj ho
      have q9 := (hP.keep (j := 4) (by kernel_rfl)).trans G4
      exact p_load rfl (ev q9) (ldKb (show Box W9 (w.heap.size + 1) (kv (thQ (shQ n (getV n.t n.t.rt) s' v) (te n.t n.t.ep n.t.sg (n.t.rt + 1))).k) from hI.st.box 1 (by decide))) (hK () _ (fun _ _ => rfl) (hI.pure (i := 1) (by decide)))
    · obtain rfl := Option.some.inj ho
      have q9 := (hP.keep (j := 5) (by kernel_rfl)).trans G5
      exact p_load rfl (ev q9) (ldTb (show Box W9 (w.heap.size + 2) (tv (thQ (shQ n (getV n.t n.t.rt) s' v) (te n.t n.t.ep n.t.sg (n.t.rt + 1))).t) from hI.st.box 2 (by decide))) (hK () _ (fun _ _ => rfl) (hI.pure (i := 2) (by decide)))
    · obtain rfl := Option.some.inj ho
      have e9 := hP.got 0 _ 34 rfl (haft ⟨0, .data⟩ (by simp) rfl) rfl
      try dsimp only at e9
      have q9 := (hP.keep (j := 6) (by kernel_rfl)).trans G6
      exact p_store rfl (ev q9) (ev e9) (stHb (show Box W9 (w.heap.size + 3) _ from hI.st.box 3 (by decide)) sel_h ((thQ (shQ n (getV n.t n.t.rt) s' v) (te n.t n.t.ep n.t.sg (n.t.rt + 1))).s)) (hK () _ (fun _ _ => rfl) hI.put3)
    · obtain rfl := Option.some.inj ho
      have e9 := hP.got 1 _ 35 rfl (haft ⟨1, .data⟩ (by simp) rfl) rfl
      try dsimp only at e9
      have q9 := (hP.keep (j := 7) (by kernel_rfl)).trans G7
      exact p_store rfl (ev q9) (ev e9) (stKb (show Box W9 (w.heap.size + 4) _ from hI.st.box 4 (by decide)) sel_k ((thQ (shQ n (getV n.t n.t.rt) s' v) (te n.t n.t.ep n.t.sg (n.t.rt + 1))).k)) (hK () _ (fun _ _ => rfl) hI.put4)
    · obtain rfl := Option.some.inj ho
      have e9 := hP.got 2 _ 36 rfl (haft ⟨2, .data⟩ (by simp) rfl) rfl
      try dsimp only at e9
      have q9 := (hP.keep (j := 8) (by kernel_rfl)).trans G8
      exact p_store rfl (ev q9) (ev e9) (stTb (show Box W9 (w.heap.size + 5) _ from hI.st.box 5 (by decide)) sel_t ((thQ (shQ n (getV n.t n.t.rt) s' v) (te n.t n.t.ep n.t.sg (n.t.rt + 1))).t)) (hK () _ (fun _ _ => rfl) hI.put5)
  case done =>
    rintro l a9 _ W9 hP hI hall
    have t6 := (hP.keep (j := 6) (by kernel_rfl)).trans G6
    have t7 := (hP.keep (j := 7) (by kernel_rfl)).trans G7
    have t8 := (hP.keep (j := 8) (by kernel_rfl)).trans G8
    have td := hP.df.trans TD
    have D9 := Lib.hid (hI.done (hall 3 (by decide)) (hall 4 (by decide)) (hall 5 (by decide)))
    clear hP hI hall
    go_wp2
    exact bodyPost_ret (res3 rfl t6 t7 t8 (show Box W9 (w.heap.size + 3) (hv (thQ (shQ n (getV n.t n.t.rt) s' v) (te n.t n.t.ep n.t.sg (n.t.rt + 1))).s) from D9.out.box 3 (by decide)) (show Box W9 (w.heap.size + 4) (kv (thQ (shQ n (getV n.t n.t.rt) s' v) (te n.t n.t.ep n.t.sg (n.t.rt + 1))).k) from D9.out.box 4 (by decide)) (show Box W9 (w.heap.size + 5) (tv (thQ (shQ n (getV n.t n.t.rt) s' v) (te n.t n.t.ep n.t.sg (n.t.rt + 1))).t) from D9.out.box 5 (by decide))) td ⟨s', v, _, rfl, by rw [hR.out], N3.out.1, D9.out.at _ (by simp), N3.out.2.1, N3.out.2.2, D9.out.bel⟩
set_option maxHeartbeats 1000000 in
theorem root_last (n : Q3) (w : World) (h : Pre w n) (hm : mayT n.t = true) (hr : n.t.rt = 3) : Calls Tryz.prog 64 #[(.agg #[.slice n.s.w.a n.s.w.n n.s.w.c, .slice n.s.p.a n.s.p.n n.s.p.c, .slice (n.s.u 0).a (n.s.u 0).n (n.s.u 0).c, .slice (n.s.u 1).a (n.s.u 1).n (n.s.u 1).c, .slice (n.s.u 2).a (n.s.u 2).n (n.s.u 2).c, .slice n.s.c.a n.s.c.n n.s.c.c]), (.agg #[.int .i64 n.k.ph, .int .i64 n.k.ep, .bool n.k.mj, .slice n.k.wk.a n.k.wk.n n.k.wk.c, .bool n.k.ov, .int .i64 n.k.pa, .int .i64 n.k.pf, .int .i64 n.k.ps, .int .i64 n.k.pc, .bool n.k.me]), (.agg #[.bool n.t.lv, .int .i64 (n.t.r 0), .int .i64 (n.t.r 1), .int .i64 (n.t.r 2), .int .i64 (n.t.r 3), .slice (n.t.u 0).a (n.t.u 0).n (n.t.u 0).c, .slice (n.t.u 1).a (n.t.u 1).n (n.t.u 1).c, .slice (n.t.u 2).a (n.t.u 2).n (n.t.u 2).c, .int .i64 n.t.ep, .int .i64 n.t.sg, .int .i64 n.t.rt, .slice n.t.o.a n.t.o.n n.t.o.c, .int .i64 n.t.pc, .int .i64 n.t.x, .int .i64 n.t.y])] w (RoOut w n) := by
  have HN := Lib.hid h.hold
  have HP := Lib.hid h
  have q := may_parts.1 hm
  have C1 := Lib.hid (fun W => get_any n.t n.t.rt W)
  have hR := Lib.hid (show rootT n.t = te n.t n.t.ep 3 0 from if_pos hr)
  have HR := Lib.hid hr
  have C2 := Lib.hid (fun W (hW : Hold W n) (hz : Cl.Sz W) => Sh.shade_any n.s n.d n.k n.xs (getV n.t n.t.rt) W (by have := h.x; omega) hW.h hW.c hz h.fine)
  clear h hm hr q
  go_enter Tryz.func64, Tryz.ntmps64
  go_upto_region 1 with fail
  obtain ⟨W1, hW1⟩ : ∃ W1, W1 = (((((w.alloc (.cells #[.slice n.s.w.a n.s.w.n n.s.w.c, .slice n.s.p.a n.s.p.n n.s.p.c, .slice (n.s.u 0).a (n.s.u 0).n (n.s.u 0).c, .slice (n.s.u 1).a (n.s.u 1).n (n.s.u 1).c, .slice (n.s.u 2).a (n.s.u 2).n (n.s.u 2).c, .slice n.s.c.a n.s.c.n n.s.c.c] 28)).alloc (.cells #[.int .i64 n.k.ph, .int .i64 n.k.ep, .bool n.k.mj, .slice n.k.wk.a n.k.wk.n n.k.wk.c, .bool n.k.ov, .int .i64 n.k.pa, .int .i64 n.k.pf, .int .i64 n.k.ps, .int .i64 n.k.pc, .bool n.k.me] 30)).alloc (.cells #[.bool n.t.lv, .int .i64 (n.t.r 0), .int .i64 (n.t.r 1), .int .i64 (n.t.r 2), .int .i64 (n.t.r 3), .slice (n.t.u 0).a (n.t.u 0).n (n.t.u 0).c, .slice (n.t.u 1).a (n.t.u 1).n (n.t.u 1).c, .slice (n.t.u 2).a (n.t.u 2).n (n.t.u 2).c, .int .i64 n.t.ep, .int .i64 n.t.sg, .int .i64 n.t.rt, .slice n.t.o.a n.t.o.n n.t.o.c, .int .i64 n.t.pc, .int .i64 n.t.x, .int .i64 n.t.y] 34)).alloc (.cells #[.slice none 0 0, .slice none 0 0, .slice none 0 0, .slice none 0 0, .slice none 0 0, .slice none 0 0] 28)).alloc (.cells #[.int .i64 0, .int .i64 0, .bool false, .slice none 0 0, .bool false, .int .i64 0, .int .i64 0, .int .i64 0, .int .i64 0, .bool false] 30)).alloc (.cells #[.bool false, .int .i64 0, .int .i64 0, .int .i64 0, .int .i64 0, .slice none 0 0, .slice none 0 0, .slice none 0 0, .int .i64 0, .int .i64 0, .int .i64 0, .slice none 0 0, .int .i64 0, .int .i64 0, .int .i64 0] 34) := ⟨_, rfl⟩
  have S1 : Hid (W6 w W1 (p6 w.heap.size (w.heap.size + 1) (w.heap.size + 2) (w.heap.size + 3) (w.heap.size + 4) (w.heap.size + 5)) (c6 (hv n.s) (kv n.k) (tv n.t) (hv noHs0) (kv noK0) (tv noT)) [n]) := Lib.hid ((w6_start n hW1).2 HN.out)
  rw [← hW1]
  clear hW1
  have q10 := (show Box _ (w.heap.size + 2) (tv n.t) from S1.out.box 2 (by decide)).cel 10 (.int .i64 n.t.rt) (rfl)
  go_upto_region 2 with (first
    | (refine w_load (ldTb (show Box _ (w.heap.size + 2) (tv n.t) from S1.out.box 2 (by decide))) rfl rfl rfl rfl ?_)
    | ((go_at_call 16); (with_reducible refine (C1.out _).mono ?_); rintro e9 w9 ⟨rfl, hb9⟩; have S2 := Lib.hid (S1.out.next hb9); clear hb9 q10))
  go_upto_region 3 with (first
    | (refine w_load (ldHb (show Box _ (w.heap.size) (hv n.s) from S2.out.box 0 (by decide))) rfl rfl rfl rfl ?_)
    | (refine w_load (ldKb (show Box _ (w.heap.size + 1) (kv n.k) from S2.out.box 1 (by decide))) rfl rfl rfl rfl ?_)
    | ((go_at_call 106); (with_reducible refine (C2.out _ (S2.out.at n (by simp)) (S2.out.over HP.out.sz)).mono ?_); rintro e9 w9 ⟨s', v, rfl, hp9, hl9, hn9, ha9⟩; have S3 := Lib.hid (sh_next S2.out hp9 hn9 ha9); have N3 := Lib.hid (sh_new S2.out hl9 hn9 ha9); clear hp9 hl9 hn9 ha9)
    | (refine w6_putH S3.out 0 (by decide) s' (c' := c6 (hv s') (kv n.k) (tv n.t) (hv noHs0) (kv noK0) (tv noT)) rfl (all6 ⟨rfl, rfl, rfl, rfl, rfl, rfl⟩) rfl rfl rfl rfl rfl ?_; intro W4 h4; have S4 := Lib.hid h4; clear h4 S3)
    | (refine w6_putK S4.out 1 (by decide) (shQ n (getV n.t n.t.rt) s' v).k (c' := c6 (hv s') (kv (shQ n (getV n.t n.t.rt) s' v).k) (tv n.t) (hv noHs0) (kv noK0) (tv noT)) rfl (all6 ⟨rfl, rfl, rfl, rfl, rfl, rfl⟩) rfl rfl rfl rfl rfl ?_; intro W5 h5; have S5 := Lib.hid h5; clear h5 S4))
  have p10 := (show Box _ (w.heap.size + 2) (tv n.t) from S5.out.box 2 (by decide)).cel 10 (.int .i64 3) (by rw [← HR.out]; rfl)
  go_upto_region 4 with (refine w6_int S5.out 2 (by decide) 10 (4) (vs := tv (te n.t n.t.ep n.t.sg 4)) (c' := c6 (hv s') (kv (shQ n (getV n.t n.t.rt) s' v).k) (tv (te n.t n.t.ep n.t.sg 4)) (hv noHs0) (kv noK0) (tv noT)) (show 10 < 15 by decide) rfl (all6 ⟨rfl, rfl, rfl, rfl, rfl, rfl⟩) rfl rfl rfl rfl rfl ?_; intro W6' h6; have S6 := Lib.hid h6; clear h6 S5)
  clear p10
  have p10 := (show Box _ (w.heap.size + 2) (tv (te n.t n.t.ep n.t.sg 4)) from S6.out.box 2 (by decide)).cel 10 (.int .i64 4) (rfl)
  go_upto_region 5 with fail
  clear p10
  go_upto_region 6 with (first
    | (refine w6_int S6.out 2 (by decide) 10 (0) (vs := tv (te n.t n.t.ep n.t.sg 0)) (c' := c6 (hv s') (kv (shQ n (getV n.t n.t.rt) s' v).k) (tv (te n.t n.t.ep n.t.sg 0)) (hv noHs0) (kv noK0) (tv noT)) (show 10 < 15 by decide) rfl (all6 ⟨rfl, rfl, rfl, rfl, rfl, rfl⟩) rfl rfl rfl rfl rfl ?_; intro W7 h6; have S7 := Lib.hid h6; clear h6 S6)
    | (refine w6_int S7.out 2 (by decide) 9 (3) (vs := tv (te n.t n.t.ep 3 0)) (c' := c6 (hv s') (kv (shQ n (getV n.t n.t.rt) s' v).k) (tv (te n.t n.t.ep 3 0)) (hv noHs0) (kv noK0) (tv noT)) (show 9 < 15 by decide) rfl (all6 ⟨rfl, rfl, rfl, rfl, rfl, rfl⟩) rfl rfl rfl rfl rfl ?_; intro W8 h6; have S8 := Lib.hid h6; clear h6 S7))
  have S9 : Hid (W6 w _ (p6 w.heap.size (w.heap.size + 1) (w.heap.size + 2) (w.heap.size + 3) (w.heap.size + 4) (w.heap.size + 5)) (c6 (hv (thQ (shQ n (getV n.t n.t.rt) s' v) (te n.t n.t.ep 3 0)).s) (kv (thQ (shQ n (getV n.t n.t.rt) s' v) (te n.t n.t.ep 3 0)).k) (tv (thQ (shQ n (getV n.t n.t.rt) s' v) (te n.t n.t.ep 3 0)).t) (hv noHs0) (kv noK0) (tv noT)) [(thQ (shQ n (getV n.t n.t.rt) s' v) (te n.t n.t.ep 3 0))]) := Lib.hid (th_next S8.out (keep_te _ _ _ _))
  clear S8
  have KE := S9
  refine Sh.region_gen fun a0 ha0 => ?_
  have G3 : a0.tmps[3]? = some (.pointer (some ⟨w.heap.size, 0, none⟩)) := by rw [ha0]; rfl
  have G4 : a0.tmps[4]? = some (.pointer (some ⟨w.heap.size + 1, 0, none⟩)) := by rw [ha0]; rfl
  have G5 : a0.tmps[5]? = some (.pointer (some ⟨w.heap.size + 2, 0, none⟩)) := by rw [ha0]; rfl
  have G6 : a0.tmps[6]? = some (.pointer (some ⟨w.heap.size + 3, 0, none⟩)) := by rw [ha0]; rfl
  have G7 : a0.tmps[7]? = some (.pointer (some ⟨w.heap.size + 4, 0, none⟩)) := by rw [ha0]; rfl
  have G8 : a0.tmps[8]? = some (.pointer (some ⟨w.heap.size + 5, 0, none⟩)) := by rw [ha0]; rfl
  have TD : a0.defers = [] := congrArg Act.defers ha0
  have TZ : a0.tmps.size = 37 := by rw [ha0]; rfl
  clear ha0
  refine region_plan (by kernel_rfl) (by kernel_rfl) (by rw [TZ]; kernel_rfl) (fun (_ : Unit) (i : Nat) => (match i with | 0 => (.agg #[.slice (thQ (shQ n (getV n.t n.t.rt) s' v) (te n.t n.t.ep 3 0)).s.w.a (thQ (shQ n (getV n.t n.t.rt) s' v) (te n.t n.t.ep 3 0)).s.w.n (thQ (shQ n (getV n.t n.t.rt) s' v) (te n.t n.t.ep 3 0)).s.w.c, .slice (thQ (shQ n (getV n.t n.t.rt) s' v) (te n.t n.t.ep 3 0)).s.p.a (thQ (shQ n (getV n.t n.t.rt) s' v) (te n.t n.t.ep 3 0)).s.p.n (thQ (shQ n (getV n.t n.t.rt) s' v) (te n.t n.t.ep 3 0)).s.p.c, .slice ((thQ (shQ n (getV n.t n.t.rt) s' v) (te n.t n.t.ep 3 0)).s.u 0).a ((thQ (shQ n (getV n.t n.t.rt) s' v) (te n.t n.t.ep 3 0)).s.u 0).n ((thQ (shQ n (getV n.t n.t.rt) s' v) (te n.t n.t.ep 3 0)).s.u 0).c, .slice ((thQ (shQ n (getV n.t n.t.rt) s' v) (te n.t n.t.ep 3 0)).s.u 1).a ((thQ (shQ n (getV n.t n.t.rt) s' v) (te n.t n.t.ep 3 0)).s.u 1).n ((thQ (shQ n (getV n.t n.t.rt) s' v) (te n.t n.t.ep 3 0)).s.u 1).c, .slice ((thQ (shQ n (getV n.t n.t.rt) s' v) (te n.t n.t.ep 3 0)).s.u 2).a ((thQ (shQ n (getV n.t n.t.rt) s' v) (te n.t n.t.ep 3 0)).s.u 2).n ((thQ (shQ n (getV n.t n.t.rt) s' v) (te n.t n.t.ep 3 0)).s.u 2).c, .slice (thQ (shQ n (getV n.t n.t.rt) s' v) (te n.t n.t.ep 3 0)).s.c.a (thQ (shQ n (getV n.t n.t.rt) s' v) (te n.t n.t.ep 3 0)).s.c.n (thQ (shQ n (getV n.t n.t.rt) s' v) (te n.t n.t.ep 3 0)).s.c.c]) | 1 => (.agg #[.int .i64 (thQ (shQ n (getV n.t n.t.rt) s' v) (te n.t n.t.ep 3 0)).k.ph, .int .i64 (thQ (shQ n (getV n.t n.t.rt) s' v) (te n.t n.t.ep 3 0)).k.ep, .bool (thQ (shQ n (getV n.t n.t.rt) s' v) (te n.t n.t.ep 3 0)).k.mj, .slice (thQ (shQ n (getV n.t n.t.rt) s' v) (te n.t n.t.ep 3 0)).k.wk.a (thQ (shQ n (getV n.t n.t.rt) s' v) (te n.t n.t.ep 3 0)).k.wk.n (thQ (shQ n (getV n.t n.t.rt) s' v) (te n.t n.t.ep 3 0)).k.wk.c, .bool (thQ (shQ n (getV n.t n.t.rt) s' v) (te n.t n.t.ep 3 0)).k.ov, .int .i64 (thQ (shQ n (getV n.t n.t.rt) s' v) (te n.t n.t.ep 3 0)).k.pa, .int .i64 (thQ (shQ n (getV n.t n.t.rt) s' v) (te n.t n.t.ep 3 0)).k.pf, .int .i64 (thQ (shQ n (getV n.t n.t.rt) s' v) (te n.t n.t.ep 3 0)).k.ps, .int .i64 (thQ (shQ n (getV n.t n.t.rt) s' v) (te n.t n.t.ep 3 0)).k.pc, .bool (thQ (shQ n (getV n.t n.t.rt) s' v) (te n.t n.t.ep 3 0)).k.me]) | 2 => (.agg #[.bool ((thQ (shQ n (getV n.t n.t.rt) s' v) (te n.t n.t.ep 3 0)).t).lv, .int .i64 (((thQ (shQ n (getV n.t n.t.rt) s' v) (te n.t n.t.ep 3 0)).t).r 0), .int .i64 (((thQ (shQ n (getV n.t n.t.rt) s' v) (te n.t n.t.ep 3 0)).t).r 1), .int .i64 (((thQ (shQ n (getV n.t n.t.rt) s' v) (te n.t n.t.ep 3 0)).t).r 2), .int .i64 (((thQ (shQ n (getV n.t n.t.rt) s' v) (te n.t n.t.ep 3 0)).t).r 3), .slice (((thQ (shQ n (getV n.t n.t.rt) s' v) (te n.t n.t.ep 3 0)).t).u 0).a (((thQ (shQ n (getV n.t n.t.rt) s' v) (te n.t n.t.ep 3 0)).t).u 0).n (((thQ (shQ n (getV n.t n.t.rt) s' v) (te n.t n.t.ep 3 0)).t).u 0).c, .slice (((thQ (shQ n (getV n.t n.t.rt) s' v) (te n.t n.t.ep 3 0)).t).u 1).a (((thQ (shQ n (getV n.t n.t.rt) s' v) (te n.t n.t.ep 3 0)).t).u 1).n (((thQ (shQ n (getV n.t n.t.rt) s' v) (te n.t n.t.ep 3 0)).t).u 1).c, .slice (((thQ (shQ n (getV n.t n.t.rt) s' v) (te n.t n.t.ep 3 0)).t).u 2).a (((thQ (shQ n (getV n.t n.t.rt) s' v) (te n.t n.t.ep 3 0)).t).u 2).n (((thQ (shQ n (getV n.t n.t.rt) s' v) (te n.t n.t.ep 3 0)).t).u 2).c, .int .i64 ((thQ (shQ n (getV n.t n.t.rt) s' v) (te n.t n.t.ep 3 0)).t).ep, .int .i64 ((thQ (shQ n (getV n.t n.t.rt) s' v) (te n.t n.t.ep 3 0)).t).sg, .int .i64 ((thQ (shQ n (getV n.t n.t.rt) s' v) (te n.t n.t.ep 3 0)).t).rt, .slice ((thQ (shQ n (getV n.t n.t.rt) s' v) (te n.t n.t.ep 3 0)).t).o.a ((thQ (shQ n (getV n.t n.t.rt) s' v) (te n.t n.t.ep 3 0)).t).o.n ((thQ (shQ n (getV n.t n.t.rt) s' v) (te n.t n.t.ep 3 0)).t).o.c, .int .i64 ((thQ (shQ n (getV n.t n.t.rt) s' v) (te n.t n.t.ep 3 0)).t).pc, .int .i64 ((thQ (shQ n (getV n.t n.t.rt) s' v) (te n.t n.t.ep 3 0)).t).x, .int .i64 ((thQ (shQ n (getV n.t n.t.rt) s' v) (te n.t n.t.ep 3 0)).t).y]) | _ => undef : Value)) (fun _ l W => R6 w (p6 w.heap.size (w.heap.size + 1) (w.heap.size + 2) (w.heap.size + 3) (w.heap.size + 4) (w.heap.size + 5)) (thQ (shQ n (getV n.t n.t.rt) s' v) (te n.t n.t.ep 3 0)) l W) () ?start ?step ?done
  case start => exact r6_start (KE.out.next ⟨rfl, rfl, rfl, Nat.le_refl _, fun _ _ => rfl⟩)
  case step =>
    rintro i o9 l a9 _ W9 ho hP hI hl haft K hK
    have hi : i < 6 := (Array.getElem?_eq_some_iff.1 ho).1
    rcases (show i = 0 ∨ i = 1 ∨ i = 2 ∨ i = 3 ∨ i = 4 ∨ i = 5 by omega) with rfl | rfl | rfl | rfl | rfl | rfl
    · obtain rfl := Option.some.inj ho
      have q9 := (hP.keep (j := 3) (by kernel_rfl)).trans G3
      exact p_load rfl (ev q9) (ldHb (show Box W9 (w.heap.size) (hv (thQ (shQ n (getV n.t n.t.rt) s' v) (te n.t n.t.ep 3 0)).s) from hI.st.box 0 (by decide))) (hK () _ (fun _ _ => rfl) (hI.pure (i := 0) (by decide)))
    · obtain rfl := Option.some.inj ho
      have q9 := (hP.keep (j := 4) (by kernel_rfl)).trans G4
      exact p_load rfl (ev q9) (ldKb (show Box W9 (w.heap.size + 1) (kv (thQ (shQ n (getV n.t n.t.rt) s' v) (te n.t n.t.ep 3 0)).k) from hI.st.box 1 (by decide))) (hK () _ (fun _ _ => rfl) (hI.pure (i := 1) (by decide)))
    · obtain rfl := Option.some.inj ho
      have q9 := (hP.keep (j := 5) (by kernel_rfl)).trans G5
      exact p_load rfl (ev q9) (ldTb (show Box W9 (w.heap.size + 2) (tv (thQ (shQ n (getV n.t n.t.rt) s' v) (te n.t n.t.ep 3 0)).t) from hI.st.box 2 (by decide))) (hK () _ (fun _ _ => rfl) (hI.pure (i := 2) (by decide)))
    · obtain rfl := Option.some.inj ho
      have e9 := hP.got 0 _ 34 rfl (haft ⟨0, .data⟩ (by simp) rfl) rfl
      try dsimp only at e9
      have q9 := (hP.keep (j := 6) (by kernel_rfl)).trans G6
      exact p_store rfl (ev q9) (ev e9) (stHb (show Box W9 (w.heap.size + 3) _ from hI.st.box 3 (by decide)) sel_h ((thQ (shQ n (getV n.t n.t.rt) s' v) (te n.t n.t.ep 3 0)).s)) (hK () _ (fun _ _ => rfl) hI.put3)
    · obtain rfl := Option.some.inj ho
      have e9 := hP.got 1 _ 35 rfl (haft ⟨1, .data⟩ (by simp) rfl) rfl
      try dsimp only at e9
      have q9 := (hP.keep (j := 7) (by kernel_rfl)).trans G7
      exact p_store rfl (ev q9) (ev e9) (stKb (show Box W9 (w.heap.size + 4) _ from hI.st.box 4 (by decide)) sel_k ((thQ (shQ n (getV n.t n.t.rt) s' v) (te n.t n.t.ep 3 0)).k)) (hK () _ (fun _ _ => rfl) hI.put4)
    · obtain rfl := Option.some.inj ho
      have e9 := hP.got 2 _ 36 rfl (haft ⟨2, .data⟩ (by simp) rfl) rfl
      try dsimp only at e9
      have q9 := (hP.keep (j := 8) (by kernel_rfl)).trans G8
      exact p_store rfl (ev q9) (ev e9) (stTb (show Box W9 (w.heap.size + 5) _ from hI.st.box 5 (by decide)) sel_t ((thQ (shQ n (getV n.t n.t.rt) s' v) (te n.t n.t.ep 3 0)).t)) (hK () _ (fun _ _ => rfl) hI.put5)
  case done =>
    rintro l a9 _ W9 hP hI hall
    have t6 := (hP.keep (j := 6) (by kernel_rfl)).trans G6
    have t7 := (hP.keep (j := 7) (by kernel_rfl)).trans G7
    have t8 := (hP.keep (j := 8) (by kernel_rfl)).trans G8
    have td := hP.df.trans TD
    have D9 := Lib.hid (hI.done (hall 3 (by decide)) (hall 4 (by decide)) (hall 5 (by decide)))
    clear hP hI hall
    go_wp2
    exact bodyPost_ret (res3 rfl t6 t7 t8 (show Box W9 (w.heap.size + 3) (hv (thQ (shQ n (getV n.t n.t.rt) s' v) (te n.t n.t.ep 3 0)).s) from D9.out.box 3 (by decide)) (show Box W9 (w.heap.size + 4) (kv (thQ (shQ n (getV n.t n.t.rt) s' v) (te n.t n.t.ep 3 0)).k) from D9.out.box 4 (by decide)) (show Box W9 (w.heap.size + 5) (tv (thQ (shQ n (getV n.t n.t.rt) s' v) (te n.t n.t.ep 3 0)).t) from D9.out.box 5 (by decide))) td ⟨s', v, _, rfl, by rw [hR.out], N3.out.1, D9.out.at _ (by simp), N3.out.2.1, N3.out.2.2, D9.out.bel⟩
theorem root_any (n : Q3) (w : World) (h : Pre w n) (hm : mayT n.t = true) : Calls Tryz.prog 64 #[(.agg #[.slice n.s.w.a n.s.w.n n.s.w.c, .slice n.s.p.a n.s.p.n n.s.p.c, .slice (n.s.u 0).a (n.s.u 0).n (n.s.u 0).c, .slice (n.s.u 1).a (n.s.u 1).n (n.s.u 1).c, .slice (n.s.u 2).a (n.s.u 2).n (n.s.u 2).c, .slice n.s.c.a n.s.c.n n.s.c.c]), (.agg #[.int .i64 n.k.ph, .int .i64 n.k.ep, .bool n.k.mj, .slice n.k.wk.a n.k.wk.n n.k.wk.c, .bool n.k.ov, .int .i64 n.k.pa, .int .i64 n.k.pf, .int .i64 n.k.ps, .int .i64 n.k.pc, .bool n.k.me]), (.agg #[.bool n.t.lv, .int .i64 (n.t.r 0), .int .i64 (n.t.r 1), .int .i64 (n.t.r 2), .int .i64 (n.t.r 3), .slice (n.t.u 0).a (n.t.u 0).n (n.t.u 0).c, .slice (n.t.u 1).a (n.t.u 1).n (n.t.u 1).c, .slice (n.t.u 2).a (n.t.u 2).n (n.t.u 2).c, .int .i64 n.t.ep, .int .i64 n.t.sg, .int .i64 n.t.rt, .slice n.t.o.a n.t.o.n n.t.o.c, .int .i64 n.t.pc, .int .i64 n.t.x, .int .i64 n.t.y])] w (RoOut w n) := by
  by_cases hr : n.t.rt = 3
  · exact root_last n w h hm hr
  · exact root_next n w h hm hr
end Go.Proofs.YtgmkomnoiffapaaGreatDoor.Ha
end
section
namespace Go.Proofs.YtgmkomnoiffapaaGreatDoor.Ha
open Go.Proofs.YtgmkomnoiffapaaGreatDoor Go.Proofs.YtgmkomnoiffapaaGreatDoor.Rt
open Go.RowKit
open Go.Proofs.YtgmkomnoiffapaaGreatDoor.Mu (hv kv w_load w_store w_loadg ldHb ldKb ldTb stHb stKb stTb st_int ld_int p_load p_store ev region_plan noHs0 noK0)
set_option maxRecDepth 100000

section
variable {w W W' : World} {n m m' : Q3} {p : Nat → Nat} {c : Nat → List Value} {s' : Hs} {v : Ls.Sl} {B : Nat} {t : Ts}
/-- Behind shadeRoot. -/
theorem ro_next (h : W6 w W p c [m]) (e : m' = thQ (shQ m (getV m.t m.t.rt) s' v) (rootT m.t)) (hh : Hold W' m') (hn : News W.heap.size s') (hv : 0 < v.n → ∀ x, v.a = some x → W.heap.size ≤ x.block) (hb : Below W.heap.size W W') : W6 w W' p c [m'] := by
  have nx := h.next hb
  refine W6.held ⟨nx.bel, nx.lo, nx.inj, nx.box, fun x hx => (by cases hx)⟩ hh fun i hi => ?_
  have ho := (h.hold m (by simp)).2 i hi
  have hk := keep_root m.t
  rw [e]
  refine ⟨offh_new hn (h.lt hi), off_ge hv (h.lt hi), ⟨?_, ?_⟩⟩
  · show ∀ j, j < 3 → Mu.Off _ ((rootT m.t).u j); rw [hk.u]; exact ho.t.u
  · show Mu.Off _ (rootT m.t).o; rw [hk.o]; exact ho.t.o
theorem ro_new (hm : NewQ B m) (e : m' = thQ (shQ m (getV m.t m.t.rt) s' v) (rootT m.t)) (hn : News W.heap.size s') (hv : 0 < v.n → ∀ x, v.a = some x → W.heap.size ≤ x.block) (hB : B ≤ W.heap.size) : NewQ B m' := by
  have hk := keep_root m.t
  rw [e]
  refine ⟨⟨fun h0 y hy => Nat.le_trans hB (hn.w h0 y hy), fun h0 y hy => Nat.le_trans hB (hn.p h0 y hy), fun j hj h0 y hy => Nat.le_trans hB (hn.u j hj h0 y hy), fun h0 y hy => Nat.le_trans hB (hn.c h0 y hy)⟩, fun h0 y hy => Nat.le_trans hB (hv h0 y hy), ?_, ?_⟩
  · show ∀ j, j < 3 → 0 < ((rootT m.t).u j).n → ∀ x, ((rootT m.t).u j).a = some x → B ≤ x.block; rw [hk.u]; exact hm.u
  · show 0 < (rootT m.t).o.n → ∀ x, (rootT m.t).o.a = some x → B ≤ x.block; rw [hk.o]; exact hm.o
theorem ro_sim (hl : Lens m.s s') (e : m' = thQ (shQ m (getV m.t m.t.rt) s' v) (rootT m.t)) (ha : askB m.k.ph m.k.ep m.t = true) (he : m.t.ep = m.k.ep) (hp : ¬ m.k.ph = 2) : Sim m.s m.k (anS m.s m.k (own m)) m' := by
  have e1 : anS m.s m.k (own m) = rootS m.s m.k (own m) := by
    unfold anS
    rw [if_pos (show askB m.k.ph m.k.ep (own m).t = true from ha), if_pos (show (own m).t.ep = m.k.ep from he), if_neg hp]
  rw [e1, e]
  exact ⟨hl, rfl, rfl, rfl, rfl, rfl⟩
theorem te_new (hm : NewQ B m) (hk : Keep m.t t) : NewQ B (thQ m t) := by
  refine ⟨hm.h, hm.k, ?_, ?_⟩
  · show ∀ j, j < 3 → 0 < (t.u j).n → ∀ x, (t.u j).a = some x → _; rw [hk.u]; exact hm.u
  · show 0 < t.o.n → ∀ x, t.o.a = some x → _; rw [hk.o]; exact hm.o
theorem te_sim1 (ha : askB m.k.ph m.k.ep m.t = true) (he : ¬ m.t.ep = m.k.ep) : Sim m.s m.k (anS m.s m.k (own m)) (thQ m (te m.t m.k.ep 1 0)) := by
  have e1 : anS m.s m.k (own m) = ⟨m.d, m.xs, m.k.ov, te m.t m.k.ep 1 0⟩ := by
    unfold anS
    rw [if_pos (show askB m.k.ph m.k.ep (own m).t = true from ha), if_neg (show ¬ (own m).t.ep = m.k.ep from he)]
    rfl
  rw [e1]
  exact ⟨lens_s _, rfl, rfl, rfl, rfl, rfl⟩
theorem te_sim2 (ha : askB m.k.ph m.k.ep m.t = true) (he : m.t.ep = m.k.ep) (hp : m.k.ph = 2) : Sim m.s m.k (anS m.s m.k (own m)) (thQ m (te m.t m.t.ep 2 m.t.rt)) := by
  have e1 : anS m.s m.k (own m) = ⟨m.d, m.xs, m.k.ov, te m.t m.t.ep 2 m.t.rt⟩ := by
    unfold anS
    rw [if_pos (show askB m.k.ph m.k.ep (own m).t = true from ha), if_pos (show (own m).t.ep = m.k.ep from he), if_pos hp]
    rfl
  rw [e1]
  exact ⟨lens_s _, rfl, rfl, rfl, rfl, rfl⟩
theorem no_sim (ha : askB m.k.ph m.k.ep m.t = false) : Sim m.s m.k (anS m.s m.k (own m)) m := by
  have e1 : anS m.s m.k (own m) = own m := by
    unfold anS
    rw [if_neg (show ¬ askB m.k.ph m.k.ep (own m).t = true by rw [show askB m.k.ph m.k.ep (own m).t = false from ha]; decide)]
  rw [e1]
  exact sim_own m
end
/-- What Answer is handed. -/
structure In (w : World) (n : Q3) : Prop where
  hold : Hold w n
  sz : Cl.Sz w
  fine : Fine n.s n.d
  u : ∀ j, j < 3 → (n.t.u j).n ≤ 2000000
  o : n.t.o.n ≤ 100000
  x : n.xs.length ≤ 999000
theorem fine_lens {s s' : Hs} {d : Hd_} (hl : Lens s s') (h : Fine s d) : Fine s' d := (Sh.kin_same hl).fine h
set_option maxHeartbeats 4000000 in
theorem answer_own (n : Q3) (w : World) (h : In w n) : Calls Tryz.prog 27 #[(.agg #[.slice n.s.w.a n.s.w.n n.s.w.c, .slice n.s.p.a n.s.p.n n.s.p.c, .slice (n.s.u 0).a (n.s.u 0).n (n.s.u 0).c, .slice (n.s.u 1).a (n.s.u 1).n (n.s.u 1).c, .slice (n.s.u 2).a (n.s.u 2).n (n.s.u 2).c, .slice n.s.c.a n.s.c.n n.s.c.c]), (.agg #[.int .i64 n.k.ph, .int .i64 n.k.ep, .bool n.k.mj, .slice n.k.wk.a n.k.wk.n n.k.wk.c, .bool n.k.ov, .int .i64 n.k.pa, .int .i64 n.k.pf, .int .i64 n.k.ps, .int .i64 n.k.pc, .bool n.k.me]), (.agg #[.bool n.t.lv, .int .i64 (n.t.r 0), .int .i64 (n.t.r 1), .int .i64 (n.t.r 2), .int .i64 (n.t.r 3), .slice (n.t.u 0).a (n.t.u 0).n (n.t.u 0).c, .slice (n.t.u 1).a (n.t.u 1).n (n.t.u 1).c, .slice (n.t.u 2).a (n.t.u 2).n (n.t.u 2).c, .int .i64 n.t.ep, .int .i64 n.t.sg, .int .i64 n.t.rt, .slice n.t.o.a n.t.o.n n.t.o.c, .int .i64 n.t.pc, .int .i64 n.t.x, .int .i64 n.t.y])] w (AnOut w n.s n.k (anS n.s n.k (own n)) n.F n.g) := by
  have HI := Lib.hid h
  clear h
  go_enter Tryz.func27, Tryz.ntmps27
  go_upto_region 1 with fail
  obtain ⟨W1, hW1⟩ : ∃ W1, W1 = (((((w.alloc (.cells #[.slice n.s.w.a n.s.w.n n.s.w.c, .slice n.s.p.a n.s.p.n n.s.p.c, .slice (n.s.u 0).a (n.s.u 0).n (n.s.u 0).c, .slice (n.s.u 1).a (n.s.u 1).n (n.s.u 1).c, .slice (n.s.u 2).a (n.s.u 2).n (n.s.u 2).c, .slice n.s.c.a n.s.c.n n.s.c.c] 28)).alloc (.cells #[.int .i64 n.k.ph, .int .i64 n.k.ep, .bool n.k.mj, .slice n.k.wk.a n.k.wk.n n.k.wk.c, .bool n.k.ov, .int .i64 n.k.pa, .int .i64 n.k.pf, .int .i64 n.k.ps, .int .i64 n.k.pc, .bool n.k.me] 30)).alloc (.cells #[.bool n.t.lv, .int .i64 (n.t.r 0), .int .i64 (n.t.r 1), .int .i64 (n.t.r 2), .int .i64 (n.t.r 3), .slice (n.t.u 0).a (n.t.u 0).n (n.t.u 0).c, .slice (n.t.u 1).a (n.t.u 1).n (n.t.u 1).c, .slice (n.t.u 2).a (n.t.u 2).n (n.t.u 2).c, .int .i64 n.t.ep, .int .i64 n.t.sg, .int .i64 n.t.rt, .slice n.t.o.a n.t.o.n n.t.o.c, .int .i64 n.t.pc, .int .i64 n.t.x, .int .i64 n.t.y] 34)).alloc (.cells #[.slice none 0 0, .slice none 0 0, .slice none 0 0, .slice none 0 0, .slice none 0 0, .slice none 0 0] 28)).alloc (.cells #[.int .i64 0, .int .i64 0, .bool false, .slice none 0 0, .bool false, .int .i64 0, .int .i64 0, .int .i64 0, .int .i64 0, .bool false] 30)).alloc (.cells #[.bool false, .int .i64 0, .int .i64 0, .int .i64 0, .int .i64 0, .slice none 0 0, .slice none 0 0, .slice none 0 0, .int .i64 0, .int .i64 0, .int .i64 0, .slice none 0 0, .int .i64 0, .int .i64 0, .int .i64 0] 34) := ⟨_, rfl⟩
  have S1 : Hid (W6 w W1 (p6 w.heap.size (w.heap.size + 1) (w.heap.size + 2) (w.heap.size + 3) (w.heap.size + 4) (w.heap.size + 5)) (c6 (hv n.s) (kv n.k) (tv n.t) (hv noHs0) (kv noK0) (tv noT)) []) := Lib.hid ((w6_start n hW1).1)
  rw [← hW1]
  clear hW1
  have S1' := S1
  refine Sh.region_gen fun a0 ha0 => ?_
  have G0 : a0.tmps[0]? = some ((.agg #[.slice n.s.w.a n.s.w.n n.s.w.c, .slice n.s.p.a n.s.p.n n.s.p.c, .slice (n.s.u 0).a (n.s.u 0).n (n.s.u 0).c, .slice (n.s.u 1).a (n.s.u 1).n (n.s.u 1).c, .slice (n.s.u 2).a (n.s.u 2).n (n.s.u 2).c, .slice n.s.c.a n.s.c.n n.s.c.c])) := by rw [ha0]; rfl
  have G1 : a0.tmps[1]? = some ((.agg #[.int .i64 n.k.ph, .int .i64 n.k.ep, .bool n.k.mj, .slice n.k.wk.a n.k.wk.n n.k.wk.c, .bool n.k.ov, .int .i64 n.k.pa, .int .i64 n.k.pf, .int .i64 n.k.ps, .int .i64 n.k.pc, .bool n.k.me])) := by rw [ha0]; rfl
  have G2 : a0.tmps[2]? = some ((.agg #[.bool n.t.lv, .int .i64 (n.t.r 0), .int .i64 (n.t.r 1), .int .i64 (n.t.r 2), .int .i64 (n.t.r 3), .slice (n.t.u 0).a (n.t.u 0).n (n.t.u 0).c, .slice (n.t.u 1).a (n.t.u 1).n (n.t.u 1).c, .slice (n.t.u 2).a (n.t.u 2).n (n.t.u 2).c, .int .i64 n.t.ep, .int .i64 n.t.sg, .int .i64 n.t.rt, .slice n.t.o.a n.t.o.n n.t.o.c, .int .i64 n.t.pc, .int .i64 n.t.x, .int .i64 n.t.y])) := by rw [ha0]; rfl
  have G3 : a0.tmps[3]? = some (.pointer (some ⟨w.heap.size, 0, none⟩)) := by rw [ha0]; rfl
  have G4 : a0.tmps[4]? = some (.pointer (some ⟨w.heap.size + 1, 0, none⟩)) := by rw [ha0]; rfl
  have G5 : a0.tmps[5]? = some (.pointer (some ⟨w.heap.size + 2, 0, none⟩)) := by rw [ha0]; rfl
  have G6 : a0.tmps[6]? = some (.pointer (some ⟨w.heap.size + 3, 0, none⟩)) := by rw [ha0]; rfl
  have G7 : a0.tmps[7]? = some (.pointer (some ⟨w.heap.size + 4, 0, none⟩)) := by rw [ha0]; rfl
  have G8 : a0.tmps[8]? = some (.pointer (some ⟨w.heap.size + 5, 0, none⟩)) := by rw [ha0]; rfl
  have G15 : a0.tmps[15]? = some undef := by rw [ha0]; rfl
  have G16 : a0.tmps[16]? = some undef := by rw [ha0]; rfl
  have G17 : a0.tmps[17]? = some undef := by rw [ha0]; rfl
  have G18 : a0.tmps[18]? = some undef := by rw [ha0]; rfl
  have G19 : a0.tmps[19]? = some undef := by rw [ha0]; rfl
  have G20 : a0.tmps[20]? = some undef := by rw [ha0]; rfl
  have G21 : a0.tmps[21]? = some undef := by rw [ha0]; rfl
  have G22 : a0.tmps[22]? = some undef := by rw [ha0]; rfl
  have G23 : a0.tmps[23]? = some undef := by rw [ha0]; rfl
  have G24 : a0.tmps[24]? = some undef := by rw [ha0]; rfl
  have G25 : a0.tmps[25]? = some undef := by rw [ha0]; rfl
  have G26 : a0.tmps[26]? = some undef := by rw [ha0]; rfl
  have G27 : a0.tmps[27]? = some undef := by rw [ha0]; rfl
  have G28 : a0.tmps[28]? = some undef := by rw [ha0]; rfl
  have G29 : a0.tmps[29]? = some undef := by rw [ha0]; rfl
  have G30 : a0.tmps[30]? = some undef := by rw [ha0]; rfl
  have G31 : a0.tmps[31]? = some undef := by rw [ha0]; rfl
  have G32 : a0.tmps[32]? = some undef := by rw [ha0]; rfl
  have G33 : a0.tmps[33]? = some undef := by rw [ha0]; rfl
  have G34 : a0.tmps[34]? = some undef := by rw [ha0]; rfl
  have G35 : a0.tmps[35]? = some undef := by rw [ha0]; rfl
  have G36 : a0.tmps[36]? = some undef := by rw [ha0]; rfl
  have G37 : a0.tmps[37]? = some undef := by rw [ha0]; rfl
  have G38 : a0.tmps[38]? = some undef := by rw [ha0]; rfl
  have G39 : a0.tmps[39]? = some undef := by rw [ha0]; rfl
  have G40 : a0.tmps[40]? = some undef := by rw [ha0]; rfl
  have G41 : a0.tmps[41]? = some undef := by rw [ha0]; rfl
  have G42 : a0.tmps[42]? = some undef := by rw [ha0]; rfl
  have G43 : a0.tmps[43]? = some undef := by rw [ha0]; rfl
  have G44 : a0.tmps[44]? = some undef := by rw [ha0]; rfl
  have G45 : a0.tmps[45]? = some undef := by rw [ha0]; rfl
  have G46 : a0.tmps[46]? = some undef := by rw [ha0]; rfl
  have TD : a0.defers = [] := congrArg Act.defers ha0
  have TZ : a0.tmps.size = 47 := by rw [ha0]; rfl
  clear ha0
  refine region_plan (by kernel_rfl) (by kernel_rfl) (by rw [TZ]; kernel_rfl) (fun (x : Gx) (i : Nat) => (match i with | 0 => (.agg #[.slice n.s.w.a n.s.w.n n.s.w.c, .slice n.s.p.a n.s.p.n n.s.p.c, .slice (n.s.u 0).a (n.s.u 0).n (n.s.u 0).c, .slice (n.s.u 1).a (n.s.u 1).n (n.s.u 1).c, .slice (n.s.u 2).a (n.s.u 2).n (n.s.u 2).c, .slice n.s.c.a n.s.c.n n.s.c.c]) | 1 => (.agg #[.slice x.s.w.a x.s.w.n x.s.w.c, .slice x.s.p.a x.s.p.n x.s.p.c, .slice (x.s.u 0).a (x.s.u 0).n (x.s.u 0).c, .slice (x.s.u 1).a (x.s.u 1).n (x.s.u 1).c, .slice (x.s.u 2).a (x.s.u 2).n (x.s.u 2).c, .slice x.s.c.a x.s.c.n x.s.c.c]) | 2 => (.agg #[.int .i64 n.k.ph, .int .i64 n.k.ep, .bool n.k.mj, .slice n.k.wk.a n.k.wk.n n.k.wk.c, .bool n.k.ov, .int .i64 n.k.pa, .int .i64 n.k.pf, .int .i64 n.k.ps, .int .i64 n.k.pc, .bool n.k.me]) | 3 => (.agg #[.int .i64 n.k.ph, .int .i64 n.k.ep, .bool n.k.mj, .slice x.v.a x.v.n x.v.c, .bool n.k.ov, .int .i64 n.k.pa, .int .i64 n.k.pf, .int .i64 n.k.ps, .int .i64 n.k.pc, .bool n.k.me]) | 4 => (.agg #[.bool n.t.lv, .int .i64 (n.t.r 0), .int .i64 (n.t.r 1), .int .i64 (n.t.r 2), .int .i64 (n.t.r 3), .slice (n.t.u 0).a (n.t.u 0).n (n.t.u 0).c, .slice (n.t.u 1).a (n.t.u 1).n (n.t.u 1).c, .slice (n.t.u 2).a (n.t.u 2).n (n.t.u 2).c, .int .i64 n.t.ep, .int .i64 n.t.sg, .int .i64 n.t.rt, .slice n.t.o.a n.t.o.n n.t.o.c, .int .i64 n.t.pc, .int .i64 n.t.x, .int .i64 n.t.y]) | 5 => (.agg #[.bool n.t.lv, .int .i64 (n.t.r 0), .int .i64 (n.t.r 1), .int .i64 (n.t.r 2), .int .i64 (n.t.r 3), .slice (x.u 0).a (x.u 0).n (x.u 0).c, .slice (x.u 1).a (x.u 1).n (x.u 1).c, .slice (x.u 2).a (x.u 2).n (x.u 2).c, .int .i64 n.t.ep, .int .i64 n.t.sg, .int .i64 n.t.rt, .slice x.o.a x.o.n x.o.c, .int .i64 n.t.pc, .int .i64 n.t.x, .int .i64 n.t.y]) | _ => undef : Value)) (J9 w n) ⟨noHs0, ⟨none, 0, 0⟩, Ls.noSl, ⟨none, 0, 0⟩⟩ ?start ?step ?done
  case start => exact j9_start (S1.out.next (W' := W1.drew) ⟨rfl, rfl, rfl, Nat.le_refl _, fun _ _ => rfl⟩) _
  case step =>
    rintro i o9 l a9 x W9 ho hP hI hl haft K hK
    have hi : i < 9 := (Array.getElem?_eq_some_iff.1 ho).1
    have hz9 := hI.size
    rcases (show i = 0 ∨ i = 1 ∨ i = 2 ∨ i = 3 ∨ i = 4 ∨ i = 5 ∨ i = 6 ∨ i = 7 ∨ i = 8 by omega) with rfl | rfl | rfl | rfl | rfl | rfl | rfl | rfl | rfl
    · obtain rfl := Option.some.inj ho
      have e9 : l 6 = false := nt fun e => by rw [hI.k1 (hI.k6 e)] at hl; cases hl
      have hst := hI.st.box 0 (by decide)
      have hst : Box W9 (w.heap.size) (hv n.s) := by have := hst; simp only [p6, c6, e9] at this; exact this
      have q3 := (hP.keep (j := 3) (by kernel_rfl)).trans G3
      exact p_load rfl (ev q3) (ldHb hst) (hK x _ (fun _ _ => rfl) (hI.pure (i := 0) (by decide)))
    · obtain rfl := Option.some.inj ho
      have h0 := haft ⟨0, .data⟩ (by simp) rfl
      have e0 := hP.got 0 _ 9 rfl h0 rfl
      try dsimp only at e0
      go_simp
      refine (fresh_all n.s n.d W9 (HI.out.hold.h.next hI.st.bel) HI.out.fine).mono ?_
      rintro e9 w9 ⟨s', rfl, hp9, hL9, hn9, hb9⟩
      have n9 : News (w.heap.size + 6) s' := ⟨fun h0 y hy => Nat.le_trans hz9 (hn9.w h0 y hy), fun h0 y hy => Nat.le_trans hz9 (hn9.p h0 y hy), fun j hj h0 y hy => Nat.le_trans hz9 (hn9.u j hj h0 y hy), fun h0 y hy => Nat.le_trans hz9 (hn9.c h0 y hy)⟩
      refine hK ⟨s', x.v, x.u, x.o⟩ _ ?_ ((hI.next hb9).set1 hl h0 hp9 hL9 n9)
      intro j hj
      match j, hj with
      | 0, hj => rfl
      | 1, hj => rw [hl] at hj; cases hj
      | 2, hj => rfl
      | 3, hj => rfl
      | 4, hj => rfl
      | 5, hj => rfl
      | 6, hj => rfl
      | 7, hj => rfl
      | 8, hj => rfl
      | j + 9, _ => rfl
    · obtain rfl := Option.some.inj ho
      have e9 : l 7 = false := nt fun e => by rw [hI.k3 (hI.k7 e)] at hl; cases hl
      have hst := hI.st.box 1 (by decide)
      have hst : Box W9 (w.heap.size + 1) (kv n.k) := by have := hst; simp only [p6, c6, e9] at this; exact this
      have q4 := (hP.keep (j := 4) (by kernel_rfl)).trans G4
      exact p_load rfl (ev q4) (ldKb hst) (hK x _ (fun _ _ => rfl) (hI.pure (i := 2) (by decide)))
    · obtain rfl := Option.some.inj ho
      have h0 := haft ⟨2, .data⟩ (by simp) rfl
      have e2 := hP.got 2 _ 11 rfl h0 rfl
      try dsimp only at e2
      go_simp
      refine (Sh.fcol_any n.k n.xs W9 (HI.out.hold.c.next hI.st.bel) (by have := HI.out.x; omega)).mono ?_
      rintro e9 w9 ⟨v', rfl, ha9⟩
      refine hK ⟨x.s, v', x.u, x.o⟩ _ ?_ ((hI.next ha9.bel).set3 hl h0 (Mu.all_row9 ha9.own) (fun h0 y hy => Nat.le_trans hz9 (own_lie ha9 h0 y hy)))
      intro j hj
      match j, hj with
      | 0, hj => rfl
      | 1, hj => rfl
      | 2, hj => rfl
      | 3, hj => rw [hl] at hj; cases hj
      | 4, hj => rfl
      | 5, hj => rfl
      | 6, hj => rfl
      | 7, hj => rfl
      | 8, hj => rfl
      | j + 9, _ => rfl
    · obtain rfl := Option.some.inj ho
      have e9 : l 8 = false := nt fun e => by rw [hI.k5 (hI.k8 e)] at hl; cases hl
      have hst := hI.st.box 2 (by decide)
      have hst : Box W9 (w.heap.size + 2) (tv n.t) := by have := hst; simp only [p6, c6, e9] at this; exact this
      have q5 := (hP.keep (j := 5) (by kernel_rfl)).trans G5
      exact p_load rfl (ev q5) (ldTb hst) (hK x _ (fun _ _ => rfl) (hI.pure (i := 4) (by decide)))
    · obtain rfl := Option.some.inj ho
      have h0 := haft ⟨4, .data⟩ (by simp) rfl
      have e4 := hP.got 4 _ 13 rfl h0 rfl
      try dsimp only at e4
      go_simp
      refine (fthread_any n.t n.F n.g W9 (HI.out.hold.t.next hI.st.bel) HI.out.u HI.out.o).mono ?_
      rintro e9 w9 ⟨u', o', hon, rfl, hth, hx1, hx2, hb9⟩
      refine hK ⟨x.s, x.v, u', o'⟩ _ ?_ ((hI.next hb9).set5 hl h0 hth hon (fun j hj y hy => Nat.le_trans hz9 (hx1 j hj y hy)) (fun h0 y hy => Nat.le_trans hz9 (hx2 h0 y hy)))
      intro j hj
      match j, hj with
      | 0, hj => rfl
      | 1, hj => rfl
      | 2, hj => rfl
      | 3, hj => rfl
      | 4, hj => rfl
      | 5, hj => rw [hl] at hj; cases hj
      | 6, hj => rfl
      | 7, hj => rfl
      | 8, hj => rfl
      | j + 9, _ => rfl
    · obtain rfl := Option.some.inj ho
      have h1 := haft ⟨1, .data⟩ (by simp) rfl
      have e9 := hP.got 1 _ 10 rfl h1 rfl
      try dsimp only at e9
      have q3 := (hP.keep (j := 3) (by kernel_rfl)).trans G3
      exact p_store rfl (ev q3) (ev e9) (stHb (show Box W9 (w.heap.size) _ from hI.st.box 0 (by decide)) sel_h x.s) (hK x _ (fun _ _ => rfl) (hI.put6 h1))
    · obtain rfl := Option.some.inj ho
      have h1 := haft ⟨3, .data⟩ (by simp) rfl
      have e9 := hP.got 3 _ 12 rfl h1 rfl
      try dsimp only at e9
      have q4 := (hP.keep (j := 4) (by kernel_rfl)).trans G4
      exact p_store rfl (ev q4) (ev e9) (stKb (show Box W9 (w.heap.size + 1) _ from hI.st.box 1 (by decide)) sel_k (Sh.kw n.k x.v n.k.ov)) (hK x _ (fun _ _ => rfl) (hI.put7 h1))
    · obtain rfl := Option.some.inj ho
      have h1 := haft ⟨5, .data⟩ (by simp) rfl
      have e9 := hP.got 5 _ 14 rfl h1 rfl
      try dsimp only at e9
      have q5 := (hP.keep (j := 5) (by kernel_rfl)).trans G5
      exact p_store rfl (ev q5) (ev e9) (stTb (show Box W9 (w.heap.size + 2) _ from hI.st.box 2 (by decide)) sel_t (tw n.t x.u x.o)) (hK x _ (fun _ _ => rfl) (hI.put8 h1))
  case done =>
    rintro l a9 x W9 hP hI hall
    have ea : a9 = { tmps := #[(.agg #[.slice n.s.w.a n.s.w.n n.s.w.c, .slice n.s.p.a n.s.p.n n.s.p.c, .slice (n.s.u 0).a (n.s.u 0).n (n.s.u 0).c, .slice (n.s.u 1).a (n.s.u 1).n (n.s.u 1).c, .slice (n.s.u 2).a (n.s.u 2).n (n.s.u 2).c, .slice n.s.c.a n.s.c.n n.s.c.c]), (.agg #[.int .i64 n.k.ph, .int .i64 n.k.ep, .bool n.k.mj, .slice n.k.wk.a n.k.wk.n n.k.wk.c, .bool n.k.ov, .int .i64 n.k.pa, .int .i64 n.k.pf, .int .i64 n.k.ps, .int .i64 n.k.pc, .bool n.k.me]), (.agg #[.bool n.t.lv, .int .i64 (n.t.r 0), .int .i64 (n.t.r 1), .int .i64 (n.t.r 2), .int .i64 (n.t.r 3), .slice (n.t.u 0).a (n.t.u 0).n (n.t.u 0).c, .slice (n.t.u 1).a (n.t.u 1).n (n.t.u 1).c, .slice (n.t.u 2).a (n.t.u 2).n (n.t.u 2).c, .int .i64 n.t.ep, .int .i64 n.t.sg, .int .i64 n.t.rt, .slice n.t.o.a n.t.o.n n.t.o.c, .int .i64 n.t.pc, .int .i64 n.t.x, .int .i64 n.t.y]), .pointer (some ⟨w.heap.size, 0, none⟩), .pointer (some ⟨w.heap.size + 1, 0, none⟩), .pointer (some ⟨w.heap.size + 2, 0, none⟩), .pointer (some ⟨w.heap.size + 3, 0, none⟩), .pointer (some ⟨w.heap.size + 4, 0, none⟩), .pointer (some ⟨w.heap.size + 5, 0, none⟩), (.agg #[.slice n.s.w.a n.s.w.n n.s.w.c, .slice n.s.p.a n.s.p.n n.s.p.c, .slice (n.s.u 0).a (n.s.u 0).n (n.s.u 0).c, .slice (n.s.u 1).a (n.s.u 1).n (n.s.u 1).c, .slice (n.s.u 2).a (n.s.u 2).n (n.s.u 2).c, .slice n.s.c.a n.s.c.n n.s.c.c]), (.agg #[.slice x.s.w.a x.s.w.n x.s.w.c, .slice x.s.p.a x.s.p.n x.s.p.c, .slice (x.s.u 0).a (x.s.u 0).n (x.s.u 0).c, .slice (x.s.u 1).a (x.s.u 1).n (x.s.u 1).c, .slice (x.s.u 2).a (x.s.u 2).n (x.s.u 2).c, .slice x.s.c.a x.s.c.n x.s.c.c]), (.agg #[.int .i64 n.k.ph, .int .i64 n.k.ep, .bool n.k.mj, .slice n.k.wk.a n.k.wk.n n.k.wk.c, .bool n.k.ov, .int .i64 n.k.pa, .int .i64 n.k.pf, .int .i64 n.k.ps, .int .i64 n.k.pc, .bool n.k.me]), (.agg #[.int .i64 n.k.ph, .int .i64 n.k.ep, .bool n.k.mj, .slice x.v.a x.v.n x.v.c, .bool n.k.ov, .int .i64 n.k.pa, .int .i64 n.k.pf, .int .i64 n.k.ps, .int .i64 n.k.pc, .bool n.k.me]), (.agg #[.bool n.t.lv, .int .i64 (n.t.r 0), .int .i64 (n.t.r 1), .int .i64 (n.t.r 2), .int .i64 (n.t.r 3), .slice (n.t.u 0).a (n.t.u 0).n (n.t.u 0).c, .slice (n.t.u 1).a (n.t.u 1).n (n.t.u 1).c, .slice (n.t.u 2).a (n.t.u 2).n (n.t.u 2).c, .int .i64 n.t.ep, .int .i64 n.t.sg, .int .i64 n.t.rt, .slice n.t.o.a n.t.o.n n.t.o.c, .int .i64 n.t.pc, .int .i64 n.t.x, .int .i64 n.t.y]), (.agg #[.bool n.t.lv, .int .i64 (n.t.r 0), .int .i64 (n.t.r 1), .int .i64 (n.t.r 2), .int .i64 (n.t.r 3), .slice (x.u 0).a (x.u 0).n (x.u 0).c, .slice (x.u 1).a (x.u 1).n (x.u 1).c, .slice (x.u 2).a (x.u 2).n (x.u 2).c, .int .i64 n.t.ep, .int .i64 n.t.sg, .int .i64 n.t.rt, .slice x.o.a x.o.n x.o.c, .int .i64 n.t.pc, .int .i64 n.t.x, .int .i64 n.t.y]), undef, undef, undef, undef, undef, undef, undef, undef, undef, undef, undef, undef, undef, undef, undef, undef, undef, undef, undef, undef, undef, undef, undef, undef, undef, undef, undef, undef, undef, undef, undef, undef], defers := [] } := Sh.act_ext (hP.df.trans TD) fun j => by
      match j with
      | 0 => exact (hP.keep (j := 0) (by kernel_rfl)).trans G0
      | 1 => exact (hP.keep (j := 1) (by kernel_rfl)).trans G1
      | 2 => exact (hP.keep (j := 2) (by kernel_rfl)).trans G2
      | 3 => exact (hP.keep (j := 3) (by kernel_rfl)).trans G3
      | 4 => exact (hP.keep (j := 4) (by kernel_rfl)).trans G4
      | 5 => exact (hP.keep (j := 5) (by kernel_rfl)).trans G5
      | 6 => exact (hP.keep (j := 6) (by kernel_rfl)).trans G6
      | 7 => exact (hP.keep (j := 7) (by kernel_rfl)).trans G7
      | 8 => exact (hP.keep (j := 8) (by kernel_rfl)).trans G8
      | 9 => exact hP.got 0 _ 9 rfl (hall 0 (by decide)) rfl
      | 10 => exact hP.got 1 _ 10 rfl (hall 1 (by decide)) rfl
      | 11 => exact hP.got 2 _ 11 rfl (hall 2 (by decide)) rfl
      | 12 => exact hP.got 3 _ 12 rfl (hall 3 (by decide)) rfl
      | 13 => exact hP.got 4 _ 13 rfl (hall 4 (by decide)) rfl
      | 14 => exact hP.got 5 _ 14 rfl (hall 5 (by decide)) rfl
      | 15 => exact (hP.keep (j := 15) (by kernel_rfl)).trans G15
      | 16 => exact (hP.keep (j := 16) (by kernel_rfl)).trans G16
      | 17 => exact (hP.keep (j := 17) (by kernel_rfl)).trans G17
      | 18 => exact (hP.keep (j := 18) (by kernel_rfl)).trans G18
      | 19 => exact (hP.keep (j := 19) (by kernel_rfl)).trans G19
      | 20 => exact (hP.keep (j := 20) (by kernel_rfl)).trans G20
      | 21 => exact (hP.keep (j := 21) (by kernel_rfl)).trans G21
      | 22 => exact (hP.keep (j := 22) (by kernel_rfl)).trans G22
      | 23 => exact (hP.keep (j := 23) (by kernel_rfl)).trans G23
      | 24 => exact (hP.keep (j := 24) (by kernel_rfl)).trans G24
      | 25 => exact (hP.keep (j := 25) (by kernel_rfl)).trans G25
      | 26 => exact (hP.keep (j := 26) (by kernel_rfl)).trans G26
      | 27 => exact (hP.keep (j := 27) (by kernel_rfl)).trans G27
      | 28 => exact (hP.keep (j := 28) (by kernel_rfl)).trans G28
      | 29 => exact (hP.keep (j := 29) (by kernel_rfl)).trans G29
      | 30 => exact (hP.keep (j := 30) (by kernel_rfl)).trans G30
      | 31 => exact (hP.keep (j := 31) (by kernel_rfl)).trans G31
      | 32 => exact (hP.keep (j := 32) (by kernel_rfl)).trans G32
      | 33 => exact (hP.keep (j := 33) (by kernel_rfl)).trans G33
      | 34 => exact (hP.keep (j := 34) (by kernel_rfl)).trans G34
      | 35 => exact (hP.keep (j := 35) (by kernel_rfl)).trans G35
      | 36 => exact (hP.keep (j := 36) (by kernel_rfl)).trans G36
      | 37 => exact (hP.keep (j := 37) (by kernel_rfl)).trans G37
      | 38 => exact (hP.keep (j := 38) (by kernel_rfl)).trans G38
      | 39 => exact (hP.keep (j := 39) (by kernel_rfl)).trans G39
      | 40 => exact (hP.keep (j := 40) (by kernel_rfl)).trans G40
      | 41 => exact (hP.keep (j := 41) (by kernel_rfl)).trans G41
      | 42 => exact (hP.keep (j := 42) (by kernel_rfl)).trans G42
      | 43 => exact (hP.keep (j := 43) (by kernel_rfl)).trans G43
      | 44 => exact (hP.keep (j := 44) (by kernel_rfl)).trans G44
      | 45 => exact (hP.keep (j := 45) (by kernel_rfl)).trans G45
      | 46 => exact (hP.keep (j := 46) (by kernel_rfl)).trans G46
      | j + 47 => exact (Array.getElem?_eq_none (by rw [hP.sz, TZ]; omega)).trans (Array.getElem?_eq_none (show 47 ≤ j + 47 by omega)).symm
    subst ea
    have D2 := hI.done hall
    obtain ⟨m, hm⟩ : ∃ m, m = gQ n x := ⟨_, rfl⟩
    rw [← hm] at D2
    have FG2 : Hid (m.F = n.F ∧ m.g = n.g) := Lib.hid (by rw [hm]; exact ⟨rfl, rfl⟩)
    have S2 := Lib.hid D2.1
    have N2 := Lib.hid D2.2.1
    have I2 := Lib.hid D2.2.2
    obtain ⟨x1, hx1⟩ : ∃ x1, x1 = x.s := ⟨_, rfl⟩
    obtain ⟨x2, hx2⟩ : ∃ x2, x2 = x.v := ⟨_, rfl⟩
    obtain ⟨x3, hx3⟩ : ∃ x3, x3 = x.u := ⟨_, rfl⟩
    obtain ⟨x4, hx4⟩ : ∃ x4, x4 = x.o := ⟨_, rfl⟩
    rw [← hx1, ← hx2, ← hx3, ← hx4]
    clear hP hI hall D2 hm hx1 hx2 hx3 hx4 TD TZ S1 S1' G0 G1 G2 G3 G4 G5 G6 G7 G8 G15 G16 G17 G18 G19 G20 G21 G22 G23 G24 G25 G26 G27 G28 G29 G30 G31 G32 G33 G34 G35 G36 G37 G38 G39 G40 G41 G42 G43 G44 G45 G46
    have hFg : m.F = n.F ∧ m.g = n.g := FG2.out
    have C1 := Lib.hid (fun W => asked_any m.k m.t W)
    obtain ⟨ba, hba⟩ : ∃ ba, ba = askB m.k.ph m.k.ep m.t := ⟨_, rfl⟩
    have A2 := Lib.hid hba.symm
    rw [← hba] at C1
    clear hba hFg
    cases ba with
    | false =>
      go_upto_region 8 with (first
        | (refine w_load (ldKb (show Box _ (w.heap.size + 1) (kv m.k) from S2.out.box 1 (by decide))) rfl rfl rfl rfl ?_)
        | (refine w_load (ldTb (show Box _ (w.heap.size + 2) (tv m.t) from S2.out.box 2 (by decide))) rfl rfl rfl rfl ?_)
        | ((go_at_call 33); (with_reducible refine (C1.out _).mono ?_); rintro e9 w9 ⟨rfl, hb9⟩; have S3 := Lib.hid (S2.out.next hb9); clear hb9))
      have KE := S3
      refine Sh.region_gen fun a0 ha0 => ?_
      have G3 : a0.tmps[3]? = some (.pointer (some ⟨w.heap.size, 0, none⟩)) := by rw [ha0]; rfl
      have G4 : a0.tmps[4]? = some (.pointer (some ⟨w.heap.size + 1, 0, none⟩)) := by rw [ha0]; rfl
      have G5 : a0.tmps[5]? = some (.pointer (some ⟨w.heap.size + 2, 0, none⟩)) := by rw [ha0]; rfl
      have G6 : a0.tmps[6]? = some (.pointer (some ⟨w.heap.size + 3, 0, none⟩)) := by rw [ha0]; rfl
      have G7 : a0.tmps[7]? = some (.pointer (some ⟨w.heap.size + 4, 0, none⟩)) := by rw [ha0]; rfl
      have G8 : a0.tmps[8]? = some (.pointer (some ⟨w.heap.size + 5, 0, none⟩)) := by rw [ha0]; rfl
      have TD : a0.defers = [] := congrArg Act.defers ha0
      have TZ : a0.tmps.size = 47 := by rw [ha0]; rfl
      clear ha0
      refine region_plan (by kernel_rfl) (by kernel_rfl) (by rw [TZ]; kernel_rfl) (fun (_ : Unit) (i : Nat) => (match i with | 0 => (.agg #[.slice m.s.w.a m.s.w.n m.s.w.c, .slice m.s.p.a m.s.p.n m.s.p.c, .slice (m.s.u 0).a (m.s.u 0).n (m.s.u 0).c, .slice (m.s.u 1).a (m.s.u 1).n (m.s.u 1).c, .slice (m.s.u 2).a (m.s.u 2).n (m.s.u 2).c, .slice m.s.c.a m.s.c.n m.s.c.c]) | 1 => (.agg #[.int .i64 m.k.ph, .int .i64 m.k.ep, .bool m.k.mj, .slice m.k.wk.a m.k.wk.n m.k.wk.c, .bool m.k.ov, .int .i64 m.k.pa, .int .i64 m.k.pf, .int .i64 m.k.ps, .int .i64 m.k.pc, .bool m.k.me]) | 2 => (.agg #[.bool m.t.lv, .int .i64 (m.t.r 0), .int .i64 (m.t.r 1), .int .i64 (m.t.r 2), .int .i64 (m.t.r 3), .slice (m.t.u 0).a (m.t.u 0).n (m.t.u 0).c, .slice (m.t.u 1).a (m.t.u 1).n (m.t.u 1).c, .slice (m.t.u 2).a (m.t.u 2).n (m.t.u 2).c, .int .i64 m.t.ep, .int .i64 m.t.sg, .int .i64 m.t.rt, .slice m.t.o.a m.t.o.n m.t.o.c, .int .i64 m.t.pc, .int .i64 m.t.x, .int .i64 m.t.y]) | _ => undef : Value)) (fun _ l W => R6 w (p6 w.heap.size (w.heap.size + 1) (w.heap.size + 2) (w.heap.size + 3) (w.heap.size + 4) (w.heap.size + 5)) m l W) () ?start ?step ?done
      case start => exact r6_start (KE.out.next ⟨rfl, rfl, rfl, Nat.le_refl _, fun _ _ => rfl⟩)
      case step =>
        rintro i o9 l a9 _ W9 ho hP hI hl haft K hK
        have hi : i < 6 := (Array.getElem?_eq_some_iff.1 ho).1
        rcases (show i = 0 ∨ i = 1 ∨ i = 2 ∨ i = 3 ∨ i = 4 ∨ i = 5 by omega) with rfl | rfl | rfl | rfl | rfl | rfl
        · obtain rfl := Option.some.inj ho
          have q9 := (hP.keep (j := 3) (by kernel_rfl)).trans G3
          exact p_load rfl (ev q9) (ldHb (show Box W9 (w.heap.size) (hv m.s) from hI.st.box 0 (by decide))) (hK () _ (fun _ _ => rfl) (hI.pure (i := 0) (by decide)))
        · obtain rfl := Option.some.inj ho
          have q9 := (hP.keep (j := 4) (by kernel_rfl)).trans G4
          exact p_load rfl (ev q9) (ldKb (show Box W9 (w.heap.size + 1) (kv m.k) from hI.st.box 1 (by decide))) (hK () _ (fun _ _ => rfl) (hI.pure (i := 1) (by decide)))
        · obtain rfl := Option.some.inj ho
          have q9 := (hP.keep (j := 5) (by kernel_rfl)).trans G5
          exact p_load rfl (ev q9) (ldTb (show Box W9 (w.heap.size + 2) (tv m.t) from hI.st.box 2 (by decide))) (hK () _ (fun _ _ => rfl) (hI.pure (i := 2) (by decide)))
        · obtain rfl := Option.some.inj ho
          have e9 := hP.got 0 _ 44 rfl (haft ⟨0, .data⟩ (by simp) rfl) rfl
          try dsimp only at e9
          have q9 := (hP.keep (j := 6) (by kernel_rfl)).trans G6
          exact p_store rfl (ev q9) (ev e9) (stHb (show Box W9 (w.heap.size + 3) _ from hI.st.box 3 (by decide)) sel_h (m.s)) (hK () _ (fun _ _ => rfl) hI.put3)
        · obtain rfl := Option.some.inj ho
          have e9 := hP.got 1 _ 45 rfl (haft ⟨1, .data⟩ (by simp) rfl) rfl
          try dsimp only at e9
          have q9 := (hP.keep (j := 7) (by kernel_rfl)).trans G7
          exact p_store rfl (ev q9) (ev e9) (stKb (show Box W9 (w.heap.size + 4) _ from hI.st.box 4 (by decide)) sel_k (m.k)) (hK () _ (fun _ _ => rfl) hI.put4)
        · obtain rfl := Option.some.inj ho
          have e9 := hP.got 2 _ 46 rfl (haft ⟨2, .data⟩ (by simp) rfl) rfl
          try dsimp only at e9
          have q9 := (hP.keep (j := 8) (by kernel_rfl)).trans G8
          exact p_store rfl (ev q9) (ev e9) (stTb (show Box W9 (w.heap.size + 5) _ from hI.st.box 5 (by decide)) sel_t (m.t)) (hK () _ (fun _ _ => rfl) hI.put5)
      case done =>
        rintro l a9 _ W9 hP hI hall
        have t6 := (hP.keep (j := 6) (by kernel_rfl)).trans G6
        have t7 := (hP.keep (j := 7) (by kernel_rfl)).trans G7
        have t8 := (hP.keep (j := 8) (by kernel_rfl)).trans G8
        have td := hP.df.trans TD
        have D9 := Lib.hid (hI.done (hall 3 (by decide)) (hall 4 (by decide)) (hall 5 (by decide)))
        clear hP hI hall
        go_wp2
        exact bodyPost_ret (res3 rfl t6 t7 t8 (show Box W9 (w.heap.size + 3) (hv m.s) from D9.out.box 3 (by decide)) (show Box W9 (w.heap.size + 4) (kv m.k) from D9.out.box 4 (by decide)) (show Box W9 (w.heap.size + 5) (tv m.t) from D9.out.box 5 (by decide))) td ⟨m, rfl, I2.out.an (no_sim A2.out), FG2.out.1, FG2.out.2, D9.out.at _ (by simp), N2.out.less (by omega), D9.out.bel⟩
    | true =>
      by_cases he : m.t.ep = m.k.ep
      · have E2 := Lib.hid he
        have e0 : decide (m.t.ep = m.k.ep) = true := decide_eq_true he
        have e1 : (m.t.ep == m.k.ep) = true := e0
        have e2 : (m.t.ep != m.k.ep) = false := by simp only [bne, e1]; rfl
        clear he
        by_cases hp : m.k.ph = 2
        · have P2 := Lib.hid hp
          have f0 : decide (m.k.ph = 2) = true := decide_eq_true hp
          have f1 : (m.k.ph == 2) = true := f0
          clear hp
          go_upto_region 7 with (first
            | (refine w_load (ldKb (show Box _ (w.heap.size + 1) (kv m.k) from S2.out.box 1 (by decide))) rfl rfl rfl rfl ?_)
            | (refine w_load (ldTb (show Box _ (w.heap.size + 2) (tv m.t) from S2.out.box 2 (by decide))) rfl rfl rfl rfl ?_)
            | ((go_at_call 33); (with_reducible refine (C1.out _).mono ?_); rintro e9 w9 ⟨rfl, hb9⟩; have S3 := Lib.hid (S2.out.next hb9); clear hb9; have q8 := (show Box _ (w.heap.size + 2) (tv m.t) from S3.out.box 2 (by decide)).cel 8 (.int .i64 m.t.ep) rfl; have q1 := (show Box _ (w.heap.size + 1) (kv m.k) from S3.out.box 1 (by decide)).cel 1 (.int .i64 m.k.ep) rfl; have q0 := (show Box _ (w.heap.size + 1) (kv m.k) from S3.out.box 1 (by decide)).cel 0 (.int .i64 m.k.ph) rfl))
          clear q8 q1 q0
          go_upto_region 8 with (refine w6_int S3.out 2 (by decide) 9 (2) (vs := tv (te m.t m.t.ep 2 m.t.rt)) (c' := c6 (hv m.s) (kv m.k) (tv (te m.t m.t.ep 2 m.t.rt)) (hv noHs0) (kv noK0) (tv noT)) (show 9 < 15 by decide) rfl (all6 ⟨rfl, rfl, rfl, rfl, rfl, rfl⟩) rfl rfl rfl rfl rfl ?_; intro W4 h6; have S4 := Lib.hid h6; clear h6 S3)
          have S9 : Hid (W6 w _ (p6 w.heap.size (w.heap.size + 1) (w.heap.size + 2) (w.heap.size + 3) (w.heap.size + 4) (w.heap.size + 5)) (c6 (hv (thQ m (te m.t m.t.ep 2 m.t.rt)).s) (kv (thQ m (te m.t m.t.ep 2 m.t.rt)).k) (tv (thQ m (te m.t m.t.ep 2 m.t.rt)).t) (hv noHs0) (kv noK0) (tv noT)) [(thQ m (te m.t m.t.ep 2 m.t.rt))]) := Lib.hid (th_next S4.out (keep_te _ _ _ _))
          clear S4
          have KE := S9
          refine Sh.region_gen fun a0 ha0 => ?_
          have G3 : a0.tmps[3]? = some (.pointer (some ⟨w.heap.size, 0, none⟩)) := by rw [ha0]; rfl
          have G4 : a0.tmps[4]? = some (.pointer (some ⟨w.heap.size + 1, 0, none⟩)) := by rw [ha0]; rfl
          have G5 : a0.tmps[5]? = some (.pointer (some ⟨w.heap.size + 2, 0, none⟩)) := by rw [ha0]; rfl
          have G6 : a0.tmps[6]? = some (.pointer (some ⟨w.heap.size + 3, 0, none⟩)) := by rw [ha0]; rfl
          have G7 : a0.tmps[7]? = some (.pointer (some ⟨w.heap.size + 4, 0, none⟩)) := by rw [ha0]; rfl
          have G8 : a0.tmps[8]? = some (.pointer (some ⟨w.heap.size + 5, 0, none⟩)) := by rw [ha0]; rfl
          have TD : a0.defers = [] := congrArg Act.defers ha0
          have TZ : a0.tmps.size = 47 := by rw [ha0]; rfl
          clear ha0
          refine region_plan (by kernel_rfl) (by kernel_rfl) (by rw [TZ]; kernel_rfl) (fun (_ : Unit) (i : Nat) => (match i with | 0 => (.agg #[.slice (thQ m (te m.t m.t.ep 2 m.t.rt)).s.w.a (thQ m (te m.t m.t.ep 2 m.t.rt)).s.w.n (thQ m (te m.t m.t.ep 2 m.t.rt)).s.w.c, .slice (thQ m (te m.t m.t.ep 2 m.t.rt)).s.p.a (thQ m (te m.t m.t.ep 2 m.t.rt)).s.p.n (thQ m (te m.t m.t.ep 2 m.t.rt)).s.p.c, .slice ((thQ m (te m.t m.t.ep 2 m.t.rt)).s.u 0).a ((thQ m (te m.t m.t.ep 2 m.t.rt)).s.u 0).n ((thQ m (te m.t m.t.ep 2 m.t.rt)).s.u 0).c, .slice ((thQ m (te m.t m.t.ep 2 m.t.rt)).s.u 1).a ((thQ m (te m.t m.t.ep 2 m.t.rt)).s.u 1).n ((thQ m (te m.t m.t.ep 2 m.t.rt)).s.u 1).c, .slice ((thQ m (te m.t m.t.ep 2 m.t.rt)).s.u 2).a ((thQ m (te m.t m.t.ep 2 m.t.rt)).s.u 2).n ((thQ m (te m.t m.t.ep 2 m.t.rt)).s.u 2).c, .slice (thQ m (te m.t m.t.ep 2 m.t.rt)).s.c.a (thQ m (te m.t m.t.ep 2 m.t.rt)).s.c.n (thQ m (te m.t m.t.ep 2 m.t.rt)).s.c.c]) | 1 => (.agg #[.int .i64 (thQ m (te m.t m.t.ep 2 m.t.rt)).k.ph, .int .i64 (thQ m (te m.t m.t.ep 2 m.t.rt)).k.ep, .bool (thQ m (te m.t m.t.ep 2 m.t.rt)).k.mj, .slice (thQ m (te m.t m.t.ep 2 m.t.rt)).k.wk.a (thQ m (te m.t m.t.ep 2 m.t.rt)).k.wk.n (thQ m (te m.t m.t.ep 2 m.t.rt)).k.wk.c, .bool (thQ m (te m.t m.t.ep 2 m.t.rt)).k.ov, .int .i64 (thQ m (te m.t m.t.ep 2 m.t.rt)).k.pa, .int .i64 (thQ m (te m.t m.t.ep 2 m.t.rt)).k.pf, .int .i64 (thQ m (te m.t m.t.ep 2 m.t.rt)).k.ps, .int .i64 (thQ m (te m.t m.t.ep 2 m.t.rt)).k.pc, .bool (thQ m (te m.t m.t.ep 2 m.t.rt)).k.me]) | 2 => (.agg #[.bool ((thQ m (te m.t m.t.ep 2 m.t.rt)).t).lv, .int .i64 (((thQ m (te m.t m.t.ep 2 m.t.rt)).t).r 0), .int .i64 (((thQ m (te m.t m.t.ep 2 m.t.rt)).t).r 1), .int .i64 (((thQ m (te m.t m.t.ep 2 m.t.rt)).t).r 2), .int .i64 (((thQ m (te m.t m.t.ep 2 m.t.rt)).t).r 3), .slice (((thQ m (te m.t m.t.ep 2 m.t.rt)).t).u 0).a (((thQ m (te m.t m.t.ep 2 m.t.rt)).t).u 0).n (((thQ m (te m.t m.t.ep 2 m.t.rt)).t).u 0).c, .slice (((thQ m (te m.t m.t.ep 2 m.t.rt)).t).u 1).a (((thQ m (te m.t m.t.ep 2 m.t.rt)).t).u 1).n (((thQ m (te m.t m.t.ep 2 m.t.rt)).t).u 1).c, .slice (((thQ m (te m.t m.t.ep 2 m.t.rt)).t).u 2).a (((thQ m (te m.t m.t.ep 2 m.t.rt)).t).u 2).n (((thQ m (te m.t m.t.ep 2 m.t.rt)).t).u 2).c, .int .i64 ((thQ m (te m.t m.t.ep 2 m.t.rt)).t).ep, .int .i64 ((thQ m (te m.t m.t.ep 2 m.t.rt)).t).sg, .int .i64 ((thQ m (te m.t m.t.ep 2 m.t.rt)).t).rt, .slice ((thQ m (te m.t m.t.ep 2 m.t.rt)).t).o.a ((thQ m (te m.t m.t.ep 2 m.t.rt)).t).o.n ((thQ m (te m.t m.t.ep 2 m.t.rt)).t).o.c, .int .i64 ((thQ m (te m.t m.t.ep 2 m.t.rt)).t).pc, .int .i64 ((thQ m (te m.t m.t.ep 2 m.t.rt)).t).x, .int .i64 ((thQ m (te m.t m.t.ep 2 m.t.rt)).t).y]) | _ => undef : Value)) (fun _ l W => R6 w (p6 w.heap.size (w.heap.size + 1) (w.heap.size + 2) (w.heap.size + 3) (w.heap.size + 4) (w.heap.size + 5)) (thQ m (te m.t m.t.ep 2 m.t.rt)) l W) () ?start ?step ?done
          case start => exact r6_start (KE.out.next ⟨rfl, rfl, rfl, Nat.le_refl _, fun _ _ => rfl⟩)
          case step =>
            rintro i o9 l a9 _ W9 ho hP hI hl haft K hK
            have hi : i < 6 := (Array.getElem?_eq_some_iff.1 ho).1
            rcases (show i = 0 ∨ i = 1 ∨ i = 2 ∨ i = 3 ∨ i = 4 ∨ i = 5 by omega) with rfl | rfl | rfl | rfl | rfl | rfl
            · obtain rfl := Option.some.inj ho
              have q9 := (hP.keep (j := 3) (by kernel_rfl)).trans G3
              exact p_load rfl (ev q9) (ldHb (show Box W9 (w.heap.size) (hv (thQ m (te m.t m.t.ep 2 m.t.rt)).s) from hI.st.box 0 (by decide))) (hK () _ (fun _ _ => rfl) (hI.pure (i := 0) (by decide)))
            · obtain rfl := Option.some.inj ho
              have q9 := (hP.keep (j := 4) (by kernel_rfl)).trans G4
              exact p_load rfl (ev q9) (ldKb (show Box W9 (w.heap.size + 1) (kv (thQ m (te m.t m.t.ep 2 m.t.rt)).k) from hI.st.box 1 (by decide))) (hK () _ (fun _ _ => rfl) (hI.pure (i := 1) (by decide)))
            · obtain rfl := Option.some.inj ho
              have q9 := (hP.keep (j := 5) (by kernel_rfl)).trans G5
              exact p_load rfl (ev q9) (ldTb (show Box W9 (w.heap.size + 2) (tv (thQ m (te m.t m.t.ep 2 m.t.rt)).t) from hI.st.box 2 (by decide))) (hK () _ (fun _ _ => rfl) (hI.pure (i := 2) (by decide)))
            · obtain rfl := Option.some.inj ho
              have e9 := hP.got 0 _ 44 rfl (haft ⟨0, .data⟩ (by simp) rfl) rfl
              try dsimp only at e9
              have q9 := (hP.keep (j := 6) (by kernel_rfl)).trans G6
              exact p_store rfl (ev q9) (ev e9) (stHb (show Box W9 (w.heap.size + 3) _ from hI.st.box 3 (by decide)) sel_h ((thQ m (te m.t m.t.ep 2 m.t.rt)).s)) (hK () _ (fun _ _ => rfl) hI.put3)
            · obtain rfl := Option.some.inj ho
              have e9 := hP.got 1 _ 45 rfl (haft ⟨1, .data⟩ (by simp) rfl) rfl
              try dsimp only at e9
              have q9 := (hP.keep (j := 7) (by kernel_rfl)).trans G7
              exact p_store rfl (ev q9) (ev e9) (stKb (show Box W9 (w.heap.size + 4) _ from hI.st.box 4 (by decide)) sel_k ((thQ m (te m.t m.t.ep 2 m.t.rt)).k)) (hK () _ (fun _ _ => rfl) hI.put4)
            · obtain rfl := Option.some.inj ho
              have e9 := hP.got 2 _ 46 rfl (haft ⟨2, .data⟩ (by simp) rfl) rfl
              try dsimp only at e9
              have q9 := (hP.keep (j := 8) (by kernel_rfl)).trans G8
              exact p_store rfl (ev q9) (ev e9) (stTb (show Box W9 (w.heap.size + 5) _ from hI.st.box 5 (by decide)) sel_t ((thQ m (te m.t m.t.ep 2 m.t.rt)).t)) (hK () _ (fun _ _ => rfl) hI.put5)
          case done =>
            rintro l a9 _ W9 hP hI hall
            have t6 := (hP.keep (j := 6) (by kernel_rfl)).trans G6
            have t7 := (hP.keep (j := 7) (by kernel_rfl)).trans G7
            have t8 := (hP.keep (j := 8) (by kernel_rfl)).trans G8
            have td := hP.df.trans TD
            have D9 := Lib.hid (hI.done (hall 3 (by decide)) (hall 4 (by decide)) (hall 5 (by decide)))
            clear hP hI hall
            go_wp2
            exact bodyPost_ret (res3 rfl t6 t7 t8 (show Box W9 (w.heap.size + 3) (hv (thQ m (te m.t m.t.ep 2 m.t.rt)).s) from D9.out.box 3 (by decide)) (show Box W9 (w.heap.size + 4) (kv (thQ m (te m.t m.t.ep 2 m.t.rt)).k) from D9.out.box 4 (by decide)) (show Box W9 (w.heap.size + 5) (tv (thQ m (te m.t m.t.ep 2 m.t.rt)).t) from D9.out.box 5 (by decide))) td ⟨_, rfl, I2.out.an (te_sim2 A2.out E2.out P2.out), FG2.out.1, FG2.out.2, D9.out.at _ (by simp), te_new (N2.out.less (by omega)) (keep_te _ _ _ _), D9.out.bel⟩
        · have P2 := Lib.hid hp
          have f0 : decide (m.k.ph = 2) = false := decide_eq_false hp
          have f1 : (m.k.ph == 2) = false := f0
          clear hp
          have C2 := Lib.hid (fun W (hW : W6 w W (p6 w.heap.size (w.heap.size + 1) (w.heap.size + 2) (w.heap.size + 3) (w.heap.size + 4) (w.heap.size + 5)) (c6 (hv m.s) (kv m.k) (tv m.t) (hv noHs0) (kv noK0) (tv noT)) [m]) => root_any m W ⟨hW.at m (by simp), hW.over HI.out.sz, by rw [I2.out.d]; exact fine_lens I2.out.len HI.out.fine, by rw [I2.out.xs]; exact HI.out.x⟩ (ask_iff.1 A2.out).2.2.1)
          go_upto_region 2 with (first
            | (refine w_load (ldKb (show Box _ (w.heap.size + 1) (kv m.k) from S2.out.box 1 (by decide))) rfl rfl rfl rfl ?_)
            | (refine w_load (ldTb (show Box _ (w.heap.size + 2) (tv m.t) from S2.out.box 2 (by decide))) rfl rfl rfl rfl ?_)
            | ((go_at_call 33); (with_reducible refine (C1.out _).mono ?_); rintro e9 w9 ⟨rfl, hb9⟩; have S3 := Lib.hid (S2.out.next hb9); clear hb9; have q8 := (show Box _ (w.heap.size + 2) (tv m.t) from S3.out.box 2 (by decide)).cel 8 (.int .i64 m.t.ep) rfl; have q1 := (show Box _ (w.heap.size + 1) (kv m.k) from S3.out.box 1 (by decide)).cel 1 (.int .i64 m.k.ep) rfl; have q0 := (show Box _ (w.heap.size + 1) (kv m.k) from S3.out.box 1 (by decide)).cel 0 (.int .i64 m.k.ph) rfl))
          clear q8 q1 q0
          go_upto_region 8 with (first
            | (refine w_load (ldHb (show Box _ (w.heap.size) (hv m.s) from S3.out.box 0 (by decide))) rfl rfl rfl rfl ?_)
            | (refine w_load (ldKb (show Box _ (w.heap.size + 1) (kv m.k) from S3.out.box 1 (by decide))) rfl rfl rfl rfl ?_)
            | (refine w_load (ldTb (show Box _ (w.heap.size + 2) (tv m.t) from S3.out.box 2 (by decide))) rfl rfl rfl rfl ?_)
            | ((go_at_call 64); (with_reducible refine (C2.out _ S3.out).mono ?_); rintro e9 w9 ⟨s', v, m', rfl, hm9, hl9, hh9, hn9, hv9, hb9⟩; have N4 := Lib.hid (ro_new (N2.out.less (show w.heap.size ≤ w.heap.size + 6 by omega)) hm9 hn9 hv9 S3.out.bel.size); have I4 := Lib.hid (ro_sim hl9 hm9 A2.out E2.out P2.out); have FG4 : Hid (m'.F = m.F ∧ m'.g = m.g) := Lib.hid (by rw [hm9]; exact ⟨rfl, rfl⟩); have S4 := Lib.hid (ro_next S3.out hm9 hh9 hn9 hv9 hb9); clear hm9 hl9 hh9 hn9 hv9 hb9 S3)
            | (refine w6_putH S4.out 0 (by decide) m'.s (c' := c6 (hv m'.s) (kv m.k) (tv m.t) (hv noHs0) (kv noK0) (tv noT)) rfl (all6 ⟨rfl, rfl, rfl, rfl, rfl, rfl⟩) rfl rfl rfl rfl rfl ?_; intro W5 h5; have S5 := Lib.hid h5; clear h5 S4)
            | (refine w6_putK S5.out 1 (by decide) m'.k (c' := c6 (hv m'.s) (kv m'.k) (tv m.t) (hv noHs0) (kv noK0) (tv noT)) rfl (all6 ⟨rfl, rfl, rfl, rfl, rfl, rfl⟩) rfl rfl rfl rfl rfl ?_; intro W6' h5; have S6 := Lib.hid h5; clear h5 S5)
            | (refine w6_putT S6.out 2 (by decide) m'.t (c' := c6 (hv m'.s) (kv m'.k) (tv m'.t) (hv noHs0) (kv noK0) (tv noT)) rfl (all6 ⟨rfl, rfl, rfl, rfl, rfl, rfl⟩) rfl rfl rfl rfl rfl ?_; intro W7 h5; have S7 := Lib.hid h5; clear h5 S6))
          have KE := S7
          refine Sh.region_gen fun a0 ha0 => ?_
          have G3 : a0.tmps[3]? = some (.pointer (some ⟨w.heap.size, 0, none⟩)) := by rw [ha0]; rfl
          have G4 : a0.tmps[4]? = some (.pointer (some ⟨w.heap.size + 1, 0, none⟩)) := by rw [ha0]; rfl
          have G5 : a0.tmps[5]? = some (.pointer (some ⟨w.heap.size + 2, 0, none⟩)) := by rw [ha0]; rfl
          have G6 : a0.tmps[6]? = some (.pointer (some ⟨w.heap.size + 3, 0, none⟩)) := by rw [ha0]; rfl
          have G7 : a0.tmps[7]? = some (.pointer (some ⟨w.heap.size + 4, 0, none⟩)) := by rw [ha0]; rfl
          have G8 : a0.tmps[8]? = some (.pointer (some ⟨w.heap.size + 5, 0, none⟩)) := by rw [ha0]; rfl
          have TD : a0.defers = [] := congrArg Act.defers ha0
          have TZ : a0.tmps.size = 47 := by rw [ha0]; rfl
          clear ha0
          refine region_plan (by kernel_rfl) (by kernel_rfl) (by rw [TZ]; kernel_rfl) (fun (_ : Unit) (i : Nat) => (match i with | 0 => (.agg #[.slice m'.s.w.a m'.s.w.n m'.s.w.c, .slice m'.s.p.a m'.s.p.n m'.s.p.c, .slice (m'.s.u 0).a (m'.s.u 0).n (m'.s.u 0).c, .slice (m'.s.u 1).a (m'.s.u 1).n (m'.s.u 1).c, .slice (m'.s.u 2).a (m'.s.u 2).n (m'.s.u 2).c, .slice m'.s.c.a m'.s.c.n m'.s.c.c]) | 1 => (.agg #[.int .i64 m'.k.ph, .int .i64 m'.k.ep, .bool m'.k.mj, .slice m'.k.wk.a m'.k.wk.n m'.k.wk.c, .bool m'.k.ov, .int .i64 m'.k.pa, .int .i64 m'.k.pf, .int .i64 m'.k.ps, .int .i64 m'.k.pc, .bool m'.k.me]) | 2 => (.agg #[.bool m'.t.lv, .int .i64 (m'.t.r 0), .int .i64 (m'.t.r 1), .int .i64 (m'.t.r 2), .int .i64 (m'.t.r 3), .slice (m'.t.u 0).a (m'.t.u 0).n (m'.t.u 0).c, .slice (m'.t.u 1).a (m'.t.u 1).n (m'.t.u 1).c, .slice (m'.t.u 2).a (m'.t.u 2).n (m'.t.u 2).c, .int .i64 m'.t.ep, .int .i64 m'.t.sg, .int .i64 m'.t.rt, .slice m'.t.o.a m'.t.o.n m'.t.o.c, .int .i64 m'.t.pc, .int .i64 m'.t.x, .int .i64 m'.t.y]) | _ => undef : Value)) (fun _ l W => R6 w (p6 w.heap.size (w.heap.size + 1) (w.heap.size + 2) (w.heap.size + 3) (w.heap.size + 4) (w.heap.size + 5)) m' l W) () ?start ?step ?done
          case start => exact r6_start (KE.out.next ⟨rfl, rfl, rfl, Nat.le_refl _, fun _ _ => rfl⟩)
          case step =>
            rintro i o9 l a9 _ W9 ho hP hI hl haft K hK
            have hi : i < 6 := (Array.getElem?_eq_some_iff.1 ho).1
            rcases (show i = 0 ∨ i = 1 ∨ i = 2 ∨ i = 3 ∨ i = 4 ∨ i = 5 by omega) with rfl | rfl | rfl | rfl | rfl | rfl
            · obtain rfl := Option.some.inj ho
              have q9 := (hP.keep (j := 3) (by kernel_rfl)).trans G3
              exact p_load rfl (ev q9) (ldHb (show Box W9 (w.heap.size) (hv m'.s) from hI.st.box 0 (by decide))) (hK () _ (fun _ _ => rfl) (hI.pure (i := 0) (by decide)))
            · obtain rfl := Option.some.inj ho
              have q9 := (hP.keep (j := 4) (by kernel_rfl)).trans G4
              exact p_load rfl (ev q9) (ldKb (show Box W9 (w.heap.size + 1) (kv m'.k) from hI.st.box 1 (by decide))) (hK () _ (fun _ _ => rfl) (hI.pure (i := 1) (by decide)))
            · obtain rfl := Option.some.inj ho
              have q9 := (hP.keep (j := 5) (by kernel_rfl)).trans G5
              exact p_load rfl (ev q9) (ldTb (show Box W9 (w.heap.size + 2) (tv m'.t) from hI.st.box 2 (by decide))) (hK () _ (fun _ _ => rfl) (hI.pure (i := 2) (by decide)))
            · obtain rfl := Option.some.inj ho
              have e9 := hP.got 0 _ 44 rfl (haft ⟨0, .data⟩ (by simp) rfl) rfl
              try dsimp only at e9
              have q9 := (hP.keep (j := 6) (by kernel_rfl)).trans G6
              exact p_store rfl (ev q9) (ev e9) (stHb (show Box W9 (w.heap.size + 3) _ from hI.st.box 3 (by decide)) sel_h (m'.s)) (hK () _ (fun _ _ => rfl) hI.put3)
            · obtain rfl := Option.some.inj ho
              have e9 := hP.got 1 _ 45 rfl (haft ⟨1, .data⟩ (by simp) rfl) rfl
              try dsimp only at e9
              have q9 := (hP.keep (j := 7) (by kernel_rfl)).trans G7
              exact p_store rfl (ev q9) (ev e9) (stKb (show Box W9 (w.heap.size + 4) _ from hI.st.box 4 (by decide)) sel_k (m'.k)) (hK () _ (fun _ _ => rfl) hI.put4)
            · obtain rfl := Option.some.inj ho
              have e9 := hP.got 2 _ 46 rfl (haft ⟨2, .data⟩ (by simp) rfl) rfl
              try dsimp only at e9
              have q9 := (hP.keep (j := 8) (by kernel_rfl)).trans G8
              exact p_store rfl (ev q9) (ev e9) (stTb (show Box W9 (w.heap.size + 5) _ from hI.st.box 5 (by decide)) sel_t (m'.t)) (hK () _ (fun _ _ => rfl) hI.put5)
          case done =>
            rintro l a9 _ W9 hP hI hall
            have t6 := (hP.keep (j := 6) (by kernel_rfl)).trans G6
            have t7 := (hP.keep (j := 7) (by kernel_rfl)).trans G7
            have t8 := (hP.keep (j := 8) (by kernel_rfl)).trans G8
            have td := hP.df.trans TD
            have D9 := Lib.hid (hI.done (hall 3 (by decide)) (hall 4 (by decide)) (hall 5 (by decide)))
            clear hP hI hall
            go_wp2
            exact bodyPost_ret (res3 rfl t6 t7 t8 (show Box W9 (w.heap.size + 3) (hv m'.s) from D9.out.box 3 (by decide)) (show Box W9 (w.heap.size + 4) (kv m'.k) from D9.out.box 4 (by decide)) (show Box W9 (w.heap.size + 5) (tv m'.t) from D9.out.box 5 (by decide))) td ⟨m', rfl, I2.out.an (I4.out), FG4.out.1.trans FG2.out.1, FG4.out.2.trans FG2.out.2, D9.out.at _ (by simp), N4.out, D9.out.bel⟩
      · have E2 := Lib.hid he
        have e0 : decide (m.t.ep = m.k.ep) = false := decide_eq_false he
        have e1 : (m.t.ep == m.k.ep) = false := e0
        have e2 : (m.t.ep != m.k.ep) = true := by simp only [bne, e1]; rfl
        clear he
        go_upto_region 5 with (first
          | (refine w_load (ldKb (show Box _ (w.heap.size + 1) (kv m.k) from S2.out.box 1 (by decide))) rfl rfl rfl rfl ?_)
          | (refine w_load (ldTb (show Box _ (w.heap.size + 2) (tv m.t) from S2.out.box 2 (by decide))) rfl rfl rfl rfl ?_)
          | ((go_at_call 33); (with_reducible refine (C1.out _).mono ?_); rintro e9 w9 ⟨rfl, hb9⟩; have S3 := Lib.hid (S2.out.next hb9); clear hb9; have q8 := (show Box _ (w.heap.size + 2) (tv m.t) from S3.out.box 2 (by decide)).cel 8 (.int .i64 m.t.ep) rfl; have q1 := (show Box _ (w.heap.size + 1) (kv m.k) from S3.out.box 1 (by decide)).cel 1 (.int .i64 m.k.ep) rfl; have q0 := (show Box _ (w.heap.size + 1) (kv m.k) from S3.out.box 1 (by decide)).cel 0 (.int .i64 m.k.ph) rfl))
        clear q8 q0
        go_upto_region 8 with (first
          | (refine w6_int S3.out 2 (by decide) 8 (m.k.ep) (vs := tv (te m.t m.k.ep m.t.sg m.t.rt)) (c' := c6 (hv m.s) (kv m.k) (tv (te m.t m.k.ep m.t.sg m.t.rt)) (hv noHs0) (kv noK0) (tv noT)) (show 8 < 15 by decide) rfl (all6 ⟨rfl, rfl, rfl, rfl, rfl, rfl⟩) rfl rfl rfl rfl rfl ?_; intro W4 h6; have S4 := Lib.hid h6; clear h6 S3)
          | (refine w6_int S4.out 2 (by decide) 9 (1) (vs := tv (te m.t m.k.ep 1 m.t.rt)) (c' := c6 (hv m.s) (kv m.k) (tv (te m.t m.k.ep 1 m.t.rt)) (hv noHs0) (kv noK0) (tv noT)) (show 9 < 15 by decide) rfl (all6 ⟨rfl, rfl, rfl, rfl, rfl, rfl⟩) rfl rfl rfl rfl rfl ?_; intro W5 h6; have S5 := Lib.hid h6; clear h6 S4)
          | (refine w6_int S5.out 2 (by decide) 10 (0) (vs := tv (te m.t m.k.ep 1 0)) (c' := c6 (hv m.s) (kv m.k) (tv (te m.t m.k.ep 1 0)) (hv noHs0) (kv noK0) (tv noT)) (show 10 < 15 by decide) rfl (all6 ⟨rfl, rfl, rfl, rfl, rfl, rfl⟩) rfl rfl rfl rfl rfl ?_; intro W6' h6; have S6 := Lib.hid h6; clear h6 S5))
        have S9 : Hid (W6 w _ (p6 w.heap.size (w.heap.size + 1) (w.heap.size + 2) (w.heap.size + 3) (w.heap.size + 4) (w.heap.size + 5)) (c6 (hv (thQ m (te m.t m.k.ep 1 0)).s) (kv (thQ m (te m.t m.k.ep 1 0)).k) (tv (thQ m (te m.t m.k.ep 1 0)).t) (hv noHs0) (kv noK0) (tv noT)) [(thQ m (te m.t m.k.ep 1 0))]) := Lib.hid (th_next S6.out (keep_te _ _ _ _))
        clear S6 q1
        have KE := S9
        refine Sh.region_gen fun a0 ha0 => ?_
        have G3 : a0.tmps[3]? = some (.pointer (some ⟨w.heap.size, 0, none⟩)) := by rw [ha0]; rfl
        have G4 : a0.tmps[4]? = some (.pointer (some ⟨w.heap.size + 1, 0, none⟩)) := by rw [ha0]; rfl
        have G5 : a0.tmps[5]? = some (.pointer (some ⟨w.heap.size + 2, 0, none⟩)) := by rw [ha0]; rfl
        have G6 : a0.tmps[6]? = some (.pointer (some ⟨w.heap.size + 3, 0, none⟩)) := by rw [ha0]; rfl
        have G7 : a0.tmps[7]? = some (.pointer (some ⟨w.heap.size + 4, 0, none⟩)) := by rw [ha0]; rfl
        have G8 : a0.tmps[8]? = some (.pointer (some ⟨w.heap.size + 5, 0, none⟩)) := by rw [ha0]; rfl
        have TD : a0.defers = [] := congrArg Act.defers ha0
        have TZ : a0.tmps.size = 47 := by rw [ha0]; rfl
        clear ha0
        refine region_plan (by kernel_rfl) (by kernel_rfl) (by rw [TZ]; kernel_rfl) (fun (_ : Unit) (i : Nat) => (match i with | 0 => (.agg #[.slice (thQ m (te m.t m.k.ep 1 0)).s.w.a (thQ m (te m.t m.k.ep 1 0)).s.w.n (thQ m (te m.t m.k.ep 1 0)).s.w.c, .slice (thQ m (te m.t m.k.ep 1 0)).s.p.a (thQ m (te m.t m.k.ep 1 0)).s.p.n (thQ m (te m.t m.k.ep 1 0)).s.p.c, .slice ((thQ m (te m.t m.k.ep 1 0)).s.u 0).a ((thQ m (te m.t m.k.ep 1 0)).s.u 0).n ((thQ m (te m.t m.k.ep 1 0)).s.u 0).c, .slice ((thQ m (te m.t m.k.ep 1 0)).s.u 1).a ((thQ m (te m.t m.k.ep 1 0)).s.u 1).n ((thQ m (te m.t m.k.ep 1 0)).s.u 1).c, .slice ((thQ m (te m.t m.k.ep 1 0)).s.u 2).a ((thQ m (te m.t m.k.ep 1 0)).s.u 2).n ((thQ m (te m.t m.k.ep 1 0)).s.u 2).c, .slice (thQ m (te m.t m.k.ep 1 0)).s.c.a (thQ m (te m.t m.k.ep 1 0)).s.c.n (thQ m (te m.t m.k.ep 1 0)).s.c.c]) | 1 => (.agg #[.int .i64 (thQ m (te m.t m.k.ep 1 0)).k.ph, .int .i64 (thQ m (te m.t m.k.ep 1 0)).k.ep, .bool (thQ m (te m.t m.k.ep 1 0)).k.mj, .slice (thQ m (te m.t m.k.ep 1 0)).k.wk.a (thQ m (te m.t m.k.ep 1 0)).k.wk.n (thQ m (te m.t m.k.ep 1 0)).k.wk.c, .bool (thQ m (te m.t m.k.ep 1 0)).k.ov, .int .i64 (thQ m (te m.t m.k.ep 1 0)).k.pa, .int .i64 (thQ m (te m.t m.k.ep 1 0)).k.pf, .int .i64 (thQ m (te m.t m.k.ep 1 0)).k.ps, .int .i64 (thQ m (te m.t m.k.ep 1 0)).k.pc, .bool (thQ m (te m.t m.k.ep 1 0)).k.me]) | 2 => (.agg #[.bool ((thQ m (te m.t m.k.ep 1 0)).t).lv, .int .i64 (((thQ m (te m.t m.k.ep 1 0)).t).r 0), .int .i64 (((thQ m (te m.t m.k.ep 1 0)).t).r 1), .int .i64 (((thQ m (te m.t m.k.ep 1 0)).t).r 2), .int .i64 (((thQ m (te m.t m.k.ep 1 0)).t).r 3), .slice (((thQ m (te m.t m.k.ep 1 0)).t).u 0).a (((thQ m (te m.t m.k.ep 1 0)).t).u 0).n (((thQ m (te m.t m.k.ep 1 0)).t).u 0).c, .slice (((thQ m (te m.t m.k.ep 1 0)).t).u 1).a (((thQ m (te m.t m.k.ep 1 0)).t).u 1).n (((thQ m (te m.t m.k.ep 1 0)).t).u 1).c, .slice (((thQ m (te m.t m.k.ep 1 0)).t).u 2).a (((thQ m (te m.t m.k.ep 1 0)).t).u 2).n (((thQ m (te m.t m.k.ep 1 0)).t).u 2).c, .int .i64 ((thQ m (te m.t m.k.ep 1 0)).t).ep, .int .i64 ((thQ m (te m.t m.k.ep 1 0)).t).sg, .int .i64 ((thQ m (te m.t m.k.ep 1 0)).t).rt, .slice ((thQ m (te m.t m.k.ep 1 0)).t).o.a ((thQ m (te m.t m.k.ep 1 0)).t).o.n ((thQ m (te m.t m.k.ep 1 0)).t).o.c, .int .i64 ((thQ m (te m.t m.k.ep 1 0)).t).pc, .int .i64 ((thQ m (te m.t m.k.ep 1 0)).t).x, .int .i64 ((thQ m (te m.t m.k.ep 1 0)).t).y]) | _ => undef : Value)) (fun _ l W => R6 w (p6 w.heap.size (w.heap.size + 1) (w.heap.size + 2) (w.heap.size + 3) (w.heap.size + 4) (w.heap.size + 5)) (thQ m (te m.t m.k.ep 1 0)) l W) () ?start ?step ?done
        case start => exact r6_start (KE.out.next ⟨rfl, rfl, rfl, Nat.le_refl _, fun _ _ => rfl⟩)
        case step =>
          rintro i o9 l a9 _ W9 ho hP hI hl haft K hK
          have hi : i < 6 := (Array.getElem?_eq_some_iff.1 ho).1
          rcases (show i = 0 ∨ i = 1 ∨ i = 2 ∨ i = 3 ∨ i = 4 ∨ i = 5 by omega) with rfl | rfl | rfl | rfl | rfl | rfl
          · obtain rfl := Option.some.inj ho
            have q9 := (hP.keep (j := 3) (by kernel_rfl)).trans G3
            exact p_load rfl (ev q9) (ldHb (show Box W9 (w.heap.size) (hv (thQ m (te m.t m.k.ep 1 0)).s) from hI.st.box 0 (by decide))) (hK () _ (fun _ _ => rfl) (hI.pure (i := 0) (by decide)))
          · obtain rfl := Option.some.inj ho
            have q9 := (hP.keep (j := 4) (by kernel_rfl)).trans G4
            exact p_load rfl (ev q9) (ldKb (show Box W9 (w.heap.size + 1) (kv (thQ m (te m.t m.k.ep 1 0)).k) from hI.st.box 1 (by decide))) (hK () _ (fun _ _ => rfl) (hI.pure (i := 1) (by decide)))
          · obtain rfl := Option.some.inj ho
            have q9 := (hP.keep (j := 5) (by kernel_rfl)).trans G5
            exact p_load rfl (ev q9) (ldTb (show Box W9 (w.heap.size + 2) (tv (thQ m (te m.t m.k.ep 1 0)).t) from hI.st.box 2 (by decide))) (hK () _ (fun _ _ => rfl) (hI.pure (i := 2) (by decide)))
          · obtain rfl := Option.some.inj ho
            have e9 := hP.got 0 _ 44 rfl (haft ⟨0, .data⟩ (by simp) rfl) rfl
            try dsimp only at e9
            have q9 := (hP.keep (j := 6) (by kernel_rfl)).trans G6
            exact p_store rfl (ev q9) (ev e9) (stHb (show Box W9 (w.heap.size + 3) _ from hI.st.box 3 (by decide)) sel_h ((thQ m (te m.t m.k.ep 1 0)).s)) (hK () _ (fun _ _ => rfl) hI.put3)
          · obtain rfl := Option.some.inj ho
            have e9 := hP.got 1 _ 45 rfl (haft ⟨1, .data⟩ (by simp) rfl) rfl
            try dsimp only at e9
            have q9 := (hP.keep (j := 7) (by kernel_rfl)).trans G7
            exact p_store rfl (ev q9) (ev e9) (stKb (show Box W9 (w.heap.size + 4) _ from hI.st.box 4 (by decide)) sel_k ((thQ m (te m.t m.k.ep 1 0)).k)) (hK () _ (fun _ _ => rfl) hI.put4)
          · obtain rfl := Option.some.inj ho
            have e9 := hP.got 2 _ 46 rfl (haft ⟨2, .data⟩ (by simp) rfl) rfl
            try dsimp only at e9
            have q9 := (hP.keep (j := 8) (by kernel_rfl)).trans G8
            exact p_store rfl (ev q9) (ev e9) (stTb (show Box W9 (w.heap.size + 5) _ from hI.st.box 5 (by decide)) sel_t ((thQ m (te m.t m.k.ep 1 0)).t)) (hK () _ (fun _ _ => rfl) hI.put5)
        case done =>
          rintro l a9 _ W9 hP hI hall
          have t6 := (hP.keep (j := 6) (by kernel_rfl)).trans G6
          have t7 := (hP.keep (j := 7) (by kernel_rfl)).trans G7
          have t8 := (hP.keep (j := 8) (by kernel_rfl)).trans G8
          have td := hP.df.trans TD
          have D9 := Lib.hid (hI.done (hall 3 (by decide)) (hall 4 (by decide)) (hall 5 (by decide)))
          clear hP hI hall
          go_wp2
          exact bodyPost_ret (res3 rfl t6 t7 t8 (show Box W9 (w.heap.size + 3) (hv (thQ m (te m.t m.k.ep 1 0)).s) from D9.out.box 3 (by decide)) (show Box W9 (w.heap.size + 4) (kv (thQ m (te m.t m.k.ep 1 0)).k) from D9.out.box 4 (by decide)) (show Box W9 (w.heap.size + 5) (tv (thQ m (te m.t m.k.ep 1 0)).t) from D9.out.box 5 (by decide))) td ⟨_, rfl, I2.out.an (te_sim1 A2.out E2.out), FG2.out.1, FG2.out.2, D9.out.at _ (by simp), te_new (N2.out.less (by omega)) (keep_te _ _ _ _), D9.out.bel⟩
theorem answer_any (s : Hs) (k : Sh.Ks) (P : A5) (n : Q3) (w : World) (hP : Sim s k P n) (h : In w n) : Calls Tryz.prog 27 #[(.agg #[.slice n.s.w.a n.s.w.n n.s.w.c, .slice n.s.p.a n.s.p.n n.s.p.c, .slice (n.s.u 0).a (n.s.u 0).n (n.s.u 0).c, .slice (n.s.u 1).a (n.s.u 1).n (n.s.u 1).c, .slice (n.s.u 2).a (n.s.u 2).n (n.s.u 2).c, .slice n.s.c.a n.s.c.n n.s.c.c]), (.agg #[.int .i64 n.k.ph, .int .i64 n.k.ep, .bool n.k.mj, .slice n.k.wk.a n.k.wk.n n.k.wk.c, .bool n.k.ov, .int .i64 n.k.pa, .int .i64 n.k.pf, .int .i64 n.k.ps, .int .i64 n.k.pc, .bool n.k.me]), (.agg #[.bool n.t.lv, .int .i64 (n.t.r 0), .int .i64 (n.t.r 1), .int .i64 (n.t.r 2), .int .i64 (n.t.r 3), .slice (n.t.u 0).a (n.t.u 0).n (n.t.u 0).c, .slice (n.t.u 1).a (n.t.u 1).n (n.t.u 1).c, .slice (n.t.u 2).a (n.t.u 2).n (n.t.u 2).c, .int .i64 n.t.ep, .int .i64 n.t.sg, .int .i64 n.t.rt, .slice n.t.o.a n.t.o.n n.t.o.c, .int .i64 n.t.pc, .int .i64 n.t.x, .int .i64 n.t.y])] w (AnOut w s k (anS s k P) n.F n.g) :=
  (answer_own n w h).mono fun _ _ ⟨m, h1, h2, h3⟩ => ⟨m, h1, hP.an h2, h3⟩
end Go.Proofs.YtgmkomnoiffapaaGreatDoor.Ha
end
section
namespace Go.Proofs.YtgmkomnoiffapaaGreatDoor.Rt
open Go.Proofs.YtgmkomnoiffapaaGreatDoor
open Go.RowKit
set_option maxRecDepth 100000

structure Tw (w W : World) (t t' : Ts) : Prop where
  bel : Below w.heap.size w W
  one : Box W w.heap.size (tv t)
  two : Box W (w.heap.size + 1) (tv t')
theorem Tw.next {w W W' : World} {t t' : Ts} (h : Tw w W t t') (hb : Below W.heap.size W W') : Tw w W' t t' := ⟨h.bel.trans (hb.mono h.bel.size), h.one.next hb, h.two.next hb⟩
end Go.Proofs.YtgmkomnoiffapaaGreatDoor.Rt
end
section
namespace Go.Proofs.YtgmkomnoiffapaaGreatDoor.Sh
open Go.Proofs.YtgmkomnoiffapaaGreatDoor
open Go.RowKit
set_option maxRecDepth 100000

section
variable (s : Hs) (d : Hd_) (k : Ks) (xs : List Int) (w : World)
end
end Go.Proofs.YtgmkomnoiffapaaGreatDoor.Sh
end
section
namespace Go.Proofs.YtgmkomnoiffapaaGreatDoor.Sh
open Go.Proofs.YtgmkomnoiffapaaGreatDoor
open Go.RowKit
set_option maxRecDepth 100000

section
variable (s : Hs) (d : Hd_) (k : Ks) (xs g : List Int) (w : World)
end
end Go.Proofs.YtgmkomnoiffapaaGreatDoor.Sh
end
section
namespace Go.Proofs.YtgmkomnoiffapaaGreatDoor.Cl
open Go.Proofs.YtgmkomnoiffapaaGreatDoor
set_option maxRecDepth 100000
open Go.RowKit

end Go.Proofs.YtgmkomnoiffapaaGreatDoor.Cl
end
section
namespace Go.Proofs.YtgmkomnoiffapaaGreatDoor
open Go.RowKit
set_option maxRecDepth 100000

/-- Two heaps' boxes. -/
structure Two (w W : World) (s t : Hs) (d d2 : Hd_) : Prop where
  bel : Below w.heap.size w W
  b1 : HBox W w.heap.size s
  b2 : HBox W (w.heap.size + 1) t
  h1 : Hp W W.heap.size s d
  h2 : Hp W W.heap.size t d2
theorem Two.next {w W W' : World} {s t : Hs} {d d2 : Hd_} (h : Two w W s t d d2) (hb : Below W.heap.size W W') : Two w W' s t d d2 := ⟨h.bel.trans (hb.mono h.bel.size), h.b1.next hb, h.b2.next hb, h.h1.next hb, h.h2.next hb⟩
end Go.Proofs.YtgmkomnoiffapaaGreatDoor
end
section
namespace Go.Proofs.YtgmkomnoiffapaaGreatDoor.Sh
open Go.Proofs.YtgmkomnoiffapaaGreatDoor
open Go.RowKit
set_option maxRecDepth 100000

section
variable {w w3 w9 W W' : World} {s t : Hs} {d d' : Hd_} {k k' : Ks} {xs ys : List Int} {hs : List (Nat × Hs × Hd_)} {ks : List (Nat × Ks × List Int)} {b c : Nat} {v : Ls.Sl} {o : Bool}
end
end Go.Proofs.YtgmkomnoiffapaaGreatDoor.Sh
end
section
namespace Go.Proofs.YtgmkomnoiffapaaGreatDoor.Ha
open Go.Proofs.YtgmkomnoiffapaaGreatDoor Go.Proofs.YtgmkomnoiffapaaGreatDoor.Rt
open Go.RowKit
open Go.Proofs.YtgmkomnoiffapaaGreatDoor.Mu (hv kv w_load w_loadg ldHb ldKb ldTb)
set_option maxRecDepth 100000

section
variable {w W : World} {s : Hs} {k : Sh.Ks} {P : A5} {n m : Q3}
end
/-- A slice of one thread. -/
theorem one_new (W : World) (t : Ts) (ty : TypeId) : TRow (W.alloc (.cells #[.bool t.lv, .int .i64 (t.r 0), .int .i64 (t.r 1), .int .i64 (t.r 2), .int .i64 (t.r 3), .slice (t.u 0).a (t.u 0).n (t.u 0).c, .slice (t.u 1).a (t.u 1).n (t.u 1).c, .slice (t.u 2).a (t.u 2).n (t.u 2).c, .int .i64 t.ep, .int .i64 t.sg, .int .i64 t.rt, .slice t.o.a t.o.n t.o.c, .int .i64 t.pc, .int .i64 t.x, .int .i64 t.y] ty)) (W.alloc (.cells #[.bool t.lv, .int .i64 (t.r 0), .int .i64 (t.r 1), .int .i64 (t.r 2), .int .i64 (t.r 3), .slice (t.u 0).a (t.u 0).n (t.u 0).c, .slice (t.u 1).a (t.u 1).n (t.u 1).c, .slice (t.u 2).a (t.u 2).n (t.u 2).c, .int .i64 t.ep, .int .i64 t.sg, .int .i64 t.rt, .slice t.o.a t.o.n t.o.c, .int .i64 t.pc, .int .i64 t.x, .int .i64 t.y] ty)).heap.size (some ⟨W.heap.size, 0, none⟩) 1 (fun _ => t) := one_row (Box.new W (tv t) ty) (by rw [World.size_alloc]; omega)
theorem two_new (W : World) (t u : Ts) (ty : TypeId) : TRow (W.alloc (.cells #[.bool t.lv, .int .i64 (t.r 0), .int .i64 (t.r 1), .int .i64 (t.r 2), .int .i64 (t.r 3), .slice (t.u 0).a (t.u 0).n (t.u 0).c, .slice (t.u 1).a (t.u 1).n (t.u 1).c, .slice (t.u 2).a (t.u 2).n (t.u 2).c, .int .i64 t.ep, .int .i64 t.sg, .int .i64 t.rt, .slice t.o.a t.o.n t.o.c, .int .i64 t.pc, .int .i64 t.x, .int .i64 t.y, .bool u.lv, .int .i64 (u.r 0), .int .i64 (u.r 1), .int .i64 (u.r 2), .int .i64 (u.r 3), .slice (u.u 0).a (u.u 0).n (u.u 0).c, .slice (u.u 1).a (u.u 1).n (u.u 1).c, .slice (u.u 2).a (u.u 2).n (u.u 2).c, .int .i64 u.ep, .int .i64 u.sg, .int .i64 u.rt, .slice u.o.a u.o.n u.o.c, .int .i64 u.pc, .int .i64 u.x, .int .i64 u.y] ty)) (W.alloc (.cells #[.bool t.lv, .int .i64 (t.r 0), .int .i64 (t.r 1), .int .i64 (t.r 2), .int .i64 (t.r 3), .slice (t.u 0).a (t.u 0).n (t.u 0).c, .slice (t.u 1).a (t.u 1).n (t.u 1).c, .slice (t.u 2).a (t.u 2).n (t.u 2).c, .int .i64 t.ep, .int .i64 t.sg, .int .i64 t.rt, .slice t.o.a t.o.n t.o.c, .int .i64 t.pc, .int .i64 t.x, .int .i64 t.y, .bool u.lv, .int .i64 (u.r 0), .int .i64 (u.r 1), .int .i64 (u.r 2), .int .i64 (u.r 3), .slice (u.u 0).a (u.u 0).n (u.u 0).c, .slice (u.u 1).a (u.u 1).n (u.u 1).c, .slice (u.u 2).a (u.u 2).n (u.u 2).c, .int .i64 u.ep, .int .i64 u.sg, .int .i64 u.rt, .slice u.o.a u.o.n u.o.c, .int .i64 u.pc, .int .i64 u.x, .int .i64 u.y] ty)).heap.size (some ⟨W.heap.size, 0, none⟩) 2 (fun i => if i = 0 then t else u) := fun _ => by
  have hb := Box.new W (tv t ++ tv u) ty
  refine ⟨W.heap.size, 0, rfl, by rw [World.size_alloc]; omega, fun i hi j v hj => hb.cel _ v ?_⟩
  have hj15 : j < 15 := (List.getElem?_eq_some_iff.1 hj).1
  rcases (show i = 0 ∨ i = 1 by omega) with rfl | rfl
  · rw [show 0 + 0 * 15 + j = j by omega, List.getElem?_append_left (show j < (tv t).length from hj15)]
    exact hj
  · rw [show 0 + 1 * 15 + j = 15 + j by omega, List.getElem?_append_right (show (tv t).length ≤ 15 + j from Nat.le_add_right _ _), show 15 + j - (tv t).length = j from Nat.add_sub_cancel_left _ _]
    exact hj
section
variable {w W : World} {s : Hs} {k k' : Sh.Ks} {P : A5} {n : Q3} {F : Nat → List Int} {g : Nat → O4} {xs : List Int}
theorem Sim.hold (hS : Sim s k P n) (hF : n.F = F) (hg : n.g = g) (h : Hold W n) : Hold W ⟨n.s, n.k, n.t, P.d, P.xs, F, g⟩ := by
  rw [← hS.d, ← hS.xs, ← hF, ← hg]
  exact h
end
end Go.Proofs.YtgmkomnoiffapaaGreatDoor.Ha
end
