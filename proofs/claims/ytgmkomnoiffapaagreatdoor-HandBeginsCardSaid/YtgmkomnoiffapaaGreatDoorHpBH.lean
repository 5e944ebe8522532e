/-
  Merged texts: LsInts, RtHolds, RtRef2, HaAsk, HaAlone, HaAll, ShFind, HpCopied, HpSetA, HpSet.
-/
import Derived.Test.YtgmkomnoiffapaaGreatDoorHpBD
import Derived.Deep.QuietTactic
import Derived.BigQuiet
import Derived.Test.YtgmkomnoiffapaaGreatDoorHpBF
import Derived.Deep.Cut
import Derived.Deep.CutRange
import Derived.Deep.RegionHeld3
import Derived.Test.YtgmkomnoiffapaaGreatDoorBRtRef
import Derived.Test.YtgmkomnoiffapaaGreatDoorHpBG
import Derived.Deep.LoopGhost
import Derived.Test.YtgmkomnoiffapaaGreatDoorHpBE
section
namespace Go.Proofs.YtgmkomnoiffapaaGreatDoor.Ls
open Go.Proofs.YtgmkomnoiffapaaGreatDoor
set_option maxRecDepth 100000
open Go.RowKit

/-- Whether two are the same. -/
def sameUp (f g : Nat → List Int) (k : Nat) : Prop := ∀ j, j < k → f j = g j
instance (f g : Nat → List Int) (k : Nat) : Decidable (sameUp f g k) := inferInstanceAs (Decidable (∀ j, j < k → f j = g j))

end Go.Proofs.YtgmkomnoiffapaaGreatDoor.Ls
end
section
namespace Go.Proofs.YtgmkomnoiffapaaGreatDoor.Rt
open Go.Proofs.YtgmkomnoiffapaaGreatDoor
open Go.RowKit
set_option maxRecDepth 100000

/-- Six numbers in a box. -/
def sixv (xs : List Int) : List Value := [.int .i64 (xs.getD 0 0), .int .i64 (xs.getD 1 0), .int .i64 (xs.getD 2 0), .int .i64 (xs.getD 3 0), .int .i64 (xs.getD 4 0), .int .i64 (xs.getD 5 0)]
/-- The registers gone through so far. -/
def regsTo (t : Ts) (k : Nat) : List Int := [if 0 < k then t.r 0 else 0, if 1 < k then t.r 1 else 0, if 2 < k then t.r 2 else 0, if 3 < k then t.r 3 else 0, 0, 0]
structure Pl (w W : World) (t : Ts) (xs : List Int) : Prop where
  bel : Below w.heap.size w W
  box : Box W w.heap.size (tv t)
  res : Box W (w.heap.size + 1) (sixv [])
  all : Box W (w.heap.size + 2) (sixv xs)
section
variable {w W W' : World} {t : Ts} {xs : List Int}
theorem Pl.next (h : Pl w W t xs) (hb : Below W.heap.size W W') : Pl w W' t xs := ⟨h.bel.trans (hb.mono h.bel.size), h.box.next hb, h.res.next hb, h.all.next hb⟩
theorem Pl.drew (h : Pl w W t xs) : Pl w W.drew t xs := h.next ⟨rfl, rfl, rfl, Nat.le_refl _, fun _ _ => rfl⟩
theorem pl_start {ty ty' ty2 : TypeId} (h : W = ((w.alloc (.cells #[.bool t.lv, .int .i64 (t.r 0), .int .i64 (t.r 1), .int .i64 (t.r 2), .int .i64 (t.r 3), .slice (t.u 0).a (t.u 0).n (t.u 0).c, .slice (t.u 1).a (t.u 1).n (t.u 1).c, .slice (t.u 2).a (t.u 2).n (t.u 2).c, .int .i64 t.ep, .int .i64 t.sg, .int .i64 t.rt, .slice t.o.a t.o.n t.o.c, .int .i64 t.pc, .int .i64 t.x, .int .i64 t.y] ty)).alloc (.cells (sixv []).toArray ty')).alloc (.cells (sixv []).toArray ty2)) : Pl w W t [] := by
  obtain ⟨W1, h1⟩ : ∃ W1, W1 = w.alloc (.cells #[.bool t.lv, .int .i64 (t.r 0), .int .i64 (t.r 1), .int .i64 (t.r 2), .int .i64 (t.r 3), .slice (t.u 0).a (t.u 0).n (t.u 0).c, .slice (t.u 1).a (t.u 1).n (t.u 1).c, .slice (t.u 2).a (t.u 2).n (t.u 2).c, .int .i64 t.ep, .int .i64 t.sg, .int .i64 t.rt, .slice t.o.a t.o.n t.o.c, .int .i64 t.pc, .int .i64 t.x, .int .i64 t.y] ty) := ⟨_, rfl⟩
  obtain ⟨W2, h2⟩ : ∃ W2, W2 = W1.alloc (.cells (sixv []).toArray ty') := ⟨_, rfl⟩
  rw [← h1, ← h2] at h
  have b1 : Below w.heap.size w W1 := by rw [h1]; exact (Below.refl _ _).alloc (Nat.le_refl _) _
  have b2 : Below W1.heap.size W1 W2 := by rw [h2]; exact (Below.refl _ _).alloc (Nat.le_refl _) _
  have b3 : Below W2.heap.size W2 W := by rw [h]; exact (Below.refl _ _).alloc (Nat.le_refl _) _
  have s1 : W1.heap.size = w.heap.size + 1 := by rw [h1]; simp
  have s2 : W2.heap.size = w.heap.size + 2 := by rw [h2]; simp [s1]
  have x1 : Box W1 w.heap.size (tv t) := by rw [h1]; exact Box.new w (tv t) ty
  have x2 : Box W2 (w.heap.size + 1) (sixv []) := by rw [h2, ← s1]; exact Box.new W1 (sixv []) ty'
  have x3 : Box W (w.heap.size + 2) (sixv []) := by rw [h, ← s2]; exact Box.new W2 (sixv []) ty2
  exact ⟨(b1.trans (b2.mono b1.size)).trans (b3.mono (Nat.le_trans b1.size b2.size)), (x1.next b2).next b3, x2.next b3, x3⟩
theorem Pl.set (h : Pl w W t xs) (k : Nat) (a : Int) (ys : List Int) (e : (sixv xs).set k (.int .i64 a) = sixv ys) : Pl w (W.setCell ⟨w.heap.size + 2, k, none⟩ (.int .i64 a)) t ys := by
  refine ⟨h.bel.setCell (p := ⟨w.heap.size + 2, k, none⟩) (by simp) _, h.box.other (by simp) _, h.res.other (by simp) _, ?_⟩
  rw [← e]
  exact h.all.set k _
theorem regs_set (t : Ts) (k : Nat) (hk : k < 4) : (sixv (regsTo t k)).set k (.int .i64 (t.r k)) = sixv (regsTo t (k + 1)) := by
  match k, hk with
  | 0, _ => rfl
  | 1, _ => rfl
  | 2, _ => rfl
  | 3, _ => rfl
theorem six_cell {b k : Nat} {xs : List Int} (h : Box W b (sixv xs)) (hk : k < 4) : ∃ v, W.cell? ⟨b, k, none⟩ = some v := by
  match k, hk with
  | 0, _ => exact ⟨_, h.cel 0 _ rfl⟩
  | 1, _ => exact ⟨_, h.cel 1 _ rfl⟩
  | 2, _ => exact ⟨_, h.cel 2 _ rfl⟩
  | 3, _ => exact ⟨_, h.cel 3 _ rfl⟩
theorem res_places {b : Nat} {tm : Array Value} {ys : List Int} (ht : tm[2]? = some (.pointer (some ⟨b, 0, none⟩))) (h : Box W b (sixv ys)) : (results Tryz.f79 tm).run Tryz.prog W = .ok (.agg (sixv ys).toArray) W := by
  have k0 := h.cel 0 _ rfl
  have k1 := h.cel 1 _ rfl
  have k2 := h.cel 2 _ rfl
  have k3 := h.cel 3 _ rfl
  have k4 := h.cel 4 _ rfl
  have k5 := h.cel 5 _ rfl
  simp [results, Tryz.results79, go_sem, ht, k0, k1, k2, k3, k4, k5, sixv]
end
set_option maxHeartbeats 4000000 in
theorem places_any (t : Ts) (w : World) : Calls Tryz.prog 79 #[(.agg #[.bool t.lv, .int .i64 (t.r 0), .int .i64 (t.r 1), .int .i64 (t.r 2), .int .i64 (t.r 3), .slice (t.u 0).a (t.u 0).n (t.u 0).c, .slice (t.u 1).a (t.u 1).n (t.u 1).c, .slice (t.u 2).a (t.u 2).n (t.u 2).c, .int .i64 t.ep, .int .i64 t.sg, .int .i64 t.rt, .slice t.o.a t.o.n t.o.c, .int .i64 t.pc, .int .i64 t.x, .int .i64 t.y])] w fun e w' => e = .returned (.agg #[.int .i64 (t.r 0), .int .i64 (t.r 1), .int .i64 (t.r 2), .int .i64 (t.r 3), .int .i64 t.x, .int .i64 t.y]) ∧ Below w.heap.size w w' := by
  go_enter Tryz.func79, Tryz.ntmps79
  go_wp2_with fail
  obtain ⟨W0, hW0⟩ : ∃ W0, W0 = ((w.alloc (.cells #[.bool t.lv, .int .i64 (t.r 0), .int .i64 (t.r 1), .int .i64 (t.r 2), .int .i64 (t.r 3), .slice (t.u 0).a (t.u 0).n (t.u 0).c, .slice (t.u 1).a (t.u 1).n (t.u 1).c, .slice (t.u 2).a (t.u 2).n (t.u 2).c, .int .i64 t.ep, .int .i64 t.sg, .int .i64 t.rt, .slice t.o.a t.o.n t.o.c, .int .i64 t.pc, .int .i64 t.x, .int .i64 t.y] 34)).alloc (.cells #[.int .i64 0, .int .i64 0, .int .i64 0, .int .i64 0, .int .i64 0, .int .i64 0] 112)).alloc (.cells #[.int .i64 0, .int .i64 0, .int .i64 0, .int .i64 0, .int .i64 0, .int .i64 0] 112) := ⟨_, rfl⟩
  have K0 := Lib.hid (pl_start hW0)
  rw [← hW0]
  clear hW0
  go_loopw [5, 4] (fun i _ wr => ∃ k : Nat, k ≤ 4 ∧ i = .int .i64 k ∧ Hid (Pl w wr t (regsTo t k))) (fun i _ _ => 4 - (intOf i).toNat)
  case atStart => exact ⟨0, by omega, rfl, Lib.hid ⟨K0.out.bel, K0.out.box, K0.out.res, K0.out.all⟩⟩
  case round =>
    obtain ⟨k, hk, rfl, HP⟩ := hrel
    by_cases hlt : k < 4
    · have q := tbox_reg HP.out.box hlt
      have hb := HP.out.box.lt
      obtain ⟨v0, hc⟩ := six_cell HP.out.all hlt
      have hf := HP.out.all.free k
      have hl := HP.out.all.lt
      have hlt' : (k : Int) < 4 := by omega
      have hlt6 : (k : Int) < 6 := by omega
      have P1 := Lib.hid (HP.out.set k (t.r k) _ (regs_set t k hlt))
      go_wp2
      go_roundw
      case rel => exact ⟨k + 1, by omega, by go_num, P1⟩
      case measure => simp [intOf]; omega
    · obtain rfl : k = 4 := by omega
      have q13 := HP.out.box.cel 13 (.int .i64 t.x) rfl
      have q14 := HP.out.box.cel 14 (.int .i64 t.y) rfl
      have ql := HP.out.box.lt
      have a4 := HP.out.all.cel 4 (.int .i64 0) rfl
      have a5 := HP.out.all.cel 5 (.int .i64 0) rfl
      have f4 := HP.out.all.free 4
      have f5 := HP.out.all.free 5
      have al := HP.out.all.lt
      go_upto_region 7 with fail
      go_region
      obtain ⟨W9, hW9⟩ : ∃ W9, W9 = ((wr.setCell ⟨w.heap.size + 1 + 1, 4, none⟩ (.int .i64 t.x)).setCell ⟨w.heap.size + 1 + 1, 5, none⟩ (.int .i64 t.y)).drew := ⟨_, rfl⟩
      have P9 : Hid (Pl w W9 t (six t)) := Lib.hid (by rw [hW9]; exact ((HP.out.set 4 t.x [t.r 0, t.r 1, t.r 2, t.r 3, t.x, 0] rfl).set 5 t.y (six t) rfl).drew)
      rw [← hW9]
      clear hW9 q13 q14 ql a4 a5 f4 f5 al
      have z0 := P9.out.all.cel 0 (.int .i64 (t.r 0)) rfl
      have z1 := P9.out.all.cel 1 (.int .i64 (t.r 1)) rfl
      have z2 := P9.out.all.cel 2 (.int .i64 (t.r 2)) rfl
      have z3 := P9.out.all.cel 3 (.int .i64 (t.r 3)) rfl
      have z4 := P9.out.all.cel 4 (.int .i64 t.x) rfl
      have z5 := P9.out.all.cel 5 (.int .i64 t.y) rfl
      have zl := P9.out.all.lt
      have y0 := P9.out.res.cel 0 (.int .i64 0) rfl
      have y1 := P9.out.res.cel 1 (.int .i64 0) rfl
      have y2 := P9.out.res.cel 2 (.int .i64 0) rfl
      have y3 := P9.out.res.cel 3 (.int .i64 0) rfl
      have y4 := P9.out.res.cel 4 (.int .i64 0) rfl
      have y5 := P9.out.res.cel 5 (.int .i64 0) rfl
      have yf := P9.out.res.free
      have yl := P9.out.res.lt
      go_wp2
      have BE := Box.puts (sixv (six t)) 0 P9.out.res
      exact bodyPost_ret (v := .agg (sixv (six t)).toArray) (res_places rfl BE) rfl ⟨rfl, below_puts _ (by omega) (sixv (six t)) 0 _ P9.out.bel⟩
/-- What is held in the first k places. -/
def heldTo (t : Ts) (k : Nat) : List Int := ((six t).take k).filter fun a => decide (¬ a = 0)
theorem held_next (t : Ts) {k : Nat} (hk : k < 6) : heldTo t (k + 1) = heldTo t k ++ (if (six t).getD k 0 = 0 then [] else [(six t).getD k 0]) := held_step (six t) k hk
theorem held_len (t : Ts) (k : Nat) : (heldTo t k).length ≤ 6 := Nat.le_trans (List.length_filter_le _ _) (by rw [List.length_take]; exact Nat.min_le_right _ _)
theorem six_index (t : Ts) (k : Nat) (hk : k < 6) (w : World) : (Instr.index 112 (.agg #[.int .i64 (t.r 0), .int .i64 (t.r 1), .int .i64 (t.r 2), .int .i64 (t.r 3), .int .i64 t.x, .int .i64 t.y]) (.int .i64 k)).run Tryz.prog w = .ok (.int .i64 ((six t).getD k 0)) w := by
  match k, hk with
  | 0, _ => rfl
  | 1, _ => rfl
  | 2, _ => rfl
  | 3, _ => rfl
  | 4, _ => rfl
  | 5, _ => rfl
theorem row1 (w : World) (a : Int) : Row (w.alloc (.cells #[.int .i64 a] 3)) (w.heap.size + 1) (some ⟨w.heap.size, 0, none⟩) 1 [a] := by
  refine ⟨rfl, fun _ => ⟨_, _, rfl, by omega, fun i hi => ?_⟩⟩
  match i, hi with
  | 0, _ => simp [go_sem]
theorem alling_start {w w1 : World} {o : Obj} (hb : Below (w.alloc o).heap.size (w.alloc o) w1) : Ls.Alling w w1 ⟨none, 0, 0⟩ [] :=
  ⟨World.ownsRow_nil _ _ _ _, ((Below.refl _ _).alloc (Nat.le_refl _) _).trans (hb.mono (by simp))⟩
set_option maxHeartbeats 4000000 in
theorem holds_any (t : Ts) (w : World) : Calls Tryz.prog 40 #[(.agg #[.bool t.lv, .int .i64 (t.r 0), .int .i64 (t.r 1), .int .i64 (t.r 2), .int .i64 (t.r 3), .slice (t.u 0).a (t.u 0).n (t.u 0).c, .slice (t.u 1).a (t.u 1).n (t.u 1).c, .slice (t.u 2).a (t.u 2).n (t.u 2).c, .int .i64 t.ep, .int .i64 t.sg, .int .i64 t.rt, .slice t.o.a t.o.n t.o.c, .int .i64 t.pc, .int .i64 t.x, .int .i64 t.y])] w (Ls.AllOut w (holdL t)) := by
  go_enter Tryz.func40, Tryz.ntmps40
  go_wp2_with fail
  refine (places_any t _).mono ?_
  rintro e w1 ⟨rfl, hb1⟩
  have A1 := Lib.hid (alling_start hb1)
  clear hb1
  go_wp2
  go_loopw [8, 3, 5] (fun i h _ wr => ∃ (k : Nat) (s : Ls.Sl), k ≤ 6 ∧ i = .int .i64 k ∧ h = .slice s.a s.n s.c ∧ Hid (Ls.Alling w wr s (heldTo t k))) (fun i _ _ _ => 6 - (intOf i).toNat)
  case atStart => exact ⟨0, ⟨none, 0, 0⟩, by omega, rfl, rfl, A1⟩
  case round =>
    obtain ⟨k, s, hk, rfl, rfl, HA⟩ := hrel
    by_cases hlt : k < 6
    · have hix := six_index t k hlt
      have hlt' : (k : Int) < 6 := by omega
      have hn := held_next t hlt
      have hsn : s.n ≤ 6 := by rw [HA.out.len]; exact held_len t k
      obtain ⟨a, ha⟩ : ∃ a, a = (six t).getD k 0 := ⟨_, rfl⟩
      rw [← ha] at hix hn
      clear ha
      by_cases h0 : a = 0
      · rw [if_pos h0, List.append_nil] at hn
        have A2 : Hid (Ls.Alling w wr s (heldTo t (k + 1))) := Lib.hid (by rw [hn]; exact HA.out)
        clear hn
        subst h0
        go_wp2
        go_roundw
        case rel => exact ⟨k + 1, s, by omega, by go_num, rfl, A2⟩
        case measure => simp [intOf]; omega
      · rw [if_neg h0] at hn
        have HN := Lib.hid hn
        have hd : (a != 0) = true := by simpa using h0
        clear hn h0
        have hbs := HA.out.bel.size
        go_wp2_with (at_builtin; refine Ls.list_cat rfl (.tmp 13) (.tmp 15) rfl rfl rfl (HA.out.own.alloc _) (row1 wr a) (by simp; omega) (by omega) ?_)
        intro p' cp' w2 hcat
        have A2 : Hid (Ls.Alling w w2 ⟨p', s.n + 1, cp'⟩ (heldTo t (k + 1))) := Lib.hid (by rw [HN.out]; exact (HA.out.alloc _).cat hcat)
        clear hcat
        go_wp2
        go_roundw
        case rel => exact ⟨k + 1, ⟨p', s.n + 1, cp'⟩, by omega, by go_num, rfl, A2⟩
        case measure => simp [intOf]; omega
    · obtain rfl : k = 6 := by omega
      go_wp2
      go_ret
      exact ⟨s, rfl, HA.out.own, HA.out.bel⟩
end Go.Proofs.YtgmkomnoiffapaaGreatDoor.Rt
end
section
namespace Go.Proofs.YtgmkomnoiffapaaGreatDoor.Rt
open Go.Proofs.YtgmkomnoiffapaaGreatDoor
open Go.RowKit
set_option maxRecDepth 100000

/-- What is held so far, in memory made behind W1. -/
structure Holding (w W1 wr : World) (s : Ls.Sl) (xs : List Int) : Prop where
  own : wr.ownsRow W1.heap.size 3 1 (.slice s.a s.n s.c) s.n (xs.map (Value.int .i64))
  bel : Below W1.heap.size W1 wr
theorem Holding.cat {w W1 wr w2 : World} {s t : Ls.Sl} {xs ys : List Int} {o : Obj} (h : Holding w W1 wr s xs) (hc : Ls.Catted (wr.alloc o) W1.heap.size (.slice s.a s.n s.c) t ys w2) : Holding w W1 w2 t ys :=
  ⟨hc.own, (h.bel.alloc h.bel.size o).grown hc.grown (by have := h.bel.size; simp; omega) (fun k hk => ((h.own.alloc o).lt k hk).1)⟩
end Go.Proofs.YtgmkomnoiffapaaGreatDoor.Rt
end
section
namespace Go.Proofs.YtgmkomnoiffapaaGreatDoor.Ha
open Go.Proofs.YtgmkomnoiffapaaGreatDoor Go.Proofs.YtgmkomnoiffapaaGreatDoor.Rt
open Go.RowKit
open Go.Proofs.YtgmkomnoiffapaaGreatDoor.Mu (hv kv w_load w_loadg ldHb ldKb ldTb)
set_option maxRecDepth 100000

theorem answered_i (k : Sh.Ks) (t : Ts) (w : World) (h0 : k.ph = 0) : Calls Tryz.prog 72 #[(.agg #[.int .i64 k.ph, .int .i64 k.ep, .bool k.mj, .slice k.wk.a k.wk.n k.wk.c, .bool k.ov, .int .i64 k.pa, .int .i64 k.pf, .int .i64 k.ps, .int .i64 k.pc, .bool k.me]), (.agg #[.bool t.lv, .int .i64 (t.r 0), .int .i64 (t.r 1), .int .i64 (t.r 2), .int .i64 (t.r 3), .slice (t.u 0).a (t.u 0).n (t.u 0).c, .slice (t.u 1).a (t.u 1).n (t.u 1).c, .slice (t.u 2).a (t.u 2).n (t.u 2).c, .int .i64 t.ep, .int .i64 t.sg, .int .i64 t.rt, .slice t.o.a t.o.n t.o.c, .int .i64 t.pc, .int .i64 t.x, .int .i64 t.y])] w fun e w' => e = .returned (.bool (ansB k.ph k.ep t)) ∧ Below w.heap.size w w' := by
  rw [show ansB k.ph k.ep t = true by unfold ansB; rw [decide_eq_true h0]; rfl]
  have p0a : decide (k.ph = 0) = true := decide_eq_true h0
  have p0b : (k.ph == 0) = true := p0a
  clear h0
  go_enter Tryz.func72, Tryz.ntmps72
  go_wp2
  go_ret
  exact ⟨rfl, two_boxes _ _ _⟩
theorem answered_n (k : Sh.Ks) (t : Ts) (w : World) (h0 : ¬ k.ph = 0) (he : ¬ t.ep = k.ep) : Calls Tryz.prog 72 #[(.agg #[.int .i64 k.ph, .int .i64 k.ep, .bool k.mj, .slice k.wk.a k.wk.n k.wk.c, .bool k.ov, .int .i64 k.pa, .int .i64 k.pf, .int .i64 k.ps, .int .i64 k.pc, .bool k.me]), (.agg #[.bool t.lv, .int .i64 (t.r 0), .int .i64 (t.r 1), .int .i64 (t.r 2), .int .i64 (t.r 3), .slice (t.u 0).a (t.u 0).n (t.u 0).c, .slice (t.u 1).a (t.u 1).n (t.u 1).c, .slice (t.u 2).a (t.u 2).n (t.u 2).c, .int .i64 t.ep, .int .i64 t.sg, .int .i64 t.rt, .slice t.o.a t.o.n t.o.c, .int .i64 t.pc, .int .i64 t.x, .int .i64 t.y])] w fun e w' => e = .returned (.bool (ansB k.ph k.ep t)) ∧ Below w.heap.size w w' := by
  rw [show ansB k.ph k.ep t = false by unfold ansB; rw [decide_eq_false h0, decide_eq_false he]; rfl]
  have p0a : decide (k.ph = 0) = false := decide_eq_false h0
  have p0b : (k.ph == 0) = false := p0a
  have p0c : (k.ph != 0) = true := by simp only [bne, p0b]; rfl
  have e0a : decide (t.ep = k.ep) = false := decide_eq_false he
  have e0b : (t.ep == k.ep) = false := e0a
  have e0c : (t.ep != k.ep) = true := by simp only [bne, e0b]; rfl
  clear h0 he
  go_enter Tryz.func72, Tryz.ntmps72
  by_cases h1 : k.ph = 1
  · have p1a : decide (k.ph = 1) = true := decide_eq_true h1
    have p1b : (k.ph == 1) = true := p1a
    clear h1
    go_wp2
    go_ret
    exact ⟨rfl, two_boxes _ _ _⟩
  · have p1a : decide (k.ph = 1) = false := decide_eq_false h1
    have p1b : (k.ph == 1) = false := p1a
    by_cases h2 : k.ph = 2
    · have p2a : decide (k.ph = 2) = true := decide_eq_true h2
      have p2b : (k.ph == 2) = true := p2a
      clear h1 h2
      go_wp2
      go_ret
      exact ⟨rfl, two_boxes _ _ _⟩
    · have p2a : decide (k.ph = 2) = false := decide_eq_false h2
      have p2b : (k.ph == 2) = false := p2a
      clear h1 h2
      go_wp2
      go_ret
      exact ⟨rfl, two_boxes _ _ _⟩
theorem answered_a (k : Sh.Ks) (t : Ts) (w : World) (h0 : ¬ k.ph = 0) (he : t.ep = k.ep) (h1 : k.ph = 1) : Calls Tryz.prog 72 #[(.agg #[.int .i64 k.ph, .int .i64 k.ep, .bool k.mj, .slice k.wk.a k.wk.n k.wk.c, .bool k.ov, .int .i64 k.pa, .int .i64 k.pf, .int .i64 k.ps, .int .i64 k.pc, .bool k.me]), (.agg #[.bool t.lv, .int .i64 (t.r 0), .int .i64 (t.r 1), .int .i64 (t.r 2), .int .i64 (t.r 3), .slice (t.u 0).a (t.u 0).n (t.u 0).c, .slice (t.u 1).a (t.u 1).n (t.u 1).c, .slice (t.u 2).a (t.u 2).n (t.u 2).c, .int .i64 t.ep, .int .i64 t.sg, .int .i64 t.rt, .slice t.o.a t.o.n t.o.c, .int .i64 t.pc, .int .i64 t.x, .int .i64 t.y])] w fun e w' => e = .returned (.bool (ansB k.ph k.ep t)) ∧ Below w.heap.size w w' := by
  rw [show ansB k.ph k.ep t = true by unfold ansB; rw [decide_eq_false h0, decide_eq_true he, decide_eq_true h1]; rfl]
  have p0a : decide (k.ph = 0) = false := decide_eq_false h0
  have p0b : (k.ph == 0) = false := p0a
  have p0c : (k.ph != 0) = true := by simp only [bne, p0b]; rfl
  have e0a : decide (t.ep = k.ep) = true := decide_eq_true he
  have e0b : (t.ep == k.ep) = true := e0a
  have e0c : (t.ep != k.ep) = false := by simp only [bne, e0b]; rfl
  have p1a : decide (k.ph = 1) = true := decide_eq_true h1
  have p1b : (k.ph == 1) = true := p1a
  clear h0 he h1
  go_enter Tryz.func72, Tryz.ntmps72
  go_wp2
  go_ret
  exact ⟨rfl, two_boxes _ _ _⟩
theorem answered_s (k : Sh.Ks) (t : Ts) (w : World) (h0 : ¬ k.ph = 0) (he : t.ep = k.ep) (h1 : ¬ k.ph = 1) (h2 : k.ph = 2) : Calls Tryz.prog 72 #[(.agg #[.int .i64 k.ph, .int .i64 k.ep, .bool k.mj, .slice k.wk.a k.wk.n k.wk.c, .bool k.ov, .int .i64 k.pa, .int .i64 k.pf, .int .i64 k.ps, .int .i64 k.pc, .bool k.me]), (.agg #[.bool t.lv, .int .i64 (t.r 0), .int .i64 (t.r 1), .int .i64 (t.r 2), .int .i64 (t.r 3), .slice (t.u 0).a (t.u 0).n (t.u 0).c, .slice (t.u 1).a (t.u 1).n (t.u 1).c, .slice (t.u 2).a (t.u 2).n (t.u 2).c, .int .i64 t.ep, .int .i64 t.sg, .int .i64 t.rt, .slice t.o.a t.o.n t.o.c, .int .i64 t.pc, .int .i64 t.x, .int .i64 t.y])] w fun e w' => e = .returned (.bool (ansB k.ph k.ep t)) ∧ Below w.heap.size w w' := by
  rw [show ansB k.ph k.ep t = (decide (2 ≤ t.sg)) by unfold ansB; rw [decide_eq_false h0, decide_eq_true he, decide_eq_false h1, if_pos h2]; rfl]
  have p0a : decide (k.ph = 0) = false := decide_eq_false h0
  have p0b : (k.ph == 0) = false := p0a
  have p0c : (k.ph != 0) = true := by simp only [bne, p0b]; rfl
  have e0a : decide (t.ep = k.ep) = true := decide_eq_true he
  have e0b : (t.ep == k.ep) = true := e0a
  have e0c : (t.ep != k.ep) = false := by simp only [bne, e0b]; rfl
  have p1a : decide (k.ph = 1) = false := decide_eq_false h1
  have p1b : (k.ph == 1) = false := p1a
  have p2a : decide (k.ph = 2) = true := decide_eq_true h2
  have p2b : (k.ph == 2) = true := p2a
  obtain ⟨b, hb⟩ : ∃ b, b = decide (2 ≤ t.sg) := ⟨_, rfl⟩
  have sa : decide (2 ≤ t.sg) = b := hb.symm
  have sb : decide (t.sg ≥ 2) = b := hb.symm
  rw [← hb]
  clear h0 he h1 h2 hb
  go_enter Tryz.func72, Tryz.ntmps72
  go_wp2
  go_ret
  exact ⟨rfl, two_boxes _ _ _⟩
theorem answered_r (k : Sh.Ks) (t : Ts) (w : World) (h0 : ¬ k.ph = 0) (he : t.ep = k.ep) (h1 : ¬ k.ph = 1) (h2 : ¬ k.ph = 2) : Calls Tryz.prog 72 #[(.agg #[.int .i64 k.ph, .int .i64 k.ep, .bool k.mj, .slice k.wk.a k.wk.n k.wk.c, .bool k.ov, .int .i64 k.pa, .int .i64 k.pf, .int .i64 k.ps, .int .i64 k.pc, .bool k.me]), (.agg #[.bool t.lv, .int .i64 (t.r 0), .int .i64 (t.r 1), .int .i64 (t.r 2), .int .i64 (t.r 3), .slice (t.u 0).a (t.u 0).n (t.u 0).c, .slice (t.u 1).a (t.u 1).n (t.u 1).c, .slice (t.u 2).a (t.u 2).n (t.u 2).c, .int .i64 t.ep, .int .i64 t.sg, .int .i64 t.rt, .slice t.o.a t.o.n t.o.c, .int .i64 t.pc, .int .i64 t.x, .int .i64 t.y])] w fun e w' => e = .returned (.bool (ansB k.ph k.ep t)) ∧ Below w.heap.size w w' := by
  rw [show ansB k.ph k.ep t = (decide (t.sg = 3)) by unfold ansB; rw [decide_eq_false h0, decide_eq_true he, decide_eq_false h1, if_neg h2]; rfl]
  have p0a : decide (k.ph = 0) = false := decide_eq_false h0
  have p0b : (k.ph == 0) = false := p0a
  have p0c : (k.ph != 0) = true := by simp only [bne, p0b]; rfl
  have e0a : decide (t.ep = k.ep) = true := decide_eq_true he
  have e0b : (t.ep == k.ep) = true := e0a
  have e0c : (t.ep != k.ep) = false := by simp only [bne, e0b]; rfl
  have p1a : decide (k.ph = 1) = false := decide_eq_false h1
  have p1b : (k.ph == 1) = false := p1a
  have p2a : decide (k.ph = 2) = false := decide_eq_false h2
  have p2b : (k.ph == 2) = false := p2a
  obtain ⟨b, hb⟩ : ∃ b, b = decide (t.sg = 3) := ⟨_, rfl⟩
  have sa : decide (t.sg = 3) = b := hb.symm
  have sb : (t.sg == 3) = b := hb.symm
  rw [← hb]
  clear h0 he h1 h2 hb
  go_enter Tryz.func72, Tryz.ntmps72
  go_wp2
  go_ret
  exact ⟨rfl, two_boxes _ _ _⟩
theorem answered_any (k : Sh.Ks) (t : Ts) (w : World) : Calls Tryz.prog 72 #[(.agg #[.int .i64 k.ph, .int .i64 k.ep, .bool k.mj, .slice k.wk.a k.wk.n k.wk.c, .bool k.ov, .int .i64 k.pa, .int .i64 k.pf, .int .i64 k.ps, .int .i64 k.pc, .bool k.me]), (.agg #[.bool t.lv, .int .i64 (t.r 0), .int .i64 (t.r 1), .int .i64 (t.r 2), .int .i64 (t.r 3), .slice (t.u 0).a (t.u 0).n (t.u 0).c, .slice (t.u 1).a (t.u 1).n (t.u 1).c, .slice (t.u 2).a (t.u 2).n (t.u 2).c, .int .i64 t.ep, .int .i64 t.sg, .int .i64 t.rt, .slice t.o.a t.o.n t.o.c, .int .i64 t.pc, .int .i64 t.x, .int .i64 t.y])] w fun e w' => e = .returned (.bool (ansB k.ph k.ep t)) ∧ Below w.heap.size w w' := by
  by_cases h0 : k.ph = 0
  · exact answered_i k t w h0
  · by_cases he : t.ep = k.ep
    · by_cases h1 : k.ph = 1
      · exact answered_a k t w h0 he h1
      · by_cases h2 : k.ph = 2
        · exact answered_s k t w h0 he h1 h2
        · exact answered_r k t w h0 he h1 h2
    · exact answered_n k t w h0 he
theorem lb_two {w W : World} (k : Sh.Ks) (t : Ts) {t1 t2 : TypeId} (h : W = (w.alloc (.cells (kv k).toArray t1)).alloc (.cells (tv t).toArray t2)) : Lb w W [(w.heap.size + 1, tv t), (w.heap.size, kv k)] [] [] := by
  have l := ((lb_none w).lay (kv k) t1).lay (tv t) t2
  rw [World.size_alloc] at l
  rw [h]
  exact l
theorem asked_core (k : Sh.Ks) (t : Ts) (w : World) (b1 b2 b3 b4 : Bool) (h1 : t.lv = b1) (h2 : decide (t.pc = 0) = b2) (h3 : mayT t = b3) (h4 : ansB k.ph k.ep t = b4) : Calls Tryz.prog 33 #[(.agg #[.int .i64 k.ph, .int .i64 k.ep, .bool k.mj, .slice k.wk.a k.wk.n k.wk.c, .bool k.ov, .int .i64 k.pa, .int .i64 k.pf, .int .i64 k.ps, .int .i64 k.pc, .bool k.me]), (.agg #[.bool t.lv, .int .i64 (t.r 0), .int .i64 (t.r 1), .int .i64 (t.r 2), .int .i64 (t.r 3), .slice (t.u 0).a (t.u 0).n (t.u 0).c, .slice (t.u 1).a (t.u 1).n (t.u 1).c, .slice (t.u 2).a (t.u 2).n (t.u 2).c, .int .i64 t.ep, .int .i64 t.sg, .int .i64 t.rt, .slice t.o.a t.o.n t.o.c, .int .i64 t.pc, .int .i64 t.x, .int .i64 t.y])] w fun e w' => e = .returned (.bool (b1 && (b2 && (b3 && !b4)))) ∧ Below w.heap.size w w' := by
  have C1 := Lib.hid (fun W => may_any t W)
  have C2 := Lib.hid (fun W => answered_any k t W)
  rw [h3] at C1
  rw [h4] at C2
  have H1 := Lib.hid h1
  have h2b : (t.pc == 0) = b2 := h2
  clear h1 h3 h4
  go_enter Tryz.func33, Tryz.ntmps33
  go_upto_region 1 with fail
  obtain ⟨W1, hW1⟩ : ∃ W1, W1 = (w.alloc (.cells #[.int .i64 k.ph, .int .i64 k.ep, .bool k.mj, .slice k.wk.a k.wk.n k.wk.c, .bool k.ov, .int .i64 k.pa, .int .i64 k.pf, .int .i64 k.ps, .int .i64 k.pc, .bool k.me] 30)).alloc (.cells #[.bool t.lv, .int .i64 (t.r 0), .int .i64 (t.r 1), .int .i64 (t.r 2), .int .i64 (t.r 3), .slice (t.u 0).a (t.u 0).n (t.u 0).c, .slice (t.u 1).a (t.u 1).n (t.u 1).c, .slice (t.u 2).a (t.u 2).n (t.u 2).c, .int .i64 t.ep, .int .i64 t.sg, .int .i64 t.rt, .slice t.o.a t.o.n t.o.c, .int .i64 t.pc, .int .i64 t.x, .int .i64 t.y] 34) := ⟨_, rfl⟩
  have L1 := Lib.hid (lb_two k t hW1)
  rw [← hW1]
  clear hW1
  have q12 := (L1.out.bx (w.heap.size + 1) (tv t) (by simp)).cel 12 (.int .i64 t.pc) rfl
  cases b1 with
  | false =>
    have q0 := (L1.out.bx (w.heap.size + 1) (tv t) (by simp)).cel 0 (.bool false) (by rw [← H1.out]; rfl)
    go_wp2
    go_ret
    exact ⟨rfl, L1.out.bel⟩
  | true =>
    have q0 := (L1.out.bx (w.heap.size + 1) (tv t) (by simp)).cel 0 (.bool true) (by rw [← H1.out]; rfl)
    cases b2 with
    | false =>
      go_wp2
      go_ret
      exact ⟨rfl, L1.out.bel⟩
    | true =>
      cases b3 with
      | false =>
        go_wp2_with (first
          | (refine w_loadg (ldTb (L1.out.bx (w.heap.size + 1) (tv t) (by simp))) rfl (by kernel_rfl) rfl rfl ?_)
          | ((go_at_call 13); (with_reducible refine (C1.out _).mono ?_); rintro e9 w9 ⟨rfl, hb9⟩; have L2 := Lib.hid (L1.out.next hb9); clear hb9))
        go_ret
        exact ⟨rfl, L2.out.bel⟩
      | true =>
        go_wp2_with (first
          | (refine w_loadg (ldTb (L1.out.bx (w.heap.size + 1) (tv t) (by simp))) rfl (by kernel_rfl) rfl rfl ?_)
          | ((go_at_call 13); (with_reducible refine (C1.out _).mono ?_); rintro e9 w9 ⟨rfl, hb9⟩; have L2 := Lib.hid (L1.out.next hb9); clear hb9)
          | (refine w_loadg (ldKb (L2.out.bx (w.heap.size) (kv k) (by simp))) rfl (by kernel_rfl) rfl rfl ?_)
          | (refine w_loadg (ldTb (L2.out.bx (w.heap.size + 1) (tv t) (by simp))) rfl (by kernel_rfl) rfl rfl ?_)
          | ((go_at_call 72); (with_reducible refine (C2.out _).mono ?_); rintro e9 w9 ⟨rfl, hb9⟩; have L3 := Lib.hid (L2.out.next hb9); clear hb9))
        go_ret
        exact ⟨rfl, L3.out.bel⟩
theorem asked_any (k : Sh.Ks) (t : Ts) (w : World) : Calls Tryz.prog 33 #[(.agg #[.int .i64 k.ph, .int .i64 k.ep, .bool k.mj, .slice k.wk.a k.wk.n k.wk.c, .bool k.ov, .int .i64 k.pa, .int .i64 k.pf, .int .i64 k.ps, .int .i64 k.pc, .bool k.me]), (.agg #[.bool t.lv, .int .i64 (t.r 0), .int .i64 (t.r 1), .int .i64 (t.r 2), .int .i64 (t.r 3), .slice (t.u 0).a (t.u 0).n (t.u 0).c, .slice (t.u 1).a (t.u 1).n (t.u 1).c, .slice (t.u 2).a (t.u 2).n (t.u 2).c, .int .i64 t.ep, .int .i64 t.sg, .int .i64 t.rt, .slice t.o.a t.o.n t.o.c, .int .i64 t.pc, .int .i64 t.x, .int .i64 t.y])] w fun e w' => e = .returned (.bool (askB k.ph k.ep t)) ∧ Below w.heap.size w w' := asked_core k t w _ _ _ _ rfl rfl rfl rfl
theorem lives_any (t : Ts) (w : World) : Calls Tryz.prog 70 #[(.agg #[.bool t.lv, .int .i64 (t.r 0), .int .i64 (t.r 1), .int .i64 (t.r 2), .int .i64 (t.r 3), .slice (t.u 0).a (t.u 0).n (t.u 0).c, .slice (t.u 1).a (t.u 1).n (t.u 1).c, .slice (t.u 2).a (t.u 2).n (t.u 2).c, .int .i64 t.ep, .int .i64 t.sg, .int .i64 t.rt, .slice t.o.a t.o.n t.o.c, .int .i64 t.pc, .int .i64 t.x, .int .i64 t.y])] w fun e w' => e = .returned (.bool t.lv) ∧ Below w.heap.size w w' := by
  go_enter Tryz.func70, Tryz.ntmps70
  go_wp2
  go_ret
  exact ⟨rfl, (Below.refl _ _).alloc (Nat.le_refl _) _⟩
end Go.Proofs.YtgmkomnoiffapaaGreatDoor.Ha
end
section
namespace Go.Proofs.YtgmkomnoiffapaaGreatDoor.Ha
open Go.Proofs.YtgmkomnoiffapaaGreatDoor Go.Proofs.YtgmkomnoiffapaaGreatDoor.Rt
open Go.RowKit
open Go.Proofs.YtgmkomnoiffapaaGreatDoor.Mu (hv kv w_load w_loadg ldHb ldKb ldTb)
set_option maxRecDepth 100000

/-- The Epoch and the Stage of a thread that begins alone. -/
def aloneE (ph ep : Int) : Int := if ph = 0 then 0 else ep
def aloneS (ph : Int) : Int := if ph = 0 then 0 else if ph = 1 then 1 else if ph = 2 then 2 else 3
theorem alone_i (k : Sh.Ks) (w : World) (h0 : k.ph = 0) : Calls Tryz.prog 71 #[(.agg #[.int .i64 k.ph, .int .i64 k.ep, .bool k.mj, .slice k.wk.a k.wk.n k.wk.c, .bool k.ov, .int .i64 k.pa, .int .i64 k.pf, .int .i64 k.ps, .int .i64 k.pc, .bool k.me])] w fun e w' => e = .returned (.tuple #[.int .i64 (aloneE k.ph k.ep), .int .i64 (aloneS k.ph)]) ∧ Below w.heap.size w w' := by
  rw [show aloneE k.ph k.ep = 0 from if_pos h0, show aloneS k.ph = 0 by unfold aloneS; rw [if_pos h0]]
  have p0a : decide (k.ph = 0) = true := decide_eq_true h0
  have p0b : (k.ph == 0) = true := p0a
  clear h0
  go_enter Tryz.func71, Tryz.ntmps71
  go_wp2
  go_ret2
  exact ⟨rfl, (Below.refl _ _).alloc (Nat.le_refl _) _⟩
theorem alone_a (k : Sh.Ks) (w : World) (h0 : ¬ k.ph = 0) (h1 : k.ph = 1) : Calls Tryz.prog 71 #[(.agg #[.int .i64 k.ph, .int .i64 k.ep, .bool k.mj, .slice k.wk.a k.wk.n k.wk.c, .bool k.ov, .int .i64 k.pa, .int .i64 k.pf, .int .i64 k.ps, .int .i64 k.pc, .bool k.me])] w fun e w' => e = .returned (.tuple #[.int .i64 (aloneE k.ph k.ep), .int .i64 (aloneS k.ph)]) ∧ Below w.heap.size w w' := by
  rw [show aloneE k.ph k.ep = k.ep from if_neg h0, show aloneS k.ph = 1 by unfold aloneS; rw [if_neg h0, if_pos h1]]
  have p0a : decide (k.ph = 0) = false := decide_eq_false h0
  have p0b : (k.ph == 0) = false := p0a
  have p1a : decide (k.ph = 1) = true := decide_eq_true h1
  have p1b : (k.ph == 1) = true := p1a
  clear h0 h1
  go_enter Tryz.func71, Tryz.ntmps71
  go_wp2
  go_ret2
  exact ⟨rfl, (Below.refl _ _).alloc (Nat.le_refl _) _⟩
theorem alone_s (k : Sh.Ks) (w : World) (h0 : ¬ k.ph = 0) (h1 : ¬ k.ph = 1) (h2 : k.ph = 2) : Calls Tryz.prog 71 #[(.agg #[.int .i64 k.ph, .int .i64 k.ep, .bool k.mj, .slice k.wk.a k.wk.n k.wk.c, .bool k.ov, .int .i64 k.pa, .int .i64 k.pf, .int .i64 k.ps, .int .i64 k.pc, .bool k.me])] w fun e w' => e = .returned (.tuple #[.int .i64 (aloneE k.ph k.ep), .int .i64 (aloneS k.ph)]) ∧ Below w.heap.size w w' := by
  rw [show aloneE k.ph k.ep = k.ep from if_neg h0, show aloneS k.ph = 2 by unfold aloneS; rw [if_neg h0, if_neg h1, if_pos h2]]
  have p0a : decide (k.ph = 0) = false := decide_eq_false h0
  have p0b : (k.ph == 0) = false := p0a
  have p1a : decide (k.ph = 1) = false := decide_eq_false h1
  have p1b : (k.ph == 1) = false := p1a
  have p2a : decide (k.ph = 2) = true := decide_eq_true h2
  have p2b : (k.ph == 2) = true := p2a
  clear h0 h1 h2
  go_enter Tryz.func71, Tryz.ntmps71
  go_wp2
  go_ret2
  exact ⟨rfl, (Below.refl _ _).alloc (Nat.le_refl _) _⟩
theorem alone_r (k : Sh.Ks) (w : World) (h0 : ¬ k.ph = 0) (h1 : ¬ k.ph = 1) (h2 : ¬ k.ph = 2) : Calls Tryz.prog 71 #[(.agg #[.int .i64 k.ph, .int .i64 k.ep, .bool k.mj, .slice k.wk.a k.wk.n k.wk.c, .bool k.ov, .int .i64 k.pa, .int .i64 k.pf, .int .i64 k.ps, .int .i64 k.pc, .bool k.me])] w fun e w' => e = .returned (.tuple #[.int .i64 (aloneE k.ph k.ep), .int .i64 (aloneS k.ph)]) ∧ Below w.heap.size w w' := by
  rw [show aloneE k.ph k.ep = k.ep from if_neg h0, show aloneS k.ph = 3 by unfold aloneS; rw [if_neg h0, if_neg h1, if_neg h2]]
  have p0a : decide (k.ph = 0) = false := decide_eq_false h0
  have p0b : (k.ph == 0) = false := p0a
  have p1a : decide (k.ph = 1) = false := decide_eq_false h1
  have p1b : (k.ph == 1) = false := p1a
  have p2a : decide (k.ph = 2) = false := decide_eq_false h2
  have p2b : (k.ph == 2) = false := p2a
  clear h0 h1 h2
  go_enter Tryz.func71, Tryz.ntmps71
  go_wp2
  go_ret2
  exact ⟨rfl, (Below.refl _ _).alloc (Nat.le_refl _) _⟩
theorem alone_any (k : Sh.Ks) (w : World) : Calls Tryz.prog 71 #[(.agg #[.int .i64 k.ph, .int .i64 k.ep, .bool k.mj, .slice k.wk.a k.wk.n k.wk.c, .bool k.ov, .int .i64 k.pa, .int .i64 k.pf, .int .i64 k.ps, .int .i64 k.pc, .bool k.me])] w fun e w' => e = .returned (.tuple #[.int .i64 (aloneE k.ph k.ep), .int .i64 (aloneS k.ph)]) ∧ Below w.heap.size w w' := by
  by_cases h0 : k.ph = 0
  · exact alone_i k w h0
  · by_cases h1 : k.ph = 1
    · exact alone_a k w h0 h1
    · by_cases h2 : k.ph = 2
      · exact alone_s k w h0 h1 h2
      · exact alone_r k w h0 h1 h2
end Go.Proofs.YtgmkomnoiffapaaGreatDoor.Ha
end
section
namespace Go.Proofs.YtgmkomnoiffapaaGreatDoor.Ha
open Go.Proofs.YtgmkomnoiffapaaGreatDoor Go.Proofs.YtgmkomnoiffapaaGreatDoor.Rt
open Go.RowKit
open Go.Proofs.YtgmkomnoiffapaaGreatDoor.Mu (hv kv w_load w_loadg ldHb ldKb ldTb)
set_option maxRecDepth 100000

/-- Where the first of n threads is, from the k-th on, of which p holds; -1 where there is none. -/
def idxF (p : Ts → Bool) (g : Nat → Ts) : Nat → Nat → Int
  | 0, _ => -1
  | n + 1, k => if p (g k) = true then (k : Int) else idxF p g n (k + 1)
def idxT (p : Ts → Bool) (T : Tl) : Int := idxF p T.g T.s.n 0
theorem idxF_spec (p : Ts → Bool) (g : Nat → Ts) : ∀ n k : Nat, (idxF p g n k = -1 ∧ ∀ i, k ≤ i → i < k + n → p (g i) = false) ∨ ∃ i : Nat, idxF p g n k = (i : Int) ∧ k ≤ i ∧ i < k + n ∧ p (g i) = true ∧ ∀ j, k ≤ j → j < i → p (g j) = false
  | 0, k => .inl ⟨rfl, fun i h1 h2 => absurd h2 (by omega)⟩
  | n + 1, k => by
    unfold idxF
    by_cases h : p (g k) = true
    · rw [if_pos h]
      exact .inr ⟨k, rfl, Nat.le_refl _, by omega, h, fun j h1 h2 => absurd h2 (by omega)⟩
    · rw [if_neg h]
      have h0 : p (g k) = false := by simpa using h
      rcases idxF_spec p g n (k + 1) with ⟨e, hall⟩ | ⟨i, e, h1, h2, h3, h4⟩
      · refine .inl ⟨e, fun i hi1 hi2 => ?_⟩
        by_cases hk : i = k
        · rw [hk]; exact h0
        · exact hall i (by omega) (by omega)
      · refine .inr ⟨i, e, by omega, by omega, h3, fun j hj1 hj2 => ?_⟩
        by_cases hk : j = k
        · rw [hk]; exact h0
        · exact h4 j (by omega) hj2
/-- Does p hold of one of them? -/
def anyB (p : Ts → Bool) (g : Nat → Ts) (n : Nat) : Bool := (List.range n).any fun i => p (g i)
theorem any_iff {p : Ts → Bool} {g : Nat → Ts} {n : Nat} : anyB p g n = true ↔ ∃ i, i < n ∧ p (g i) = true := by
  unfold anyB
  rw [List.any_eq_true]
  simp only [List.mem_range]
theorem idx_any (p : Ts → Bool) (T : Tl) : decide (0 ≤ idxT p T) = anyB p T.g T.s.n := by
  unfold idxT
  rcases idxF_spec p T.g T.s.n 0 with ⟨e, hall⟩ | ⟨i, e, _, h2, h3, _⟩
  · rw [e, decide_eq_false (by decide), eq_comm, ← Bool.not_eq_true, any_iff]
    rintro ⟨i, hi, h⟩
    rw [hall i (Nat.zero_le _) (by omega)] at h
    cases h
  · rw [e, decide_eq_true (by omega), eq_comm, any_iff]
    exact ⟨i, by omega, h3⟩
theorem tindex_zero (a : Option Addr) (c : Nat) (fv : Value) (w : World) : Calls Tryz.prog 69 #[.slice a 0 c, fv] w fun e w' => e = .returned (.int .i64 (-1)) ∧ Below w.heap.size w w' := by
  go_enter Tryz.func69, Tryz.ntmps69
  go_wp2
  go_loopg [5, 8] 0 (fun _ _ s8 wr => s8 = .int .i64 0 ∧ wr = w)
  case atStart => exact ⟨rfl, rfl⟩
  case round =>
    obtain ⟨rfl, rfl⟩ := hrel
    go_wp2
    go_ret
    exact ⟨rfl, Below.refl _ _⟩
set_option maxHeartbeats 2000000 in
theorem tindex_pos (n c b off : Nat) (g : Nat → Ts) (p : Ts → Bool) (fg : Nat) (lb : Array Value) (w : World) (eg : ∀ args w, (callFunc fg args).run Tryz.prog w = .ok (.enter fg args) w) (hr : TRow w w.heap.size (some ⟨b, off, none⟩) n g) (hn : n ≤ 1000000) (h0 : 0 < n)
    (hp : ∀ i, i < n → ∀ W, Below w.heap.size w W → Calls Tryz.prog fg (#[(.agg #[.bool (g i).lv, .int .i64 ((g i).r 0), .int .i64 ((g i).r 1), .int .i64 ((g i).r 2), .int .i64 ((g i).r 3), .slice ((g i).u 0).a ((g i).u 0).n ((g i).u 0).c, .slice ((g i).u 1).a ((g i).u 1).n ((g i).u 1).c, .slice ((g i).u 2).a ((g i).u 2).n ((g i).u 2).c, .int .i64 (g i).ep, .int .i64 (g i).sg, .int .i64 (g i).rt, .slice (g i).o.a (g i).o.n (g i).o.c, .int .i64 (g i).pc, .int .i64 (g i).x, .int .i64 (g i).y])] ++ lb) W fun e w' => e = .returned (.bool (p (g i))) ∧ Below W.heap.size W w') :
    Calls Tryz.prog 69 #[.slice (some ⟨b, off, none⟩) n c, .func (.func fg) #[] lb] w fun e w' => e = .returned (.int .i64 (idxF p g n 0)) ∧ Below w.heap.size w w' := by
  have HR := Lib.hid hr
  have HP := Lib.hid hp
  obtain ⟨r, hr'⟩ : ∃ r, r = idxF p g n 0 := ⟨_, rfl⟩
  have R0 := Lib.hid hr'
  rw [← hr']
  clear hr hp hr'
  go_enter Tryz.func69, Tryz.ntmps69
  go_wp2
  go_loopg [5, 8] n (fun gg _ s8 wr => ∃ kk : Nat, kk ≤ n ∧ n - kk ≤ gg ∧ s8 = .int .i64 kk ∧ Hid (Below w.heap.size w wr ∧ r = idxF p g (n - kk) kk))
  case atStart => exact ⟨0, Nat.zero_le _, by omega, rfl, Lib.hid ⟨Below.refl _ _, by rw [R0.out]; rfl⟩⟩
  case round =>
    obtain ⟨kk, hkk, hg, rfl, A⟩ := hrel
    by_cases hlt : kk < n
    · have hltz : (kk : Int) < (n : Int) := by omega
      have L := Lib.hid ((HR.out.below A.out.1).load rfl hlt)
      have hcall := HP.out kk hlt _ A.out.1
      have e1 : idxF p g (n - kk) kk = if p (g kk) = true then (kk : Int) else idxF p g (n - (kk + 1)) (kk + 1) := by
        rw [show n - kk = (n - (kk + 1)) + 1 by omega]
        rfl
      have A1 := Lib.hid (And.intro A.out.1 (A.out.2.trans e1))
      clear e1 A
      cases hq : p (g kk) with
      | true =>
        rw [hq] at hcall
        have hr2 := Lib.hid (show r = (kk : Int) by rw [A1.out.2, if_pos hq])
        go_wp2_with (first
          | (refine w_load L.out rfl rfl rfl rfl ?_)
          | (go_at_fn fg; refine hcall.mono ?_; rintro e9 w9 ⟨rfl, hb9⟩; have A2 := Lib.hid (A1.out.1.trans (hb9.mono A1.out.1.size)); clear hb9))
        go_ret
        exact ⟨by rw [hr2.out]; rfl, A2.out⟩
      | false =>
        rw [hq] at hcall
        have hr2 := Lib.hid (show r = idxF p g (n - (kk + 1)) (kk + 1) by rw [A1.out.2, if_neg (by rw [hq]; decide)])
        go_wp2_with (first
          | (refine w_load L.out rfl rfl rfl rfl ?_)
          | (go_at_fn fg; refine hcall.mono ?_; rintro e9 w9 ⟨rfl, hb9⟩; have A2 := Lib.hid (And.intro (A1.out.1.trans (hb9.mono A1.out.1.size)) hr2.out); clear hb9))
        go_roundg (n - (kk + 1))
        case measure => omega
        case rel => exact ⟨kk + 1, by omega, by omega, by go_num, A2⟩
    · have hltz : ¬ (kk : Int) < (n : Int) := by omega
      have : kk = n := by omega
      subst this
      have hr2 := Lib.hid (show r = -1 by rw [A.out.2, Nat.sub_self]; rfl)
      go_wp2
      go_ret
      exact ⟨by rw [hr2.out]; rfl, A.out.1⟩
theorem tindex_any (T : Tl) (p : Ts → Bool) (fg : Nat) (lb : Array Value) (w : World) (eg : ∀ args w, (callFunc fg args).run Tryz.prog w = .ok (.enter fg args) w) (hr : TRow w w.heap.size T.s.a T.s.n T.g) (hn : T.s.n ≤ 1000000)
    (hp : ∀ i, i < T.s.n → ∀ W, Below w.heap.size w W → Calls Tryz.prog fg (#[(.agg #[.bool (T.g i).lv, .int .i64 ((T.g i).r 0), .int .i64 ((T.g i).r 1), .int .i64 ((T.g i).r 2), .int .i64 ((T.g i).r 3), .slice ((T.g i).u 0).a ((T.g i).u 0).n ((T.g i).u 0).c, .slice ((T.g i).u 1).a ((T.g i).u 1).n ((T.g i).u 1).c, .slice ((T.g i).u 2).a ((T.g i).u 2).n ((T.g i).u 2).c, .int .i64 (T.g i).ep, .int .i64 (T.g i).sg, .int .i64 (T.g i).rt, .slice (T.g i).o.a (T.g i).o.n (T.g i).o.c, .int .i64 (T.g i).pc, .int .i64 (T.g i).x, .int .i64 (T.g i).y])] ++ lb) W fun e w' => e = .returned (.bool (p (T.g i))) ∧ Below W.heap.size W w') :
    Calls Tryz.prog 69 #[.slice T.s.a T.s.n T.s.c, .func (.func fg) #[] lb] w fun e w' => e = .returned (.int .i64 (idxT p T)) ∧ Below w.heap.size w w' := by
  obtain ⟨⟨a, n, c⟩, g⟩ := T
  rcases Nat.eq_zero_or_pos n with h0 | h0
  · obtain rfl : n = 0 := h0
    exact tindex_zero a c _ w
  · obtain ⟨b, off, ha, _⟩ := hr h0
    have ha : a = some ⟨b, off, none⟩ := ha
    subst ha
    exact tindex_pos n c b off g p fg lb w eg hr hn h0 hp
theorem tcontains_any (T : Tl) (p : Ts → Bool) (fg : Nat) (lb : Array Value) (w : World) (eg : ∀ args w, (callFunc fg args).run Tryz.prog w = .ok (.enter fg args) w) (hr : TRow w w.heap.size T.s.a T.s.n T.g) (hn : T.s.n ≤ 1000000)
    (hp : ∀ i, i < T.s.n → ∀ W, Below w.heap.size w W → Calls Tryz.prog fg (#[(.agg #[.bool (T.g i).lv, .int .i64 ((T.g i).r 0), .int .i64 ((T.g i).r 1), .int .i64 ((T.g i).r 2), .int .i64 ((T.g i).r 3), .slice ((T.g i).u 0).a ((T.g i).u 0).n ((T.g i).u 0).c, .slice ((T.g i).u 1).a ((T.g i).u 1).n ((T.g i).u 1).c, .slice ((T.g i).u 2).a ((T.g i).u 2).n ((T.g i).u 2).c, .int .i64 (T.g i).ep, .int .i64 (T.g i).sg, .int .i64 (T.g i).rt, .slice (T.g i).o.a (T.g i).o.n (T.g i).o.c, .int .i64 (T.g i).pc, .int .i64 (T.g i).x, .int .i64 (T.g i).y])] ++ lb) W fun e w' => e = .returned (.bool (p (T.g i))) ∧ Below W.heap.size W w') :
    Calls Tryz.prog 75 #[.slice T.s.a T.s.n T.s.c, .func (.func fg) #[] lb] w fun e w' => e = .returned (.bool (anyB p T.g T.s.n)) ∧ Below w.heap.size w w' := by
  have C1 := Lib.hid (tindex_any T p fg lb w eg hr hn hp)
  have e0 := idx_any p T
  obtain ⟨r, hr'⟩ : ∃ r, r = idxT p T := ⟨_, rfl⟩
  obtain ⟨c, hc⟩ : ∃ c, c = anyB p T.g T.s.n := ⟨_, rfl⟩
  rw [← hr', ← hc] at e0
  rw [← hr'] at C1
  rw [← hc]
  have e1 : decide (r ≥ 0) = c := e0
  clear hr hp eg hr' hc
  go_enter Tryz.func75, Tryz.ntmps75
  go_wp2_with (go_at_call 69; refine C1.out.mono ?_; rintro e9 w9 ⟨rfl, hb9⟩; have B9 := Lib.hid hb9; clear hb9)
  go_ret
  exact ⟨rfl, B9.out⟩
/-- A thread that lives, and has not answered. -/
def openB (ph ep : Int) (t : Ts) : Bool := t.lv && !ansB ph ep t
def allB (ph ep : Int) (T : Tl) : Bool := !anyB (openB ph ep) T.g T.s.n
theorem all_iff {ph ep : Int} {T : Tl} : allB ph ep T = true ↔ ∀ i, i < T.s.n → openB ph ep (T.g i) = false := by
  unfold allB
  rw [Bool.not_eq_true', ← Bool.not_eq_true, any_iff]
  exact ⟨fun h i hi => by
    cases e : openB ph ep (T.g i)
    · rfl
    · exact absurd ⟨i, hi, e⟩ h, fun h ⟨i, hi, e⟩ => by rw [h i hi] at e; cases e⟩
theorem eq_b {a b : Bool} (h : a = true ↔ b = true) : a = b := by
  cases a <;> cases b <;> simp_all
theorem all_one (ph ep : Int) (s : Ls.Sl) (t : Ts) (hs : s.n = 1) : allB ph ep ⟨s, fun _ => t⟩ = !openB ph ep t := by
  refine eq_b ?_
  rw [all_iff, Bool.not_eq_true']
  exact ⟨fun h => h 0 (by show 0 < s.n; omega), fun h i _ => h⟩
theorem allK_core (k : Sh.Ks) (t : Ts) (b : Nat) (w : World) (b1 b2 : Bool) (h1 : t.lv = b1) (h2 : ansB k.ph k.ep t = b2) (hb : Box w b (kv k)) : Calls Tryz.prog 76 #[(.agg #[.bool t.lv, .int .i64 (t.r 0), .int .i64 (t.r 1), .int .i64 (t.r 2), .int .i64 (t.r 3), .slice (t.u 0).a (t.u 0).n (t.u 0).c, .slice (t.u 1).a (t.u 1).n (t.u 1).c, .slice (t.u 2).a (t.u 2).n (t.u 2).c, .int .i64 t.ep, .int .i64 t.sg, .int .i64 t.rt, .slice t.o.a t.o.n t.o.c, .int .i64 t.pc, .int .i64 t.x, .int .i64 t.y]), .pointer (some ⟨b, 0, none⟩)] w fun e w' => e = .returned (.bool (b1 && !b2)) ∧ Below w.heap.size w w' := by
  have C2 := Lib.hid (fun W => answered_any k t W)
  rw [h2] at C2
  have H1 := Lib.hid h1
  have HB := Lib.hid hb
  clear h1 h2 hb
  go_enter Tryz.func76, Tryz.ntmps76
  go_upto_region 1 with fail
  obtain ⟨W1, hW1⟩ : ∃ W1, W1 = w.alloc (.cells #[.bool t.lv, .int .i64 (t.r 0), .int .i64 (t.r 1), .int .i64 (t.r 2), .int .i64 (t.r 3), .slice (t.u 0).a (t.u 0).n (t.u 0).c, .slice (t.u 1).a (t.u 1).n (t.u 1).c, .slice (t.u 2).a (t.u 2).n (t.u 2).c, .int .i64 t.ep, .int .i64 t.sg, .int .i64 t.rt, .slice t.o.a t.o.n t.o.c, .int .i64 t.pc, .int .i64 t.x, .int .i64 t.y] 34) := ⟨_, rfl⟩
  have L1 : Hid (Lb w W1 [(w.heap.size, tv t), (b, kv k)] [] []) := Lib.hid (by
    have l := (Lb.mk (ps := []) (rs := []) (bs := [(b, kv k)]) (Below.refl w.heap.size w) (fun x hx => by rcases List.mem_singleton.1 hx with rfl; exact HB.out) (fun x hx => by cases hx) (fun x hx => by cases hx)).lay (tv t) 34
    rw [hW1]
    exact l)
  rw [← hW1]
  clear hW1
  cases b1 with
  | false =>
    have q0 := (L1.out.bx (w.heap.size) (tv t) (by simp)).cel 0 (.bool false) (by rw [← H1.out]; rfl)
    go_wp2
    go_ret
    exact ⟨rfl, L1.out.bel⟩
  | true =>
    have q0 := (L1.out.bx (w.heap.size) (tv t) (by simp)).cel 0 (.bool true) (by rw [← H1.out]; rfl)
    go_wp2_with (first
      | (refine w_loadg (ldKb (L1.out.bx b (kv k) (by simp))) rfl (by kernel_rfl) rfl rfl ?_)
      | (refine w_loadg (ldTb (L1.out.bx (w.heap.size) (tv t) (by simp))) rfl (by kernel_rfl) rfl rfl ?_)
      | ((go_at_call 72); (with_reducible refine (C2.out _).mono ?_); rintro e9 w9 ⟨rfl, hb9⟩; have L2 := Lib.hid (L1.out.next hb9); clear hb9))
    go_ret
    exact ⟨rfl, L2.out.bel⟩
theorem all_any (k : Sh.Ks) (T : Tl) (w : World) (hr : TRow w w.heap.size T.s.a T.s.n T.g) (hn : T.s.n ≤ 1000000) : Calls Tryz.prog 35 #[(.agg #[.int .i64 k.ph, .int .i64 k.ep, .bool k.mj, .slice k.wk.a k.wk.n k.wk.c, .bool k.ov, .int .i64 k.pa, .int .i64 k.pf, .int .i64 k.ps, .int .i64 k.pc, .bool k.me]), .slice T.s.a T.s.n T.s.c] w fun e w' => e = .returned (.bool (allB k.ph k.ep T)) ∧ Below w.heap.size w w' := by
  have HR := Lib.hid hr
  unfold allB
  obtain ⟨c, hc⟩ : ∃ c, c = anyB (openB k.ph k.ep) T.g T.s.n := ⟨_, rfl⟩
  have HC := Lib.hid hc
  rw [← hc]
  clear hr hc
  have eg : ∀ args w, (callFunc 76 args).run Tryz.prog w = .ok (.enter 76 args) w := fun args w => by go_simp
  go_enter Tryz.func35, Tryz.ntmps35
  go_upto_region 1 with fail
  obtain ⟨W1, hW1⟩ : ∃ W1, W1 = w.alloc (.cells #[.int .i64 k.ph, .int .i64 k.ep, .bool k.mj, .slice k.wk.a k.wk.n k.wk.c, .bool k.ov, .int .i64 k.pa, .int .i64 k.pf, .int .i64 k.ps, .int .i64 k.pc, .bool k.me] 30) := ⟨_, rfl⟩
  have L1 : Hid (Lb w W1 [(w.heap.size, kv k)] [] [T]) := Lib.hid (by
    have l := ((lb_none w).rows (T := T) HR.out).lay (kv k) 30
    rw [hW1]
    exact l)
  rw [← hW1]
  clear hW1
  go_wp2_with (go_at_call 75; refine (tcontains_any T (openB k.ph k.ep) 76 #[.pointer (some ⟨w.heap.size, 0, none⟩)] W1 eg (L1.out.rw T (by simp)) hn fun i hi W hb => allK_core k (T.g i) w.heap.size W _ _ rfl rfl ((L1.out.next hb).bx _ _ (by simp))).mono ?_; rintro e9 w9 ⟨rfl, hb9⟩; have L2 := Lib.hid (L1.out.next hb9); clear hb9)
  rw [← HC.out]
  go_ret
  exact ⟨rfl, L2.out.bel⟩
end Go.Proofs.YtgmkomnoiffapaaGreatDoor.Ha
end
section
namespace Go.Proofs.YtgmkomnoiffapaaGreatDoor.Sh
open Go.Proofs.YtgmkomnoiffapaaGreatDoor
open Go.RowKit
set_option maxRecDepth 100000

/-- A head's colour. -/
def colH (o e : Bool) (m : Int) (mj : Bool) (ep : Int) : Int := if o = true ∧ mj = false then 0 else if m < ep then 1 else if e = true then 3 else 2
theorem two_allocs {w : World} (o1 o2 : Obj) : Below w.heap.size w ((w.alloc o1).alloc o2) := ((Below.refl _ _).alloc (Nat.le_refl _) o1).alloc (by simp) o2
set_option maxHeartbeats 4000000 in
theorem of_any (u o e : Bool) (n b m : Int) (k : Ks) (w : World) : Calls Tryz.prog 101 #[.agg #[.bool u, .bool o, .bool e, .int .i64 n, .int .i64 b, .int .i64 m], (.agg #[.int .i64 k.ph, .int .i64 k.ep, .bool k.mj, .slice k.wk.a k.wk.n k.wk.c, .bool k.ov, .int .i64 k.pa, .int .i64 k.pf, .int .i64 k.ps, .int .i64 k.pc, .bool k.me])] w fun e' w' => e' = .returned (.int .i64 (colH o e m k.mj k.ep)) ∧ Below w.heap.size w w' := by
  obtain ⟨ph, ep, mj, wk, ov, pa, pf, ps, pc, me⟩ := k
  dsimp only
  by_cases h : m < ep
  · have a0 : decide (m < ep) = true := decide_eq_true h
    have e1 : colH true e m false ep = 0 := if_pos ⟨rfl, rfl⟩
    have e2 : ∀ o mj, ¬ (o = true ∧ mj = false) → colH o e m mj ep = 1 := fun o mj hh => by unfold colH; rw [if_neg hh, if_pos h]
    clear h
    cases o <;> cases mj
    · rw [e2 _ _ (by decide)]
      clear e1 e2
      go_enter Tryz.func101, Tryz.ntmps101
      go_wp2
      go_ret
      exact ⟨rfl, two_allocs _ _⟩
    · rw [e2 _ _ (by decide)]
      clear e1 e2
      go_enter Tryz.func101, Tryz.ntmps101
      go_wp2
      go_ret
      exact ⟨rfl, two_allocs _ _⟩
    · rw [e1]
      clear e1 e2
      go_enter Tryz.func101, Tryz.ntmps101
      go_wp2
      go_ret
      exact ⟨rfl, two_allocs _ _⟩
    · rw [e2 _ _ (by decide)]
      clear e1 e2
      go_enter Tryz.func101, Tryz.ntmps101
      go_wp2
      go_ret
      exact ⟨rfl, two_allocs _ _⟩
  · have a0 : decide (m < ep) = false := decide_eq_false h
    have e1 : colH true e m false ep = 0 := if_pos ⟨rfl, rfl⟩
    have e2 : ∀ o mj, ¬ (o = true ∧ mj = false) → colH o e m mj ep = if e = true then 3 else 2 := fun o mj hh => by unfold colH; rw [if_neg hh, if_neg h]
    clear h
    cases o <;> cases mj
    · rw [e2 _ _ (by decide)]
      clear e1 e2
      cases e
      · go_enter Tryz.func101, Tryz.ntmps101
        go_wp2
        go_ret
        exact ⟨rfl, two_allocs _ _⟩
      · go_enter Tryz.func101, Tryz.ntmps101
        go_wp2
        go_ret
        exact ⟨rfl, two_allocs _ _⟩
    · rw [e2 _ _ (by decide)]
      clear e1 e2
      cases e
      · go_enter Tryz.func101, Tryz.ntmps101
        go_wp2
        go_ret
        exact ⟨rfl, two_allocs _ _⟩
      · go_enter Tryz.func101, Tryz.ntmps101
        go_wp2
        go_ret
        exact ⟨rfl, two_allocs _ _⟩
    · rw [e1]
      clear e1 e2
      go_enter Tryz.func101, Tryz.ntmps101
      go_wp2
      go_ret
      exact ⟨rfl, two_allocs _ _⟩
    · rw [e2 _ _ (by decide)]
      clear e1 e2
      cases e
      · go_enter Tryz.func101, Tryz.ntmps101
        go_wp2
        go_ret
        exact ⟨rfl, two_allocs _ _⟩
      · go_enter Tryz.func101, Tryz.ntmps101
        go_wp2
        go_ret
        exact ⟨rfl, two_allocs _ _⟩
/-- What find tells. -/
def findV (s : Hs) (d : Hd_) (mj : Bool) (ep a q : Int) : Value := if isC s d mj ep a q = true then headOf (wd d a) else noHead
def FindOut (w : World) (V : Value) (c : Bool) (e : Ending) (w' : World) : Prop := e = .returned (.tuple #[V, .bool c]) ∧ Below w.heap.size w w'
/-- What a walk through find has: the heap, the collector, the result's head. -/
structure Fw (w W : World) (s : Hs) (d : Hd_) (k : Ks) (xs : List Int) : Prop where
  l : Lk w W [(w.heap.size, s, d)] [(w.heap.size + 1, k, xs)]
  x : XBox W (w.heap.size + 2)
section
variable {w W W' : World} {s : Hs} {d : Hd_} {k : Ks} {xs : List Int}
theorem Fw.next (h : Fw w W s d k xs) (hb : Below W.heap.size W W') : Fw w W' s d k xs := ⟨h.l.next hb, h.x.next hb⟩
theorem fw_start {ty ty' ty2 : TypeId} (hp : Hp w w.heap.size s d) (hk : WRow w w.heap.size k xs) (h : W = ((w.alloc (.cells #[.slice s.w.a s.w.n s.w.c, .slice s.p.a s.p.n s.p.c, .slice (s.u 0).a (s.u 0).n (s.u 0).c, .slice (s.u 1).a (s.u 1).n (s.u 1).c, .slice (s.u 2).a (s.u 2).n (s.u 2).c, .slice s.c.a s.c.n s.c.c] ty)).alloc (.cells #[.int .i64 k.ph, .int .i64 k.ep, .bool k.mj, .slice k.wk.a k.wk.n k.wk.c, .bool k.ov, .int .i64 k.pa, .int .i64 k.pf, .int .i64 k.ps, .int .i64 k.pc, .bool k.me] ty')).alloc (.cells #[.bool false, .bool false, .bool false, .int .i64 0, .int .i64 0, .int .i64 0] ty2)) : Fw w W s d k xs := by
  have x := XBox.new ((w.alloc (.cells #[.slice s.w.a s.w.n s.w.c, .slice s.p.a s.p.n s.p.c, .slice (s.u 0).a (s.u 0).n (s.u 0).c, .slice (s.u 1).a (s.u 1).n (s.u 1).c, .slice (s.u 2).a (s.u 2).n (s.u 2).c, .slice s.c.a s.c.n s.c.c] ty)).alloc (.cells #[.int .i64 k.ph, .int .i64 k.ep, .bool k.mj, .slice k.wk.a k.wk.n k.wk.c, .bool k.ov, .int .i64 k.pa, .int .i64 k.pf, .int .i64 k.ps, .int .i64 k.pc, .bool k.me] ty')) ty2
  rw [World.size_alloc, World.size_alloc] at x
  refine ⟨(lk_start (ty := ty) (ty' := ty') hp hk rfl).next (by rw [h]; exact (Below.refl _ _).alloc (Nat.le_refl _) _), by rw [h]; exact x⟩
theorem put6_x {b : Nat} (h : XBox W b) (v0 v1 v2 v3 v4 v5 : Value) :
    (put6 W b v0 v1 v2 v3 v4 v5).cell? ⟨b, 0, none⟩ = some v0 ∧ (put6 W b v0 v1 v2 v3 v4 v5).cell? ⟨b, 1, none⟩ = some v1 ∧ (put6 W b v0 v1 v2 v3 v4 v5).cell? ⟨b, 2, none⟩ = some v2 ∧
    (put6 W b v0 v1 v2 v3 v4 v5).cell? ⟨b, 3, none⟩ = some v3 ∧ (put6 W b v0 v1 v2 v3 v4 v5).cell? ⟨b, 4, none⟩ = some v4 ∧ (put6 W b v0 v1 v2 v3 v4 v5).cell? ⟨b, 5, none⟩ = some v5 := by
  have h0 := h.cell 0 (by decide)
  have h1 := h.cell 1 (by decide)
  have h2 := h.cell 2 (by decide)
  have h3 := h.cell 3 (by decide)
  have h4 := h.cell 4 (by decide)
  have h5 := h.cell 5 (by decide)
  refine ⟨?_, ?_, ?_, ?_, ?_, ?_⟩ <;> simp [put6, go_sem, h0, h1, h2, h3, h4, h5]
theorem res_find {b : Nat} {c : Value} {tm : Array Value} {v0 v1 v2 v3 v4 v5 : Value} (ht : tm[8]? = some (.pointer (some ⟨b, 0, none⟩))) (h9 : tm[9]? = some c) (k0 : W.cell? ⟨b, 0, none⟩ = some v0) (k1 : W.cell? ⟨b, 1, none⟩ = some v1) (k2 : W.cell? ⟨b, 2, none⟩ = some v2) (k3 : W.cell? ⟨b, 3, none⟩ = some v3) (k4 : W.cell? ⟨b, 4, none⟩ = some v4) (k5 : W.cell? ⟨b, 5, none⟩ = some v5) :
    (results Tryz.f59 tm).run Tryz.prog W = .ok (.tuple #[.agg #[v0, v1, v2, v3, v4, v5], c]) W := by
  simp [results, Tryz.results59, go_sem, ht, h9, k0, k1, k2, k3, k4, k5]
/-- The result's head's cells. -/
theorem xcells {b : Nat} (h : XBox W b) : (W.cell? ⟨b, 0, none⟩ = some (.bool false) ∧ W.cell? ⟨b, 1, none⟩ = some (.bool false) ∧ W.cell? ⟨b, 2, none⟩ = some (.bool false) ∧ W.cell? ⟨b, 3, none⟩ = some (.int .i64 0) ∧ W.cell? ⟨b, 4, none⟩ = some (.int .i64 0) ∧ W.cell? ⟨b, 5, none⟩ = some (.int .i64 0)) ∧ (W.frozen? ⟨b, 0, none⟩ = false ∧ W.frozen? ⟨b, 1, none⟩ = false ∧ W.frozen? ⟨b, 2, none⟩ = false ∧ W.frozen? ⟨b, 3, none⟩ = false ∧ W.frozen? ⟨b, 4, none⟩ = false ∧ W.frozen? ⟨b, 5, none⟩ = false) ∧ b < W.heap.size :=
  ⟨⟨h.cell 0 (by decide), h.cell 1 (by decide), h.cell 2 (by decide), h.cell 3 (by decide), h.cell 4 (by decide), h.cell 5 (by decide)⟩, ⟨h.free 0, h.free 1, h.free 2, h.free 3, h.free 4, h.free 5⟩, h.lt⟩
end
section
variable (s : Hs) (d : Hd_) (k : Ks) (xs : List Int) (a q : Int) (w : World)
set_option maxHeartbeats 1000000 in
theorem find_ep (hp : Hp w w.heap.size s d) (hk : WRow w w.heap.size k xs) (he : ¬ (0 ≤ k.ep ∧ k.ep ≤ 1048576)) : Calls Tryz.prog 59 #[(.agg #[.slice s.w.a s.w.n s.w.c, .slice s.p.a s.p.n s.p.c, .slice (s.u 0).a (s.u 0).n (s.u 0).c, .slice (s.u 1).a (s.u 1).n (s.u 1).c, .slice (s.u 2).a (s.u 2).n (s.u 2).c, .slice s.c.a s.c.n s.c.c]), (.agg #[.int .i64 k.ph, .int .i64 k.ep, .bool k.mj, .slice k.wk.a k.wk.n k.wk.c, .bool k.ov, .int .i64 k.pa, .int .i64 k.pf, .int .i64 k.ps, .int .i64 k.pc, .bool k.me]), .int .i64 a, .int .i64 q] w (FindOut w noHead false) := by
  have HP := Lib.hid hp
  have HK := Lib.hid hk
  clear hp hk
  by_cases h0 : k.ep < 0
  · have a0 : decide (k.ep < 0) = true := decide_eq_true h0
    clear h0 he
    go_enter Tryz.func59, Tryz.ntmps59
    go_upto_region 1 with fail
    obtain ⟨W0, hW0⟩ : ∃ W0, W0 = ((w.alloc (.cells #[.slice s.w.a s.w.n s.w.c, .slice s.p.a s.p.n s.p.c, .slice (s.u 0).a (s.u 0).n (s.u 0).c, .slice (s.u 1).a (s.u 1).n (s.u 1).c, .slice (s.u 2).a (s.u 2).n (s.u 2).c, .slice s.c.a s.c.n s.c.c] 28)).alloc (.cells #[.int .i64 k.ph, .int .i64 k.ep, .bool k.mj, .slice k.wk.a k.wk.n k.wk.c, .bool k.ov, .int .i64 k.pa, .int .i64 k.pf, .int .i64 k.ps, .int .i64 k.pc, .bool k.me] 30)).alloc (.cells #[.bool false, .bool false, .bool false, .int .i64 0, .int .i64 0, .int .i64 0] 56) := ⟨_, rfl⟩
    have K0 := Lib.hid (fw_start HP.out HK.out hW0)
    rw [← hW0]
    clear hW0
    have q1 := (K0.out.l.cat (w.heap.size + 1) k xs (by simp)).c1
    have ql := (K0.out.l.cat (w.heap.size + 1) k xs (by simp)).lt
    obtain ⟨⟨y0, y1, y2, y3, y4, y5⟩, ⟨z0, z1, z2, z3, z4, z5⟩, zl⟩ := xcells K0.out.x
    go_wp2
    refine bodyPost_ret (v := .tuple #[noHead, .bool false]) ?_ rfl ⟨rfl, below_put6 K0.out.l.bel (b := w.heap.size + 2) (by omega) _ _ _ _ _ _⟩
    obtain ⟨k0, k1, k2, k3, k4, k5⟩ := put6_x K0.out.x (.bool false) (.bool false) (.bool false) (.int .i64 0) (.int .i64 0) (.int .i64 0)
    exact res_find rfl rfl k0 k1 k2 k3 k4 k5
  · have a0 : decide (k.ep < 0) = false := decide_eq_false h0
    have a1 : decide (1048576 < k.ep) = true := decide_eq_true (by omega)
    clear h0 he
    go_enter Tryz.func59, Tryz.ntmps59
    go_upto_region 1 with fail
    obtain ⟨W0, hW0⟩ : ∃ W0, W0 = ((w.alloc (.cells #[.slice s.w.a s.w.n s.w.c, .slice s.p.a s.p.n s.p.c, .slice (s.u 0).a (s.u 0).n (s.u 0).c, .slice (s.u 1).a (s.u 1).n (s.u 1).c, .slice (s.u 2).a (s.u 2).n (s.u 2).c, .slice s.c.a s.c.n s.c.c] 28)).alloc (.cells #[.int .i64 k.ph, .int .i64 k.ep, .bool k.mj, .slice k.wk.a k.wk.n k.wk.c, .bool k.ov, .int .i64 k.pa, .int .i64 k.pf, .int .i64 k.ps, .int .i64 k.pc, .bool k.me] 30)).alloc (.cells #[.bool false, .bool false, .bool false, .int .i64 0, .int .i64 0, .int .i64 0] 56) := ⟨_, rfl⟩
    have K0 := Lib.hid (fw_start HP.out HK.out hW0)
    rw [← hW0]
    clear hW0
    have q1 := (K0.out.l.cat (w.heap.size + 1) k xs (by simp)).c1
    have ql := (K0.out.l.cat (w.heap.size + 1) k xs (by simp)).lt
    obtain ⟨⟨y0, y1, y2, y3, y4, y5⟩, ⟨z0, z1, z2, z3, z4, z5⟩, zl⟩ := xcells K0.out.x
    go_wp2
    refine bodyPost_ret (v := .tuple #[noHead, .bool false]) ?_ rfl ⟨rfl, below_put6 K0.out.l.bel (b := w.heap.size + 2) (by omega) _ _ _ _ _ _⟩
    obtain ⟨k0, k1, k2, k3, k4, k5⟩ := put6_x K0.out.x (.bool false) (.bool false) (.bool false) (.int .i64 0) (.int .i64 0) (.int .i64 0)
    exact res_find rfl rfl k0 k1 k2 k3 k4 k5
set_option maxHeartbeats 1000000 in
theorem find_none (er : Int) (u o e : Bool) (n b m : Int) (h0 : ¬ er = 0) (hp : Hp w w.heap.size s d) (hk : WRow w w.heap.size k xs) (he : 0 ≤ k.ep ∧ k.ep ≤ 1048576) (hH : ∀ W, Fw w W s d k xs → Calls Tryz.prog 24 #[(.agg #[.slice s.w.a s.w.n s.w.c, .slice s.p.a s.p.n s.p.c, .slice (s.u 0).a (s.u 0).n (s.u 0).c, .slice (s.u 1).a (s.u 1).n (s.u 1).c, .slice (s.u 2).a (s.u 2).n (s.u 2).c, .slice s.c.a s.c.n s.c.c]), .int .i64 a] W (HeadOut W (.agg #[.bool u, .bool o, .bool e, .int .i64 n, .int .i64 b, .int .i64 m]) er)) : Calls Tryz.prog 59 #[(.agg #[.slice s.w.a s.w.n s.w.c, .slice s.p.a s.p.n s.p.c, .slice (s.u 0).a (s.u 0).n (s.u 0).c, .slice (s.u 1).a (s.u 1).n (s.u 1).c, .slice (s.u 2).a (s.u 2).n (s.u 2).c, .slice s.c.a s.c.n s.c.c]), (.agg #[.int .i64 k.ph, .int .i64 k.ep, .bool k.mj, .slice k.wk.a k.wk.n k.wk.c, .bool k.ov, .int .i64 k.pa, .int .i64 k.pf, .int .i64 k.ps, .int .i64 k.pc, .bool k.me]), .int .i64 a, .int .i64 q] w (FindOut w noHead false) := by
  have HP := Lib.hid hp
  have HK := Lib.hid hk
  have HH := Lib.hid hH
  have a0 : decide (k.ep < 0) = false := decide_eq_false (by omega)
  have a1 : decide (1048576 < k.ep) = false := decide_eq_false (by omega)
  have d1 : (er != 0) = true := by simp [h0]
  clear hp hk hH he h0
  go_enter Tryz.func59, Tryz.ntmps59
  go_upto_region 1 with fail
  obtain ⟨W0, hW0⟩ : ∃ W0, W0 = ((w.alloc (.cells #[.slice s.w.a s.w.n s.w.c, .slice s.p.a s.p.n s.p.c, .slice (s.u 0).a (s.u 0).n (s.u 0).c, .slice (s.u 1).a (s.u 1).n (s.u 1).c, .slice (s.u 2).a (s.u 2).n (s.u 2).c, .slice s.c.a s.c.n s.c.c] 28)).alloc (.cells #[.int .i64 k.ph, .int .i64 k.ep, .bool k.mj, .slice k.wk.a k.wk.n k.wk.c, .bool k.ov, .int .i64 k.pa, .int .i64 k.pf, .int .i64 k.ps, .int .i64 k.pc, .bool k.me] 30)).alloc (.cells #[.bool false, .bool false, .bool false, .int .i64 0, .int .i64 0, .int .i64 0] 56) := ⟨_, rfl⟩
  have K0 := Lib.hid (fw_start HP.out HK.out hW0)
  rw [← hW0]
  clear hW0
  have p1 := (K0.out.l.cat (w.heap.size + 1) k xs (by simp)).c1
  have pl := (K0.out.l.cat (w.heap.size + 1) k xs (by simp)).lt
  have q0 := (K0.out.l.at (w.heap.size) s d (by simp)).c0
  have q1 := (K0.out.l.at (w.heap.size) s d (by simp)).c1
  have q2 := (K0.out.l.at (w.heap.size) s d (by simp)).c2
  have q3 := (K0.out.l.at (w.heap.size) s d (by simp)).c3
  have q4 := (K0.out.l.at (w.heap.size) s d (by simp)).c4
  have q5 := (K0.out.l.at (w.heap.size) s d (by simp)).c5
  have ql := (K0.out.l.at (w.heap.size) s d (by simp)).lt
  go_wp2_with fail
  refine (HH.out W0 K0.out).mono ?_
  rintro e9 w1 ⟨rfl, hb1⟩
  have hb2 := hb1.alloc hb1.size (.cells #[.bool u, .bool o, .bool e, .int .i64 n, .int .i64 b, .int .i64 m] 56)
  have K2 := Lib.hid (K0.out.next hb2)
  clear hb1 hb2 p1 pl K0 HH
  clear q0 q1 q2 q3 q4 q5 ql
  obtain ⟨⟨y0, y1, y2, y3, y4, y5⟩, ⟨z0, z1, z2, z3, z4, z5⟩, zl⟩ := xcells K2.out.x
  go_wp2
  refine bodyPost_ret (v := .tuple #[noHead, .bool false]) ?_ rfl ⟨rfl, below_put6 K2.out.l.bel (b := w.heap.size + 2) (by omega) _ _ _ _ _ _⟩
  obtain ⟨k0, k1, k2, k3, k4, k5⟩ := put6_x K2.out.x (.bool false) (.bool false) (.bool false) (.int .i64 0) (.int .i64 0) (.int .i64 0)
  exact res_find rfl rfl k0 k1 k2 k3 k4 k5
set_option maxHeartbeats 1000000 in
theorem find_obj (c : Bool) (V : Value) (u o e : Bool) (n b m : Int) (hc : c = decide (colH o e m k.mj k.ep = q)) (hV : V = if c = true then .agg #[.bool u, .bool o, .bool e, .int .i64 n, .int .i64 b, .int .i64 m] else noHead) (hp : Hp w w.heap.size s d) (hk : WRow w w.heap.size k xs) (he : 0 ≤ k.ep ∧ k.ep ≤ 1048576) (hH : ∀ W, Fw w W s d k xs → Calls Tryz.prog 24 #[(.agg #[.slice s.w.a s.w.n s.w.c, .slice s.p.a s.p.n s.p.c, .slice (s.u 0).a (s.u 0).n (s.u 0).c, .slice (s.u 1).a (s.u 1).n (s.u 1).c, .slice (s.u 2).a (s.u 2).n (s.u 2).c, .slice s.c.a s.c.n s.c.c]), .int .i64 a] W (HeadOut W (.agg #[.bool u, .bool o, .bool e, .int .i64 n, .int .i64 b, .int .i64 m]) 0)) : Calls Tryz.prog 59 #[(.agg #[.slice s.w.a s.w.n s.w.c, .slice s.p.a s.p.n s.p.c, .slice (s.u 0).a (s.u 0).n (s.u 0).c, .slice (s.u 1).a (s.u 1).n (s.u 1).c, .slice (s.u 2).a (s.u 2).n (s.u 2).c, .slice s.c.a s.c.n s.c.c]), (.agg #[.int .i64 k.ph, .int .i64 k.ep, .bool k.mj, .slice k.wk.a k.wk.n k.wk.c, .bool k.ov, .int .i64 k.pa, .int .i64 k.pf, .int .i64 k.ps, .int .i64 k.pc, .bool k.me]), .int .i64 a, .int .i64 q] w (FindOut w V c) := by
  have HP := Lib.hid hp
  have HK := Lib.hid hk
  have HH := Lib.hid hH
  have a0 : decide (k.ep < 0) = false := decide_eq_false (by omega)
  have a1 : decide (1048576 < k.ep) = false := decide_eq_false (by omega)
  obtain ⟨x, hx⟩ : ∃ x, x = colH o e m k.mj k.ep := ⟨_, rfl⟩
  have HX := Lib.hid hx
  rw [← hx] at hc
  have HV := Lib.hid hV
  have HC := Lib.hid hc
  clear hp hk hH he hx hV hc
  go_enter Tryz.func59, Tryz.ntmps59
  go_upto_region 1 with fail
  obtain ⟨W0, hW0⟩ : ∃ W0, W0 = ((w.alloc (.cells #[.slice s.w.a s.w.n s.w.c, .slice s.p.a s.p.n s.p.c, .slice (s.u 0).a (s.u 0).n (s.u 0).c, .slice (s.u 1).a (s.u 1).n (s.u 1).c, .slice (s.u 2).a (s.u 2).n (s.u 2).c, .slice s.c.a s.c.n s.c.c] 28)).alloc (.cells #[.int .i64 k.ph, .int .i64 k.ep, .bool k.mj, .slice k.wk.a k.wk.n k.wk.c, .bool k.ov, .int .i64 k.pa, .int .i64 k.pf, .int .i64 k.ps, .int .i64 k.pc, .bool k.me] 30)).alloc (.cells #[.bool false, .bool false, .bool false, .int .i64 0, .int .i64 0, .int .i64 0] 56) := ⟨_, rfl⟩
  have K0 := Lib.hid (fw_start HP.out HK.out hW0)
  rw [← hW0]
  clear hW0
  have p1 := (K0.out.l.cat (w.heap.size + 1) k xs (by simp)).c1
  have pl := (K0.out.l.cat (w.heap.size + 1) k xs (by simp)).lt
  have q0 := (K0.out.l.at (w.heap.size) s d (by simp)).c0
  have q1 := (K0.out.l.at (w.heap.size) s d (by simp)).c1
  have q2 := (K0.out.l.at (w.heap.size) s d (by simp)).c2
  have q3 := (K0.out.l.at (w.heap.size) s d (by simp)).c3
  have q4 := (K0.out.l.at (w.heap.size) s d (by simp)).c4
  have q5 := (K0.out.l.at (w.heap.size) s d (by simp)).c5
  have ql := (K0.out.l.at (w.heap.size) s d (by simp)).lt
  go_wp2_with fail
  refine (HH.out W0 K0.out).mono ?_
  rintro e9 w1 ⟨rfl, hb1⟩
  have hb2 := hb1.alloc hb1.size (.cells #[.bool u, .bool o, .bool e, .int .i64 n, .int .i64 b, .int .i64 m] 56)
  have K2 := Lib.hid (K0.out.next hb2)
  have X2 := Lib.hid (X6.new w1 u o e n b m 56)
  clear hb1 hb2 p1 pl K0 HH
  clear q0 q1 q2 q3 q4 q5 ql
  go_upto_region 4 with fail
  obtain ⟨W2, hW2⟩ : ∃ W2, W2 = w1.alloc (.cells #[.bool u, .bool o, .bool e, .int .i64 n, .int .i64 b, .int .i64 m] 56) := ⟨_, rfl⟩
  obtain ⟨b2, hb2⟩ : ∃ b2, b2 = w1.heap.size := ⟨_, rfl⟩
  rw [← hW2] at K2
  rw [← hW2, ← hb2] at X2
  rw [← hW2, ← hb2]
  clear hW2 hb2
  have x0 := (X2.out).c0
  have x1 := (X2.out).c1
  have x2 := (X2.out).c2
  have x3 := (X2.out).c3
  have x4 := (X2.out).c4
  have x5 := (X2.out).c5
  have xl := (X2.out).lt
  have p0 := (K2.out.l.cat (w.heap.size + 1) k xs (by simp)).c0
  have p1 := (K2.out.l.cat (w.heap.size + 1) k xs (by simp)).c1
  have p2 := (K2.out.l.cat (w.heap.size + 1) k xs (by simp)).c2
  have p3 := (K2.out.l.cat (w.heap.size + 1) k xs (by simp)).c3
  have p4 := (K2.out.l.cat (w.heap.size + 1) k xs (by simp)).c4
  have p5 := (K2.out.l.cat (w.heap.size + 1) k xs (by simp)).c5
  have p6 := (K2.out.l.cat (w.heap.size + 1) k xs (by simp)).c6
  have p7 := (K2.out.l.cat (w.heap.size + 1) k xs (by simp)).c7
  have p8 := (K2.out.l.cat (w.heap.size + 1) k xs (by simp)).c8
  have p9 := (K2.out.l.cat (w.heap.size + 1) k xs (by simp)).c9
  have pl := (K2.out.l.cat (w.heap.size + 1) k xs (by simp)).lt
  go_wp2_with fail
  refine (of_any u o e n b m k W2).mono ?_
  rw [← HX.out]
  rintro e9 w3 ⟨rfl, hb3⟩
  have K3 := Lib.hid (K2.out.next hb3)
  have X3 := Lib.hid (X2.out.next hb3)
  clear hb3 K2 X2
  clear x0 x1 x2 x3 x4 x5 xl
  clear p0 p1 p2 p3 p4 p5 p6 p7 p8 p9 pl
  obtain ⟨⟨y0, y1, y2, y3, y4, y5⟩, ⟨z0, z1, z2, z3, z4, z5⟩, zl⟩ := xcells K3.out.x
  by_cases hq : x = q
  · obtain rfl : c = true := by rw [HC.out]; exact decide_eq_true hq
    obtain rfl : V = .agg #[.bool u, .bool o, .bool e, .int .i64 n, .int .i64 b, .int .i64 m] := HV.out
    have d1 : (x != q) = false := by simp [hq]
    clear hq
    have x0 := (X3.out).c0
    have x1 := (X3.out).c1
    have x2 := (X3.out).c2
    have x3 := (X3.out).c3
    have x4 := (X3.out).c4
    have x5 := (X3.out).c5
    have xl := (X3.out).lt
    go_wp2
    refine bodyPost_ret (v := .tuple #[.agg #[.bool u, .bool o, .bool e, .int .i64 n, .int .i64 b, .int .i64 m], .bool true]) ?_ rfl ⟨rfl, below_put6 K3.out.l.bel (b := w.heap.size + 2) (by omega) _ _ _ _ _ _⟩
    obtain ⟨k0, k1, k2, k3, k4, k5⟩ := put6_x K3.out.x (.bool u) (.bool o) (.bool e) (.int .i64 n) (.int .i64 b) (.int .i64 m)
    exact res_find rfl rfl k0 k1 k2 k3 k4 k5
  · obtain rfl : c = false := by rw [HC.out]; exact decide_eq_false hq
    obtain rfl : V = noHead := HV.out
    have d1 : (x != q) = true := by simp [hq]
    clear hq
    go_wp2
    refine bodyPost_ret (v := .tuple #[noHead, .bool false]) ?_ rfl ⟨rfl, below_put6 K3.out.l.bel (b := w.heap.size + 2) (by omega) _ _ _ _ _ _⟩
    obtain ⟨k0, k1, k2, k3, k4, k5⟩ := put6_x K3.out.x (.bool false) (.bool false) (.bool false) (.int .i64 0) (.int .i64 0) (.int .i64 0)
    exact res_find rfl rfl k0 k1 k2 k3 k4 k5
theorem find_any (hp : Hp w w.heap.size s d) (hk : WRow w w.heap.size k xs) (hz : Cl.Sz w) (hf : Fine s d) : Calls Tryz.prog 59 #[(.agg #[.slice s.w.a s.w.n s.w.c, .slice s.p.a s.p.n s.p.c, .slice (s.u 0).a (s.u 0).n (s.u 0).c, .slice (s.u 1).a (s.u 1).n (s.u 1).c, .slice (s.u 2).a (s.u 2).n (s.u 2).c, .slice s.c.a s.c.n s.c.c]), (.agg #[.int .i64 k.ph, .int .i64 k.ep, .bool k.mj, .slice k.wk.a k.wk.n k.wk.c, .bool k.ov, .int .i64 k.pa, .int .i64 k.pf, .int .i64 k.ps, .int .i64 k.pc, .bool k.me]), .int .i64 a, .int .i64 q] w (FindOut w (findV s d k.mj k.ep a q) (isC s d k.mj k.ep a q)) := by
  have hH := fun (W : World) (h : Fw w W s d k xs) => phead_any s d a W (h.l.hp w.heap.size s d (by simp)) (hz.over h.l.bel hz.pos) hf
  by_cases he : 0 ≤ k.ep ∧ k.ep ≤ 1048576
  · by_cases h0 : headE s d a = 0
    · have ho := obj_of h0
      rw [h0, ho.val] at hH
      refine find_obj s d k xs a q w _ _ _ _ _ _ _ _ ?_ ?_ hp hk he hH
      · unfold isC
        rw [decide_eq_true he, decide_eq_true h0, Bool.true_and, Bool.true_and]
        unfold colW colH
        simp only [decide_eq_true_eq]
      · unfold findV
        rw [headOf_yes ho.word, show decide (wd d a % 2 = 1) = true from decide_eq_true ho.odd]
    · obtain ⟨z0, z1, z2, z3, z4, z5, hv⟩ := head_form s d a
      rw [hv] at hH
      have hc : isC s d k.mj k.ep a q = false := by
        unfold isC
        rw [decide_eq_false h0]
        simp
      rw [show findV s d k.mj k.ep a q = noHead by unfold findV; rw [hc]; rfl, hc]
      exact find_none s d k xs a q w _ _ _ _ _ _ _ h0 hp hk he hH
  · have hc : isC s d k.mj k.ep a q = false := by
      unfold isC
      rw [decide_eq_false he]
      simp
    rw [show findV s d k.mj k.ep a q = noHead by unfold findV; rw [hc]; rfl, hc]
    exact find_ep s d k xs a q w hp hk he
theorem find_form (s : Hs) (d : Hd_) (mj : Bool) (ep a q : Int) : ∃ (u o e : Bool) (n b m : Int), findV s d mj ep a q = .agg #[.bool u, .bool o, .bool e, .int .i64 n, .int .i64 b, .int .i64 m] := by
  unfold findV headOf noHead
  split
  · split <;> exact ⟨_, _, _, _, _, _, rfl⟩
  · exact ⟨_, _, _, _, _, _, rfl⟩
end
end Go.Proofs.YtgmkomnoiffapaaGreatDoor.Sh
end
section
namespace Go.Proofs.YtgmkomnoiffapaaGreatDoor
open Go.RowKit
set_option maxRecDepth 100000

theorem hcopied_any (s : Hs) (d : Hd_) (w : World) (hp : Hp w w.heap.size s d) (hf : Fine s d) (hfb : firstB s d = true) : Calls Tryz.prog 52 #[(.agg #[.slice s.w.a s.w.n s.w.c, .slice s.p.a s.p.n s.p.c, .slice (s.u 0).a (s.u 0).n (s.u 0).c, .slice (s.u 1).a (s.u 1).n (s.u 1).c, .slice (s.u 2).a (s.u 2).n (s.u 2).c, .slice s.c.a s.c.n s.c.c])] w (CopyOut w s d) :=
  (fresh_any s d w hp hf hfb).mono fun _ _ ⟨t, h1, h2, h3, h4, _, h6, _⟩ => ⟨t, h1, h2, h3, h4, h6⟩
end Go.Proofs.YtgmkomnoiffapaaGreatDoor
end
section
namespace Go.Proofs.YtgmkomnoiffapaaGreatDoor
open Go.RowKit
set_option maxRecDepth 100000

/-- What a walk through Set has in memory: the heap's box, the head's, the result's. -/
structure St (w W : World) (s : Hs) (d : Hd_) (u o e : Bool) (n b m : Int) : Prop where
  bel : Below w.heap.size w W
  hb : HBox W w.heap.size s
  xb : X6 W (w.heap.size + 1) u o e n b m
  rb : Box6 W (w.heap.size + 2) noHs
  hp : Hp W W.heap.size s d
theorem St.next {w W W' : World} {s : Hs} {d : Hd_} {u o e : Bool} {n b m : Int} (h : St w W s d u o e n b m) (hb : Below W.heap.size W W') : St w W' s d u o e n b m :=
  ⟨h.bel.trans (hb.mono h.bel.size), h.hb.next hb, h.xb.next hb, h.rb.next hb, h.hp.next hb⟩
theorem st_start {w W : World} {s : Hs} {d : Hd_} {u o e : Bool} {n b m : Int} (hp : Hp w w.heap.size s d) (h : W = ((w.alloc (.cells #[.slice s.w.a s.w.n s.w.c, .slice s.p.a s.p.n s.p.c, .slice (s.u 0).a (s.u 0).n (s.u 0).c, .slice (s.u 1).a (s.u 1).n (s.u 1).c, .slice (s.u 2).a (s.u 2).n (s.u 2).c, .slice s.c.a s.c.n s.c.c] 28)).alloc (.cells #[.bool u, .bool o, .bool e, .int .i64 n, .int .i64 b, .int .i64 m] 56)).alloc (.cells #[.slice none 0 0, .slice none 0 0, .slice none 0 0, .slice none 0 0, .slice none 0 0, .slice none 0 0] 28)) : St w W s d u o e n b m := by
  have b2 : Below w.heap.size w W := by rw [h]; exact (((Below.refl _ _).alloc (Nat.le_refl _) _).alloc (by simp) _).alloc (by simp; omega) _
  have bx : Below (w.alloc (.cells #[.slice s.w.a s.w.n s.w.c, .slice s.p.a s.p.n s.p.c, .slice (s.u 0).a (s.u 0).n (s.u 0).c, .slice (s.u 1).a (s.u 1).n (s.u 1).c, .slice (s.u 2).a (s.u 2).n (s.u 2).c, .slice s.c.a s.c.n s.c.c] 28)).heap.size (w.alloc (.cells #[.slice s.w.a s.w.n s.w.c, .slice s.p.a s.p.n s.p.c, .slice (s.u 0).a (s.u 0).n (s.u 0).c, .slice (s.u 1).a (s.u 1).n (s.u 1).c, .slice (s.u 2).a (s.u 2).n (s.u 2).c, .slice s.c.a s.c.n s.c.c] 28)) W := by rw [h]; exact ((Below.refl _ _).alloc (Nat.le_refl _) _).alloc (by simp) _
  have by' : Below ((w.alloc (.cells #[.slice s.w.a s.w.n s.w.c, .slice s.p.a s.p.n s.p.c, .slice (s.u 0).a (s.u 0).n (s.u 0).c, .slice (s.u 1).a (s.u 1).n (s.u 1).c, .slice (s.u 2).a (s.u 2).n (s.u 2).c, .slice s.c.a s.c.n s.c.c] 28)).alloc (.cells #[.bool u, .bool o, .bool e, .int .i64 n, .int .i64 b, .int .i64 m] 56)).heap.size ((w.alloc (.cells #[.slice s.w.a s.w.n s.w.c, .slice s.p.a s.p.n s.p.c, .slice (s.u 0).a (s.u 0).n (s.u 0).c, .slice (s.u 1).a (s.u 1).n (s.u 1).c, .slice (s.u 2).a (s.u 2).n (s.u 2).c, .slice s.c.a s.c.n s.c.c] 28)).alloc (.cells #[.bool u, .bool o, .bool e, .int .i64 n, .int .i64 b, .int .i64 m] 56)) W := by rw [h]; exact (Below.refl _ _).alloc (Nat.le_refl _) _
  have x := X6.new (w.alloc (.cells #[.slice s.w.a s.w.n s.w.c, .slice s.p.a s.p.n s.p.c, .slice (s.u 0).a (s.u 0).n (s.u 0).c, .slice (s.u 1).a (s.u 1).n (s.u 1).c, .slice (s.u 2).a (s.u 2).n (s.u 2).c, .slice s.c.a s.c.n s.c.c] 28)) u o e n b m 56
  rw [World.size_alloc] at x
  have z := HBox.new ((w.alloc (.cells #[.slice s.w.a s.w.n s.w.c, .slice s.p.a s.p.n s.p.c, .slice (s.u 0).a (s.u 0).n (s.u 0).c, .slice (s.u 1).a (s.u 1).n (s.u 1).c, .slice (s.u 2).a (s.u 2).n (s.u 2).c, .slice s.c.a s.c.n s.c.c] 28)).alloc (.cells #[.bool u, .bool o, .bool e, .int .i64 n, .int .i64 b, .int .i64 m] 56)) noHs 28
  rw [World.size_alloc, World.size_alloc] at z
  refine ⟨b2, (HBox.new w s 28).next bx, x.next by', ?_, hp.next b2⟩
  rw [h]
  exact ⟨z, fun j => by simp [go_sem]⟩
theorem res_set {W : World} {b : Nat} {er : Value} {tm : Array Value} {v0 v1 v2 v3 v4 v5 : Value} (ht : tm[6]? = some (.pointer (some ⟨b, 0, none⟩))) (h7 : tm[7]? = some er) (k0 : W.cell? ⟨b, 0, none⟩ = some v0) (k1 : W.cell? ⟨b, 1, none⟩ = some v1) (k2 : W.cell? ⟨b, 2, none⟩ = some v2) (k3 : W.cell? ⟨b, 3, none⟩ = some v3) (k4 : W.cell? ⟨b, 4, none⟩ = some v4) (k5 : W.cell? ⟨b, 5, none⟩ = some v5) :
    (results Tryz.f129 tm).run Tryz.prog W = .ok (.tuple #[.agg #[v0, v1, v2, v3, v4, v5], er]) W := by
  simp [results, Tryz.results129, go_sem, ht, h7, k0, k1, k2, k3, k4, k5]
section
variable (s : Hs) (d : Hd_) (a : Int) (u o e : Bool) (n b m : Int) (w : World)
end
end Go.Proofs.YtgmkomnoiffapaaGreatDoor
end
section
namespace Go.Proofs.YtgmkomnoiffapaaGreatDoor
open Go.RowKit
set_option maxRecDepth 100000

/-- What Set leaves, and that its memory is new. -/
def SetOkN (w : World) (s : Hs) (d' : Hd_) (e : Ending) (w' : World) : Prop :=
  ∃ t : Hs, e = .returned (.tuple #[(.agg #[.slice t.w.a t.w.n t.w.c, .slice t.p.a t.p.n t.p.c, .slice (t.u 0).a (t.u 0).n (t.u 0).c, .slice (t.u 1).a (t.u 1).n (t.u 1).c, .slice (t.u 2).a (t.u 2).n (t.u 2).c, .slice t.c.a t.c.n t.c.c]), .int .i64 0]) ∧ Hp w' w'.heap.size t d' ∧ Lens s t ∧ News w.heap.size t ∧ Below w.heap.size w w'
/-- .. its end: words were put, and the copy's box and the result's were turned. -/
theorem set_ok_end {w w3 w4 w5 W' : World} {s t : Hs} {d d' : Hd_} {u o e : Bool} {n b m : Int} {ob : Obj} {g c i : Nat} {x : Int} {v0 v1 v2 v3 v4 v5 : Value} (h3 : St w w3 s d u o e n b m) (ht : Hp w4 w4.heap.size t d) (hl : Lens s t) (hn : News w3.heap.size t) (hb4 : Below w3.heap.size w3 w4)
    (hm : Mine w5 (w4.alloc ob).heap.size 3 g s.w.n c (d.ws.set i x)) (hb5 : Below (w4.alloc ob).heap.size (w4.alloc ob) w5) (hd : d' = ⟨d.ws.set i x, d.f, d.F, d.cs⟩)
    (hW : W' = put6 (w5.setCell ⟨w4.heap.size, 0, none⟩ (.slice (some ⟨g, 0, none⟩) s.w.n c)) (w.heap.size + 2) v0 v1 v2 v3 v4 v5) : SetOkN w s d' (.returned (.tuple #[(.agg #[.slice (⟨⟨some ⟨g, 0, none⟩, s.w.n, c⟩, t.p, t.u, t.c⟩ : Hs).w.a (⟨⟨some ⟨g, 0, none⟩, s.w.n, c⟩, t.p, t.u, t.c⟩ : Hs).w.n (⟨⟨some ⟨g, 0, none⟩, s.w.n, c⟩, t.p, t.u, t.c⟩ : Hs).w.c, .slice (⟨⟨some ⟨g, 0, none⟩, s.w.n, c⟩, t.p, t.u, t.c⟩ : Hs).p.a (⟨⟨some ⟨g, 0, none⟩, s.w.n, c⟩, t.p, t.u, t.c⟩ : Hs).p.n (⟨⟨some ⟨g, 0, none⟩, s.w.n, c⟩, t.p, t.u, t.c⟩ : Hs).p.c, .slice ((⟨⟨some ⟨g, 0, none⟩, s.w.n, c⟩, t.p, t.u, t.c⟩ : Hs).u 0).a ((⟨⟨some ⟨g, 0, none⟩, s.w.n, c⟩, t.p, t.u, t.c⟩ : Hs).u 0).n ((⟨⟨some ⟨g, 0, none⟩, s.w.n, c⟩, t.p, t.u, t.c⟩ : Hs).u 0).c, .slice ((⟨⟨some ⟨g, 0, none⟩, s.w.n, c⟩, t.p, t.u, t.c⟩ : Hs).u 1).a ((⟨⟨some ⟨g, 0, none⟩, s.w.n, c⟩, t.p, t.u, t.c⟩ : Hs).u 1).n ((⟨⟨some ⟨g, 0, none⟩, s.w.n, c⟩, t.p, t.u, t.c⟩ : Hs).u 1).c, .slice ((⟨⟨some ⟨g, 0, none⟩, s.w.n, c⟩, t.p, t.u, t.c⟩ : Hs).u 2).a ((⟨⟨some ⟨g, 0, none⟩, s.w.n, c⟩, t.p, t.u, t.c⟩ : Hs).u 2).n ((⟨⟨some ⟨g, 0, none⟩, s.w.n, c⟩, t.p, t.u, t.c⟩ : Hs).u 2).c, .slice (⟨⟨some ⟨g, 0, none⟩, s.w.n, c⟩, t.p, t.u, t.c⟩ : Hs).c.a (⟨⟨some ⟨g, 0, none⟩, s.w.n, c⟩, t.p, t.u, t.c⟩ : Hs).c.n (⟨⟨some ⟨g, 0, none⟩, s.w.n, c⟩, t.p, t.u, t.c⟩ : Hs).c.c]), .int .i64 0])) W' := by
  have hs3 := h3.bel.size
  have hs4 := hb4.size
  have hr := h3.rb.box.lt
  have hg := hm.2.1
  have hg2 := hm.2.2.1
  have hs5 := hb5.size
  simp only [World.size_alloc] at hg hs5
  have hsz : W'.heap.size = w5.heap.size := by rw [hW, put6_size]; simp [World.setCell]
  have hoth : ∀ k, ¬ k = w4.heap.size → ¬ k = w.heap.size + 2 → W'.heap[k]? = w5.heap[k]? := fun k h1 h2 => by
    rw [hW, put6_other _ _ _ _ _ _ _ _ h2]
    exact Below.heap_setCell _ _ _ _ h1
  have hbel : Below w.heap.size w W' := by
    rw [hW]
    refine below_put6 (Below.setCell ?_ (p := ⟨w4.heap.size, 0, none⟩) (by show _ ≤ w4.heap.size; omega) _) (by omega) _ _ _ _ _ _
    exact (h3.bel.trans (hb4.mono hs3)).trans (((Below.refl _ _).alloc (Nat.le_refl _) ob |>.mono (by omega)).trans (hb5.mono (by simp; omega)))
  have hk : Hp W' W'.heap.size t d := hn.kept ht (fun k h1 h2 => by
    rw [hoth k (by omega) (by omega)]
    exact (hb5.block k (by simp; omega)).trans (Below.heap_alloc _ _ _ h2)) (by omega)
  subst hd
  refine ⟨⟨⟨some ⟨g, 0, none⟩, s.w.n, c⟩, t.p, t.u, t.c⟩, rfl, ⟨?_, hk.pages, hk.free, hk.cards⟩, ⟨rfl, hl.2.1, hl.2.2.1, hl.2.2.2⟩, ⟨fun _ x hx => by cases hx; show w.heap.size ≤ g; omega, fun h0 x hx => by have := hn.p h0 x hx; omega, fun j hj h0 x hx => by have := hn.u j hj h0 x hx; omega, fun h0 x hx => by have := hn.c h0 x hx; omega⟩, hbel⟩
  have hrow := row_same (w' := W') hm.row (fun _ x hx => by
    cases hx
    exact hoth g (by omega) (by omega))
  exact hrow.more (by omega)
section
variable (s : Hs) (d : Hd_) (a : Int) (u o e : Bool) (n b m : Int) (w : World)
set_option maxHeartbeats 2000000 in
theorem set_okn (N : Int) (hp : Hp w w.heap.size s d) (hz : Cl.Sz w) (hf : Fine s d) (he : headE s d a = 0) (o' e' : Bool) (b' m' : Int) (hv : headV s d a = .agg #[.bool true, .bool o', .bool e', .int .i64 N, .int .i64 b', .int .i64 m']) (hm0 : mayB0 s d = true) (hx : Hd.mayB true o e N b m = true) : Calls Tryz.prog 129 #[(.agg #[.slice s.w.a s.w.n s.w.c, .slice s.p.a s.p.n s.p.c, .slice (s.u 0).a (s.u 0).n (s.u 0).c, .slice (s.u 1).a (s.u 1).n (s.u 1).c, .slice (s.u 2).a (s.u 2).n (s.u 2).c, .slice s.c.a s.c.n s.c.c]), .int .i64 a, (.agg #[.bool true, .bool o, .bool e, .int .i64 N, .int .i64 b, .int .i64 m])] w (SetOkN w s (dSet d a o e N b m)) := by
  have HZ := Lib.hid hz
  have hz0 := hz.pos
  have HF := Lib.hid hf
  have HP := Lib.hid hp
  have HE := Lib.hid he
  have HV := Lib.hid hv
  have HX := Lib.hid hx
  have hfb := (mayH_all hm0).1
  have HFB := Lib.hid hfb
  have hb : ¬ Cl.bg d.f s.p.n a = 0 := by
    unfold headE at he
    rw [if_neg (by rw [hm0]; decide)] at he
    split at he
    · omega
    · next h => exact fun e => h (.inl e)
  have hw := may0_word hm0 hb
  have HA := Lib.hid (And.intro hw.2.1 (show a < 16 + (s.w.n : Int) by omega))
  have HMB : Hid (Ar.mayB s.w.n = true) := Lib.hid (by
    unfold firstB wordsB at hfb
    simp only [Bool.and_eq_true, decide_eq_true_eq] at hfb
    exact Ar.mayB_iff.2 hfb.1)
  clear hp hz hf he hv hx hm0 hfb hb hw
  go_enter Tryz.func129, Tryz.ntmps129
  go_wp2_with fail
  obtain ⟨W1, hW1⟩ : ∃ W1, W1 = ((w.alloc (.cells #[.slice s.w.a s.w.n s.w.c, .slice s.p.a s.p.n s.p.c, .slice (s.u 0).a (s.u 0).n (s.u 0).c, .slice (s.u 1).a (s.u 1).n (s.u 1).c, .slice (s.u 2).a (s.u 2).n (s.u 2).c, .slice s.c.a s.c.n s.c.c] 28)).alloc (.cells #[.bool true, .bool o, .bool e, .int .i64 N, .int .i64 b, .int .i64 m] 56)).alloc (.cells #[.slice none 0 0, .slice none 0 0, .slice none 0 0, .slice none 0 0, .slice none 0 0, .slice none 0 0] 28) := ⟨_, rfl⟩
  have S1 := Lib.hid (st_start (u := true) HP.out hW1)
  rw [← hW1]
  clear hW1
  refine (phead_any s d a W1 S1.out.hp (HZ.out.over S1.out.bel hz0) HF.out).mono ?_
  rw [HE.out, HV.out]
  rintro e9 w1 ⟨rfl, hb1⟩
  have S2 := Lib.hid (S1.out.next hb1)
  have S3 := Lib.hid (S2.out.next ((Below.refl w1.heap.size w1).alloc (Nat.le_refl _) (.cells #[.bool true, .bool o', .bool e', .int .i64 N, .int .i64 b', .int .i64 m'] 56)))
  have W3 := Lib.hid (X6.new w1 true o' e' N b' m' 56)
  have x0 := S3.out.xb.c0
  have x1 := S3.out.xb.c1
  have x2 := S3.out.xb.c2
  have x3 := S3.out.xb.c3
  have x4 := S3.out.xb.c4
  have x5 := S3.out.xb.c5
  have xl := S3.out.xb.lt
  clear hb1 S1 S2
  go_wp2_with fail
  refine (Hd.pack_yes _ _ _ _ _ _ _ HX.out).mono ?_
  rintro e9 w3 ⟨rfl, hb3⟩
  have S9 := Lib.hid (S3.out.next hb3)
  have W9 := Lib.hid (W3.out.next hb3)
  clear hb3 S3 W3 x0 x1 x2 x3 x4 x5 xl
  have r0 := S9.out.xb.c0
  have r3 := S9.out.xb.c3
  have rl := S9.out.xb.lt
  have v3 := W9.out.c3
  have vl := W9.out.lt
  have dn : (N != N) = false := by simp
  have q0 := S9.out.hb.c0
  have q1 := S9.out.hb.c1
  have q2 := S9.out.hb.c2
  have q3 := S9.out.hb.c3
  have q4 := S9.out.hb.c4
  have q5 := S9.out.hb.c5
  have ql := S9.out.hb.lt
  go_wp2_with fail
  refine (hcopied_any s d w3 S9.out.hp HF.out HFB.out).mono ?_
  rintro e9 w4 ⟨t, rfl, ht, hl, hn, hb4⟩
  have bo := HBox.new w4 t 28
  have bf : ∀ j, (w4.alloc (.cells #[.slice t.w.a t.w.n t.w.c, .slice t.p.a t.p.n t.p.c, .slice (t.u 0).a (t.u 0).n (t.u 0).c, .slice (t.u 1).a (t.u 1).n (t.u 1).c, .slice (t.u 2).a (t.u 2).n (t.u 2).c, .slice t.c.a t.c.n t.c.c] 28)).frozen? ⟨w4.heap.size, j, none⟩ = false := fun j => by simp [go_sem]
  have S4 := Lib.hid (S9.out.next hb4)
  have T4 := Lib.hid (And.intro ht (And.intro hl (And.intro hn hb4)))
  have S5 := Lib.hid (S4.out.next ((Below.refl w4.heap.size w4).alloc (Nat.le_refl _) (.cells #[.slice t.w.a t.w.n t.w.c, .slice t.p.a t.p.n t.p.c, .slice (t.u 0).a (t.u 0).n (t.u 0).c, .slice (t.u 1).a (t.u 1).n (t.u 1).c, .slice (t.u 2).a (t.u 2).n (t.u 2).c, .slice t.c.a t.c.n t.c.c] 28)))
  have B5 := Lib.hid (And.intro bo bf)
  clear ht hl hn hb4 bo bf r0 r3 rl v3 vl dn q0 q1 q2 q3 q4 q5 ql
  have q0 := S5.out.hb.c0
  have ql := S5.out.hb.lt
  go_wp2_with fail
  clear q0 ql
  obtain ⟨ob, hob⟩ : ∃ ob, ob = ((.cells #[.slice t.w.a t.w.n t.w.c, .slice t.p.a t.p.n t.p.c, .slice (t.u 0).a (t.u 0).n (t.u 0).c, .slice (t.u 1).a (t.u 1).n (t.u 1).c, .slice (t.u 2).a (t.u 2).n (t.u 2).c, .slice t.c.a t.c.n t.c.c] 28) : Obj) := ⟨_, rfl⟩
  rw [← hob] at B5 S5 ⊢
  refine (Ar.put_ok w.heap.size s.w.a s.w.n s.w.c d.ws a (Hd.word true o e N b m) (w4.alloc ob) HMB.out HA.out.1 HA.out.2 (HP.out.words.below S5.out.bel)).mono ?_
  rintro e9 w5 ⟨g, c, rfl, hm5, hb5⟩
  have M5 := Lib.hid (And.intro hm5 hb5)
  have S6 := Lib.hid (S5.out.next hb5)
  have c0 := (B5.out.1.next hb5).c0
  have c1 := (B5.out.1.next hb5).c1
  have c2 := (B5.out.1.next hb5).c2
  have c3 := (B5.out.1.next hb5).c3
  have c4 := (B5.out.1.next hb5).c4
  have c5 := (B5.out.1.next hb5).c5
  have cl := (B5.out.1.next hb5).lt
  have cf := (hb5.frozen (p := ⟨w4.heap.size, 0, none⟩) B5.out.1.lt).trans (B5.out.2 0)
  have hne : ¬ w.heap.size + 2 = w4.heap.size := by have h1 := S4.out.rb.box.lt; omega
  have R6 : Hid (Box6 (w5.setCell ⟨w4.heap.size, 0, none⟩ (.slice (some ⟨g, 0, none⟩) s.w.n c)) (w.heap.size + 2) noHs) := Lib.hid (S6.out.rb.same (Below.heap_setCell _ _ _ _ hne) (by simp [World.setCell]))
  have y0 := S6.out.rb.free 0
  have y1 := S6.out.rb.free 1
  have y2 := S6.out.rb.free 2
  have y3 := S6.out.rb.free 3
  have y4 := S6.out.rb.free 4
  have y5 := S6.out.rb.free 5
  have x0 := S6.out.rb.box.c0
  have x1 := S6.out.rb.box.c1
  have x2 := S6.out.rb.box.c2
  have x3 := S6.out.rb.box.c3
  have x4 := S6.out.rb.box.c4
  have x5 := S6.out.rb.box.c5
  have xl := S6.out.rb.box.lt
  dsimp only [noHs, Ls.noSl] at x0 x1 x2 x3 x4 x5
  clear hm5 hb5
  go_wp2
  refine bodyPost_ret (v := .tuple #[(.agg #[.slice (⟨⟨some ⟨g, 0, none⟩, s.w.n, c⟩, t.p, t.u, t.c⟩ : Hs).w.a (⟨⟨some ⟨g, 0, none⟩, s.w.n, c⟩, t.p, t.u, t.c⟩ : Hs).w.n (⟨⟨some ⟨g, 0, none⟩, s.w.n, c⟩, t.p, t.u, t.c⟩ : Hs).w.c, .slice (⟨⟨some ⟨g, 0, none⟩, s.w.n, c⟩, t.p, t.u, t.c⟩ : Hs).p.a (⟨⟨some ⟨g, 0, none⟩, s.w.n, c⟩, t.p, t.u, t.c⟩ : Hs).p.n (⟨⟨some ⟨g, 0, none⟩, s.w.n, c⟩, t.p, t.u, t.c⟩ : Hs).p.c, .slice ((⟨⟨some ⟨g, 0, none⟩, s.w.n, c⟩, t.p, t.u, t.c⟩ : Hs).u 0).a ((⟨⟨some ⟨g, 0, none⟩, s.w.n, c⟩, t.p, t.u, t.c⟩ : Hs).u 0).n ((⟨⟨some ⟨g, 0, none⟩, s.w.n, c⟩, t.p, t.u, t.c⟩ : Hs).u 0).c, .slice ((⟨⟨some ⟨g, 0, none⟩, s.w.n, c⟩, t.p, t.u, t.c⟩ : Hs).u 1).a ((⟨⟨some ⟨g, 0, none⟩, s.w.n, c⟩, t.p, t.u, t.c⟩ : Hs).u 1).n ((⟨⟨some ⟨g, 0, none⟩, s.w.n, c⟩, t.p, t.u, t.c⟩ : Hs).u 1).c, .slice ((⟨⟨some ⟨g, 0, none⟩, s.w.n, c⟩, t.p, t.u, t.c⟩ : Hs).u 2).a ((⟨⟨some ⟨g, 0, none⟩, s.w.n, c⟩, t.p, t.u, t.c⟩ : Hs).u 2).n ((⟨⟨some ⟨g, 0, none⟩, s.w.n, c⟩, t.p, t.u, t.c⟩ : Hs).u 2).c, .slice (⟨⟨some ⟨g, 0, none⟩, s.w.n, c⟩, t.p, t.u, t.c⟩ : Hs).c.a (⟨⟨some ⟨g, 0, none⟩, s.w.n, c⟩, t.p, t.u, t.c⟩ : Hs).c.n (⟨⟨some ⟨g, 0, none⟩, s.w.n, c⟩, t.p, t.u, t.c⟩ : Hs).c.c]), .int .i64 0]) ?_ rfl (set_ok_end S9.out T4.out.1 T4.out.2.1 T4.out.2.2.1 T4.out.2.2.2 M5.out.1 M5.out.2 rfl rfl)
  obtain ⟨k0, k1, k2, k3, k4, k5⟩ := put6_at R6.out (.slice (some ⟨g, 0, none⟩) s.w.n c) (.slice t.p.a t.p.n t.p.c) (.slice (t.u 0).a (t.u 0).n (t.u 0).c) (.slice (t.u 1).a (t.u 1).n (t.u 1).c) (.slice (t.u 2).a (t.u 2).n (t.u 2).c) (.slice t.c.a t.c.n t.c.c)
  exact res_set rfl rfl k0 k1 k2 k3 k4 k5
end
end Go.Proofs.YtgmkomnoiffapaaGreatDoor
end
