/-
  Merged texts: LsInts, RtHolds, RtRef2, HaAsk, ShBlack, HaMid.
-/
import Derived.Test.YtgmkomnoiffapaaGreatDoorHpND
import Derived.Deep.QuietTactic
import Derived.BigQuiet
import Derived.Test.YtgmkomnoiffapaaGreatDoorHpNF
import Derived.Deep.Cut
import Derived.Deep.CutRange
import Derived.Deep.RegionHeld3
import Derived.Test.YtgmkomnoiffapaaGreatDoorNRtRef
import Derived.Test.YtgmkomnoiffapaaGreatDoorHpNG
import Derived.Test.YtgmkomnoiffapaaGreatDoorHpNH
import Derived.Test.YtgmkomnoiffapaaGreatDoorNShShade
section
namespace Go.Proofs.YtgmkomnoiffapaaGreatDoor.Ls
open Go.Proofs.YtgmkomnoiffapaaGreatDoor
set_option maxRecDepth 100000
open Go.RowKit

/-- Whether two are the same. -/
def sameUp (f g : Nat → List Int) (k : Nat) : Prop := ∀ j, j < k → f j = g j
instance (f g : Nat → List Int) (k : Nat) : Decidable (sameUp f g k) := inferInstanceAs (Decidable (∀ j, j < k → f j = g j))

end Go.Proofs.YtgmkomnoiffapaaGreatDoor.Ls
end
section
namespace Go.Proofs.YtgmkomnoiffapaaGreatDoor.Rt
open Go.Proofs.YtgmkomnoiffapaaGreatDoor
open Go.RowKit
set_option maxRecDepth 100000

/-- Six numbers in a box. -/
def sixv (xs : List Int) : List Value := [.int .i64 (xs.getD 0 0), .int .i64 (xs.getD 1 0), .int .i64 (xs.getD 2 0), .int .i64 (xs.getD 3 0), .int .i64 (xs.getD 4 0), .int .i64 (xs.getD 5 0)]
structure Pl (w W : World) (t : Ts) (xs : List Int) : Prop where
  bel : Below w.heap.size w W
  box : Box W w.heap.size (tv t)
  res : Box W (w.heap.size + 1) (sixv [])
  all : Box W (w.heap.size + 2) (sixv xs)
section
variable {w W W' : World} {t : Ts} {xs : List Int}
theorem Pl.next (h : Pl w W t xs) (hb : Below W.heap.size W W') : Pl w W' t xs := ⟨h.bel.trans (hb.mono h.bel.size), h.box.next hb, h.res.next hb, h.all.next hb⟩
theorem Pl.drew (h : Pl w W t xs) : Pl w W.drew t xs := h.next ⟨rfl, rfl, rfl, Nat.le_refl _, fun _ _ => rfl⟩
theorem Pl.set (h : Pl w W t xs) (k : Nat) (a : Int) (ys : List Int) (e : (sixv xs).set k (.int .i64 a) = sixv ys) : Pl w (W.setCell ⟨w.heap.size + 2, k, none⟩ (.int .i64 a)) t ys := by
  refine ⟨h.bel.setCell (p := ⟨w.heap.size + 2, k, none⟩) (by simp) _, h.box.other (by simp) _, h.res.other (by simp) _, ?_⟩
  rw [← e]
  exact h.all.set k _
end
end Go.Proofs.YtgmkomnoiffapaaGreatDoor.Rt
end
section
namespace Go.Proofs.YtgmkomnoiffapaaGreatDoor.Rt
open Go.Proofs.YtgmkomnoiffapaaGreatDoor
open Go.RowKit
set_option maxRecDepth 100000

/-- What is held so far, in memory made behind W1. -/
structure Holding (w W1 wr : World) (s : Ls.Sl) (xs : List Int) : Prop where
  own : wr.ownsRow W1.heap.size 3 1 (.slice s.a s.n s.c) s.n (xs.map (Value.int .i64))
  bel : Below W1.heap.size W1 wr
theorem Holding.cat {w W1 wr w2 : World} {s t : Ls.Sl} {xs ys : List Int} {o : Obj} (h : Holding w W1 wr s xs) (hc : Ls.Catted (wr.alloc o) W1.heap.size (.slice s.a s.n s.c) t ys w2) : Holding w W1 w2 t ys :=
  ⟨hc.own, (h.bel.alloc h.bel.size o).grown hc.grown (by have := h.bel.size; simp; omega) (fun k hk => ((h.own.alloc o).lt k hk).1)⟩
end Go.Proofs.YtgmkomnoiffapaaGreatDoor.Rt
end
section
namespace Go.Proofs.YtgmkomnoiffapaaGreatDoor.Ha
open Go.Proofs.YtgmkomnoiffapaaGreatDoor Go.Proofs.YtgmkomnoiffapaaGreatDoor.Rt
open Go.RowKit
open Go.Proofs.YtgmkomnoiffapaaGreatDoor.Mu (hv kv w_load w_loadg ldHb ldKb ldTb)
set_option maxRecDepth 100000

theorem answered_i (k : Sh.Ks) (t : Ts) (w : World) (h0 : k.ph = 0) : Calls Tryz.prog 72 #[(.agg #[.int .i64 k.ph, .int .i64 k.ep, .bool k.mj, .slice k.wk.a k.wk.n k.wk.c, .bool k.ov, .int .i64 k.pa, .int .i64 k.pf, .int .i64 k.ps, .int .i64 k.pc, .bool k.me]), (.agg #[.bool t.lv, .int .i64 (t.r 0), .int .i64 (t.r 1), .int .i64 (t.r 2), .int .i64 (t.r 3), .slice (t.u 0).a (t.u 0).n (t.u 0).c, .slice (t.u 1).a (t.u 1).n (t.u 1).c, .slice (t.u 2).a (t.u 2).n (t.u 2).c, .int .i64 t.ep, .int .i64 t.sg, .int .i64 t.rt, .slice t.o.a t.o.n t.o.c, .int .i64 t.pc, .int .i64 t.x, .int .i64 t.y])] w fun e w' => e = .returned (.bool (ansB k.ph k.ep t)) ∧ Below w.heap.size w w' := by
  rw [show ansB k.ph k.ep t = true by unfold ansB; rw [decide_eq_true h0]; rfl]
  have p0a : decide (k.ph = 0) = true := decide_eq_true h0
  have p0b : (k.ph == 0) = true := p0a
  clear h0
  go_enter Tryz.func72, Tryz.ntmps72
  go_wp2
  go_ret
  exact ⟨rfl, two_boxes _ _ _⟩
theorem answered_n (k : Sh.Ks) (t : Ts) (w : World) (h0 : ¬ k.ph = 0) (he : ¬ t.ep = k.ep) : Calls Tryz.prog 72 #[(.agg #[.int .i64 k.ph, .int .i64 k.ep, .bool k.mj, .slice k.wk.a k.wk.n k.wk.c, .bool k.ov, .int .i64 k.pa, .int .i64 k.pf, .int .i64 k.ps, .int .i64 k.pc, .bool k.me]), (.agg #[.bool t.lv, .int .i64 (t.r 0), .int .i64 (t.r 1), .int .i64 (t.r 2), .int .i64 (t.r 3), .slice (t.u 0).a (t.u 0).n (t.u 0).c, .slice (t.u 1).a (t.u 1).n (t.u 1).c, .slice (t.u 2).a (t.u 2).n (t.u 2).c, .int .i64 t.ep, .int .i64 t.sg, .int .i64 t.rt, .slice t.o.a t.o.n t.o.c, .int .i64 t.pc, .int .i64 t.x, .int .i64 t.y])] w fun e w' => e = .returned (.bool (ansB k.ph k.ep t)) ∧ Below w.heap.size w w' := by
  rw [show ansB k.ph k.ep t = false by unfold ansB; rw [decide_eq_false h0, decide_eq_false he]; rfl]
  have p0a : decide (k.ph = 0) = false := decide_eq_false h0
  have p0b : (k.ph == 0) = false := p0a
  have p0c : (k.ph != 0) = true := by simp only [bne, p0b]; rfl
  have e0a : decide (t.ep = k.ep) = false := decide_eq_false he
  have e0b : (t.ep == k.ep) = false := e0a
  have e0c : (t.ep != k.ep) = true := by simp only [bne, e0b]; rfl
  clear h0 he
  go_enter Tryz.func72, Tryz.ntmps72
  by_cases h1 : k.ph = 1
  · have p1a : decide (k.ph = 1) = true := decide_eq_true h1
    have p1b : (k.ph == 1) = true := p1a
    clear h1
    go_wp2
    go_ret
    exact ⟨rfl, two_boxes _ _ _⟩
  · have p1a : decide (k.ph = 1) = false := decide_eq_false h1
    have p1b : (k.ph == 1) = false := p1a
    by_cases h2 : k.ph = 2
    · have p2a : decide (k.ph = 2) = true := decide_eq_true h2
      have p2b : (k.ph == 2) = true := p2a
      clear h1 h2
      go_wp2
      go_ret
      exact ⟨rfl, two_boxes _ _ _⟩
    · have p2a : decide (k.ph = 2) = false := decide_eq_false h2
      have p2b : (k.ph == 2) = false := p2a
      clear h1 h2
      go_wp2
      go_ret
      exact ⟨rfl, two_boxes _ _ _⟩
theorem answered_a (k : Sh.Ks) (t : Ts) (w : World) (h0 : ¬ k.ph = 0) (he : t.ep = k.ep) (h1 : k.ph = 1) : Calls Tryz.prog 72 #[(.agg #[.int .i64 k.ph, .int .i64 k.ep, .bool k.mj, .slice k.wk.a k.wk.n k.wk.c, .bool k.ov, .int .i64 k.pa, .int .i64 k.pf, .int .i64 k.ps, .int .i64 k.pc, .bool k.me]), (.agg #[.bool t.lv, .int .i64 (t.r 0), .int .i64 (t.r 1), .int .i64 (t.r 2), .int .i64 (t.r 3), .slice (t.u 0).a (t.u 0).n (t.u 0).c, .slice (t.u 1).a (t.u 1).n (t.u 1).c, .slice (t.u 2).a (t.u 2).n (t.u 2).c, .int .i64 t.ep, .int .i64 t.sg, .int .i64 t.rt, .slice t.o.a t.o.n t.o.c, .int .i64 t.pc, .int .i64 t.x, .int .i64 t.y])] w fun e w' => e = .returned (.bool (ansB k.ph k.ep t)) ∧ Below w.heap.size w w' := by
  rw [show ansB k.ph k.ep t = true by unfold ansB; rw [decide_eq_false h0, decide_eq_true he, decide_eq_true h1]; rfl]
  have p0a : decide (k.ph = 0) = false := decide_eq_false h0
  have p0b : (k.ph == 0) = false := p0a
  have p0c : (k.ph != 0) = true := by simp only [bne, p0b]; rfl
  have e0a : decide (t.ep = k.ep) = true := decide_eq_true he
  have e0b : (t.ep == k.ep) = true := e0a
  have e0c : (t.ep != k.ep) = false := by simp only [bne, e0b]; rfl
  have p1a : decide (k.ph = 1) = true := decide_eq_true h1
  have p1b : (k.ph == 1) = true := p1a
  clear h0 he h1
  go_enter Tryz.func72, Tryz.ntmps72
  go_wp2
  go_ret
  exact ⟨rfl, two_boxes _ _ _⟩
theorem answered_s (k : Sh.Ks) (t : Ts) (w : World) (h0 : ¬ k.ph = 0) (he : t.ep = k.ep) (h1 : ¬ k.ph = 1) (h2 : k.ph = 2) : Calls Tryz.prog 72 #[(.agg #[.int .i64 k.ph, .int .i64 k.ep, .bool k.mj, .slice k.wk.a k.wk.n k.wk.c, .bool k.ov, .int .i64 k.pa, .int .i64 k.pf, .int .i64 k.ps, .int .i64 k.pc, .bool k.me]), (.agg #[.bool t.lv, .int .i64 (t.r 0), .int .i64 (t.r 1), .int .i64 (t.r 2), .int .i64 (t.r 3), .slice (t.u 0).a (t.u 0).n (t.u 0).c, .slice (t.u 1).a (t.u 1).n (t.u 1).c, .slice (t.u 2).a (t.u 2).n (t.u 2).c, .int .i64 t.ep, .int .i64 t.sg, .int .i64 t.rt, .slice t.o.a t.o.n t.o.c, .int .i64 t.pc, .int .i64 t.x, .int .i64 t.y])] w fun e w' => e = .returned (.bool (ansB k.ph k.ep t)) ∧ Below w.heap.size w w' := by
  rw [show ansB k.ph k.ep t = (decide (2 ≤ t.sg)) by unfold ansB; rw [decide_eq_false h0, decide_eq_true he, decide_eq_false h1, if_pos h2]; rfl]
  have p0a : decide (k.ph = 0) = false := decide_eq_false h0
  have p0b : (k.ph == 0) = false := p0a
  have p0c : (k.ph != 0) = true := by simp only [bne, p0b]; rfl
  have e0a : decide (t.ep = k.ep) = true := decide_eq_true he
  have e0b : (t.ep == k.ep) = true := e0a
  have e0c : (t.ep != k.ep) = false := by simp only [bne, e0b]; rfl
  have p1a : decide (k.ph = 1) = false := decide_eq_false h1
  have p1b : (k.ph == 1) = false := p1a
  have p2a : decide (k.ph = 2) = true := decide_eq_true h2
  have p2b : (k.ph == 2) = true := p2a
  obtain ⟨b, hb⟩ : ∃ b, b = decide (2 ≤ t.sg) := ⟨_, rfl⟩
  have sa : decide (2 ≤ t.sg) = b := hb.symm
  have sb : decide (t.sg ≥ 2) = b := hb.symm
  rw [← hb]
  clear h0 he h1 h2 hb
  go_enter Tryz.func72, Tryz.ntmps72
  go_wp2
  go_ret
  exact ⟨rfl, two_boxes _ _ _⟩
theorem answered_r (k : Sh.Ks) (t : Ts) (w : World) (h0 : ¬ k.ph = 0) (he : t.ep = k.ep) (h1 : ¬ k.ph = 1) (h2 : ¬ k.ph = 2) : Calls Tryz.prog 72 #[(.agg #[.int .i64 k.ph, .int .i64 k.ep, .bool k.mj, .slice k.wk.a k.wk.n k.wk.c, .bool k.ov, .int .i64 k.pa, .int .i64 k.pf, .int .i64 k.ps, .int .i64 k.pc, .bool k.me]), (.agg #[.bool t.lv, .int .i64 (t.r 0), .int .i64 (t.r 1), .int .i64 (t.r 2), .int .i64 (t.r 3), .slice (t.u 0).a (t.u 0).n (t.u 0).c, .slice (t.u 1).a (t.u 1).n (t.u 1).c, .slice (t.u 2).a (t.u 2).n (t.u 2).c, .int .i64 t.ep, .int .i64 t.sg, .int .i64 t.rt, .slice t.o.a t.o.n t.o.c, .int .i64 t.pc, .int .i64 t.x, .int .i64 t.y])] w fun e w' => e = .returned (.bool (ansB k.ph k.ep t)) ∧ Below w.heap.size w w' := by
  rw [show ansB k.ph k.ep t = (decide (t.sg = 3)) by unfold ansB; rw [decide_eq_false h0, decide_eq_true he, decide_eq_false h1, if_neg h2]; rfl]
  have p0a : decide (k.ph = 0) = false := decide_eq_false h0
  have p0b : (k.ph == 0) = false := p0a
  have p0c : (k.ph != 0) = true := by simp only [bne, p0b]; rfl
  have e0a : decide (t.ep = k.ep) = true := decide_eq_true he
  have e0b : (t.ep == k.ep) = true := e0a
  have e0c : (t.ep != k.ep) = false := by simp only [bne, e0b]; rfl
  have p1a : decide (k.ph = 1) = false := decide_eq_false h1
  have p1b : (k.ph == 1) = false := p1a
  have p2a : decide (k.ph = 2) = false := decide_eq_false h2
  have p2b : (k.ph == 2) = false := p2a
  obtain ⟨b, hb⟩ : ∃ b, b = decide (t.sg = 3) := ⟨_, rfl⟩
  have sa : decide (t.sg = 3) = b := hb.symm
  have sb : (t.sg == 3) = b := hb.symm
  rw [← hb]
  clear h0 he h1 h2 hb
  go_enter Tryz.func72, Tryz.ntmps72
  go_wp2
  go_ret
  exact ⟨rfl, two_boxes _ _ _⟩
theorem answered_any (k : Sh.Ks) (t : Ts) (w : World) : Calls Tryz.prog 72 #[(.agg #[.int .i64 k.ph, .int .i64 k.ep, .bool k.mj, .slice k.wk.a k.wk.n k.wk.c, .bool k.ov, .int .i64 k.pa, .int .i64 k.pf, .int .i64 k.ps, .int .i64 k.pc, .bool k.me]), (.agg #[.bool t.lv, .int .i64 (t.r 0), .int .i64 (t.r 1), .int .i64 (t.r 2), .int .i64 (t.r 3), .slice (t.u 0).a (t.u 0).n (t.u 0).c, .slice (t.u 1).a (t.u 1).n (t.u 1).c, .slice (t.u 2).a (t.u 2).n (t.u 2).c, .int .i64 t.ep, .int .i64 t.sg, .int .i64 t.rt, .slice t.o.a t.o.n t.o.c, .int .i64 t.pc, .int .i64 t.x, .int .i64 t.y])] w fun e w' => e = .returned (.bool (ansB k.ph k.ep t)) ∧ Below w.heap.size w w' := by
  by_cases h0 : k.ph = 0
  · exact answered_i k t w h0
  · by_cases he : t.ep = k.ep
    · by_cases h1 : k.ph = 1
      · exact answered_a k t w h0 he h1
      · by_cases h2 : k.ph = 2
        · exact answered_s k t w h0 he h1 h2
        · exact answered_r k t w h0 he h1 h2
    · exact answered_n k t w h0 he
theorem lb_two {w W : World} (k : Sh.Ks) (t : Ts) {t1 t2 : TypeId} (h : W = (w.alloc (.cells (kv k).toArray t1)).alloc (.cells (tv t).toArray t2)) : Lb w W [(w.heap.size + 1, tv t), (w.heap.size, kv k)] [] [] := by
  have l := ((lb_none w).lay (kv k) t1).lay (tv t) t2
  rw [World.size_alloc] at l
  rw [h]
  exact l
theorem asked_core (k : Sh.Ks) (t : Ts) (w : World) (b1 b2 b3 b4 : Bool) (h1 : t.lv = b1) (h2 : decide (t.pc = 0) = b2) (h3 : mayT t = b3) (h4 : ansB k.ph k.ep t = b4) : Calls Tryz.prog 33 #[(.agg #[.int .i64 k.ph, .int .i64 k.ep, .bool k.mj, .slice k.wk.a k.wk.n k.wk.c, .bool k.ov, .int .i64 k.pa, .int .i64 k.pf, .int .i64 k.ps, .int .i64 k.pc, .bool k.me]), (.agg #[.bool t.lv, .int .i64 (t.r 0), .int .i64 (t.r 1), .int .i64 (t.r 2), .int .i64 (t.r 3), .slice (t.u 0).a (t.u 0).n (t.u 0).c, .slice (t.u 1).a (t.u 1).n (t.u 1).c, .slice (t.u 2).a (t.u 2).n (t.u 2).c, .int .i64 t.ep, .int .i64 t.sg, .int .i64 t.rt, .slice t.o.a t.o.n t.o.c, .int .i64 t.pc, .int .i64 t.x, .int .i64 t.y])] w fun e w' => e = .returned (.bool (b1 && (b2 && (b3 && !b4)))) ∧ Below w.heap.size w w' := by
  have C1 := Lib.hid (fun W => may_any t W)
  have C2 := Lib.hid (fun W => answered_any k t W)
  rw [h3] at C1
  rw [h4] at C2
  have H1 := Lib.hid h1
  have h2b : (t.pc == 0) = b2 := h2
  clear h1 h3 h4
  go_enter Tryz.func33, Tryz.ntmps33
  go_upto_region 1 with fail
  obtain ⟨W1, hW1⟩ : ∃ W1, W1 = (w.alloc (.cells #[.int .i64 k.ph, .int .i64 k.ep, .bool k.mj, .slice k.wk.a k.wk.n k.wk.c, .bool k.ov, .int .i64 k.pa, .int .i64 k.pf, .int .i64 k.ps, .int .i64 k.pc, .bool k.me] 30)).alloc (.cells #[.bool t.lv, .int .i64 (t.r 0), .int .i64 (t.r 1), .int .i64 (t.r 2), .int .i64 (t.r 3), .slice (t.u 0).a (t.u 0).n (t.u 0).c, .slice (t.u 1).a (t.u 1).n (t.u 1).c, .slice (t.u 2).a (t.u 2).n (t.u 2).c, .int .i64 t.ep, .int .i64 t.sg, .int .i64 t.rt, .slice t.o.a t.o.n t.o.c, .int .i64 t.pc, .int .i64 t.x, .int .i64 t.y] 34) := ⟨_, rfl⟩
  have L1 := Lib.hid (lb_two k t hW1)
  rw [← hW1]
  clear hW1
  have q12 := (L1.out.bx (w.heap.size + 1) (tv t) (by simp)).cel 12 (.int .i64 t.pc) rfl
  cases b1 with
  | false =>
    have q0 := (L1.out.bx (w.heap.size + 1) (tv t) (by simp)).cel 0 (.bool false) (by rw [← H1.out]; rfl)
    go_wp2
    go_ret
    exact ⟨rfl, L1.out.bel⟩
  | true =>
    have q0 := (L1.out.bx (w.heap.size + 1) (tv t) (by simp)).cel 0 (.bool true) (by rw [← H1.out]; rfl)
    cases b2 with
    | false =>
      go_wp2
      go_ret
      exact ⟨rfl, L1.out.bel⟩
    | true =>
      cases b3 with
      | false =>
        go_wp2_with (first
          | (refine w_loadg (ldTb (L1.out.bx (w.heap.size + 1) (tv t) (by simp))) rfl (by kernel_rfl) rfl rfl ?_)
          | ((go_at_call 13); (with_reducible refine (C1.out _).mono ?_); rintro e9 w9 ⟨rfl, hb9⟩; have L2 := Lib.hid (L1.out.next hb9); clear hb9))
        go_ret
        exact ⟨rfl, L2.out.bel⟩
      | true =>
        go_wp2_with (first
          | (refine w_loadg (ldTb (L1.out.bx (w.heap.size + 1) (tv t) (by simp))) rfl (by kernel_rfl) rfl rfl ?_)
          | ((go_at_call 13); (with_reducible refine (C1.out _).mono ?_); rintro e9 w9 ⟨rfl, hb9⟩; have L2 := Lib.hid (L1.out.next hb9); clear hb9)
          | (refine w_loadg (ldKb (L2.out.bx (w.heap.size) (kv k) (by simp))) rfl (by kernel_rfl) rfl rfl ?_)
          | (refine w_loadg (ldTb (L2.out.bx (w.heap.size + 1) (tv t) (by simp))) rfl (by kernel_rfl) rfl rfl ?_)
          | ((go_at_call 72); (with_reducible refine (C2.out _).mono ?_); rintro e9 w9 ⟨rfl, hb9⟩; have L3 := Lib.hid (L2.out.next hb9); clear hb9))
        go_ret
        exact ⟨rfl, L3.out.bel⟩
theorem asked_any (k : Sh.Ks) (t : Ts) (w : World) : Calls Tryz.prog 33 #[(.agg #[.int .i64 k.ph, .int .i64 k.ep, .bool k.mj, .slice k.wk.a k.wk.n k.wk.c, .bool k.ov, .int .i64 k.pa, .int .i64 k.pf, .int .i64 k.ps, .int .i64 k.pc, .bool k.me]), (.agg #[.bool t.lv, .int .i64 (t.r 0), .int .i64 (t.r 1), .int .i64 (t.r 2), .int .i64 (t.r 3), .slice (t.u 0).a (t.u 0).n (t.u 0).c, .slice (t.u 1).a (t.u 1).n (t.u 1).c, .slice (t.u 2).a (t.u 2).n (t.u 2).c, .int .i64 t.ep, .int .i64 t.sg, .int .i64 t.rt, .slice t.o.a t.o.n t.o.c, .int .i64 t.pc, .int .i64 t.x, .int .i64 t.y])] w fun e w' => e = .returned (.bool (askB k.ph k.ep t)) ∧ Below w.heap.size w w' := asked_core k t w _ _ _ _ rfl rfl rfl rfl
end Go.Proofs.YtgmkomnoiffapaaGreatDoor.Ha
end
section
namespace Go.Proofs.YtgmkomnoiffapaaGreatDoor.Sh
open Go.Proofs.YtgmkomnoiffapaaGreatDoor
open Go.RowKit
set_option maxRecDepth 100000

/-- The boxes of a walk through Black. -/
structure Bw (w W : World) (s : Hs) (d : Hd_) (k : Ks) (xs : List Int) : Prop where
  bel : Below w.heap.size w W
  hb : Box6 W w.heap.size s
  kb : CBox W (w.heap.size + 1) k
  rb : T6 W (w.heap.size + 2)
  hp0 : Hp w w.heap.size s d
  wr0 : WRow w w.heap.size k xs
section
variable {w W W' w3 : World} {s t : Hs} {d d' : Hd_} {k : Ks} {xs ys : List Int} {b : Nat}
theorem Bw.hp (h : Bw w W s d k xs) : Hp W W.heap.size s d := h.hp0.next h.bel
theorem Bw.wr (h : Bw w W s d k xs) : WRow W W.heap.size k xs := h.wr0.next h.bel
theorem Bw.same (h : Bw w W s d k xs) (hb : Below (w.heap.size + 3) W W') : Bw w W' s d k xs := by
  have hs : ∀ g, g < w.heap.size + 3 → W'.heap[g]? = W.heap[g]? := fun g hg => hb.block g hg
  exact ⟨h.bel.trans (hb.mono (by omega)), h.hb.same (hs _ (by omega)) hb.size, h.kb.same (hs _ (by omega)) hb.size, h.rb.same (hs _ (by omega)) hb.size, h.hp0, h.wr0⟩
theorem Bw.next (h : Bw w W s d k xs) (hb : Below W.heap.size W W') : Bw w W' s d k xs := h.same (hb.mono (by have := h.rb.lt; omega))
end
section
variable (s : Hs) (d : Hd_) (k : Ks) (xs : List Int) (a : Int) (w : World)
theorem shade_any (hn : xs.length ≤ 1000000) (hp : Hp w w.heap.size s d) (hk : WRow w w.heap.size k xs) (hz : Cl.Sz w) (hf : Fine s d) : Calls Tryz.prog 106 #[(.agg #[.slice s.w.a s.w.n s.w.c, .slice s.p.a s.p.n s.p.c, .slice (s.u 0).a (s.u 0).n (s.u 0).c, .slice (s.u 1).a (s.u 1).n (s.u 1).c, .slice (s.u 2).a (s.u 2).n (s.u 2).c, .slice s.c.a s.c.n s.c.c]), (.agg #[.int .i64 k.ph, .int .i64 k.ep, .bool k.mj, .slice k.wk.a k.wk.n k.wk.c, .bool k.ov, .int .i64 k.pa, .int .i64 k.pf, .int .i64 k.ps, .int .i64 k.pc, .bool k.me]), .int .i64 a] w (ShOut w s k (shD s d k.mj k.ep a) (shO (isC s d k.mj k.ep a 1) xs k.ov) (shX (isC s d k.mj k.ep a 1) xs a)) := by
  have hF := fun (W : World) (h : Sw w W s d k xs) => find_any s d k xs a 1 W h.hp h.wr (hz.over h.bel hz.pos) hf
  unfold shD
  by_cases hc : isC s d k.mj k.ep a 1 = true
  · obtain ⟨h1, h2, h3⟩ := isC_iff.1 hc
    have ho := obj_of h2
    have hv : findV s d k.mj k.ep a 1 = headOf (wd d a) := if_pos hc
    rw [if_pos hc, hc]
    rw [hv, headOf_yes ho.word, decide_eq_true ho.odd, hc] at hF
    exact shade_yes s d k xs a w _ _ _ _ _ _ _ _ rfl rfl hn hp hk hF fun W h => set_okn _ _ _ _ _ _ _ _ _ h.hp (hz.over h.bel hz.pos) hf h2 _ _ _ _ ho.val ho.may (ho.fits false h1.1 h1.2)
  · have hc' : isC s d k.mj k.ep a 1 = false := by simpa using hc
    obtain ⟨z0, z1, z2, z3, z4, z5, hv⟩ := find_form s d k.mj k.ep a 1
    rw [if_neg hc, hc', show shO false xs k.ov = k.ov by simp [shO], show shX false xs a = xs from if_neg (by simp)]
    rw [hv, hc'] at hF
    exact shade_no s d k xs a w _ _ _ _ _ _ hn hp hk hF fun W h => fresh_all s d W h.hp hf
end
end Go.Proofs.YtgmkomnoiffapaaGreatDoor.Sh
end
section
namespace Go.Proofs.YtgmkomnoiffapaaGreatDoor.Ha
open Go.Proofs.YtgmkomnoiffapaaGreatDoor Go.Proofs.YtgmkomnoiffapaaGreatDoor.Rt
open Go.RowKit
open Go.Proofs.YtgmkomnoiffapaaGreatDoor.Mu (hv kv w_load w_store w_loadg ldHb ldKb ldTb stHb stKb stTb st_int ld_int p_load p_store ev region_plan noHs0 noK0)
set_option maxRecDepth 100000

theorem w6_start {w W : World} (n : Q3) {t1 t2 t3 t4 t5 t6 : TypeId} (h : W = (((((w.alloc (.cells (hv n.s).toArray t1)).alloc (.cells (kv n.k).toArray t2)).alloc (.cells (tv n.t).toArray t3)).alloc (.cells (hv noHs0).toArray t4)).alloc (.cells (kv noK0).toArray t5)).alloc (.cells (tv noT).toArray t6)) :
    W6 w W (p6 w.heap.size (w.heap.size + 1) (w.heap.size + 2) (w.heap.size + 3) (w.heap.size + 4) (w.heap.size + 5)) (c6 (hv n.s) (kv n.k) (tv n.t) (hv noHs0) (kv noK0) (tv noT)) [] ∧ (Hold w n → W6 w W (p6 w.heap.size (w.heap.size + 1) (w.heap.size + 2) (w.heap.size + 3) (w.heap.size + 4) (w.heap.size + 5)) (c6 (hv n.s) (kv n.k) (tv n.t) (hv noHs0) (kv noK0) (tv noT)) [n]) := by
  have l := ((((((lb_none w).lay (hv n.s) t1).lay (kv n.k) t2).lay (tv n.t) t3).lay (hv noHs0) t4).lay (kv noK0) t5).lay (tv noT) t6
  rw [World.size_alloc, World.size_alloc, World.size_alloc, World.size_alloc, World.size_alloc, ← h] at l
  have a : W6 w W (p6 w.heap.size (w.heap.size + 1) (w.heap.size + 2) (w.heap.size + 3) (w.heap.size + 4) (w.heap.size + 5)) (c6 (hv n.s) (kv n.k) (tv n.t) (hv noHs0) (kv noK0) (tv noT)) [] := ⟨l.bel, all6 ⟨Nat.le_refl _, Nat.le_add_right _ _, Nat.le_add_right _ _, Nat.le_add_right _ _, Nat.le_add_right _ _, Nat.le_add_right _ _⟩, inj6, all6 ⟨l.bx (w.heap.size) (hv n.s) (by simp), l.bx (w.heap.size + 1) (kv n.k) (by simp), l.bx (w.heap.size + 1 + 1) (tv n.t) (by simp), l.bx (w.heap.size + 1 + 1 + 1) (hv noHs0) (by simp), l.bx (w.heap.size + 1 + 1 + 1 + 1) (kv noK0) (by simp), l.bx (w.heap.size + 1 + 1 + 1 + 1 + 1) (tv noT) (by simp)⟩, fun x hx => (by cases hx)⟩
  exact ⟨a, fun hh => a.held (hh.next l.bel) fun i hi => off_old hh (a.lo i hi)⟩
/-- What shadeRoot is handed. -/
structure Pre (w : World) (n : Q3) : Prop where
  hold : Hold w n
  sz : Cl.Sz w
  fine : Fine n.s n.d
  x : n.xs.length ≤ 999000
/-- The state once a register is shaded. -/
def shQ (n : Q3) (a : Int) (s' : Hs) (v : Ls.Sl) : Q3 := ⟨s', Sh.kw n.k v (Sh.shO (Sh.isC n.s n.d n.k.mj n.k.ep a 1) n.xs n.k.ov), n.t, Sh.shD n.s n.d n.k.mj n.k.ep a, Sh.shX (Sh.isC n.s n.d n.k.mj n.k.ep a 1) n.xs a, n.F, n.g⟩
def thQ (n : Q3) (t : Ts) : Q3 := ⟨n.s, n.k, t, n.d, n.xs, n.F, n.g⟩
/-- What shadeRoot leaves. -/
def RoOut (w : World) (n : Q3) (e : Ending) (w' : World) : Prop :=
  ∃ (s' : Hs) (v : Ls.Sl) (m : Q3), e = .returned (.tuple #[(.agg #[.slice m.s.w.a m.s.w.n m.s.w.c, .slice m.s.p.a m.s.p.n m.s.p.c, .slice (m.s.u 0).a (m.s.u 0).n (m.s.u 0).c, .slice (m.s.u 1).a (m.s.u 1).n (m.s.u 1).c, .slice (m.s.u 2).a (m.s.u 2).n (m.s.u 2).c, .slice m.s.c.a m.s.c.n m.s.c.c]), (.agg #[.int .i64 m.k.ph, .int .i64 m.k.ep, .bool m.k.mj, .slice m.k.wk.a m.k.wk.n m.k.wk.c, .bool m.k.ov, .int .i64 m.k.pa, .int .i64 m.k.pf, .int .i64 m.k.ps, .int .i64 m.k.pc, .bool m.k.me]), (.agg #[.bool m.t.lv, .int .i64 (m.t.r 0), .int .i64 (m.t.r 1), .int .i64 (m.t.r 2), .int .i64 (m.t.r 3), .slice (m.t.u 0).a (m.t.u 0).n (m.t.u 0).c, .slice (m.t.u 1).a (m.t.u 1).n (m.t.u 1).c, .slice (m.t.u 2).a (m.t.u 2).n (m.t.u 2).c, .int .i64 m.t.ep, .int .i64 m.t.sg, .int .i64 m.t.rt, .slice m.t.o.a m.t.o.n m.t.o.c, .int .i64 m.t.pc, .int .i64 m.t.x, .int .i64 m.t.y])]) ∧ m = thQ (shQ n (getV n.t n.t.rt) s' v) (rootT n.t) ∧ Lens n.s s' ∧ Hold w' m ∧ News w.heap.size s' ∧ (0 < v.n → ∀ x, v.a = some x → w.heap.size ≤ x.block) ∧ Below w.heap.size w w'
theorem own_lie {w w' : World} {v : Ls.Sl} {xs : List Int} (h : Ls.Alling w w' v xs) : 0 < v.n → ∀ x, v.a = some x → w.heap.size ≤ x.block := fun _ x hx => (h.own.lt x.block (by rw [Ls.ownBlock_slice, hx]; rfl)).1
section
variable {w W W' : World} {n : Q3} {p : Nat → Nat} {c : Nat → List Value} {a : Int} {s' : Hs} {v : Ls.Sl} {t : Ts}
/-- Behind Shade. -/
theorem sh_next (h : W6 w W p c [n]) (hp : Hp W' W'.heap.size s' (Sh.shD n.s n.d n.k.mj n.k.ep a)) (hn : News W.heap.size s') (ha : Ls.Alling W W' v (Sh.shX (Sh.isC n.s n.d n.k.mj n.k.ep a 1) n.xs a)) : W6 w W' p c [shQ n a s' v] := by
  have hb := ha.bel
  have nx := h.next hb
  refine W6.held ⟨nx.bel, nx.lo, nx.inj, nx.box, fun x hx => (by cases hx)⟩ ⟨hp, Mu.all_row9 ha.own, (nx.at n (by simp)).t⟩ fun i hi => ?_
  have ho := (h.hold n (by simp)).2 i hi
  exact ⟨offh_new hn (h.lt hi), off_ge (own_lie ha) (h.lt hi), ho.t⟩
theorem sh_new (h : W6 w W p c [n]) (hl : Lens n.s s') (hn : News W.heap.size s') (ha : Ls.Alling W W' v (Sh.shX (Sh.isC n.s n.d n.k.mj n.k.ep a 1) n.xs a)) : Lens n.s s' ∧ News w.heap.size s' ∧ (0 < v.n → ∀ x, v.a = some x → w.heap.size ≤ x.block) := by
  have hs := h.bel.size
  exact ⟨hl, ⟨fun h0 y hy => Nat.le_trans hs (hn.w h0 y hy), fun h0 y hy => Nat.le_trans hs (hn.p h0 y hy), fun j hj h0 y hy => Nat.le_trans hs (hn.u j hj h0 y hy), fun h0 y hy => Nat.le_trans hs (hn.c h0 y hy)⟩, fun h0 y hy => Nat.le_trans hs (own_lie ha h0 y hy)⟩
/-- .. with another thread, whose rows lie where they lay. -/
theorem th_next (h : W6 w W p c [n]) (hk : Keep n.t t) : W6 w W p c [thQ n t] := by
  obtain ⟨hh, ho⟩ := h.hold n (by simp)
  refine W6.held ⟨h.bel, h.lo, h.inj, h.box, fun x hx => (by cases hx)⟩ ⟨hh.h, hh.c, ⟨?_, ?_, ?_⟩⟩ fun i hi => ⟨(ho i hi).h, (ho i hi).k, ⟨?_, ?_⟩⟩
  · show Ls.L3 W W.heap.size t.u n.F; rw [hk.u]; exact hh.t.c
  · show ORow W W.heap.size t.o.a t.o.n n.g; rw [hk.o]; exact hh.t.o
  · show t.o.n ≤ t.o.c; rw [hk.o]; exact hh.t.k
  · show ∀ j, j < 3 → Mu.Off _ (t.u j); rw [hk.u]; exact (ho i hi).t.u
  · show Mu.Off _ t.o; rw [hk.o]; exact (ho i hi).t.o
end
section
variable {w W W0 : World} {p : Nat → Nat} {c c' : Nat → List Value} {ps : List Q3} {ops : Array Oper} {rest : List Oper} {o : Oper} {a : Act} {Q : Exit → Act → World → Prop}
/-- A box is filled anew; a cell of one is. -/
theorem w6_putH {X Y : Operand} (h : W6 w W0 p c ps) (i : Nat) (hi : i < 6) (x : Hs) (hl : (c i).length = 6) (hc : ∀ k, k < 6 → c' k = if k = i then hv x else c k) (hw : W = W0) (hgd : o.guard = none) (ho : o.op = .store 28 X Y) (hx : a.eval X = .pointer (some ⟨p i, 0, none⟩)) (hy : a.eval Y = (.agg #[.slice x.w.a x.w.n x.w.c, .slice x.p.a x.p.n x.p.c, .slice (x.u 0).a (x.u 0).n (x.u 0).c, .slice (x.u 1).a (x.u 1).n (x.u 1).c, .slice (x.u 2).a (x.u 2).n (x.u 2).c, .slice x.c.a x.c.n x.c.c])) (hK : ∀ W', W6 w W' p c' ps → wpList Tryz.prog ops Q rest (a.put o.dst undef) W') : wpList Tryz.prog ops Q (o :: rest) a W :=
  w_store (stHb (h.box i hi) hl x) hw hgd ho hx hy (hK _ (h.puts i hi (hv x) hl hc))
theorem w6_putK {X Y : Operand} (h : W6 w W0 p c ps) (i : Nat) (hi : i < 6) (x : Sh.Ks) (hl : (c i).length = 10) (hc : ∀ k, k < 6 → c' k = if k = i then kv x else c k) (hw : W = W0) (hgd : o.guard = none) (ho : o.op = .store 30 X Y) (hx : a.eval X = .pointer (some ⟨p i, 0, none⟩)) (hy : a.eval Y = (.agg #[.int .i64 x.ph, .int .i64 x.ep, .bool x.mj, .slice x.wk.a x.wk.n x.wk.c, .bool x.ov, .int .i64 x.pa, .int .i64 x.pf, .int .i64 x.ps, .int .i64 x.pc, .bool x.me])) (hK : ∀ W', W6 w W' p c' ps → wpList Tryz.prog ops Q rest (a.put o.dst undef) W') : wpList Tryz.prog ops Q (o :: rest) a W :=
  w_store (stKb (h.box i hi) hl x) hw hgd ho hx hy (hK _ (h.puts i hi (kv x) hl hc))
theorem w6_putT {X Y : Operand} (h : W6 w W0 p c ps) (i : Nat) (hi : i < 6) (x : Ts) (hl : (c i).length = 15) (hc : ∀ k, k < 6 → c' k = if k = i then tv x else c k) (hw : W = W0) (hgd : o.guard = none) (ho : o.op = .store 34 X Y) (hx : a.eval X = .pointer (some ⟨p i, 0, none⟩)) (hy : a.eval Y = (.agg #[.bool x.lv, .int .i64 (x.r 0), .int .i64 (x.r 1), .int .i64 (x.r 2), .int .i64 (x.r 3), .slice (x.u 0).a (x.u 0).n (x.u 0).c, .slice (x.u 1).a (x.u 1).n (x.u 1).c, .slice (x.u 2).a (x.u 2).n (x.u 2).c, .int .i64 x.ep, .int .i64 x.sg, .int .i64 x.rt, .slice x.o.a x.o.n x.o.c, .int .i64 x.pc, .int .i64 x.x, .int .i64 x.y])) (hK : ∀ W', W6 w W' p c' ps → wpList Tryz.prog ops Q rest (a.put o.dst undef) W') : wpList Tryz.prog ops Q (o :: rest) a W :=
  w_store (stTb (h.box i hi) hl x) hw hgd ho hx hy (hK _ (h.puts i hi (tv x) hl hc))
theorem w6_int {X Y : Operand} (h : W6 w W0 p c ps) (i : Nat) (hi : i < 6) (j : Nat) (z : Int) {vs : List Value} (hj : j < (c i).length) (hv : (c i).set j (.int .i64 z) = vs) (hc : ∀ k, k < 6 → c' k = if k = i then vs else c k) (hw : W = W0) (hgd : o.guard = none) (ho : o.op = .store 3 X Y) (hx : a.eval X = .pointer (some ⟨p i, j, none⟩)) (hy : a.eval Y = .int .i64 z) (hK : ∀ W', W6 w W' p c' ps → wpList Tryz.prog ops Q rest (a.put o.dst undef) W') : wpList Tryz.prog ops Q (o :: rest) a W :=
  w_store (st_int (h.box i hi) hj z) hw hgd ho hx hy (hK _ (h.cell i hi j (.int .i64 z) hv hc))
end
end Go.Proofs.YtgmkomnoiffapaaGreatDoor.Ha
end
