/-
  The chapter's example.
-/
import Derived.Test.YtgmkomnoiffapaaGreatDoorHpBJ
import Derived.Test.YtgmkomnoiffapaaGreatDoorHpBE
namespace Go.Proofs.YtgmkomnoiffapaaGreatDoor.Ha
open Go.Proofs.YtgmkomnoiffapaaGreatDoor Go.Proofs.YtgmkomnoiffapaaGreatDoor.Rt
open Go.RowKit
open Go.Proofs.YtgmkomnoiffapaaGreatDoor.Mu (hv kv w_load w_loadg ldHb ldKb ldTb)
set_option maxRecDepth 100000

def dOne : Hd_ := ⟨List.replicate 16 0, fun _ => (0, 0), Ls.noLists, fun _ => false⟩
def gOne : Nat → O4 := fun _ => ⟨0, 0, 0, 0⟩
def tOne : Ts := ⟨true, fun _ => 0, Ls.noSl, 0, 0, 0, ⟨none, 0, 0⟩, 0, 0, 0⟩
def kOne : Sh.Ks := ⟨1, 1, false, ⟨none, 0, 0⟩, false, 0, 0, 0, 0, false⟩
def Szs (s : Hs) : Prop := s.w.n = 16 ∧ s.p.n = 1 ∧ s.c.n = 2
theorem zeros_at (n i : Nat) : (List.replicate n (0 : Int)).getD i 0 = 0 := by by_cases h : i < n <;> simp [List.getD, h]
theorem fine_one {s : Hs} (h : Szs s) : Fine s dOne := by
  obtain ⟨h1, h2, h3⟩ := h
  refine ⟨by omega, by omega, by omega, fun i => ?_, by decide⟩
  have : dOne.ws.getD i 0 = 0 := zeros_at 16 i
  omega
theorem new_one (w : World) : Calls Tryz.prog 41 #[.int .i64 1] w fun e w' => ∃ s, e = .returned (.tuple #[(.agg #[.slice s.w.a s.w.n s.w.c, .slice s.p.a s.p.n s.p.c, .slice (s.u 0).a (s.u 0).n (s.u 0).c, .slice (s.u 1).a (s.u 1).n (s.u 1).c, .slice (s.u 2).a (s.u 2).n (s.u 2).c, .slice s.c.a s.c.n s.c.c]), .int .i64 0]) ∧ Hp w' w'.heap.size s dOne ∧ Szs s ∧ Below w.heap.size w w' :=
  (new_ok 1 w (by omega) (by omega)).mono fun _ _ ⟨A, C, g, cw, h1, h2, h3, h4, h5⟩ => ⟨⟨⟨some ⟨g, 0, none⟩, 16 * 1, cw⟩, ⟨A, 1, 1⟩, Ls.noSl, ⟨C, 2 * 1, 2 * 1⟩⟩, h1, ⟨h2, h3, Ls.L3.none_ _ _, h4⟩, ⟨rfl, rfl, rfl⟩, h5⟩
def qOne (s : Hs) : Q3 := ⟨s, kOne, tOne, dOne, [], Ls.noLists, gOne⟩
theorem hold_one {W : World} {s : Hs} (hp : Hp W W.heap.size s dOne) : Hold W (qOne s) := ⟨hp, Row.none_ _ _, ⟨Ls.L3.none_ _ _, ORow.empty _ _ _ _, Nat.le_refl _⟩⟩
theorem in_one {W : World} {s : Hs} (h : Hold W (qOne s)) (hs : Szs s) (hz : Cl.Sz W) : In W (qOne s) := ⟨h, hz, fine_one hs, fun _ _ => Nat.zero_le _, Nat.zero_le _, Nat.zero_le _⟩
theorem an_one (s : Hs) (n : Q3) (h : Sim s kOne (anS s kOne (own (qOne s))) n) : n.t.ep = 1 ∧ n.t.sg = 1 ∧ n.t.lv = true := by
  have e : anS s kOne (own (qOne s)) = ⟨dOne, [], false, te tOne 1 1 0⟩ := rfl
  rw [e] at h
  rw [h.t]
  exact ⟨rfl, rfl, rfl⟩
theorem ans_one {n : Q3} (h : n.t.ep = 1 ∧ n.t.sg = 1 ∧ n.t.lv = true) (sl : Ls.Sl) (hs : sl.n = 1) : allB kOne.ph kOne.ep ⟨sl, fun _ => n.t⟩ = true := by
  rw [all_one _ _ sl n.t hs]
  unfold openB ansB kOne
  rw [h.1]
  simp
theorem ans_two (n : Q3) (sl : Ls.Sl) (hs : sl.n = 2) : allB kOne.ph kOne.ep ⟨sl, fun i => if i = 0 then n.t else tOne⟩ = false := by
  rw [← Bool.not_eq_true, all_iff]
  intro h
  have := h 1 (by show 1 < sl.n; omega)
  exact absurd this (show ¬ openB 1 1 tOne = false by decide)
set_option maxHeartbeats 4000000 in
theorem awake_any (w : World) (hz : Cl.Sz w) : Calls Tryz.prog 25 #[] w fun e w' => e = .returned (.bool true) ∧ Below w.heap.size w w' := by
  have HZ := Lib.hid hz
  have CA := Lib.hid (fun W => asked_any kOne tOne W)
  rw [show askB kOne.ph kOne.ep tOne = true by kernel_rfl] at CA
  clear hz
  go_enter Tryz.func25, Tryz.ntmps25
  go_wp2_with fail
  refine (new_one w).mono ?_
  rintro e w1 ⟨s, rfl, hp1, hs1, hb1⟩
  have HS := Lib.hid hs1
  have HP := Lib.hid (And.intro hp1 hb1)
  clear hp1 hs1 hb1
  go_upto_region 4 with fail
  obtain ⟨W1, hW1⟩ : ∃ W1, W1 = ((w1.alloc (.cells #[.slice s.w.a s.w.n s.w.c, .slice s.p.a s.p.n s.p.c, .slice (s.u 0).a (s.u 0).n (s.u 0).c, .slice (s.u 1).a (s.u 1).n (s.u 1).c, .slice (s.u 2).a (s.u 2).n (s.u 2).c, .slice s.c.a s.c.n s.c.c] 28)).alloc (.cells #[.int .i64 1, .int .i64 1, .bool false, .slice none 0 0, .bool false, .int .i64 0, .int .i64 0, .int .i64 0, .int .i64 0, .bool false] 30)).alloc (.cells #[.bool true, .int .i64 0, .int .i64 0, .int .i64 0, .int .i64 0, .slice none 0 0, .slice none 0 0, .slice none 0 0, .int .i64 0, .int .i64 0, .int .i64 0, .slice none 0 0, .int .i64 0, .int .i64 0, .int .i64 0] 34) := ⟨_, rfl⟩
  have L1 : Hid (Lb w W1 (boxes3 w1.heap.size s kOne tOne ++ []) [qOne s] []) := Lib.hid (lb_three (k := kOne) (t := tOne) (Lb.held ⟨HP.out.2, fun x hx => (by cases hx), fun x hx => (by cases hx), fun x hx => (by cases hx)⟩ (hold_one HP.out.1)) hW1)
  rw [← hW1]
  clear hW1
  go_upto_region 6 with (first
    | (refine w_load (ldHb (L1.out.bx (w1.heap.size) (hv s) (by simp [boxes3]))) rfl rfl rfl rfl ?_)
    | (refine w_load (ldKb (L1.out.bx (w1.heap.size + 1) (kv kOne) (by simp [boxes3]))) rfl rfl rfl rfl ?_)
    | (refine w_load (ldTb (L1.out.bx (w1.heap.size + 2) (tv tOne) (by simp [boxes3]))) rfl rfl rfl rfl ?_)
    | (refine w_load (ldHb (L2.out.bx (w1.heap.size) (hv s) (by simp [boxes3]))) rfl rfl rfl rfl ?_)
    | (refine w_load (ldKb (L2.out.bx (w1.heap.size + 1) (kv kOne) (by simp [boxes3]))) rfl rfl rfl rfl ?_)
    | (refine w_load (ldTb (L2.out.bx (w1.heap.size + 2) (tv tOne) (by simp [boxes3]))) rfl rfl rfl rfl ?_)
    | ((go_at_call 33); refine (CA.out _).mono ?_; rintro e9 w2 ⟨rfl, hb9⟩; have L2 := Lib.hid (L1.out.next hb9); clear hb9)
    | ((go_at_call 27); refine (answer_any s kOne (own (qOne s)) (qOne s) _ (show Sim s kOne (own (qOne s)) (qOne s) from sim_own (qOne s)) (in_one (L2.out.at _ (by simp)) HS.out (L2.out.over HZ.out))).mono ?_; rintro e9 w3 ⟨n, rfl, hs9, _, _, _, _, hb9⟩; have L3 := Lib.hid (L2.out.next hb9); have N3 := Lib.hid (an_one s n hs9); clear hs9 hb9))
  obtain ⟨W4, hW4⟩ : ∃ W4, W4 = ((w3.alloc (.cells #[.slice n.s.w.a n.s.w.n n.s.w.c, .slice n.s.p.a n.s.p.n n.s.p.c, .slice (n.s.u 0).a (n.s.u 0).n (n.s.u 0).c, .slice (n.s.u 1).a (n.s.u 1).n (n.s.u 1).c, .slice (n.s.u 2).a (n.s.u 2).n (n.s.u 2).c, .slice n.s.c.a n.s.c.n n.s.c.c] 28)).alloc (.cells #[.int .i64 n.k.ph, .int .i64 n.k.ep, .bool n.k.mj, .slice n.k.wk.a n.k.wk.n n.k.wk.c, .bool n.k.ov, .int .i64 n.k.pa, .int .i64 n.k.pf, .int .i64 n.k.ps, .int .i64 n.k.pc, .bool n.k.me] 30)).alloc (.cells #[.bool n.t.lv, .int .i64 (n.t.r 0), .int .i64 (n.t.r 1), .int .i64 (n.t.r 2), .int .i64 (n.t.r 3), .slice (n.t.u 0).a (n.t.u 0).n (n.t.u 0).c, .slice (n.t.u 1).a (n.t.u 1).n (n.t.u 1).c, .slice (n.t.u 2).a (n.t.u 2).n (n.t.u 2).c, .int .i64 n.t.ep, .int .i64 n.t.sg, .int .i64 n.t.rt, .slice n.t.o.a n.t.o.n n.t.o.c, .int .i64 n.t.pc, .int .i64 n.t.x, .int .i64 n.t.y] 34) := ⟨_, rfl⟩
  have L4 : Hid (Lb w W4 (boxes3 w3.heap.size n.s n.k n.t ++ (boxes3 w1.heap.size s kOne tOne ++ [])) [qOne s] []) := Lib.hid (lb_three L3.out hW4)
  rw [← hW4]
  clear hW4 L1 L2 L3
  have q8 := (L4.out.bx (w3.heap.size + 2) (tv n.t) (by simp [boxes3])).cel 8 (.int .i64 1) (by rw [← N3.out.1]; rfl)
  have q9 := (L4.out.bx (w3.heap.size + 2) (tv n.t) (by simp [boxes3])).cel 9 (.int .i64 1) (by rw [← N3.out.2.1]; rfl)
  go_wp2_with (first
    | (refine w_loadg (ldKb (L4.out.bx (w1.heap.size + 1) (kv kOne) (by simp [boxes3]))) rfl (by kernel_rfl) rfl rfl ?_)
    | (refine w_loadg (ldTb (L4.out.bx (w3.heap.size + 2) (tv n.t) (by simp [boxes3]))) rfl (by kernel_rfl) rfl rfl ?_)
    | ((go_at_call 35); refine (all_any kOne ⟨⟨some ⟨W4.heap.size, 0, none⟩, 1, 1⟩, fun _ => n.t⟩ _ (one_new W4 n.t 34) (show 1 ≤ 1000000 by decide)).mono ?_; rintro e9 w5 ⟨he9, hb9⟩; rw [ans_one N3.out _ rfl] at he9; subst he9; have L5 := Lib.hid (L4.out.next (((Below.refl _ _).alloc (Nat.le_refl _) _).trans (hb9.mono (by simp)))); clear hb9 q8 q9)
    | (refine w_loadg (ldKb (L5.out.bx (w1.heap.size + 1) (kv kOne) (by simp [boxes3]))) rfl (by kernel_rfl) rfl rfl ?_)
    | (refine w_loadg (ldTb (L5.out.bx (w3.heap.size + 2) (tv n.t) (by simp [boxes3]))) rfl (by kernel_rfl) rfl rfl ?_)
    | (refine w_loadg (ldTb (L5.out.bx (w1.heap.size + 2) (tv tOne) (by simp [boxes3]))) rfl (by kernel_rfl) rfl rfl ?_)
    | ((go_at_call 35); refine (all_any kOne ⟨⟨some ⟨w5.heap.size, 0, none⟩, 2, 2⟩, fun i => if i = 0 then n.t else tOne⟩ _ (two_new w5 n.t tOne 34) (show 2 ≤ 1000000 by decide)).mono ?_; rintro e9 w6 ⟨he9, hb9⟩; rw [ans_two n _ rfl] at he9; subst he9; have L6 := Lib.hid (L5.out.next (((Below.refl _ _).alloc (Nat.le_refl _) _).trans (hb9.mono (by simp)))); clear hb9))
  go_ret
  exact ⟨rfl, L6.out.bel⟩
end Go.Proofs.YtgmkomnoiffapaaGreatDoor.Ha
