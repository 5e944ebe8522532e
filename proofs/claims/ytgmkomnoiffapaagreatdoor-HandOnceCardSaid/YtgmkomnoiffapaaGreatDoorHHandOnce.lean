/-
  HandOnce: An answer is one stage, or one register; what it told ahead it tells no more: for every heap of at most 9 pages and 130 words, every work list of at most 100, every thread of at most 220 operations; the table of sizes is tied to the program's text by the card.
-/
import Derived.Test.YtgmkomnoiffapaaGreatDoorHHaAwake
import Derived.Test.YtgmkomnoiffapaaGreatDoorHpHK
import Derived.Deep.Cut
import Derived.Deep.CutRange
import Derived.Deep.QuietTactic
import Derived.BigQuiet
namespace Go.Proofs.YtgmkomnoiffapaaGreatDoor.HandOnce
open Go.Proofs.YtgmkomnoiffapaaGreatDoor Go.Proofs.YtgmkomnoiffapaaGreatDoor.Rt Go.Proofs.YtgmkomnoiffapaaGreatDoor.Ha
open Go.ChangeShapes Go.WideShapes Go.ChangeAt Go.RowKit
open Go.Proofs.YtgmkomnoiffapaaGreatDoor.Mu (hv kv w_load w_loadg ldHb ldKb ldTb noHs0 noK0)
set_option maxRecDepth 100000

section
variable (s : Hs) (k : Sh.Ks) (t : Ts) (d : Hd_) (xs : List Int) (F : Nat → List Int) (g : Nat → O4) (w : World)
set_option maxHeartbeats 1000000 in
theorem walk_few (hf : fewA s k t = false) (hz : Cl.Sz w) (hp : Hp w w.heap.size s d) (hk : Sh.WRow w w.heap.size k xs) (ht : Th w w.heap.size t F g) : Calls Tryz.prog 10 #[(.agg #[.slice s.w.a s.w.n s.w.c, .slice s.p.a s.p.n s.p.c, .slice (s.u 0).a (s.u 0).n (s.u 0).c, .slice (s.u 1).a (s.u 1).n (s.u 1).c, .slice (s.u 2).a (s.u 2).n (s.u 2).c, .slice s.c.a s.c.n s.c.c]), (.agg #[.int .i64 k.ph, .int .i64 k.ep, .bool k.mj, .slice k.wk.a k.wk.n k.wk.c, .bool k.ov, .int .i64 k.pa, .int .i64 k.pf, .int .i64 k.ps, .int .i64 k.pc, .bool k.me]), (.agg #[.bool t.lv, .int .i64 (t.r 0), .int .i64 (t.r 1), .int .i64 (t.r 2), .int .i64 (t.r 3), .slice (t.u 0).a (t.u 0).n (t.u 0).c, .slice (t.u 1).a (t.u 1).n (t.u 1).c, .slice (t.u 2).a (t.u 2).n (t.u 2).c, .int .i64 t.ep, .int .i64 t.sg, .int .i64 t.rt, .slice t.o.a t.o.n t.o.c, .int .i64 t.pc, .int .i64 t.x, .int .i64 t.y])] w fun e w' => e = .returned (.bool true) ∧ Below w.heap.size w w' := by
  have HZ := Lib.hid hz
  have HH : Hid (Hold w ⟨s, k, t, d, xs, F, g⟩) := Lib.hid ⟨hp, hk, ht⟩
  have CF := Lib.hid (fun W => few_any s k t W)
  rw [hf] at CF
  clear hz hp hk ht hf
  go_enter Tryz.func10, Tryz.ntmps10
  go_upto_region 1 with fail
  obtain ⟨W1, hW1⟩ : ∃ W1, W1 = ((w.alloc (.cells #[.slice s.w.a s.w.n s.w.c, .slice s.p.a s.p.n s.p.c, .slice (s.u 0).a (s.u 0).n (s.u 0).c, .slice (s.u 1).a (s.u 1).n (s.u 1).c, .slice (s.u 2).a (s.u 2).n (s.u 2).c, .slice s.c.a s.c.n s.c.c] 28)).alloc (.cells #[.int .i64 k.ph, .int .i64 k.ep, .bool k.mj, .slice k.wk.a k.wk.n k.wk.c, .bool k.ov, .int .i64 k.pa, .int .i64 k.pf, .int .i64 k.ps, .int .i64 k.pc, .bool k.me] 30)).alloc (.cells #[.bool t.lv, .int .i64 (t.r 0), .int .i64 (t.r 1), .int .i64 (t.r 2), .int .i64 (t.r 3), .slice (t.u 0).a (t.u 0).n (t.u 0).c, .slice (t.u 1).a (t.u 1).n (t.u 1).c, .slice (t.u 2).a (t.u 2).n (t.u 2).c, .int .i64 t.ep, .int .i64 t.sg, .int .i64 t.rt, .slice t.o.a t.o.n t.o.c, .int .i64 t.pc, .int .i64 t.x, .int .i64 t.y] 34) := ⟨_, rfl⟩
  have L1 := Lib.hid (lb_three (s := s) (k := k) (t := t) (lb_start HH.out) hW1)
  rw [← hW1]
  clear hW1
  go_upto_region 3 with (first
    | ((go_at_call 25); (with_reducible refine (Ha.awake_any _ (L1.out.over HZ.out)).mono ?_); rintro e9 w1 ⟨rfl, hb9⟩; have L2 := Lib.hid (L1.out.next hb9); clear hb9)
    | (refine w_load (ldHb (L2.out.bx (w.heap.size) (hv s) (by simp [boxes3]))) rfl rfl rfl rfl ?_)
    | (refine w_load (ldKb (L2.out.bx (w.heap.size + 1) (kv k) (by simp [boxes3]))) rfl rfl rfl rfl ?_)
    | (refine w_load (ldTb (L2.out.bx (w.heap.size + 2) (tv t) (by simp [boxes3]))) rfl rfl rfl rfl ?_)
    | ((go_at_call 26); (with_reducible refine (CF.out _).mono ?_); rintro e9 w2 ⟨rfl, hb9⟩; have L3 := Lib.hid (L2.out.next hb9); clear hb9))
  go_wp2
  go_ret
  exact ⟨rfl, L3.out.bel⟩
set_option maxHeartbeats 1000000 in
theorem walk_not (hf : fewA s k t = true) (hA : askB k.ph k.ep t = false) (hz : Cl.Sz w) (hp : Hp w w.heap.size s d) (hk : Sh.WRow w w.heap.size k xs) (ht : Th w w.heap.size t F g) : Calls Tryz.prog 10 #[(.agg #[.slice s.w.a s.w.n s.w.c, .slice s.p.a s.p.n s.p.c, .slice (s.u 0).a (s.u 0).n (s.u 0).c, .slice (s.u 1).a (s.u 1).n (s.u 1).c, .slice (s.u 2).a (s.u 2).n (s.u 2).c, .slice s.c.a s.c.n s.c.c]), (.agg #[.int .i64 k.ph, .int .i64 k.ep, .bool k.mj, .slice k.wk.a k.wk.n k.wk.c, .bool k.ov, .int .i64 k.pa, .int .i64 k.pf, .int .i64 k.ps, .int .i64 k.pc, .bool k.me]), (.agg #[.bool t.lv, .int .i64 (t.r 0), .int .i64 (t.r 1), .int .i64 (t.r 2), .int .i64 (t.r 3), .slice (t.u 0).a (t.u 0).n (t.u 0).c, .slice (t.u 1).a (t.u 1).n (t.u 1).c, .slice (t.u 2).a (t.u 2).n (t.u 2).c, .int .i64 t.ep, .int .i64 t.sg, .int .i64 t.rt, .slice t.o.a t.o.n t.o.c, .int .i64 t.pc, .int .i64 t.x, .int .i64 t.y])] w fun e w' => e = .returned (.bool true) ∧ Below w.heap.size w w' := by
  have HZ := Lib.hid hz
  have HH : Hid (Hold w ⟨s, k, t, d, xs, F, g⟩) := Lib.hid ⟨hp, hk, ht⟩
  have CF := Lib.hid (fun W => few_any s k t W)
  rw [hf] at CF
  have CA := Lib.hid (fun W => asked_any k t W)
  rw [hA] at CA
  clear hz hp hk ht hf hA
  go_enter Tryz.func10, Tryz.ntmps10
  go_upto_region 1 with fail
  obtain ⟨W1, hW1⟩ : ∃ W1, W1 = ((w.alloc (.cells #[.slice s.w.a s.w.n s.w.c, .slice s.p.a s.p.n s.p.c, .slice (s.u 0).a (s.u 0).n (s.u 0).c, .slice (s.u 1).a (s.u 1).n (s.u 1).c, .slice (s.u 2).a (s.u 2).n (s.u 2).c, .slice s.c.a s.c.n s.c.c] 28)).alloc (.cells #[.int .i64 k.ph, .int .i64 k.ep, .bool k.mj, .slice k.wk.a k.wk.n k.wk.c, .bool k.ov, .int .i64 k.pa, .int .i64 k.pf, .int .i64 k.ps, .int .i64 k.pc, .bool k.me] 30)).alloc (.cells #[.bool t.lv, .int .i64 (t.r 0), .int .i64 (t.r 1), .int .i64 (t.r 2), .int .i64 (t.r 3), .slice (t.u 0).a (t.u 0).n (t.u 0).c, .slice (t.u 1).a (t.u 1).n (t.u 1).c, .slice (t.u 2).a (t.u 2).n (t.u 2).c, .int .i64 t.ep, .int .i64 t.sg, .int .i64 t.rt, .slice t.o.a t.o.n t.o.c, .int .i64 t.pc, .int .i64 t.x, .int .i64 t.y] 34) := ⟨_, rfl⟩
  have L1 := Lib.hid (lb_three (s := s) (k := k) (t := t) (lb_start HH.out) hW1)
  rw [← hW1]
  clear hW1
  go_upto_region 3 with (first
    | ((go_at_call 25); (with_reducible refine (Ha.awake_any _ (L1.out.over HZ.out)).mono ?_); rintro e9 w1 ⟨rfl, hb9⟩; have L2 := Lib.hid (L1.out.next hb9); clear hb9)
    | (refine w_load (ldHb (L2.out.bx (w.heap.size) (hv s) (by simp [boxes3]))) rfl rfl rfl rfl ?_)
    | (refine w_load (ldKb (L2.out.bx (w.heap.size + 1) (kv k) (by simp [boxes3]))) rfl rfl rfl rfl ?_)
    | (refine w_load (ldTb (L2.out.bx (w.heap.size + 2) (tv t) (by simp [boxes3]))) rfl rfl rfl rfl ?_)
    | ((go_at_call 26); (with_reducible refine (CF.out _).mono ?_); rintro e9 w2 ⟨rfl, hb9⟩; have L3 := Lib.hid (L2.out.next hb9); clear hb9))
  go_wp2_with (first
    | (refine w_loadg (ldKb (L3.out.bx (w.heap.size + 1) (kv k) (by simp [boxes3]))) rfl (by kernel_rfl) rfl rfl ?_)
    | (refine w_loadg (ldTb (L3.out.bx (w.heap.size + 2) (tv t) (by simp [boxes3]))) rfl (by kernel_rfl) rfl rfl ?_)
    | ((go_at_call 33); (with_reducible refine (CA.out _).mono ?_); rintro e9 w4 ⟨rfl, hb9⟩; have L4 := Lib.hid (L3.out.next hb9); clear hb9))
  go_ret
  exact ⟨rfl, L4.out.bel⟩
set_option maxHeartbeats 4000000 in
theorem walk_other (hf : fewA s k t = true) (hf64 : Fit64 d.ws) (hA : askB k.ph k.ep t = true) (he : ¬ t.ep = k.ep) (hz : Cl.Sz w) (hp : Hp w w.heap.size s d) (hk : Sh.WRow w w.heap.size k xs) (ht : Th w w.heap.size t F g) : Calls Tryz.prog 10 #[(.agg #[.slice s.w.a s.w.n s.w.c, .slice s.p.a s.p.n s.p.c, .slice (s.u 0).a (s.u 0).n (s.u 0).c, .slice (s.u 1).a (s.u 1).n (s.u 1).c, .slice (s.u 2).a (s.u 2).n (s.u 2).c, .slice s.c.a s.c.n s.c.c]), (.agg #[.int .i64 k.ph, .int .i64 k.ep, .bool k.mj, .slice k.wk.a k.wk.n k.wk.c, .bool k.ov, .int .i64 k.pa, .int .i64 k.pf, .int .i64 k.ps, .int .i64 k.pc, .bool k.me]), (.agg #[.bool t.lv, .int .i64 (t.r 0), .int .i64 (t.r 1), .int .i64 (t.r 2), .int .i64 (t.r 3), .slice (t.u 0).a (t.u 0).n (t.u 0).c, .slice (t.u 1).a (t.u 1).n (t.u 1).c, .slice (t.u 2).a (t.u 2).n (t.u 2).c, .int .i64 t.ep, .int .i64 t.sg, .int .i64 t.rt, .slice t.o.a t.o.n t.o.c, .int .i64 t.pc, .int .i64 t.x, .int .i64 t.y])] w fun e w' => e = .returned (.bool true) ∧ Below w.heap.size w w' := by
  have HZ := Lib.hid hz
  have HH : Hid (Hold w ⟨s, k, t, d, xs, F, g⟩) := Lib.hid ⟨hp, hk, ht⟩
  have CF := Lib.hid (fun W => few_any s k t W)
  rw [hf] at CF
  have HB := Lib.hid (bs_few (n := ⟨s, k, t, d, xs, F, g⟩) hf ⟨hp, hk, ht⟩ hf64)
  have CA := Lib.hid (fun W => asked_any k t W)
  rw [hA] at CA
  have C5 := Lib.hid (fun W (hL : Lb w W (boxes3 w.heap.size s k t ++ []) [⟨s, k, t, d, xs, F, g⟩] []) => answer_any s k (Ha.own ⟨s, k, t, d, xs, F, g⟩) ⟨s, k, t, d, xs, F, g⟩ W (sim_own ⟨s, k, t, d, xs, F, g⟩) (in_few HB.out (hL.at ⟨s, k, t, d, xs, F, g⟩ (by simp)) (hL.over hz)))
  have HX := Lib.hid (And.intro hA (And.intro hk.1 ht.o))
  have HC := Lib.hid ((once s (P := Ha.own ⟨s, k, t, d, xs, F, g⟩) hA).1 he)
  have ea : decide (t.ep = k.ep) = false := decide_eq_false (he)
  have eb : (t.ep == k.ep) = false := ea
  have ec : (t.ep != k.ep) = true := by simp only [bne, eb]; rfl
  have hb : (k.ep == k.ep) = true := by simp
  have hc : (k.ep != k.ep) = false := by simp
  have HD := Lib.hid (fewA_len hf)
  clear hz hp hk ht hf hf64 hA he
  go_enter Tryz.func10, Tryz.ntmps10
  go_upto_region 1 with fail
  obtain ⟨W1, hW1⟩ : ∃ W1, W1 = ((w.alloc (.cells #[.slice s.w.a s.w.n s.w.c, .slice s.p.a s.p.n s.p.c, .slice (s.u 0).a (s.u 0).n (s.u 0).c, .slice (s.u 1).a (s.u 1).n (s.u 1).c, .slice (s.u 2).a (s.u 2).n (s.u 2).c, .slice s.c.a s.c.n s.c.c] 28)).alloc (.cells #[.int .i64 k.ph, .int .i64 k.ep, .bool k.mj, .slice k.wk.a k.wk.n k.wk.c, .bool k.ov, .int .i64 k.pa, .int .i64 k.pf, .int .i64 k.ps, .int .i64 k.pc, .bool k.me] 30)).alloc (.cells #[.bool t.lv, .int .i64 (t.r 0), .int .i64 (t.r 1), .int .i64 (t.r 2), .int .i64 (t.r 3), .slice (t.u 0).a (t.u 0).n (t.u 0).c, .slice (t.u 1).a (t.u 1).n (t.u 1).c, .slice (t.u 2).a (t.u 2).n (t.u 2).c, .int .i64 t.ep, .int .i64 t.sg, .int .i64 t.rt, .slice t.o.a t.o.n t.o.c, .int .i64 t.pc, .int .i64 t.x, .int .i64 t.y] 34) := ⟨_, rfl⟩
  have L1 := Lib.hid (lb_three (s := s) (k := k) (t := t) (lb_start HH.out) hW1)
  rw [← hW1]
  clear hW1
  go_upto_region 3 with (first
    | ((go_at_call 25); (with_reducible refine (Ha.awake_any _ (L1.out.over HZ.out)).mono ?_); rintro e9 w1 ⟨rfl, hb9⟩; have L2 := Lib.hid (L1.out.next hb9); clear hb9)
    | (refine w_load (ldHb (L2.out.bx (w.heap.size) (hv s) (by simp [boxes3]))) rfl rfl rfl rfl ?_)
    | (refine w_load (ldKb (L2.out.bx (w.heap.size + 1) (kv k) (by simp [boxes3]))) rfl rfl rfl rfl ?_)
    | (refine w_load (ldTb (L2.out.bx (w.heap.size + 2) (tv t) (by simp [boxes3]))) rfl rfl rfl rfl ?_)
    | ((go_at_call 26); (with_reducible refine (CF.out _).mono ?_); rintro e9 w2 ⟨rfl, hb9⟩; have L3 := Lib.hid (L2.out.next hb9); clear hb9))
  go_upto_region 6 with (first
    | (refine w_loadg (ldKb (L3.out.bx (w.heap.size + 1) (kv k) (by simp [boxes3]))) rfl (by kernel_rfl) rfl rfl ?_)
    | (refine w_loadg (ldTb (L3.out.bx (w.heap.size + 2) (tv t) (by simp [boxes3]))) rfl (by kernel_rfl) rfl rfl ?_)
    | ((go_at_call 33); (with_reducible refine (CA.out _).mono ?_); rintro e9 w4 ⟨rfl, hb9⟩; have L4 := Lib.hid (L3.out.next hb9); clear hb9)
    | (refine w_load (ldHb (L4.out.bx (w.heap.size) (hv s) (by simp [boxes3]))) rfl rfl rfl rfl ?_)
    | (refine w_load (ldKb (L4.out.bx (w.heap.size + 1) (kv k) (by simp [boxes3]))) rfl rfl rfl rfl ?_)
    | (refine w_load (ldTb (L4.out.bx (w.heap.size + 2) (tv t) (by simp [boxes3]))) rfl rfl rfl rfl ?_)
    | ((go_at_call 27); (with_reducible refine (C5.out _ L4.out).mono ?_); rintro e9 w5 ⟨n, rfl, hs9, hF9, hg9, hh9, _, hb9⟩; have L5 := Lib.hid (L4.out.next hb9); have I5 := Lib.hid hs9; have O5 := Lib.hid (once_all s HX.out.1 hs9 hh9 HX.out.2.1); have F5 := Lib.hid hs9.fs; clear hs9 hF9 hg9 hh9 hb9))
  obtain ⟨W6', hW4⟩ : ∃ W6', W6' = ((w5.alloc (.cells #[.slice n.s.w.a n.s.w.n n.s.w.c, .slice n.s.p.a n.s.p.n n.s.p.c, .slice (n.s.u 0).a (n.s.u 0).n (n.s.u 0).c, .slice (n.s.u 1).a (n.s.u 1).n (n.s.u 1).c, .slice (n.s.u 2).a (n.s.u 2).n (n.s.u 2).c, .slice n.s.c.a n.s.c.n n.s.c.c] 28)).alloc (.cells #[.int .i64 n.k.ph, .int .i64 n.k.ep, .bool n.k.mj, .slice n.k.wk.a n.k.wk.n n.k.wk.c, .bool n.k.ov, .int .i64 n.k.pa, .int .i64 n.k.pf, .int .i64 n.k.ps, .int .i64 n.k.pc, .bool n.k.me] 30)).alloc (.cells #[.bool n.t.lv, .int .i64 (n.t.r 0), .int .i64 (n.t.r 1), .int .i64 (n.t.r 2), .int .i64 (n.t.r 3), .slice (n.t.u 0).a (n.t.u 0).n (n.t.u 0).c, .slice (n.t.u 1).a (n.t.u 1).n (n.t.u 1).c, .slice (n.t.u 2).a (n.t.u 2).n (n.t.u 2).c, .int .i64 n.t.ep, .int .i64 n.t.sg, .int .i64 n.t.rt, .slice n.t.o.a n.t.o.n n.t.o.c, .int .i64 n.t.pc, .int .i64 n.t.x, .int .i64 n.t.y] 34) := ⟨_, rfl⟩
  have L6 := Lib.hid (lb_three (s := n.s) (k := n.k) (t := n.t) L5.out hW4)
  rw [← hW4]
  clear hW4 L5
  have a1 : n.t.lv = true := O5.out.1
  have a2 : n.t.pc = 0 := O5.out.2.1
  have a3 : n.t.r = t.r := O5.out.2.2.1
  have a4 : n.t.o.n = t.o.n := O5.out.2.2.2.1
  have a5 : n.k.wk.n ≤ k.wk.n + 1 := O5.out.2.2.2.2
  have f1 := F5.out.1
  have f2 := F5.out.2.1
  have f3 := F5.out.2.2
  have ra := fun W => regs_nself (t.r 0) (t.r 1) (t.r 2) (t.r 3) W
  have g1 : IntKind.i64.wrap ((k.wk.n : Int) + 1) = (k.wk.n : Int) + 1 := IntWalk.i64_in _ (by have := HD.out.1; omega)
  have g2 : decide ((k.wk.n : Int) + 1 < (n.k.wk.n : Int)) = false := decide_eq_false (by omega)
  have g3 : decide ((n.k.wk.n : Int) > (k.wk.n : Int) + 1) = false := g2
  have g4 : ((t.o.n : Int) != (t.o.n : Int)) = false := by simp
  have q0 := (L6.out.bx (w5.heap.size + 2) (tv n.t) (by simp [boxes3])).cel 0 (.bool true) (by rw [← a1]; rfl)
  have q1 := (L6.out.bx (w5.heap.size + 2) (tv n.t) (by simp [boxes3])).cel 1 (.int .i64 (t.r 0)) (by rw [← a3]; rfl)
  have q2 := (L6.out.bx (w5.heap.size + 2) (tv n.t) (by simp [boxes3])).cel 2 (.int .i64 (t.r 1)) (by rw [← a3]; rfl)
  have q3 := (L6.out.bx (w5.heap.size + 2) (tv n.t) (by simp [boxes3])).cel 3 (.int .i64 (t.r 2)) (by rw [← a3]; rfl)
  have q4 := (L6.out.bx (w5.heap.size + 2) (tv n.t) (by simp [boxes3])).cel 4 (.int .i64 (t.r 3)) (by rw [← a3]; rfl)
  have q5 := (L6.out.bx (w5.heap.size + 2) (tv n.t) (by simp [boxes3])).cel 8 (.int .i64 k.ep) (by rw [← HC.out.1, ← f1]; rfl)
  have q6 := (L6.out.bx (w5.heap.size + 2) (tv n.t) (by simp [boxes3])).cel 9 (.int .i64 1) (by rw [← HC.out.2.1, ← f2]; rfl)
  have q7 := (L6.out.bx (w5.heap.size + 2) (tv n.t) (by simp [boxes3])).cel 10 (.int .i64 0) (by rw [← HC.out.2.2, ← f3]; rfl)
  have q8 := (L6.out.bx (w5.heap.size + 2) (tv n.t) (by simp [boxes3])).cel 11 (.slice n.t.o.a t.o.n n.t.o.c) (by rw [← a4]; rfl)
  have q9 := (L6.out.bx (w5.heap.size + 2) (tv n.t) (by simp [boxes3])).cel 12 (.int .i64 0) (by rw [← a2]; rfl)
  have q10 := (L6.out.bx (w5.heap.size + 1) (kv n.k) (by simp [boxes3])).cel 3 (.slice n.k.wk.a n.k.wk.n n.k.wk.c) (rfl)
  have q11 := (L6.out.bx (w.heap.size + 2) (tv t) (by simp [boxes3])).cel 1 (.int .i64 (t.r 0)) (rfl)
  have q12 := (L6.out.bx (w.heap.size + 2) (tv t) (by simp [boxes3])).cel 2 (.int .i64 (t.r 1)) (rfl)
  have q13 := (L6.out.bx (w.heap.size + 2) (tv t) (by simp [boxes3])).cel 3 (.int .i64 (t.r 2)) (rfl)
  have q14 := (L6.out.bx (w.heap.size + 2) (tv t) (by simp [boxes3])).cel 4 (.int .i64 (t.r 3)) (rfl)
  have q15 := (L6.out.bx (w.heap.size + 2) (tv t) (by simp [boxes3])).cel 8 (.int .i64 t.ep) (rfl)
  have q16 := (L6.out.bx (w.heap.size + 2) (tv t) (by simp [boxes3])).cel 9 (.int .i64 t.sg) (rfl)
  have q17 := (L6.out.bx (w.heap.size + 2) (tv t) (by simp [boxes3])).cel 10 (.int .i64 t.rt) (rfl)
  have q18 := (L6.out.bx (w.heap.size + 2) (tv t) (by simp [boxes3])).cel 11 (.slice t.o.a t.o.n t.o.c) (rfl)
  have q19 := (L6.out.bx (w.heap.size + 1) (kv k) (by simp [boxes3])).cel 0 (.int .i64 k.ph) (rfl)
  have q20 := (L6.out.bx (w.heap.size + 1) (kv k) (by simp [boxes3])).cel 1 (.int .i64 k.ep) (rfl)
  have q21 := (L6.out.bx (w.heap.size + 1) (kv k) (by simp [boxes3])).cel 3 (.slice k.wk.a k.wk.n k.wk.c) (rfl)
  clear a1 a2 a3 a4 a5 f1 f2 f3
  go_wp2
  go_ret
  exact ⟨rfl, L6.out.bel⟩
set_option maxHeartbeats 4000000 in
theorem walk_settle (hf : fewA s k t = true) (hf64 : Fit64 d.ws) (hA : askB k.ph k.ep t = true) (he : t.ep = k.ep) (hs : ¬ (anS s k (Ha.own ⟨s, k, t, d, xs, F, g⟩)).t.sg = t.sg) (h2 : k.ph = 2) (hz : Cl.Sz w) (hp : Hp w w.heap.size s d) (hk : Sh.WRow w w.heap.size k xs) (ht : Th w w.heap.size t F g) : Calls Tryz.prog 10 #[(.agg #[.slice s.w.a s.w.n s.w.c, .slice s.p.a s.p.n s.p.c, .slice (s.u 0).a (s.u 0).n (s.u 0).c, .slice (s.u 1).a (s.u 1).n (s.u 1).c, .slice (s.u 2).a (s.u 2).n (s.u 2).c, .slice s.c.a s.c.n s.c.c]), (.agg #[.int .i64 k.ph, .int .i64 k.ep, .bool k.mj, .slice k.wk.a k.wk.n k.wk.c, .bool k.ov, .int .i64 k.pa, .int .i64 k.pf, .int .i64 k.ps, .int .i64 k.pc, .bool k.me]), (.agg #[.bool t.lv, .int .i64 (t.r 0), .int .i64 (t.r 1), .int .i64 (t.r 2), .int .i64 (t.r 3), .slice (t.u 0).a (t.u 0).n (t.u 0).c, .slice (t.u 1).a (t.u 1).n (t.u 1).c, .slice (t.u 2).a (t.u 2).n (t.u 2).c, .int .i64 t.ep, .int .i64 t.sg, .int .i64 t.rt, .slice t.o.a t.o.n t.o.c, .int .i64 t.pc, .int .i64 t.x, .int .i64 t.y])] w fun e w' => e = .returned (.bool true) ∧ Below w.heap.size w w' := by
  have HZ := Lib.hid hz
  have HH : Hid (Hold w ⟨s, k, t, d, xs, F, g⟩) := Lib.hid ⟨hp, hk, ht⟩
  have CF := Lib.hid (fun W => few_any s k t W)
  rw [hf] at CF
  have HB := Lib.hid (bs_few (n := ⟨s, k, t, d, xs, F, g⟩) hf ⟨hp, hk, ht⟩ hf64)
  have CA := Lib.hid (fun W => asked_any k t W)
  rw [hA] at CA
  have C5 := Lib.hid (fun W (hL : Lb w W (boxes3 w.heap.size s k t ++ []) [⟨s, k, t, d, xs, F, g⟩] []) => answer_any s k (Ha.own ⟨s, k, t, d, xs, F, g⟩) ⟨s, k, t, d, xs, F, g⟩ W (sim_own ⟨s, k, t, d, xs, F, g⟩) (in_few HB.out (hL.at ⟨s, k, t, d, xs, F, g⟩ (by simp)) (hL.over hz)))
  have HX := Lib.hid (And.intro hA (And.intro hk.1 ht.o))
  have HC := Lib.hid (And.intro ((once s (P := Ha.own ⟨s, k, t, d, xs, F, g⟩) hA).2.1 he).1 (And.intro (((once s (P := Ha.own ⟨s, k, t, d, xs, F, g⟩) hA).2.1 he).2.1 hs).1 trivial))
  have ea : decide (t.ep = k.ep) = true := decide_eq_true (he)
  have eb : (t.ep == k.ep) = true := ea
  have ec : (t.ep != k.ep) = false := by simp only [bne, eb]; rfl
  have hb : (t.ep == t.ep) = true := by simp
  have hc : (t.ep != t.ep) = false := by simp
  have pa : decide (k.ph = 2) = true := decide_eq_true (h2)
  have pb : (k.ph == 2) = true := pa
  have pc : (k.ph != 2) = false := by simp only [bne, pb]; rfl
  have sa : decide ((anS s k (Ha.own ⟨s, k, t, d, xs, F, g⟩)).t.sg = t.sg) = false := decide_eq_false (hs)
  have sb : ((anS s k (Ha.own ⟨s, k, t, d, xs, F, g⟩)).t.sg == t.sg) = false := sa
  have sc : ((anS s k (Ha.own ⟨s, k, t, d, xs, F, g⟩)).t.sg != t.sg) = true := by simp only [bne, sb]; rfl
  have l0 : decide (t.sg < (anS s k (Ha.own ⟨s, k, t, d, xs, F, g⟩)).t.sg) = true := decide_eq_true (HC.out.2.1)
  have l1 : decide ((anS s k (Ha.own ⟨s, k, t, d, xs, F, g⟩)).t.sg > t.sg) = true := l0
  have HD := Lib.hid (fewA_len hf)
  clear hz hp hk ht hf hf64 hA he hs h2
  go_enter Tryz.func10, Tryz.ntmps10
  go_upto_region 1 with fail
  obtain ⟨W1, hW1⟩ : ∃ W1, W1 = ((w.alloc (.cells #[.slice s.w.a s.w.n s.w.c, .slice s.p.a s.p.n s.p.c, .slice (s.u 0).a (s.u 0).n (s.u 0).c, .slice (s.u 1).a (s.u 1).n (s.u 1).c, .slice (s.u 2).a (s.u 2).n (s.u 2).c, .slice s.c.a s.c.n s.c.c] 28)).alloc (.cells #[.int .i64 k.ph, .int .i64 k.ep, .bool k.mj, .slice k.wk.a k.wk.n k.wk.c, .bool k.ov, .int .i64 k.pa, .int .i64 k.pf, .int .i64 k.ps, .int .i64 k.pc, .bool k.me] 30)).alloc (.cells #[.bool t.lv, .int .i64 (t.r 0), .int .i64 (t.r 1), .int .i64 (t.r 2), .int .i64 (t.r 3), .slice (t.u 0).a (t.u 0).n (t.u 0).c, .slice (t.u 1).a (t.u 1).n (t.u 1).c, .slice (t.u 2).a (t.u 2).n (t.u 2).c, .int .i64 t.ep, .int .i64 t.sg, .int .i64 t.rt, .slice t.o.a t.o.n t.o.c, .int .i64 t.pc, .int .i64 t.x, .int .i64 t.y] 34) := ⟨_, rfl⟩
  have L1 := Lib.hid (lb_three (s := s) (k := k) (t := t) (lb_start HH.out) hW1)
  rw [← hW1]
  clear hW1
  go_upto_region 3 with (first
    | ((go_at_call 25); (with_reducible refine (Ha.awake_any _ (L1.out.over HZ.out)).mono ?_); rintro e9 w1 ⟨rfl, hb9⟩; have L2 := Lib.hid (L1.out.next hb9); clear hb9)
    | (refine w_load (ldHb (L2.out.bx (w.heap.size) (hv s) (by simp [boxes3]))) rfl rfl rfl rfl ?_)
    | (refine w_load (ldKb (L2.out.bx (w.heap.size + 1) (kv k) (by simp [boxes3]))) rfl rfl rfl rfl ?_)
    | (refine w_load (ldTb (L2.out.bx (w.heap.size + 2) (tv t) (by simp [boxes3]))) rfl rfl rfl rfl ?_)
    | ((go_at_call 26); (with_reducible refine (CF.out _).mono ?_); rintro e9 w2 ⟨rfl, hb9⟩; have L3 := Lib.hid (L2.out.next hb9); clear hb9))
  go_upto_region 6 with (first
    | (refine w_loadg (ldKb (L3.out.bx (w.heap.size + 1) (kv k) (by simp [boxes3]))) rfl (by kernel_rfl) rfl rfl ?_)
    | (refine w_loadg (ldTb (L3.out.bx (w.heap.size + 2) (tv t) (by simp [boxes3]))) rfl (by kernel_rfl) rfl rfl ?_)
    | ((go_at_call 33); (with_reducible refine (CA.out _).mono ?_); rintro e9 w4 ⟨rfl, hb9⟩; have L4 := Lib.hid (L3.out.next hb9); clear hb9)
    | (refine w_load (ldHb (L4.out.bx (w.heap.size) (hv s) (by simp [boxes3]))) rfl rfl rfl rfl ?_)
    | (refine w_load (ldKb (L4.out.bx (w.heap.size + 1) (kv k) (by simp [boxes3]))) rfl rfl rfl rfl ?_)
    | (refine w_load (ldTb (L4.out.bx (w.heap.size + 2) (tv t) (by simp [boxes3]))) rfl rfl rfl rfl ?_)
    | ((go_at_call 27); (with_reducible refine (C5.out _ L4.out).mono ?_); rintro e9 w5 ⟨n, rfl, hs9, hF9, hg9, hh9, _, hb9⟩; have L5 := Lib.hid (L4.out.next hb9); have I5 := Lib.hid hs9; have O5 := Lib.hid (once_all s HX.out.1 hs9 hh9 HX.out.2.1); have F5 := Lib.hid hs9.fs; clear hs9 hF9 hg9 hh9 hb9))
  obtain ⟨W6', hW4⟩ : ∃ W6', W6' = ((w5.alloc (.cells #[.slice n.s.w.a n.s.w.n n.s.w.c, .slice n.s.p.a n.s.p.n n.s.p.c, .slice (n.s.u 0).a (n.s.u 0).n (n.s.u 0).c, .slice (n.s.u 1).a (n.s.u 1).n (n.s.u 1).c, .slice (n.s.u 2).a (n.s.u 2).n (n.s.u 2).c, .slice n.s.c.a n.s.c.n n.s.c.c] 28)).alloc (.cells #[.int .i64 n.k.ph, .int .i64 n.k.ep, .bool n.k.mj, .slice n.k.wk.a n.k.wk.n n.k.wk.c, .bool n.k.ov, .int .i64 n.k.pa, .int .i64 n.k.pf, .int .i64 n.k.ps, .int .i64 n.k.pc, .bool n.k.me] 30)).alloc (.cells #[.bool n.t.lv, .int .i64 (n.t.r 0), .int .i64 (n.t.r 1), .int .i64 (n.t.r 2), .int .i64 (n.t.r 3), .slice (n.t.u 0).a (n.t.u 0).n (n.t.u 0).c, .slice (n.t.u 1).a (n.t.u 1).n (n.t.u 1).c, .slice (n.t.u 2).a (n.t.u 2).n (n.t.u 2).c, .int .i64 n.t.ep, .int .i64 n.t.sg, .int .i64 n.t.rt, .slice n.t.o.a n.t.o.n n.t.o.c, .int .i64 n.t.pc, .int .i64 n.t.x, .int .i64 n.t.y] 34) := ⟨_, rfl⟩
  have L6 := Lib.hid (lb_three (s := n.s) (k := n.k) (t := n.t) L5.out hW4)
  rw [← hW4]
  clear hW4 L5
  have a1 : n.t.lv = true := O5.out.1
  have a2 : n.t.pc = 0 := O5.out.2.1
  have a3 : n.t.r = t.r := O5.out.2.2.1
  have a4 : n.t.o.n = t.o.n := O5.out.2.2.2.1
  have a5 : n.k.wk.n ≤ k.wk.n + 1 := O5.out.2.2.2.2
  have f1 := F5.out.1
  have f2 := F5.out.2.1
  have f3 := F5.out.2.2
  have ra := fun W => regs_nself (t.r 0) (t.r 1) (t.r 2) (t.r 3) W
  have g1 : IntKind.i64.wrap ((k.wk.n : Int) + 1) = (k.wk.n : Int) + 1 := IntWalk.i64_in _ (by have := HD.out.1; omega)
  have g2 : decide ((k.wk.n : Int) + 1 < (n.k.wk.n : Int)) = false := decide_eq_false (by omega)
  have g3 : decide ((n.k.wk.n : Int) > (k.wk.n : Int) + 1) = false := g2
  have g4 : ((t.o.n : Int) != (t.o.n : Int)) = false := by simp
  have q0 := (L6.out.bx (w5.heap.size + 2) (tv n.t) (by simp [boxes3])).cel 0 (.bool true) (by rw [← a1]; rfl)
  have q1 := (L6.out.bx (w5.heap.size + 2) (tv n.t) (by simp [boxes3])).cel 1 (.int .i64 (t.r 0)) (by rw [← a3]; rfl)
  have q2 := (L6.out.bx (w5.heap.size + 2) (tv n.t) (by simp [boxes3])).cel 2 (.int .i64 (t.r 1)) (by rw [← a3]; rfl)
  have q3 := (L6.out.bx (w5.heap.size + 2) (tv n.t) (by simp [boxes3])).cel 3 (.int .i64 (t.r 2)) (by rw [← a3]; rfl)
  have q4 := (L6.out.bx (w5.heap.size + 2) (tv n.t) (by simp [boxes3])).cel 4 (.int .i64 (t.r 3)) (by rw [← a3]; rfl)
  have q5 := (L6.out.bx (w5.heap.size + 2) (tv n.t) (by simp [boxes3])).cel 8 (.int .i64 t.ep) (by rw [← show (anS s k (Ha.own ⟨s, k, t, d, xs, F, g⟩)).t.ep = t.ep from HC.out.1, ← f1]; rfl)
  have q6 := (L6.out.bx (w5.heap.size + 2) (tv n.t) (by simp [boxes3])).cel 9 (.int .i64 (anS s k (Ha.own ⟨s, k, t, d, xs, F, g⟩)).t.sg) (by rw [← f2]; rfl)
  have q7 := (L6.out.bx (w5.heap.size + 2) (tv n.t) (by simp [boxes3])).cel 10 (.int .i64 (anS s k (Ha.own ⟨s, k, t, d, xs, F, g⟩)).t.rt) (by rw [← f3]; rfl)
  have q8 := (L6.out.bx (w5.heap.size + 2) (tv n.t) (by simp [boxes3])).cel 11 (.slice n.t.o.a t.o.n n.t.o.c) (by rw [← a4]; rfl)
  have q9 := (L6.out.bx (w5.heap.size + 2) (tv n.t) (by simp [boxes3])).cel 12 (.int .i64 0) (by rw [← a2]; rfl)
  have q10 := (L6.out.bx (w5.heap.size + 1) (kv n.k) (by simp [boxes3])).cel 3 (.slice n.k.wk.a n.k.wk.n n.k.wk.c) (rfl)
  have q11 := (L6.out.bx (w.heap.size + 2) (tv t) (by simp [boxes3])).cel 1 (.int .i64 (t.r 0)) (rfl)
  have q12 := (L6.out.bx (w.heap.size + 2) (tv t) (by simp [boxes3])).cel 2 (.int .i64 (t.r 1)) (rfl)
  have q13 := (L6.out.bx (w.heap.size + 2) (tv t) (by simp [boxes3])).cel 3 (.int .i64 (t.r 2)) (rfl)
  have q14 := (L6.out.bx (w.heap.size + 2) (tv t) (by simp [boxes3])).cel 4 (.int .i64 (t.r 3)) (rfl)
  have q15 := (L6.out.bx (w.heap.size + 2) (tv t) (by simp [boxes3])).cel 8 (.int .i64 t.ep) (rfl)
  have q16 := (L6.out.bx (w.heap.size + 2) (tv t) (by simp [boxes3])).cel 9 (.int .i64 t.sg) (rfl)
  have q17 := (L6.out.bx (w.heap.size + 2) (tv t) (by simp [boxes3])).cel 10 (.int .i64 t.rt) (rfl)
  have q18 := (L6.out.bx (w.heap.size + 2) (tv t) (by simp [boxes3])).cel 11 (.slice t.o.a t.o.n t.o.c) (rfl)
  have q19 := (L6.out.bx (w.heap.size + 1) (kv k) (by simp [boxes3])).cel 0 (.int .i64 k.ph) (rfl)
  have q20 := (L6.out.bx (w.heap.size + 1) (kv k) (by simp [boxes3])).cel 1 (.int .i64 k.ep) (rfl)
  have q21 := (L6.out.bx (w.heap.size + 1) (kv k) (by simp [boxes3])).cel 3 (.slice k.wk.a k.wk.n k.wk.c) (rfl)
  clear a1 a2 a3 a4 a5 f1 f2 f3
  go_wp2
  go_ret
  exact ⟨rfl, L6.out.bel⟩
set_option maxHeartbeats 4000000 in
theorem walk_roots (hf : fewA s k t = true) (hf64 : Fit64 d.ws) (hA : askB k.ph k.ep t = true) (he : t.ep = k.ep) (hs : ¬ (anS s k (Ha.own ⟨s, k, t, d, xs, F, g⟩)).t.sg = t.sg) (h2 : ¬ k.ph = 2) (hz : Cl.Sz w) (hp : Hp w w.heap.size s d) (hk : Sh.WRow w w.heap.size k xs) (ht : Th w w.heap.size t F g) : Calls Tryz.prog 10 #[(.agg #[.slice s.w.a s.w.n s.w.c, .slice s.p.a s.p.n s.p.c, .slice (s.u 0).a (s.u 0).n (s.u 0).c, .slice (s.u 1).a (s.u 1).n (s.u 1).c, .slice (s.u 2).a (s.u 2).n (s.u 2).c, .slice s.c.a s.c.n s.c.c]), (.agg #[.int .i64 k.ph, .int .i64 k.ep, .bool k.mj, .slice k.wk.a k.wk.n k.wk.c, .bool k.ov, .int .i64 k.pa, .int .i64 k.pf, .int .i64 k.ps, .int .i64 k.pc, .bool k.me]), (.agg #[.bool t.lv, .int .i64 (t.r 0), .int .i64 (t.r 1), .int .i64 (t.r 2), .int .i64 (t.r 3), .slice (t.u 0).a (t.u 0).n (t.u 0).c, .slice (t.u 1).a (t.u 1).n (t.u 1).c, .slice (t.u 2).a (t.u 2).n (t.u 2).c, .int .i64 t.ep, .int .i64 t.sg, .int .i64 t.rt, .slice t.o.a t.o.n t.o.c, .int .i64 t.pc, .int .i64 t.x, .int .i64 t.y])] w fun e w' => e = .returned (.bool true) ∧ Below w.heap.size w w' := by
  have HZ := Lib.hid hz
  have HH : Hid (Hold w ⟨s, k, t, d, xs, F, g⟩) := Lib.hid ⟨hp, hk, ht⟩
  have CF := Lib.hid (fun W => few_any s k t W)
  rw [hf] at CF
  have HB := Lib.hid (bs_few (n := ⟨s, k, t, d, xs, F, g⟩) hf ⟨hp, hk, ht⟩ hf64)
  have CA := Lib.hid (fun W => asked_any k t W)
  rw [hA] at CA
  have C5 := Lib.hid (fun W (hL : Lb w W (boxes3 w.heap.size s k t ++ []) [⟨s, k, t, d, xs, F, g⟩] []) => answer_any s k (Ha.own ⟨s, k, t, d, xs, F, g⟩) ⟨s, k, t, d, xs, F, g⟩ W (sim_own ⟨s, k, t, d, xs, F, g⟩) (in_few HB.out (hL.at ⟨s, k, t, d, xs, F, g⟩ (by simp)) (hL.over hz)))
  have HX := Lib.hid (And.intro hA (And.intro hk.1 ht.o))
  have HC := Lib.hid (And.intro ((once s (P := Ha.own ⟨s, k, t, d, xs, F, g⟩) hA).2.1 he).1 (And.intro (((once s (P := Ha.own ⟨s, k, t, d, xs, F, g⟩) hA).2.1 he).2.1 hs).1 ((((once s (P := Ha.own ⟨s, k, t, d, xs, F, g⟩) hA).2.1 he).2.1 hs).2.resolve_left h2)))
  have ea : decide (t.ep = k.ep) = true := decide_eq_true (he)
  have eb : (t.ep == k.ep) = true := ea
  have ec : (t.ep != k.ep) = false := by simp only [bne, eb]; rfl
  have hb : (t.ep == t.ep) = true := by simp
  have hc : (t.ep != t.ep) = false := by simp
  have pa : decide (k.ph = 2) = false := decide_eq_false (h2)
  have pb : (k.ph == 2) = false := pa
  have pc : (k.ph != 2) = true := by simp only [bne, pb]; rfl
  have sa : decide ((anS s k (Ha.own ⟨s, k, t, d, xs, F, g⟩)).t.sg = t.sg) = false := decide_eq_false (hs)
  have sb : ((anS s k (Ha.own ⟨s, k, t, d, xs, F, g⟩)).t.sg == t.sg) = false := sa
  have sc : ((anS s k (Ha.own ⟨s, k, t, d, xs, F, g⟩)).t.sg != t.sg) = true := by simp only [bne, sb]; rfl
  have l0 : decide (t.sg < (anS s k (Ha.own ⟨s, k, t, d, xs, F, g⟩)).t.sg) = true := decide_eq_true (HC.out.2.1)
  have l1 : decide ((anS s k (Ha.own ⟨s, k, t, d, xs, F, g⟩)).t.sg > t.sg) = true := l0
  have HD := Lib.hid (fewA_len hf)
  clear hz hp hk ht hf hf64 hA he hs h2
  go_enter Tryz.func10, Tryz.ntmps10
  go_upto_region 1 with fail
  obtain ⟨W1, hW1⟩ : ∃ W1, W1 = ((w.alloc (.cells #[.slice s.w.a s.w.n s.w.c, .slice s.p.a s.p.n s.p.c, .slice (s.u 0).a (s.u 0).n (s.u 0).c, .slice (s.u 1).a (s.u 1).n (s.u 1).c, .slice (s.u 2).a (s.u 2).n (s.u 2).c, .slice s.c.a s.c.n s.c.c] 28)).alloc (.cells #[.int .i64 k.ph, .int .i64 k.ep, .bool k.mj, .slice k.wk.a k.wk.n k.wk.c, .bool k.ov, .int .i64 k.pa, .int .i64 k.pf, .int .i64 k.ps, .int .i64 k.pc, .bool k.me] 30)).alloc (.cells #[.bool t.lv, .int .i64 (t.r 0), .int .i64 (t.r 1), .int .i64 (t.r 2), .int .i64 (t.r 3), .slice (t.u 0).a (t.u 0).n (t.u 0).c, .slice (t.u 1).a (t.u 1).n (t.u 1).c, .slice (t.u 2).a (t.u 2).n (t.u 2).c, .int .i64 t.ep, .int .i64 t.sg, .int .i64 t.rt, .slice t.o.a t.o.n t.o.c, .int .i64 t.pc, .int .i64 t.x, .int .i64 t.y] 34) := ⟨_, rfl⟩
  have L1 := Lib.hid (lb_three (s := s) (k := k) (t := t) (lb_start HH.out) hW1)
  rw [← hW1]
  clear hW1
  go_upto_region 3 with (first
    | ((go_at_call 25); (with_reducible refine (Ha.awake_any _ (L1.out.over HZ.out)).mono ?_); rintro e9 w1 ⟨rfl, hb9⟩; have L2 := Lib.hid (L1.out.next hb9); clear hb9)
    | (refine w_load (ldHb (L2.out.bx (w.heap.size) (hv s) (by simp [boxes3]))) rfl rfl rfl rfl ?_)
    | (refine w_load (ldKb (L2.out.bx (w.heap.size + 1) (kv k) (by simp [boxes3]))) rfl rfl rfl rfl ?_)
    | (refine w_load (ldTb (L2.out.bx (w.heap.size + 2) (tv t) (by simp [boxes3]))) rfl rfl rfl rfl ?_)
    | ((go_at_call 26); (with_reducible refine (CF.out _).mono ?_); rintro e9 w2 ⟨rfl, hb9⟩; have L3 := Lib.hid (L2.out.next hb9); clear hb9))
  go_upto_region 6 with (first
    | (refine w_loadg (ldKb (L3.out.bx (w.heap.size + 1) (kv k) (by simp [boxes3]))) rfl (by kernel_rfl) rfl rfl ?_)
    | (refine w_loadg (ldTb (L3.out.bx (w.heap.size + 2) (tv t) (by simp [boxes3]))) rfl (by kernel_rfl) rfl rfl ?_)
    | ((go_at_call 33); (with_reducible refine (CA.out _).mono ?_); rintro e9 w4 ⟨rfl, hb9⟩; have L4 := Lib.hid (L3.out.next hb9); clear hb9)
    | (refine w_load (ldHb (L4.out.bx (w.heap.size) (hv s) (by simp [boxes3]))) rfl rfl rfl rfl ?_)
    | (refine w_load (ldKb (L4.out.bx (w.heap.size + 1) (kv k) (by simp [boxes3]))) rfl rfl rfl rfl ?_)
    | (refine w_load (ldTb (L4.out.bx (w.heap.size + 2) (tv t) (by simp [boxes3]))) rfl rfl rfl rfl ?_)
    | ((go_at_call 27); (with_reducible refine (C5.out _ L4.out).mono ?_); rintro e9 w5 ⟨n, rfl, hs9, hF9, hg9, hh9, _, hb9⟩; have L5 := Lib.hid (L4.out.next hb9); have I5 := Lib.hid hs9; have O5 := Lib.hid (once_all s HX.out.1 hs9 hh9 HX.out.2.1); have F5 := Lib.hid hs9.fs; clear hs9 hF9 hg9 hh9 hb9))
  obtain ⟨W6', hW4⟩ : ∃ W6', W6' = ((w5.alloc (.cells #[.slice n.s.w.a n.s.w.n n.s.w.c, .slice n.s.p.a n.s.p.n n.s.p.c, .slice (n.s.u 0).a (n.s.u 0).n (n.s.u 0).c, .slice (n.s.u 1).a (n.s.u 1).n (n.s.u 1).c, .slice (n.s.u 2).a (n.s.u 2).n (n.s.u 2).c, .slice n.s.c.a n.s.c.n n.s.c.c] 28)).alloc (.cells #[.int .i64 n.k.ph, .int .i64 n.k.ep, .bool n.k.mj, .slice n.k.wk.a n.k.wk.n n.k.wk.c, .bool n.k.ov, .int .i64 n.k.pa, .int .i64 n.k.pf, .int .i64 n.k.ps, .int .i64 n.k.pc, .bool n.k.me] 30)).alloc (.cells #[.bool n.t.lv, .int .i64 (n.t.r 0), .int .i64 (n.t.r 1), .int .i64 (n.t.r 2), .int .i64 (n.t.r 3), .slice (n.t.u 0).a (n.t.u 0).n (n.t.u 0).c, .slice (n.t.u 1).a (n.t.u 1).n (n.t.u 1).c, .slice (n.t.u 2).a (n.t.u 2).n (n.t.u 2).c, .int .i64 n.t.ep, .int .i64 n.t.sg, .int .i64 n.t.rt, .slice n.t.o.a n.t.o.n n.t.o.c, .int .i64 n.t.pc, .int .i64 n.t.x, .int .i64 n.t.y] 34) := ⟨_, rfl⟩
  have L6 := Lib.hid (lb_three (s := n.s) (k := n.k) (t := n.t) L5.out hW4)
  rw [← hW4]
  clear hW4 L5
  have a1 : n.t.lv = true := O5.out.1
  have a2 : n.t.pc = 0 := O5.out.2.1
  have a3 : n.t.r = t.r := O5.out.2.2.1
  have a4 : n.t.o.n = t.o.n := O5.out.2.2.2.1
  have a5 : n.k.wk.n ≤ k.wk.n + 1 := O5.out.2.2.2.2
  have f1 := F5.out.1
  have f2 := F5.out.2.1
  have f3 := F5.out.2.2
  have ra := fun W => regs_nself (t.r 0) (t.r 1) (t.r 2) (t.r 3) W
  have g1 : IntKind.i64.wrap ((k.wk.n : Int) + 1) = (k.wk.n : Int) + 1 := IntWalk.i64_in _ (by have := HD.out.1; omega)
  have g2 : decide ((k.wk.n : Int) + 1 < (n.k.wk.n : Int)) = false := decide_eq_false (by omega)
  have g3 : decide ((n.k.wk.n : Int) > (k.wk.n : Int) + 1) = false := g2
  have g4 : ((t.o.n : Int) != (t.o.n : Int)) = false := by simp
  have q0 := (L6.out.bx (w5.heap.size + 2) (tv n.t) (by simp [boxes3])).cel 0 (.bool true) (by rw [← a1]; rfl)
  have q1 := (L6.out.bx (w5.heap.size + 2) (tv n.t) (by simp [boxes3])).cel 1 (.int .i64 (t.r 0)) (by rw [← a3]; rfl)
  have q2 := (L6.out.bx (w5.heap.size + 2) (tv n.t) (by simp [boxes3])).cel 2 (.int .i64 (t.r 1)) (by rw [← a3]; rfl)
  have q3 := (L6.out.bx (w5.heap.size + 2) (tv n.t) (by simp [boxes3])).cel 3 (.int .i64 (t.r 2)) (by rw [← a3]; rfl)
  have q4 := (L6.out.bx (w5.heap.size + 2) (tv n.t) (by simp [boxes3])).cel 4 (.int .i64 (t.r 3)) (by rw [← a3]; rfl)
  have q5 := (L6.out.bx (w5.heap.size + 2) (tv n.t) (by simp [boxes3])).cel 8 (.int .i64 t.ep) (by rw [← show (anS s k (Ha.own ⟨s, k, t, d, xs, F, g⟩)).t.ep = t.ep from HC.out.1, ← f1]; rfl)
  have q6 := (L6.out.bx (w5.heap.size + 2) (tv n.t) (by simp [boxes3])).cel 9 (.int .i64 (anS s k (Ha.own ⟨s, k, t, d, xs, F, g⟩)).t.sg) (by rw [← f2]; rfl)
  have q7 := (L6.out.bx (w5.heap.size + 2) (tv n.t) (by simp [boxes3])).cel 10 (.int .i64 0) (by rw [← show (anS s k (Ha.own ⟨s, k, t, d, xs, F, g⟩)).t.rt = 0 from HC.out.2.2, ← f3]; rfl)
  have q8 := (L6.out.bx (w5.heap.size + 2) (tv n.t) (by simp [boxes3])).cel 11 (.slice n.t.o.a t.o.n n.t.o.c) (by rw [← a4]; rfl)
  have q9 := (L6.out.bx (w5.heap.size + 2) (tv n.t) (by simp [boxes3])).cel 12 (.int .i64 0) (by rw [← a2]; rfl)
  have q10 := (L6.out.bx (w5.heap.size + 1) (kv n.k) (by simp [boxes3])).cel 3 (.slice n.k.wk.a n.k.wk.n n.k.wk.c) (rfl)
  have q11 := (L6.out.bx (w.heap.size + 2) (tv t) (by simp [boxes3])).cel 1 (.int .i64 (t.r 0)) (rfl)
  have q12 := (L6.out.bx (w.heap.size + 2) (tv t) (by simp [boxes3])).cel 2 (.int .i64 (t.r 1)) (rfl)
  have q13 := (L6.out.bx (w.heap.size + 2) (tv t) (by simp [boxes3])).cel 3 (.int .i64 (t.r 2)) (rfl)
  have q14 := (L6.out.bx (w.heap.size + 2) (tv t) (by simp [boxes3])).cel 4 (.int .i64 (t.r 3)) (rfl)
  have q15 := (L6.out.bx (w.heap.size + 2) (tv t) (by simp [boxes3])).cel 8 (.int .i64 t.ep) (rfl)
  have q16 := (L6.out.bx (w.heap.size + 2) (tv t) (by simp [boxes3])).cel 9 (.int .i64 t.sg) (rfl)
  have q17 := (L6.out.bx (w.heap.size + 2) (tv t) (by simp [boxes3])).cel 10 (.int .i64 t.rt) (rfl)
  have q18 := (L6.out.bx (w.heap.size + 2) (tv t) (by simp [boxes3])).cel 11 (.slice t.o.a t.o.n t.o.c) (rfl)
  have q19 := (L6.out.bx (w.heap.size + 1) (kv k) (by simp [boxes3])).cel 0 (.int .i64 k.ph) (rfl)
  have q20 := (L6.out.bx (w.heap.size + 1) (kv k) (by simp [boxes3])).cel 1 (.int .i64 k.ep) (rfl)
  have q21 := (L6.out.bx (w.heap.size + 1) (kv k) (by simp [boxes3])).cel 3 (.slice k.wk.a k.wk.n k.wk.c) (rfl)
  clear a1 a2 a3 a4 a5 f1 f2 f3
  go_wp2
  go_ret
  exact ⟨rfl, L6.out.bel⟩
set_option maxHeartbeats 4000000 in
theorem walk_same (hf : fewA s k t = true) (hf64 : Fit64 d.ws) (hA : askB k.ph k.ep t = true) (he : t.ep = k.ep) (hs : (anS s k (Ha.own ⟨s, k, t, d, xs, F, g⟩)).t.sg = t.sg) (hz : Cl.Sz w) (hp : Hp w w.heap.size s d) (hk : Sh.WRow w w.heap.size k xs) (ht : Th w w.heap.size t F g) : Calls Tryz.prog 10 #[(.agg #[.slice s.w.a s.w.n s.w.c, .slice s.p.a s.p.n s.p.c, .slice (s.u 0).a (s.u 0).n (s.u 0).c, .slice (s.u 1).a (s.u 1).n (s.u 1).c, .slice (s.u 2).a (s.u 2).n (s.u 2).c, .slice s.c.a s.c.n s.c.c]), (.agg #[.int .i64 k.ph, .int .i64 k.ep, .bool k.mj, .slice k.wk.a k.wk.n k.wk.c, .bool k.ov, .int .i64 k.pa, .int .i64 k.pf, .int .i64 k.ps, .int .i64 k.pc, .bool k.me]), (.agg #[.bool t.lv, .int .i64 (t.r 0), .int .i64 (t.r 1), .int .i64 (t.r 2), .int .i64 (t.r 3), .slice (t.u 0).a (t.u 0).n (t.u 0).c, .slice (t.u 1).a (t.u 1).n (t.u 1).c, .slice (t.u 2).a (t.u 2).n (t.u 2).c, .int .i64 t.ep, .int .i64 t.sg, .int .i64 t.rt, .slice t.o.a t.o.n t.o.c, .int .i64 t.pc, .int .i64 t.x, .int .i64 t.y])] w fun e w' => e = .returned (.bool true) ∧ Below w.heap.size w w' := by
  have HZ := Lib.hid hz
  have HH : Hid (Hold w ⟨s, k, t, d, xs, F, g⟩) := Lib.hid ⟨hp, hk, ht⟩
  have CF := Lib.hid (fun W => few_any s k t W)
  rw [hf] at CF
  have HB := Lib.hid (bs_few (n := ⟨s, k, t, d, xs, F, g⟩) hf ⟨hp, hk, ht⟩ hf64)
  have CA := Lib.hid (fun W => asked_any k t W)
  rw [hA] at CA
  have C5 := Lib.hid (fun W (hL : Lb w W (boxes3 w.heap.size s k t ++ []) [⟨s, k, t, d, xs, F, g⟩] []) => answer_any s k (Ha.own ⟨s, k, t, d, xs, F, g⟩) ⟨s, k, t, d, xs, F, g⟩ W (sim_own ⟨s, k, t, d, xs, F, g⟩) (in_few HB.out (hL.at ⟨s, k, t, d, xs, F, g⟩ (by simp)) (hL.over hz)))
  have HX := Lib.hid (And.intro hA (And.intro hk.1 ht.o))
  have HC := Lib.hid (And.intro ((once s (P := Ha.own ⟨s, k, t, d, xs, F, g⟩) hA).2.1 he).1 (((once s (P := Ha.own ⟨s, k, t, d, xs, F, g⟩) hA).2.1 he).2.2 hs))
  have ea : decide (t.ep = k.ep) = true := decide_eq_true (he)
  have eb : (t.ep == k.ep) = true := ea
  have ec : (t.ep != k.ep) = false := by simp only [bne, eb]; rfl
  have hb : (t.ep == t.ep) = true := by simp
  have hc : (t.ep != t.ep) = false := by simp
  have HS := Lib.hid hs
  have sb : (t.sg == t.sg) = true := by simp
  have sc : (t.sg != t.sg) = false := by simp
  have rb : ((t.rt + 1) == (t.rt + 1)) = true := by simp
  have rc : ((t.rt + 1) != (t.rt + 1)) = false := by simp
  have w0 : IntKind.i64.wrap (t.rt + 1) = t.rt + 1 := IntWalk.i64_in _ (by have := may_parts.1 (ask_iff.1 hA).2.2.1; omega)
  have pa : decide (k.ph = 2) = false := decide_eq_false (HC.out.2.2)
  have pb : (k.ph == 2) = false := pa
  have pc : (k.ph != 2) = true := by simp only [bne, pb]; rfl
  have HD := Lib.hid (fewA_len hf)
  clear hz hp hk ht hf hf64 hA he hs
  go_enter Tryz.func10, Tryz.ntmps10
  go_upto_region 1 with fail
  obtain ⟨W1, hW1⟩ : ∃ W1, W1 = ((w.alloc (.cells #[.slice s.w.a s.w.n s.w.c, .slice s.p.a s.p.n s.p.c, .slice (s.u 0).a (s.u 0).n (s.u 0).c, .slice (s.u 1).a (s.u 1).n (s.u 1).c, .slice (s.u 2).a (s.u 2).n (s.u 2).c, .slice s.c.a s.c.n s.c.c] 28)).alloc (.cells #[.int .i64 k.ph, .int .i64 k.ep, .bool k.mj, .slice k.wk.a k.wk.n k.wk.c, .bool k.ov, .int .i64 k.pa, .int .i64 k.pf, .int .i64 k.ps, .int .i64 k.pc, .bool k.me] 30)).alloc (.cells #[.bool t.lv, .int .i64 (t.r 0), .int .i64 (t.r 1), .int .i64 (t.r 2), .int .i64 (t.r 3), .slice (t.u 0).a (t.u 0).n (t.u 0).c, .slice (t.u 1).a (t.u 1).n (t.u 1).c, .slice (t.u 2).a (t.u 2).n (t.u 2).c, .int .i64 t.ep, .int .i64 t.sg, .int .i64 t.rt, .slice t.o.a t.o.n t.o.c, .int .i64 t.pc, .int .i64 t.x, .int .i64 t.y] 34) := ⟨_, rfl⟩
  have L1 := Lib.hid (lb_three (s := s) (k := k) (t := t) (lb_start HH.out) hW1)
  rw [← hW1]
  clear hW1
  go_upto_region 3 with (first
    | ((go_at_call 25); (with_reducible refine (Ha.awake_any _ (L1.out.over HZ.out)).mono ?_); rintro e9 w1 ⟨rfl, hb9⟩; have L2 := Lib.hid (L1.out.next hb9); clear hb9)
    | (refine w_load (ldHb (L2.out.bx (w.heap.size) (hv s) (by simp [boxes3]))) rfl rfl rfl rfl ?_)
    | (refine w_load (ldKb (L2.out.bx (w.heap.size + 1) (kv k) (by simp [boxes3]))) rfl rfl rfl rfl ?_)
    | (refine w_load (ldTb (L2.out.bx (w.heap.size + 2) (tv t) (by simp [boxes3]))) rfl rfl rfl rfl ?_)
    | ((go_at_call 26); (with_reducible refine (CF.out _).mono ?_); rintro e9 w2 ⟨rfl, hb9⟩; have L3 := Lib.hid (L2.out.next hb9); clear hb9))
  go_upto_region 6 with (first
    | (refine w_loadg (ldKb (L3.out.bx (w.heap.size + 1) (kv k) (by simp [boxes3]))) rfl (by kernel_rfl) rfl rfl ?_)
    | (refine w_loadg (ldTb (L3.out.bx (w.heap.size + 2) (tv t) (by simp [boxes3]))) rfl (by kernel_rfl) rfl rfl ?_)
    | ((go_at_call 33); (with_reducible refine (CA.out _).mono ?_); rintro e9 w4 ⟨rfl, hb9⟩; have L4 := Lib.hid (L3.out.next hb9); clear hb9)
    | (refine w_load (ldHb (L4.out.bx (w.heap.size) (hv s) (by simp [boxes3]))) rfl rfl rfl rfl ?_)
    | (refine w_load (ldKb (L4.out.bx (w.heap.size + 1) (kv k) (by simp [boxes3]))) rfl rfl rfl rfl ?_)
    | (refine w_load (ldTb (L4.out.bx (w.heap.size + 2) (tv t) (by simp [boxes3]))) rfl rfl rfl rfl ?_)
    | ((go_at_call 27); (with_reducible refine (C5.out _ L4.out).mono ?_); rintro e9 w5 ⟨n, rfl, hs9, hF9, hg9, hh9, _, hb9⟩; have L5 := Lib.hid (L4.out.next hb9); have I5 := Lib.hid hs9; have O5 := Lib.hid (once_all s HX.out.1 hs9 hh9 HX.out.2.1); have F5 := Lib.hid hs9.fs; clear hs9 hF9 hg9 hh9 hb9))
  obtain ⟨W6', hW4⟩ : ∃ W6', W6' = ((w5.alloc (.cells #[.slice n.s.w.a n.s.w.n n.s.w.c, .slice n.s.p.a n.s.p.n n.s.p.c, .slice (n.s.u 0).a (n.s.u 0).n (n.s.u 0).c, .slice (n.s.u 1).a (n.s.u 1).n (n.s.u 1).c, .slice (n.s.u 2).a (n.s.u 2).n (n.s.u 2).c, .slice n.s.c.a n.s.c.n n.s.c.c] 28)).alloc (.cells #[.int .i64 n.k.ph, .int .i64 n.k.ep, .bool n.k.mj, .slice n.k.wk.a n.k.wk.n n.k.wk.c, .bool n.k.ov, .int .i64 n.k.pa, .int .i64 n.k.pf, .int .i64 n.k.ps, .int .i64 n.k.pc, .bool n.k.me] 30)).alloc (.cells #[.bool n.t.lv, .int .i64 (n.t.r 0), .int .i64 (n.t.r 1), .int .i64 (n.t.r 2), .int .i64 (n.t.r 3), .slice (n.t.u 0).a (n.t.u 0).n (n.t.u 0).c, .slice (n.t.u 1).a (n.t.u 1).n (n.t.u 1).c, .slice (n.t.u 2).a (n.t.u 2).n (n.t.u 2).c, .int .i64 n.t.ep, .int .i64 n.t.sg, .int .i64 n.t.rt, .slice n.t.o.a n.t.o.n n.t.o.c, .int .i64 n.t.pc, .int .i64 n.t.x, .int .i64 n.t.y] 34) := ⟨_, rfl⟩
  have L6 := Lib.hid (lb_three (s := n.s) (k := n.k) (t := n.t) L5.out hW4)
  rw [← hW4]
  clear hW4 L5
  have a1 : n.t.lv = true := O5.out.1
  have a2 : n.t.pc = 0 := O5.out.2.1
  have a3 : n.t.r = t.r := O5.out.2.2.1
  have a4 : n.t.o.n = t.o.n := O5.out.2.2.2.1
  have a5 : n.k.wk.n ≤ k.wk.n + 1 := O5.out.2.2.2.2
  have f1 := F5.out.1
  have f2 := F5.out.2.1
  have f3 := F5.out.2.2
  have ra := fun W => regs_nself (t.r 0) (t.r 1) (t.r 2) (t.r 3) W
  have g1 : IntKind.i64.wrap ((k.wk.n : Int) + 1) = (k.wk.n : Int) + 1 := IntWalk.i64_in _ (by have := HD.out.1; omega)
  have g2 : decide ((k.wk.n : Int) + 1 < (n.k.wk.n : Int)) = false := decide_eq_false (by omega)
  have g3 : decide ((n.k.wk.n : Int) > (k.wk.n : Int) + 1) = false := g2
  have g4 : ((t.o.n : Int) != (t.o.n : Int)) = false := by simp
  have q0 := (L6.out.bx (w5.heap.size + 2) (tv n.t) (by simp [boxes3])).cel 0 (.bool true) (by rw [← a1]; rfl)
  have q1 := (L6.out.bx (w5.heap.size + 2) (tv n.t) (by simp [boxes3])).cel 1 (.int .i64 (t.r 0)) (by rw [← a3]; rfl)
  have q2 := (L6.out.bx (w5.heap.size + 2) (tv n.t) (by simp [boxes3])).cel 2 (.int .i64 (t.r 1)) (by rw [← a3]; rfl)
  have q3 := (L6.out.bx (w5.heap.size + 2) (tv n.t) (by simp [boxes3])).cel 3 (.int .i64 (t.r 2)) (by rw [← a3]; rfl)
  have q4 := (L6.out.bx (w5.heap.size + 2) (tv n.t) (by simp [boxes3])).cel 4 (.int .i64 (t.r 3)) (by rw [← a3]; rfl)
  have q5 := (L6.out.bx (w5.heap.size + 2) (tv n.t) (by simp [boxes3])).cel 8 (.int .i64 t.ep) (by rw [← show (anS s k (Ha.own ⟨s, k, t, d, xs, F, g⟩)).t.ep = t.ep from HC.out.1, ← f1]; rfl)
  have q6 := (L6.out.bx (w5.heap.size + 2) (tv n.t) (by simp [boxes3])).cel 9 (.int .i64 t.sg) (by rw [← HS.out, ← f2]; rfl)
  have q7 := (L6.out.bx (w5.heap.size + 2) (tv n.t) (by simp [boxes3])).cel 10 (.int .i64 (t.rt + 1)) (by rw [← show (anS s k (Ha.own ⟨s, k, t, d, xs, F, g⟩)).t.rt = t.rt + 1 from HC.out.2.1, ← f3]; rfl)
  have q8 := (L6.out.bx (w5.heap.size + 2) (tv n.t) (by simp [boxes3])).cel 11 (.slice n.t.o.a t.o.n n.t.o.c) (by rw [← a4]; rfl)
  have q9 := (L6.out.bx (w5.heap.size + 2) (tv n.t) (by simp [boxes3])).cel 12 (.int .i64 0) (by rw [← a2]; rfl)
  have q10 := (L6.out.bx (w5.heap.size + 1) (kv n.k) (by simp [boxes3])).cel 3 (.slice n.k.wk.a n.k.wk.n n.k.wk.c) (rfl)
  have q11 := (L6.out.bx (w.heap.size + 2) (tv t) (by simp [boxes3])).cel 1 (.int .i64 (t.r 0)) (rfl)
  have q12 := (L6.out.bx (w.heap.size + 2) (tv t) (by simp [boxes3])).cel 2 (.int .i64 (t.r 1)) (rfl)
  have q13 := (L6.out.bx (w.heap.size + 2) (tv t) (by simp [boxes3])).cel 3 (.int .i64 (t.r 2)) (rfl)
  have q14 := (L6.out.bx (w.heap.size + 2) (tv t) (by simp [boxes3])).cel 4 (.int .i64 (t.r 3)) (rfl)
  have q15 := (L6.out.bx (w.heap.size + 2) (tv t) (by simp [boxes3])).cel 8 (.int .i64 t.ep) (rfl)
  have q16 := (L6.out.bx (w.heap.size + 2) (tv t) (by simp [boxes3])).cel 9 (.int .i64 t.sg) (rfl)
  have q17 := (L6.out.bx (w.heap.size + 2) (tv t) (by simp [boxes3])).cel 10 (.int .i64 t.rt) (rfl)
  have q18 := (L6.out.bx (w.heap.size + 2) (tv t) (by simp [boxes3])).cel 11 (.slice t.o.a t.o.n t.o.c) (rfl)
  have q19 := (L6.out.bx (w.heap.size + 1) (kv k) (by simp [boxes3])).cel 0 (.int .i64 k.ph) (rfl)
  have q20 := (L6.out.bx (w.heap.size + 1) (kv k) (by simp [boxes3])).cel 1 (.int .i64 k.ep) (rfl)
  have q21 := (L6.out.bx (w.heap.size + 1) (kv k) (by simp [boxes3])).cel 3 (.slice k.wk.a k.wk.n k.wk.c) (rfl)
  clear a1 a2 a3 a4 a5 f1 f2 f3
  go_wp2
  go_ret
  exact ⟨rfl, L6.out.bel⟩
end
theorem walk (s : Hs) (d : Hd_) (k : Sh.Ks) (xs : List Int) (t : Ts) (F : Nat → List Int) (g : Nat → O4) (w : World) (hz : Cl.Sz w) (hp : Hp w w.heap.size s d) (hv : Fit64 d.ws) (_ : s.p.n ≤ s.p.c) (hk : Sh.WRow w w.heap.size k xs) (_ : k.wk.n ≤ k.wk.c) (_ : k.wk.c ≤ maxLen) (_ : (Lit.int .i64 k.ep).wf = true) (ht : Th w w.heap.size t F g) : Calls Tryz.prog 10 #[(.agg #[.slice s.w.a s.w.n s.w.c, .slice s.p.a s.p.n s.p.c, .slice (s.u 0).a (s.u 0).n (s.u 0).c, .slice (s.u 1).a (s.u 1).n (s.u 1).c, .slice (s.u 2).a (s.u 2).n (s.u 2).c, .slice s.c.a s.c.n s.c.c]), (.agg #[.int .i64 k.ph, .int .i64 k.ep, .bool k.mj, .slice k.wk.a k.wk.n k.wk.c, .bool k.ov, .int .i64 k.pa, .int .i64 k.pf, .int .i64 k.ps, .int .i64 k.pc, .bool k.me]), (.agg #[.bool t.lv, .int .i64 (t.r 0), .int .i64 (t.r 1), .int .i64 (t.r 2), .int .i64 (t.r 3), .slice (t.u 0).a (t.u 0).n (t.u 0).c, .slice (t.u 1).a (t.u 1).n (t.u 1).c, .slice (t.u 2).a (t.u 2).n (t.u 2).c, .int .i64 t.ep, .int .i64 t.sg, .int .i64 t.rt, .slice t.o.a t.o.n t.o.c, .int .i64 t.pc, .int .i64 t.x, .int .i64 t.y])] w fun e w' => e = .returned (.bool true) ∧ Below w.heap.size w w' := by
  cases hf : fewA s k t with
  | false => exact walk_few s k t d xs F g w hf hz hp hk ht
  | true =>
    cases hA : askB k.ph k.ep t with
    | false => exact walk_not s k t d xs F g w hf hA hz hp hk ht
    | true =>
      by_cases he : t.ep = k.ep
      · by_cases hs : (anS s k (Ha.own ⟨s, k, t, d, xs, F, g⟩)).t.sg = t.sg
        · exact walk_same s k t d xs F g w hf hv hA he hs hz hp hk ht
        · by_cases h2 : k.ph = 2
          · exact walk_settle s k t d xs F g w hf hv hA he hs h2 hz hp hk ht
          · exact walk_roots s k t d xs F g w hf hv hA he hs h2 hz hp hk ht
      · exact walk_other s k t d xs F g w hf hv hA he hz hp hk ht

-- the frame (hp15frame.py)
set_option maxRecDepth 100000 in
theorem lifted (os : Os) (started : os.Started) (H : Type) (enc : TypeId × Value → H) :
    ReturnsInHanded {} Tryz.checked os 10 .any (fun w args => (Rows.handOnceSpec.pre enc Tryz.prog Tryz.f10 [] false w args ∧ laidMetH Tryz.prog laidSizes w) ∧ sizedMet enc Tryz.prog Tryz.f10 (OpenSpec.ofChange Rows.handOnceSpec) false w args)
      (Rows.handOnceSpec.post enc Tryz.prog Tryz.f10 false true false false) := by
  refine returnsInHanded_of_change_and (C := Tryz.checked) (X := fun w _ => laidMetH Tryz.prog laidSizes w) (fun _ _ _ hh h => h.of_heap hh) own started (by kernel_rfl) Tryz.func10
    (ChangeSpec.witness_shaped (enc := enc) (C := Tryz.checked) (os := os) (X := fun w _ => laidMetH Tryz.prog laidSizes w) false (World.doorLaid Tryz.prog 400 os) #[.agg #[.slice none 0 0, .slice none 0 0, .slice none 0 0, .slice none 0 0, .slice none 0 0, .slice none 0 0], .agg #[.int .i64 0, .int .i64 0, .bool false, .slice none 0 0, .bool false, .int .i64 0, .int .i64 0, .int .i64 0, .int .i64 0, .bool false], .agg #[.bool false, .int .i64 0, .int .i64 0, .int .i64 0, .int .i64 0, .slice none 0 0, .slice none 0 0, .slice none 0 0, .int .i64 0, .int .i64 0, .int .i64 0, .slice none 0 0, .int .i64 0, .int .i64 0, .int .i64 0]] 8 rfl (World.shaped_of_RefB (by kernel_rfl) (by kernel_rfl)) (by kernel_rfl) (by kernel_rfl) (by kernel_rfl) (door_met os _)) ?_
  intro W base args ds gs before hval0 hW _ _ hL _
  have hval : ∀ (j : Nat) t v, Tryz.f10.params[j]? = some t → args[j]? = some v → Value.okWide Tryz.prog W .any base t v := hval0
  have hW' := hW
  obtain ⟨p, q, hA0, hV, rfl, hfz, hnd⟩ := hW
  have hA : DataW.TrodAll enc Tryz.prog W 0 (fun _ => true) true Tryz.f10.params.toList args.toList ds p := hA0
  rw [Tryz.params10] at hA hval
  obtain ⟨v0, vs0, d0, ds0, p0, q0, hargs, rfl, rfl, h0, r0⟩ := trodAll_cons hA
  obtain ⟨v1, vs1, d1, ds1, p1, q1, rfl, rfl, rfl, h1, r1⟩ := trodAll_cons r0
  obtain ⟨v2, vs2, d2, ds2, p2, q2, rfl, rfl, rfl, h2, r2⟩ := trodAll_cons r1
  obtain ⟨rfl, rfl, rfl⟩ := trodAll_nil r2
  obtain rfl : args = #[v0, v1, v2] := by cases args; simp_all
  obtain ⟨rfl, rfl⟩ := trodVars_none hV
  have k0 := h0
  have lt0 : ∀ x ∈ p0, x.block < W.heap.size := by obtain ⟨m, hm⟩ := k0; exact DataW.trod_lt m _ _ _ hm
  obtain ⟨s0, z0, rfl, w0, f0, b0⟩ := heap_of8 (hval 0 28 v0 rfl rfl) h0
  have k1 := h1
  have lt1 : ∀ x ∈ p1, x.block < W.heap.size := by obtain ⟨m, hm⟩ := k1; exact DataW.trod_lt m _ _ _ hm
  obtain ⟨k1', z1, rfl, w1, m1, x1, f1⟩ := Sh.col_of (hval 1 30 v1 rfl rfl) h1
  have k2 := h2
  have lt2 : ∀ x ∈ p2, x.block < W.heap.size := by obtain ⟨m, hm⟩ := k2; exact DataW.trod_lt m _ _ _ hm
  obtain ⟨t2, z2, g2, rfl, w2⟩ := Rt.th_of (hval 2 34 v2 rfl rfl) h2
  clear hA0 hval0
  refine (walk s0 z0 k1' z1 t2 z2 g2 W (of_laid hL) w0 f0 b0 w1 m1 x1 f1 w2).mono fun e W' ⟨he, bel⟩ => ?_
  subst he
  exact ⟨_, rfl, _, _, _, [], _, [], hW', trodAll_mk1 (shut_bool Tryz.underlying4 _), (trodAll_cons_mk (Below.trod laidOut (by kernel_rfl) (of_decide_eq_true (by kernel_rfl)) k0 bel lt0) (trodAll_cons_mk (Below.trod laidOut (by kernel_rfl) (of_decide_eq_true (by kernel_rfl)) k1 bel lt1) (trodAll_cons_mk (Below.trod laidOut (by kernel_rfl) (of_decide_eq_true (by kernel_rfl)) k2 bel lt2) trodAll_mk0))), rfl, bel.frame _, fun h => by cases h⟩

theorem over : Rows.HandOnceSaid :=
  OpenClaim.holds_of_wide 10 Tryz.f10 rfl rfl rfl rfl rfl rfl rfl ⟨rfl, rfl, rfl, rfl, rfl⟩ rfl rfl rfl rfl rfl (by kernel_rfl) Tryz.func10 (by kernel_rfl)
    (of_decide_eq_true (by kernel_rfl)) (by unfold Func.isWrapper; first | (rw [if_pos (by decide +kernel)]; kernel_rfl) | (rw [if_neg (by decide +kernel)]; exact ⟨rfl, rfl⟩))
    (fun os started H enc _ => lifted os started H enc)

/-- The statement: the card. -/
theorem proved : Rows.HandOnceCardSaid :=
  Claim7.holds_tied_plain_at .later [] [.data] true Rows.handOnceCard.stood.harness false
    over (fun _ h => by cases h) (by kernel_rfl) (fun _ h => by cases h) handOnce_row_tie rfl ⟨rfl, rfl⟩ (by kernel_rfl) rfl
    (fun f fn hf hfn => by
      obtain rfl : f = 10 := Option.some.inj ((show Tryz.prog.funcNamed "ragpicker/ragpickerlaw15.HandOnce" = some 10 by kernel_rfl).symm.trans hf) |>.symm
      obtain rfl : fn = Tryz.f10 := (Option.some.inj (Tryz.func10.symm.trans hfn)).symm
      exact ⟨by kernel_rfl, fun j t ht => by
        rw [Tryz.params10] at ht
        have hm : t ∈ [28, 30, 34] := by simpa using Array.mem_of_getElem? ht
        have hall : ([28, 30, 34].all fun u => !Tryz.prog.wantsStandIn u) = true := by kernel_rfl
        exact (show Tryz.prog.wantsStandIn t = false by simpa using List.all_eq_true.1 hall t hm)⟩)
    (by kernel_rfl)
#print axioms proved
end Go.Proofs.YtgmkomnoiffapaaGreatDoor.HandOnce
