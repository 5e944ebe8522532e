/-
  HandRoots: In Roots, and behind, a thread that had shaded nothing yet has nothing in its registers that is white, when it has answered: for every heap of at most 9 pages and 130 words, every work list of at most 100, every thread of at most 220 operations; the table of sizes is tied to the program's text by the card.
-/
import Derived.Test.YtgmkomnoiffapaaGreatDoorHHaAwake
import Derived.Test.YtgmkomnoiffapaaGreatDoorHpHK
import Derived.Deep.Cut
import Derived.Deep.CutRange
import Derived.Deep.QuietTactic
import Derived.BigQuiet
namespace Go.Proofs.YtgmkomnoiffapaaGreatDoor.HandRoots
open Go.Proofs.YtgmkomnoiffapaaGreatDoor Go.Proofs.YtgmkomnoiffapaaGreatDoor.Rt Go.Proofs.YtgmkomnoiffapaaGreatDoor.Ha
open Go.ChangeShapes Go.WideShapes Go.ChangeAt Go.RowKit
open Go.Proofs.YtgmkomnoiffapaaGreatDoor.Mu (hv kv w_load w_loadg ldHb ldKb ldTb noHs0 noK0)
set_option maxRecDepth 100000

section
variable (s : Hs) (k : Sh.Ks) (t : Ts) (d : Hd_) (xs : List Int) (F : Nat → List Int) (g : Nat → O4) (w : World)
set_option maxHeartbeats 1000000 in
theorem walk_few (hf : fewA s k t = false) (hz : Cl.Sz w) (hp : Hp w w.heap.size s d) (hk : Sh.WRow w w.heap.size k xs) (ht : Th w w.heap.size t F g) : Calls Tryz.prog 7 #[(.agg #[.slice s.w.a s.w.n s.w.c, .slice s.p.a s.p.n s.p.c, .slice (s.u 0).a (s.u 0).n (s.u 0).c, .slice (s.u 1).a (s.u 1).n (s.u 1).c, .slice (s.u 2).a (s.u 2).n (s.u 2).c, .slice s.c.a s.c.n s.c.c]), (.agg #[.int .i64 k.ph, .int .i64 k.ep, .bool k.mj, .slice k.wk.a k.wk.n k.wk.c, .bool k.ov, .int .i64 k.pa, .int .i64 k.pf, .int .i64 k.ps, .int .i64 k.pc, .bool k.me]), (.agg #[.bool t.lv, .int .i64 (t.r 0), .int .i64 (t.r 1), .int .i64 (t.r 2), .int .i64 (t.r 3), .slice (t.u 0).a (t.u 0).n (t.u 0).c, .slice (t.u 1).a (t.u 1).n (t.u 1).c, .slice (t.u 2).a (t.u 2).n (t.u 2).c, .int .i64 t.ep, .int .i64 t.sg, .int .i64 t.rt, .slice t.o.a t.o.n t.o.c, .int .i64 t.pc, .int .i64 t.x, .int .i64 t.y])] w fun e w' => e = .returned (.bool true) ∧ Below w.heap.size w w' := by
  have HZ := Lib.hid hz
  have HH : Hid (Hold w ⟨s, k, t, d, xs, F, g⟩) := Lib.hid ⟨hp, hk, ht⟩
  have CF := Lib.hid (fun W => few_any s k t W)
  rw [hf] at CF
  clear hz hp hk ht hf
  go_enter Tryz.func7, Tryz.ntmps7
  go_upto_region 1 with fail
  obtain ⟨W1, hW1⟩ : ∃ W1, W1 = ((w.alloc (.cells #[.slice s.w.a s.w.n s.w.c, .slice s.p.a s.p.n s.p.c, .slice (s.u 0).a (s.u 0).n (s.u 0).c, .slice (s.u 1).a (s.u 1).n (s.u 1).c, .slice (s.u 2).a (s.u 2).n (s.u 2).c, .slice s.c.a s.c.n s.c.c] 28)).alloc (.cells #[.int .i64 k.ph, .int .i64 k.ep, .bool k.mj, .slice k.wk.a k.wk.n k.wk.c, .bool k.ov, .int .i64 k.pa, .int .i64 k.pf, .int .i64 k.ps, .int .i64 k.pc, .bool k.me] 30)).alloc (.cells #[.bool t.lv, .int .i64 (t.r 0), .int .i64 (t.r 1), .int .i64 (t.r 2), .int .i64 (t.r 3), .slice (t.u 0).a (t.u 0).n (t.u 0).c, .slice (t.u 1).a (t.u 1).n (t.u 1).c, .slice (t.u 2).a (t.u 2).n (t.u 2).c, .int .i64 t.ep, .int .i64 t.sg, .int .i64 t.rt, .slice t.o.a t.o.n t.o.c, .int .i64 t.pc, .int .i64 t.x, .int .i64 t.y] 34) := ⟨_, rfl⟩
  have L1 := Lib.hid (lb_three (s := s) (k := k) (t := t) (lb_start HH.out) hW1)
  rw [← hW1]
  clear hW1
  go_upto_region 3 with (first
    | ((go_at_call 25); (with_reducible refine (Ha.awake_any _ (L1.out.over HZ.out)).mono ?_); rintro e9 w1 ⟨rfl, hb9⟩; have L2 := Lib.hid (L1.out.next hb9); clear hb9)
    | (refine w_load (ldHb (L2.out.bx (w.heap.size) (hv s) (by simp [boxes3]))) rfl rfl rfl rfl ?_)
    | (refine w_load (ldKb (L2.out.bx (w.heap.size + 1) (kv k) (by simp [boxes3]))) rfl rfl rfl rfl ?_)
    | (refine w_load (ldTb (L2.out.bx (w.heap.size + 2) (tv t) (by simp [boxes3]))) rfl rfl rfl rfl ?_)
    | ((go_at_call 26); (with_reducible refine (CF.out _).mono ?_); rintro e9 w2 ⟨rfl, hb9⟩; have L3 := Lib.hid (L2.out.next hb9); clear hb9))
  go_wp2
  go_ret
  exact ⟨rfl, L3.out.bel⟩
set_option maxHeartbeats 1000000 in
theorem walk_low (hf : fewA s k t = true) (h3 : k.ph < 3) (hz : Cl.Sz w) (hp : Hp w w.heap.size s d) (hk : Sh.WRow w w.heap.size k xs) (ht : Th w w.heap.size t F g) : Calls Tryz.prog 7 #[(.agg #[.slice s.w.a s.w.n s.w.c, .slice s.p.a s.p.n s.p.c, .slice (s.u 0).a (s.u 0).n (s.u 0).c, .slice (s.u 1).a (s.u 1).n (s.u 1).c, .slice (s.u 2).a (s.u 2).n (s.u 2).c, .slice s.c.a s.c.n s.c.c]), (.agg #[.int .i64 k.ph, .int .i64 k.ep, .bool k.mj, .slice k.wk.a k.wk.n k.wk.c, .bool k.ov, .int .i64 k.pa, .int .i64 k.pf, .int .i64 k.ps, .int .i64 k.pc, .bool k.me]), (.agg #[.bool t.lv, .int .i64 (t.r 0), .int .i64 (t.r 1), .int .i64 (t.r 2), .int .i64 (t.r 3), .slice (t.u 0).a (t.u 0).n (t.u 0).c, .slice (t.u 1).a (t.u 1).n (t.u 1).c, .slice (t.u 2).a (t.u 2).n (t.u 2).c, .int .i64 t.ep, .int .i64 t.sg, .int .i64 t.rt, .slice t.o.a t.o.n t.o.c, .int .i64 t.pc, .int .i64 t.x, .int .i64 t.y])] w fun e w' => e = .returned (.bool true) ∧ Below w.heap.size w w' := by
  have HZ := Lib.hid hz
  have HH : Hid (Hold w ⟨s, k, t, d, xs, F, g⟩) := Lib.hid ⟨hp, hk, ht⟩
  have CF := Lib.hid (fun W => few_any s k t W)
  rw [hf] at CF
  have l0 : decide (k.ph < 3) = true := decide_eq_true h3
  clear hz hp hk ht hf h3
  go_enter Tryz.func7, Tryz.ntmps7
  go_upto_region 1 with fail
  obtain ⟨W1, hW1⟩ : ∃ W1, W1 = ((w.alloc (.cells #[.slice s.w.a s.w.n s.w.c, .slice s.p.a s.p.n s.p.c, .slice (s.u 0).a (s.u 0).n (s.u 0).c, .slice (s.u 1).a (s.u 1).n (s.u 1).c, .slice (s.u 2).a (s.u 2).n (s.u 2).c, .slice s.c.a s.c.n s.c.c] 28)).alloc (.cells #[.int .i64 k.ph, .int .i64 k.ep, .bool k.mj, .slice k.wk.a k.wk.n k.wk.c, .bool k.ov, .int .i64 k.pa, .int .i64 k.pf, .int .i64 k.ps, .int .i64 k.pc, .bool k.me] 30)).alloc (.cells #[.bool t.lv, .int .i64 (t.r 0), .int .i64 (t.r 1), .int .i64 (t.r 2), .int .i64 (t.r 3), .slice (t.u 0).a (t.u 0).n (t.u 0).c, .slice (t.u 1).a (t.u 1).n (t.u 1).c, .slice (t.u 2).a (t.u 2).n (t.u 2).c, .int .i64 t.ep, .int .i64 t.sg, .int .i64 t.rt, .slice t.o.a t.o.n t.o.c, .int .i64 t.pc, .int .i64 t.x, .int .i64 t.y] 34) := ⟨_, rfl⟩
  have L1 := Lib.hid (lb_three (s := s) (k := k) (t := t) (lb_start HH.out) hW1)
  rw [← hW1]
  clear hW1
  go_upto_region 3 with (first
    | ((go_at_call 25); (with_reducible refine (Ha.awake_any _ (L1.out.over HZ.out)).mono ?_); rintro e9 w1 ⟨rfl, hb9⟩; have L2 := Lib.hid (L1.out.next hb9); clear hb9)
    | (refine w_load (ldHb (L2.out.bx (w.heap.size) (hv s) (by simp [boxes3]))) rfl rfl rfl rfl ?_)
    | (refine w_load (ldKb (L2.out.bx (w.heap.size + 1) (kv k) (by simp [boxes3]))) rfl rfl rfl rfl ?_)
    | (refine w_load (ldTb (L2.out.bx (w.heap.size + 2) (tv t) (by simp [boxes3]))) rfl rfl rfl rfl ?_)
    | ((go_at_call 26); (with_reducible refine (CF.out _).mono ?_); rintro e9 w2 ⟨rfl, hb9⟩; have L3 := Lib.hid (L2.out.next hb9); clear hb9))
  have q0 := (L3.out.bx (w.heap.size + 1) (kv k) (by simp [boxes3])).cel 0 (.int .i64 k.ph) (rfl)
  have q10 := (L3.out.bx (w.heap.size + 2) (tv t) (by simp [boxes3])).cel 10 (.int .i64 t.rt) (rfl)
  go_wp2
  go_ret
  exact ⟨rfl, L3.out.bel⟩
set_option maxHeartbeats 1000000 in
theorem walk_mid (hf : fewA s k t = true) (h3 : ¬ k.ph < 3) (hr : ¬ t.rt = 0) (hz : Cl.Sz w) (hp : Hp w w.heap.size s d) (hk : Sh.WRow w w.heap.size k xs) (ht : Th w w.heap.size t F g) : Calls Tryz.prog 7 #[(.agg #[.slice s.w.a s.w.n s.w.c, .slice s.p.a s.p.n s.p.c, .slice (s.u 0).a (s.u 0).n (s.u 0).c, .slice (s.u 1).a (s.u 1).n (s.u 1).c, .slice (s.u 2).a (s.u 2).n (s.u 2).c, .slice s.c.a s.c.n s.c.c]), (.agg #[.int .i64 k.ph, .int .i64 k.ep, .bool k.mj, .slice k.wk.a k.wk.n k.wk.c, .bool k.ov, .int .i64 k.pa, .int .i64 k.pf, .int .i64 k.ps, .int .i64 k.pc, .bool k.me]), (.agg #[.bool t.lv, .int .i64 (t.r 0), .int .i64 (t.r 1), .int .i64 (t.r 2), .int .i64 (t.r 3), .slice (t.u 0).a (t.u 0).n (t.u 0).c, .slice (t.u 1).a (t.u 1).n (t.u 1).c, .slice (t.u 2).a (t.u 2).n (t.u 2).c, .int .i64 t.ep, .int .i64 t.sg, .int .i64 t.rt, .slice t.o.a t.o.n t.o.c, .int .i64 t.pc, .int .i64 t.x, .int .i64 t.y])] w fun e w' => e = .returned (.bool true) ∧ Below w.heap.size w w' := by
  have HZ := Lib.hid hz
  have HH : Hid (Hold w ⟨s, k, t, d, xs, F, g⟩) := Lib.hid ⟨hp, hk, ht⟩
  have CF := Lib.hid (fun W => few_any s k t W)
  rw [hf] at CF
  have l0 : decide (k.ph < 3) = false := decide_eq_false h3
  have r0 : decide (t.rt = 0) = false := decide_eq_false hr
  have r1 : (t.rt == 0) = false := r0
  have r2 : (t.rt != 0) = true := by simp only [bne, r1]; rfl
  clear hz hp hk ht hf h3 hr
  go_enter Tryz.func7, Tryz.ntmps7
  go_upto_region 1 with fail
  obtain ⟨W1, hW1⟩ : ∃ W1, W1 = ((w.alloc (.cells #[.slice s.w.a s.w.n s.w.c, .slice s.p.a s.p.n s.p.c, .slice (s.u 0).a (s.u 0).n (s.u 0).c, .slice (s.u 1).a (s.u 1).n (s.u 1).c, .slice (s.u 2).a (s.u 2).n (s.u 2).c, .slice s.c.a s.c.n s.c.c] 28)).alloc (.cells #[.int .i64 k.ph, .int .i64 k.ep, .bool k.mj, .slice k.wk.a k.wk.n k.wk.c, .bool k.ov, .int .i64 k.pa, .int .i64 k.pf, .int .i64 k.ps, .int .i64 k.pc, .bool k.me] 30)).alloc (.cells #[.bool t.lv, .int .i64 (t.r 0), .int .i64 (t.r 1), .int .i64 (t.r 2), .int .i64 (t.r 3), .slice (t.u 0).a (t.u 0).n (t.u 0).c, .slice (t.u 1).a (t.u 1).n (t.u 1).c, .slice (t.u 2).a (t.u 2).n (t.u 2).c, .int .i64 t.ep, .int .i64 t.sg, .int .i64 t.rt, .slice t.o.a t.o.n t.o.c, .int .i64 t.pc, .int .i64 t.x, .int .i64 t.y] 34) := ⟨_, rfl⟩
  have L1 := Lib.hid (lb_three (s := s) (k := k) (t := t) (lb_start HH.out) hW1)
  rw [← hW1]
  clear hW1
  go_upto_region 3 with (first
    | ((go_at_call 25); (with_reducible refine (Ha.awake_any _ (L1.out.over HZ.out)).mono ?_); rintro e9 w1 ⟨rfl, hb9⟩; have L2 := Lib.hid (L1.out.next hb9); clear hb9)
    | (refine w_load (ldHb (L2.out.bx (w.heap.size) (hv s) (by simp [boxes3]))) rfl rfl rfl rfl ?_)
    | (refine w_load (ldKb (L2.out.bx (w.heap.size + 1) (kv k) (by simp [boxes3]))) rfl rfl rfl rfl ?_)
    | (refine w_load (ldTb (L2.out.bx (w.heap.size + 2) (tv t) (by simp [boxes3]))) rfl rfl rfl rfl ?_)
    | ((go_at_call 26); (with_reducible refine (CF.out _).mono ?_); rintro e9 w2 ⟨rfl, hb9⟩; have L3 := Lib.hid (L2.out.next hb9); clear hb9))
  have q0 := (L3.out.bx (w.heap.size + 1) (kv k) (by simp [boxes3])).cel 0 (.int .i64 k.ph) (rfl)
  have q10 := (L3.out.bx (w.heap.size + 2) (tv t) (by simp [boxes3])).cel 10 (.int .i64 t.rt) (rfl)
  go_wp2
  go_ret
  exact ⟨rfl, L3.out.bel⟩
set_option maxHeartbeats 1000000 in
theorem walk_not (hf : fewA s k t = true) (h3 : ¬ k.ph < 3) (hr : t.rt = 0) (hA : askB k.ph k.ep t = false) (hz : Cl.Sz w) (hp : Hp w w.heap.size s d) (hk : Sh.WRow w w.heap.size k xs) (ht : Th w w.heap.size t F g) : Calls Tryz.prog 7 #[(.agg #[.slice s.w.a s.w.n s.w.c, .slice s.p.a s.p.n s.p.c, .slice (s.u 0).a (s.u 0).n (s.u 0).c, .slice (s.u 1).a (s.u 1).n (s.u 1).c, .slice (s.u 2).a (s.u 2).n (s.u 2).c, .slice s.c.a s.c.n s.c.c]), (.agg #[.int .i64 k.ph, .int .i64 k.ep, .bool k.mj, .slice k.wk.a k.wk.n k.wk.c, .bool k.ov, .int .i64 k.pa, .int .i64 k.pf, .int .i64 k.ps, .int .i64 k.pc, .bool k.me]), (.agg #[.bool t.lv, .int .i64 (t.r 0), .int .i64 (t.r 1), .int .i64 (t.r 2), .int .i64 (t.r 3), .slice (t.u 0).a (t.u 0).n (t.u 0).c, .slice (t.u 1).a (t.u 1).n (t.u 1).c, .slice (t.u 2).a (t.u 2).n (t.u 2).c, .int .i64 t.ep, .int .i64 t.sg, .int .i64 t.rt, .slice t.o.a t.o.n t.o.c, .int .i64 t.pc, .int .i64 t.x, .int .i64 t.y])] w fun e w' => e = .returned (.bool true) ∧ Below w.heap.size w w' := by
  have HZ := Lib.hid hz
  have HH : Hid (Hold w ⟨s, k, t, d, xs, F, g⟩) := Lib.hid ⟨hp, hk, ht⟩
  have CF := Lib.hid (fun W => few_any s k t W)
  rw [hf] at CF
  have CA := Lib.hid (fun W => asked_any k t W)
  rw [hA] at CA
  have l0 : decide (k.ph < 3) = false := decide_eq_false h3
  have r0 : decide (t.rt = 0) = true := decide_eq_true hr
  have r1 : (t.rt == 0) = true := r0
  have r2 : (t.rt != 0) = false := by simp only [bne, r1]; rfl
  clear hz hp hk ht hf h3 hr hA
  go_enter Tryz.func7, Tryz.ntmps7
  go_upto_region 1 with fail
  obtain ⟨W1, hW1⟩ : ∃ W1, W1 = ((w.alloc (.cells #[.slice s.w.a s.w.n s.w.c, .slice s.p.a s.p.n s.p.c, .slice (s.u 0).a (s.u 0).n (s.u 0).c, .slice (s.u 1).a (s.u 1).n (s.u 1).c, .slice (s.u 2).a (s.u 2).n (s.u 2).c, .slice s.c.a s.c.n s.c.c] 28)).alloc (.cells #[.int .i64 k.ph, .int .i64 k.ep, .bool k.mj, .slice k.wk.a k.wk.n k.wk.c, .bool k.ov, .int .i64 k.pa, .int .i64 k.pf, .int .i64 k.ps, .int .i64 k.pc, .bool k.me] 30)).alloc (.cells #[.bool t.lv, .int .i64 (t.r 0), .int .i64 (t.r 1), .int .i64 (t.r 2), .int .i64 (t.r 3), .slice (t.u 0).a (t.u 0).n (t.u 0).c, .slice (t.u 1).a (t.u 1).n (t.u 1).c, .slice (t.u 2).a (t.u 2).n (t.u 2).c, .int .i64 t.ep, .int .i64 t.sg, .int .i64 t.rt, .slice t.o.a t.o.n t.o.c, .int .i64 t.pc, .int .i64 t.x, .int .i64 t.y] 34) := ⟨_, rfl⟩
  have L1 := Lib.hid (lb_three (s := s) (k := k) (t := t) (lb_start HH.out) hW1)
  rw [← hW1]
  clear hW1
  go_upto_region 3 with (first
    | ((go_at_call 25); (with_reducible refine (Ha.awake_any _ (L1.out.over HZ.out)).mono ?_); rintro e9 w1 ⟨rfl, hb9⟩; have L2 := Lib.hid (L1.out.next hb9); clear hb9)
    | (refine w_load (ldHb (L2.out.bx (w.heap.size) (hv s) (by simp [boxes3]))) rfl rfl rfl rfl ?_)
    | (refine w_load (ldKb (L2.out.bx (w.heap.size + 1) (kv k) (by simp [boxes3]))) rfl rfl rfl rfl ?_)
    | (refine w_load (ldTb (L2.out.bx (w.heap.size + 2) (tv t) (by simp [boxes3]))) rfl rfl rfl rfl ?_)
    | ((go_at_call 26); (with_reducible refine (CF.out _).mono ?_); rintro e9 w2 ⟨rfl, hb9⟩; have L3 := Lib.hid (L2.out.next hb9); clear hb9))
  have q0 := (L3.out.bx (w.heap.size + 1) (kv k) (by simp [boxes3])).cel 0 (.int .i64 k.ph) (rfl)
  have q10 := (L3.out.bx (w.heap.size + 2) (tv t) (by simp [boxes3])).cel 10 (.int .i64 t.rt) (rfl)
  go_wp2_with (first
    | (refine w_loadg (ldKb (L3.out.bx (w.heap.size + 1) (kv k) (by simp [boxes3]))) rfl (by kernel_rfl) rfl rfl ?_)
    | (refine w_loadg (ldTb (L3.out.bx (w.heap.size + 2) (tv t) (by simp [boxes3]))) rfl (by kernel_rfl) rfl rfl ?_)
    | ((go_at_call 33); (with_reducible refine (CA.out _).mono ?_); rintro e9 w4 ⟨rfl, hb9⟩; have L4 := Lib.hid (L3.out.next hb9); clear q0 q10; clear hb9))
  go_ret
  exact ⟨rfl, L4.out.bel⟩
set_option maxHeartbeats 4000000 in
theorem walk_yes (hf : fewA s k t = true) (hf64 : Fit64 d.ws) (h3 : ¬ k.ph < 3) (hr : t.rt = 0) (hA : askB k.ph k.ep t = true) (hz : Cl.Sz w) (hp : Hp w w.heap.size s d) (hk : Sh.WRow w w.heap.size k xs) (ht : Th w w.heap.size t F g) : Calls Tryz.prog 7 #[(.agg #[.slice s.w.a s.w.n s.w.c, .slice s.p.a s.p.n s.p.c, .slice (s.u 0).a (s.u 0).n (s.u 0).c, .slice (s.u 1).a (s.u 1).n (s.u 1).c, .slice (s.u 2).a (s.u 2).n (s.u 2).c, .slice s.c.a s.c.n s.c.c]), (.agg #[.int .i64 k.ph, .int .i64 k.ep, .bool k.mj, .slice k.wk.a k.wk.n k.wk.c, .bool k.ov, .int .i64 k.pa, .int .i64 k.pf, .int .i64 k.ps, .int .i64 k.pc, .bool k.me]), (.agg #[.bool t.lv, .int .i64 (t.r 0), .int .i64 (t.r 1), .int .i64 (t.r 2), .int .i64 (t.r 3), .slice (t.u 0).a (t.u 0).n (t.u 0).c, .slice (t.u 1).a (t.u 1).n (t.u 1).c, .slice (t.u 2).a (t.u 2).n (t.u 2).c, .int .i64 t.ep, .int .i64 t.sg, .int .i64 t.rt, .slice t.o.a t.o.n t.o.c, .int .i64 t.pc, .int .i64 t.x, .int .i64 t.y])] w fun e w' => e = .returned (.bool true) ∧ Below w.heap.size w w' := by
  have HZ := Lib.hid hz
  have HH : Hid (Hold w ⟨s, k, t, d, xs, F, g⟩) := Lib.hid ⟨hp, hk, ht⟩
  have CF := Lib.hid (fun W => few_any s k t W)
  rw [hf] at CF
  have HB := Lib.hid (bs_few (n := ⟨s, k, t, d, xs, F, g⟩) hf ⟨hp, hk, ht⟩ hf64)
  have CA := Lib.hid (fun W => asked_any k t W)
  rw [hA] at CA
  have l0 : decide (k.ph < 3) = false := decide_eq_false h3
  have r0 : decide (t.rt = 0) = true := decide_eq_true hr
  have r1 : (t.rt == 0) = true := r0
  have r2 : (t.rt != 0) = false := by simp only [bne, r1]; rfl
  have HX := Lib.hid (roots_six (s := s) (k := k) (P := Ha.own ⟨s, k, t, d, xs, F, g⟩) hp.words.1 hA (by omega) hr)
  have C5 := Lib.hid (fun (j : Nat) (n : Q3) (hj : j ≤ 6) (hS : Sim s k (it s k (Ha.own ⟨s, k, t, d, xs, F, g⟩) j) n) (hF : n.F = F) W (hh : Hold W n) (hW : Cl.Sz W) => answer_any s k (it s k (Ha.own ⟨s, k, t, d, xs, F, g⟩) j) n W hS (in_it HB.out j hj hS hF hh hW))
  have CW := Lib.hid (fun (n : Q3) (hS : Sim s k (it s k (Ha.own ⟨s, k, t, d, xs, F, g⟩) 6) n) (hF : n.F = F) (q : Nat) (hq : q < 4) W (hh : Hold W n) (hW : Cl.Sz W) => Sh.white_any n.s n.d n.k n.xs (n.t.r q) W hh.h hh.c hW (in_it HB.out 6 (Nat.le_refl 6) hS hF hh hW).fine)
  clear hz hp hk ht hf hf64 h3 hr hA
  go_enter Tryz.func7, Tryz.ntmps7
  go_upto_region 1 with fail
  obtain ⟨W1, hW1⟩ : ∃ W1, W1 = ((w.alloc (.cells #[.slice s.w.a s.w.n s.w.c, .slice s.p.a s.p.n s.p.c, .slice (s.u 0).a (s.u 0).n (s.u 0).c, .slice (s.u 1).a (s.u 1).n (s.u 1).c, .slice (s.u 2).a (s.u 2).n (s.u 2).c, .slice s.c.a s.c.n s.c.c] 28)).alloc (.cells #[.int .i64 k.ph, .int .i64 k.ep, .bool k.mj, .slice k.wk.a k.wk.n k.wk.c, .bool k.ov, .int .i64 k.pa, .int .i64 k.pf, .int .i64 k.ps, .int .i64 k.pc, .bool k.me] 30)).alloc (.cells #[.bool t.lv, .int .i64 (t.r 0), .int .i64 (t.r 1), .int .i64 (t.r 2), .int .i64 (t.r 3), .slice (t.u 0).a (t.u 0).n (t.u 0).c, .slice (t.u 1).a (t.u 1).n (t.u 1).c, .slice (t.u 2).a (t.u 2).n (t.u 2).c, .int .i64 t.ep, .int .i64 t.sg, .int .i64 t.rt, .slice t.o.a t.o.n t.o.c, .int .i64 t.pc, .int .i64 t.x, .int .i64 t.y] 34) := ⟨_, rfl⟩
  have L1 := Lib.hid (lb_three (s := s) (k := k) (t := t) (lb_start HH.out) hW1)
  rw [← hW1]
  clear hW1
  go_upto_region 3 with (first
    | ((go_at_call 25); (with_reducible refine (Ha.awake_any _ (L1.out.over HZ.out)).mono ?_); rintro e9 w1 ⟨rfl, hb9⟩; have L2 := Lib.hid (L1.out.next hb9); clear hb9)
    | (refine w_load (ldHb (L2.out.bx (w.heap.size) (hv s) (by simp [boxes3]))) rfl rfl rfl rfl ?_)
    | (refine w_load (ldKb (L2.out.bx (w.heap.size + 1) (kv k) (by simp [boxes3]))) rfl rfl rfl rfl ?_)
    | (refine w_load (ldTb (L2.out.bx (w.heap.size + 2) (tv t) (by simp [boxes3]))) rfl rfl rfl rfl ?_)
    | ((go_at_call 26); (with_reducible refine (CF.out _).mono ?_); rintro e9 w2 ⟨rfl, hb9⟩; have L3 := Lib.hid (L2.out.next hb9); clear hb9))
  have q0 := (L3.out.bx (w.heap.size + 1) (kv k) (by simp [boxes3])).cel 0 (.int .i64 k.ph) (rfl)
  have q10 := (L3.out.bx (w.heap.size + 2) (tv t) (by simp [boxes3])).cel 10 (.int .i64 t.rt) (rfl)
  go_wp2_with (first
    | (refine w_loadg (ldKb (L3.out.bx (w.heap.size + 1) (kv k) (by simp [boxes3]))) rfl (by kernel_rfl) rfl rfl ?_)
    | (refine w_loadg (ldTb (L3.out.bx (w.heap.size + 2) (tv t) (by simp [boxes3]))) rfl (by kernel_rfl) rfl rfl ?_)
    | ((go_at_call 33); (with_reducible refine (CA.out _).mono ?_); rintro e9 w4 ⟨rfl, hb9⟩; have L4 := Lib.hid (L3.out.next hb9); clear q0 q10; clear hb9))
  have R4 : Hid (W3 w _ (p3 w.heap.size (w.heap.size + 1) (w.heap.size + 2)) (c3 (hv s) (kv k) (tv t)) [⟨s, k, t, d, xs, F, g⟩]) := Lib.hid (w3_start L4.out HH.out)
  go_loopw [9] (fun i wr => ∃ (j : Nat) (n : Q3), j ≤ 6 ∧ i = .int .i64 j ∧ Hid (W3 w wr (p3 w.heap.size (w.heap.size + 1) (w.heap.size + 2)) (c3 (hv n.s) (kv n.k) (tv n.t)) [n] ∧ (Sim s k (it s k (Ha.own ⟨s, k, t, d, xs, F, g⟩) j) n ∧ n.F = F))) (fun i _ => 6 - (intOf i).toNat)
  case atStart => exact ⟨0, ⟨s, k, t, d, xs, F, g⟩, by omega, rfl, Lib.hid ⟨R4.out, sim_own ⟨s, k, t, d, xs, F, g⟩, rfl⟩⟩
  case round =>
    obtain ⟨j, n, hj, rfl, R⟩ := hrel
    by_cases hlt : j < 6
    · have hltz : (j : Int) < 6 := by omega
      go_wp2_with (first
        | (refine w_load (ldHb (show Box _ (w.heap.size) (hv n.s) from R.out.1.box 0 (by decide))) rfl rfl rfl rfl ?_)
        | (refine w_load (ldKb (show Box _ (w.heap.size + 1) (kv n.k) from R.out.1.box 1 (by decide))) rfl rfl rfl rfl ?_)
        | (refine w_load (ldTb (show Box _ (w.heap.size + 2) (tv n.t) from R.out.1.box 2 (by decide))) rfl rfl rfl rfl ?_)
        | ((go_at_call 27); (with_reducible refine (C5.out j n hj R.out.2.1 R.out.2.2 _ (R.out.1.at n (by simp)) (R.out.1.over HZ.out)).mono ?_); rintro e9 w9 ⟨m, rfl, hs9, hF9, _, hh9, hn9, hb9⟩; have S5 := Lib.hid (R.out.1.swap hh9 hn9 hb9); have I5 := Lib.hid (And.intro hs9 (hF9.trans R.out.2.2)); clear hs9 hF9 hh9 hn9 hb9)
        | (refine Ha.w3_putH S5.out 0 (by decide) m.s (c' := c3 (hv m.s) (kv n.k) (tv n.t)) rfl (all3 ⟨rfl, rfl, rfl⟩) rfl rfl rfl rfl rfl ?_; intro W5 h5; have S6 := Lib.hid h5; clear h5 S5)
        | (refine Ha.w3_putK S6.out 1 (by decide) m.k (c' := c3 (hv m.s) (kv m.k) (tv n.t)) rfl (all3 ⟨rfl, rfl, rfl⟩) rfl rfl rfl rfl rfl ?_; intro W6' h5; have S7 := Lib.hid h5; clear h5 S6)
        | (refine Ha.w3_putT S7.out 2 (by decide) m.t (c' := c3 (hv m.s) (kv m.k) (tv m.t)) rfl (all3 ⟨rfl, rfl, rfl⟩) rfl rfl rfl rfl rfl ?_; intro W7 h5; have S8 := Lib.hid h5; clear h5 S7))
      go_roundw
      case rel => exact ⟨j + 1, m, by omega, by go_num, Lib.hid ⟨S8.out, I5.out.1, I5.out.2⟩⟩
      case measure => simp [intOf]; omega
    · obtain rfl : j = 6 := by omega
      have I6 := Lib.hid R.out.2
      have R6' := Lib.hid R.out.1
      clear R C5 hj hlt
      have HN := Lib.hid (show n.t.r = t.r ∧ n.t.sg = 3 ∧ n.t.rt = 0 from ⟨by rw [I6.out.1.t]; exact (it_keep s k (Ha.own ⟨s, k, t, d, xs, F, g⟩) 6).r, I6.out.1.fs.2.1.trans HX.out.2.1, I6.out.1.fs.2.2.trans HX.out.2.2⟩)
      go_wp2
      go_loopw [10] (fun i wr => ∃ q : Nat, q ≤ 4 ∧ i = .int .i64 q ∧ Hid (W3 w wr (p3 w.heap.size (w.heap.size + 1) (w.heap.size + 2)) (c3 (hv n.s) (kv n.k) (tv n.t)) [n])) (fun i _ => 4 - (intOf i).toNat)
      case atStart => exact ⟨0, by omega, rfl, R6'⟩
      case round =>
        obtain ⟨q, hq, rfl, R⟩ := hrel
        by_cases hlt : q < 4
        · have hltz : (q : Int) < 4 := by omega
          have hw := Lib.hid (show Sh.isC n.s n.d n.k.mj n.k.ep (n.t.r q) 1 = false by rw [I6.out.1.isC, HN.out.1]; exact HX.out.1 q hlt)
          go_upto_region 12 with fail
          refine Sh.region_gen fun a0 ha0 => ?_
          have G3 : a0.tmps[3]? = some (.pointer (some ⟨w.heap.size, 0, none⟩)) := by rw [ha0]; rfl
          have G4 : a0.tmps[4]? = some (.pointer (some ⟨w.heap.size + 1, 0, none⟩)) := by rw [ha0]; rfl
          have G5 : a0.tmps[5]? = some (.pointer (some ⟨w.heap.size + 2, 0, none⟩)) := by rw [ha0]; rfl
          have G10 : a0.tmps[10]? = some (.int .i64 (q : Int)) := by rw [ha0]; rfl
          have TZ : a0.tmps.size = 70 := by rw [ha0]; rfl
          have HA := Lib.hid ha0
          clear ha0
          refine region_planG (by kernel_rfl) (by kernel_rfl) (by rw [TZ]; kernel_rfl) (fun (_ : Unit) (i : Nat) => (match i with | 0 => (.agg #[.slice n.s.w.a n.s.w.n n.s.w.c, .slice n.s.p.a n.s.p.n n.s.p.c, .slice (n.s.u 0).a (n.s.u 0).n (n.s.u 0).c, .slice (n.s.u 1).a (n.s.u 1).n (n.s.u 1).c, .slice (n.s.u 2).a (n.s.u 2).n (n.s.u 2).c, .slice n.s.c.a n.s.c.n n.s.c.c]) | 1 => (.agg #[.int .i64 n.k.ph, .int .i64 n.k.ep, .bool n.k.mj, .slice n.k.wk.a n.k.wk.n n.k.wk.c, .bool n.k.ov, .int .i64 n.k.pa, .int .i64 n.k.pf, .int .i64 n.k.ps, .int .i64 n.k.pc, .bool n.k.me]) | 2 => .int .i64 (q : Int) | 3 => .pointer (some ⟨w.heap.size + 2, 1, none⟩) | 4 => .pointer (some ⟨w.heap.size + 2, 1 + q, none⟩) | 5 => .int .i64 (n.t.r q) | 6 => .bool false | _ => undef : Value)) (fun _ => false) (fun _ _ h => by cases h) (fun _ l W => W3 w W (p3 w.heap.size (w.heap.size + 1) (w.heap.size + 2)) (c3 (hv n.s) (kv n.k) (tv n.t)) [n]) () ?start ?want ?skip ?step ?done
          case start => exact R.out.next ⟨rfl, rfl, rfl, Nat.le_refl _, fun _ _ => rfl⟩
          case skip => exact fun i l x W h _ => by cases h
          case want =>
            rintro i o9 l a9 _ ho hP haft
            have hi : i < 7 := (Array.getElem?_eq_some_iff.1 ho).1
            rcases (show i = 0 ∨ i = 1 ∨ i = 2 ∨ i = 3 ∨ i = 4 ∨ i = 5 ∨ i = 6 by omega) with rfl | rfl | rfl | rfl | rfl | rfl | rfl
            all_goals
              obtain rfl := Option.some.inj ho
              rfl
          case step =>
            rintro i o9 l a9 _ W9 ho hP hI hl _ haft K hK
            have hi : i < 7 := (Array.getElem?_eq_some_iff.1 ho).1
            rcases (show i = 0 ∨ i = 1 ∨ i = 2 ∨ i = 3 ∨ i = 4 ∨ i = 5 ∨ i = 6 by omega) with rfl | rfl | rfl | rfl | rfl | rfl | rfl
            · obtain rfl := Option.some.inj ho
              have q3 := (hP.keep (j := 3) (by kernel_rfl)).trans G3
              exact Mu.p_load rfl (Mu.ev q3) (ldHb (show Box _ (w.heap.size) (hv n.s) from hI.box 0 (by decide))) (hK () _ (fun _ _ => rfl) hI)
            · obtain rfl := Option.some.inj ho
              have q4 := (hP.keep (j := 4) (by kernel_rfl)).trans G4
              exact Mu.p_load rfl (Mu.ev q4) (ldKb (show Box _ (w.heap.size + 1) (kv n.k) from hI.box 1 (by decide))) (hK () _ (fun _ _ => rfl) hI)
            · obtain rfl := Option.some.inj ho
              have q10 := (hP.keep (j := 10) (by kernel_rfl)).trans G10
              go_simp
              exact hK () _ (fun _ _ => rfl) hI
            · obtain rfl := Option.some.inj ho
              have q5 := (hP.keep (j := 5) (by kernel_rfl)).trans G5
              go_simp
              exact hK () _ (fun _ _ => rfl) hI
            · obtain rfl := Option.some.inj ho
              have e2 := hP.got 2 _ 57 rfl (haft ⟨2, .data⟩ (by simp) rfl) rfl
              have e3 := hP.got 3 _ 58 rfl (haft ⟨3, .data⟩ (by simp) rfl) rfl
              try dsimp only at e2 e3
              go_simp
              exact hK () _ (fun _ _ => rfl) hI
            · obtain rfl := Option.some.inj ho
              have e4 := hP.got 4 _ 59 rfl (haft ⟨4, .data⟩ (by simp) rfl) rfl
              try dsimp only at e4
              have c9 := tbox_reg (show Box _ (w.heap.size + 2) (tv n.t) from hI.box 2 (by decide)) hlt
              go_simp
              exact hK () _ (fun _ _ => rfl) hI
            · obtain rfl := Option.some.inj ho
              have e0 := hP.got 0 _ 55 rfl (haft ⟨0, .data⟩ (by simp) rfl) rfl
              have e1 := hP.got 1 _ 56 rfl (haft ⟨1, .data⟩ (by simp) rfl) rfl
              have e5 := hP.got 5 _ 60 rfl (haft ⟨5, .data⟩ (by simp) rfl) rfl
              try dsimp only at e0 e1 e5
              go_simp
              refine (CW.out n I6.out.1 I6.out.2 q hlt W9 (hI.at n (by simp)) (hI.over HZ.out)).mono ?_
              rintro e9 w9 ⟨rfl, hb9⟩
              rw [hw.out]
              exact hK () _ (fun _ _ => rfl) (hI.next hb9)
          case done =>
            rintro l a9 _ W9 hP hI hall
            have R9 := Lib.hid hI
            obtain rfl := pl_full hP (by rw [TZ]; kernel_rfl) hall [some 55, some 56, some 57, some 58, some 59, some 60, some 61] (by rfl)
            clear hP hI hall TZ G3 G4 G5 G10
            rw [HA.out]
            simp only [putD, Act.put, List.setIfInBounds_toArray, List.set_cons_succ, List.set_cons_zero]
            clear HA
            go_wp2
            go_roundw
            case rel => exact ⟨q + 1, by omega, by go_num, R9⟩
            case measure => simp [intOf]; omega
        · obtain rfl : q = 4 := by omega
          have u9 := (show Box _ (w.heap.size + 2) (tv n.t) from R.out.box 2 (by decide)).cel 9 (.int .i64 3) (by rw [← HN.out.2.1]; rfl)
          have u10 := (show Box _ (w.heap.size + 2) (tv n.t) from R.out.box 2 (by decide)).cel 10 (.int .i64 0) (by rw [← HN.out.2.2]; rfl)
          go_wp2
          go_ret
          exact ⟨rfl, R.out.bel⟩
end
theorem walk (s : Hs) (d : Hd_) (k : Sh.Ks) (xs : List Int) (t : Ts) (F : Nat → List Int) (g : Nat → O4) (w : World) (hz : Cl.Sz w) (hp : Hp w w.heap.size s d) (hv : Fit64 d.ws) (_ : s.p.n ≤ s.p.c) (hk : Sh.WRow w w.heap.size k xs) (_ : k.wk.n ≤ k.wk.c) (_ : k.wk.c ≤ maxLen) (_ : (Lit.int .i64 k.ep).wf = true) (ht : Th w w.heap.size t F g) : Calls Tryz.prog 7 #[(.agg #[.slice s.w.a s.w.n s.w.c, .slice s.p.a s.p.n s.p.c, .slice (s.u 0).a (s.u 0).n (s.u 0).c, .slice (s.u 1).a (s.u 1).n (s.u 1).c, .slice (s.u 2).a (s.u 2).n (s.u 2).c, .slice s.c.a s.c.n s.c.c]), (.agg #[.int .i64 k.ph, .int .i64 k.ep, .bool k.mj, .slice k.wk.a k.wk.n k.wk.c, .bool k.ov, .int .i64 k.pa, .int .i64 k.pf, .int .i64 k.ps, .int .i64 k.pc, .bool k.me]), (.agg #[.bool t.lv, .int .i64 (t.r 0), .int .i64 (t.r 1), .int .i64 (t.r 2), .int .i64 (t.r 3), .slice (t.u 0).a (t.u 0).n (t.u 0).c, .slice (t.u 1).a (t.u 1).n (t.u 1).c, .slice (t.u 2).a (t.u 2).n (t.u 2).c, .int .i64 t.ep, .int .i64 t.sg, .int .i64 t.rt, .slice t.o.a t.o.n t.o.c, .int .i64 t.pc, .int .i64 t.x, .int .i64 t.y])] w fun e w' => e = .returned (.bool true) ∧ Below w.heap.size w w' := by
  cases hf : fewA s k t with
  | false => exact walk_few s k t d xs F g w hf hz hp hk ht
  | true =>
    by_cases h3 : k.ph < 3
    · exact walk_low s k t d xs F g w hf h3 hz hp hk ht
    · by_cases hr : t.rt = 0
      · cases hA : askB k.ph k.ep t with
        | false => exact walk_not s k t d xs F g w hf h3 hr hA hz hp hk ht
        | true => exact walk_yes s k t d xs F g w hf hv h3 hr hA hz hp hk ht
      · exact walk_mid s k t d xs F g w hf h3 hr hz hp hk ht

-- the frame (hp15frame.py)
set_option maxRecDepth 100000 in
theorem lifted (os : Os) (started : os.Started) (H : Type) (enc : TypeId × Value → H) :
    ReturnsInHanded {} Tryz.checked os 7 .any (fun w args => (Rows.handRootsSpec.pre enc Tryz.prog Tryz.f7 [] false w args ∧ laidMetH Tryz.prog laidSizes w) ∧ sizedMet enc Tryz.prog Tryz.f7 (OpenSpec.ofChange Rows.handRootsSpec) false w args)
      (Rows.handRootsSpec.post enc Tryz.prog Tryz.f7 false true false false) := by
  refine returnsInHanded_of_change_and (C := Tryz.checked) (X := fun w _ => laidMetH Tryz.prog laidSizes w) (fun _ _ _ hh h => h.of_heap hh) own started (by kernel_rfl) Tryz.func7
    (ChangeSpec.witness_shaped (enc := enc) (C := Tryz.checked) (os := os) (X := fun w _ => laidMetH Tryz.prog laidSizes w) false (World.doorLaid Tryz.prog 400 os) #[.agg #[.slice none 0 0, .slice none 0 0, .slice none 0 0, .slice none 0 0, .slice none 0 0, .slice none 0 0], .agg #[.int .i64 0, .int .i64 0, .bool false, .slice none 0 0, .bool false, .int .i64 0, .int .i64 0, .int .i64 0, .int .i64 0, .bool false], .agg #[.bool false, .int .i64 0, .int .i64 0, .int .i64 0, .int .i64 0, .slice none 0 0, .slice none 0 0, .slice none 0 0, .int .i64 0, .int .i64 0, .int .i64 0, .slice none 0 0, .int .i64 0, .int .i64 0, .int .i64 0]] 8 rfl (World.shaped_of_RefB (by kernel_rfl) (by kernel_rfl)) (by kernel_rfl) (by kernel_rfl) (by kernel_rfl) (door_met os _)) ?_
  intro W base args ds gs before hval0 hW _ _ hL _
  have hval : ∀ (j : Nat) t v, Tryz.f7.params[j]? = some t → args[j]? = some v → Value.okWide Tryz.prog W .any base t v := hval0
  have hW' := hW
  obtain ⟨p, q, hA0, hV, rfl, hfz, hnd⟩ := hW
  have hA : DataW.TrodAll enc Tryz.prog W 0 (fun _ => true) true Tryz.f7.params.toList args.toList ds p := hA0
  rw [Tryz.params7] at hA hval
  obtain ⟨v0, vs0, d0, ds0, p0, q0, hargs, rfl, rfl, h0, r0⟩ := trodAll_cons hA
  obtain ⟨v1, vs1, d1, ds1, p1, q1, rfl, rfl, rfl, h1, r1⟩ := trodAll_cons r0
  obtain ⟨v2, vs2, d2, ds2, p2, q2, rfl, rfl, rfl, h2, r2⟩ := trodAll_cons r1
  obtain ⟨rfl, rfl, rfl⟩ := trodAll_nil r2
  obtain rfl : args = #[v0, v1, v2] := by cases args; simp_all
  obtain ⟨rfl, rfl⟩ := trodVars_none hV
  have k0 := h0
  have lt0 : ∀ x ∈ p0, x.block < W.heap.size := by obtain ⟨m, hm⟩ := k0; exact DataW.trod_lt m _ _ _ hm
  obtain ⟨s0, z0, rfl, w0, f0, b0⟩ := heap_of8 (hval 0 28 v0 rfl rfl) h0
  have k1 := h1
  have lt1 : ∀ x ∈ p1, x.block < W.heap.size := by obtain ⟨m, hm⟩ := k1; exact DataW.trod_lt m _ _ _ hm
  obtain ⟨k1', z1, rfl, w1, m1, x1, f1⟩ := Sh.col_of (hval 1 30 v1 rfl rfl) h1
  have k2 := h2
  have lt2 : ∀ x ∈ p2, x.block < W.heap.size := by obtain ⟨m, hm⟩ := k2; exact DataW.trod_lt m _ _ _ hm
  obtain ⟨t2, z2, g2, rfl, w2⟩ := Rt.th_of (hval 2 34 v2 rfl rfl) h2
  clear hA0 hval0
  refine (walk s0 z0 k1' z1 t2 z2 g2 W (of_laid hL) w0 f0 b0 w1 m1 x1 f1 w2).mono fun e W' ⟨he, bel⟩ => ?_
  subst he
  exact ⟨_, rfl, _, _, _, [], _, [], hW', trodAll_mk1 (shut_bool Tryz.underlying4 _), (trodAll_cons_mk (Below.trod laidOut (by kernel_rfl) (of_decide_eq_true (by kernel_rfl)) k0 bel lt0) (trodAll_cons_mk (Below.trod laidOut (by kernel_rfl) (of_decide_eq_true (by kernel_rfl)) k1 bel lt1) (trodAll_cons_mk (Below.trod laidOut (by kernel_rfl) (of_decide_eq_true (by kernel_rfl)) k2 bel lt2) trodAll_mk0))), rfl, bel.frame _, fun h => by cases h⟩

theorem over : Rows.HandRootsSaid :=
  OpenClaim.holds_of_wide 7 Tryz.f7 rfl rfl rfl rfl rfl rfl rfl ⟨rfl, rfl, rfl, rfl, rfl⟩ rfl rfl rfl rfl rfl (by kernel_rfl) Tryz.func7 (by kernel_rfl)
    (of_decide_eq_true (by kernel_rfl)) (by unfold Func.isWrapper; first | (rw [if_pos (by decide +kernel)]; kernel_rfl) | (rw [if_neg (by decide +kernel)]; exact ⟨rfl, rfl⟩))
    (fun os started H enc _ => lifted os started H enc)

/-- The statement: the card. -/
theorem proved : Rows.HandRootsCardSaid :=
  Claim7.holds_tied_plain_at .later [] [.data] true Rows.handRootsCard.stood.harness false
    over (fun _ h => by cases h) (by kernel_rfl) (fun _ h => by cases h) handRoots_row_tie rfl ⟨rfl, rfl⟩ (by kernel_rfl) rfl
    (fun f fn hf hfn => by
      obtain rfl : f = 7 := Option.some.inj ((show Tryz.prog.funcNamed "ragpicker/ragpickerlaw15.HandRoots" = some 7 by kernel_rfl).symm.trans hf) |>.symm
      obtain rfl : fn = Tryz.f7 := (Option.some.inj (Tryz.func7.symm.trans hfn)).symm
      exact ⟨by kernel_rfl, fun j t ht => by
        rw [Tryz.params7] at ht
        have hm : t ∈ [28, 30, 34] := by simpa using Array.mem_of_getElem? ht
        have hall : ([28, 30, 34].all fun u => !Tryz.prog.wantsStandIn u) = true := by kernel_rfl
        exact (show Tryz.prog.wantsStandIn t = false by simpa using List.all_eq_true.1 hall t hm)⟩)
    (by kernel_rfl)
#print axioms proved
end Go.Proofs.YtgmkomnoiffapaaGreatDoor.HandRoots
