/-
  HandEnds: A thread that is asked has answered behind at most six answers, while the phase stays; what it does changes only heads that are shaded, and the work list: for every heap of at most 9 pages and 130 words, every work list of at most 100, every thread of at most 220 operations; the table of sizes is tied to the program's text by the card.
-/
import Derived.Test.YtgmkomnoiffapaaGreatDoorNHaAwake
import Derived.Test.YtgmkomnoiffapaaGreatDoorHpNK
import Derived.Deep.Cut
import Derived.Deep.CutRange
import Derived.Deep.QuietTactic
import Derived.BigQuiet
namespace Go.Proofs.YtgmkomnoiffapaaGreatDoor.HandEnds
open Go.Proofs.YtgmkomnoiffapaaGreatDoor Go.Proofs.YtgmkomnoiffapaaGreatDoor.Rt Go.Proofs.YtgmkomnoiffapaaGreatDoor.Ha
open Go.ChangeShapes Go.WideShapes Go.ChangeAt Go.RowKit
open Go.Proofs.YtgmkomnoiffapaaGreatDoor.Mu (hv kv w_load w_loadg ldHb ldKb ldTb noHs0 noK0)
set_option maxRecDepth 100000

section
variable (s : Hs) (k : Sh.Ks) (t : Ts) (d : Hd_) (xs : List Int) (F : Nat → List Int) (g : Nat → O4) (w : World)
set_option maxHeartbeats 1000000 in
theorem walk_few (hf : fewA s k t = false) (hz : Cl.Sz w) (hp : Hp w w.heap.size s d) (hk : Sh.WRow w w.heap.size k xs) (ht : Th w w.heap.size t F g) : Calls Tryz.prog 6 #[(.agg #[.slice s.w.a s.w.n s.w.c, .slice s.p.a s.p.n s.p.c, .slice (s.u 0).a (s.u 0).n (s.u 0).c, .slice (s.u 1).a (s.u 1).n (s.u 1).c, .slice (s.u 2).a (s.u 2).n (s.u 2).c, .slice s.c.a s.c.n s.c.c]), (.agg #[.int .i64 k.ph, .int .i64 k.ep, .bool k.mj, .slice k.wk.a k.wk.n k.wk.c, .bool k.ov, .int .i64 k.pa, .int .i64 k.pf, .int .i64 k.ps, .int .i64 k.pc, .bool k.me]), (.agg #[.bool t.lv, .int .i64 (t.r 0), .int .i64 (t.r 1), .int .i64 (t.r 2), .int .i64 (t.r 3), .slice (t.u 0).a (t.u 0).n (t.u 0).c, .slice (t.u 1).a (t.u 1).n (t.u 1).c, .slice (t.u 2).a (t.u 2).n (t.u 2).c, .int .i64 t.ep, .int .i64 t.sg, .int .i64 t.rt, .slice t.o.a t.o.n t.o.c, .int .i64 t.pc, .int .i64 t.x, .int .i64 t.y])] w fun e w' => e = .returned (.bool true) ∧ Below w.heap.size w w' := by
  have HZ := Lib.hid hz
  have HH : Hid (Hold w ⟨s, k, t, d, xs, F, g⟩) := Lib.hid ⟨hp, hk, ht⟩
  have CF := Lib.hid (fun W => few_any s k t W)
  rw [hf] at CF
  clear hz hp hk ht hf
  go_enter Tryz.func6, Tryz.ntmps6
  go_upto_region 1 with fail
  obtain ⟨W1, hW1⟩ : ∃ W1, W1 = ((w.alloc (.cells #[.slice s.w.a s.w.n s.w.c, .slice s.p.a s.p.n s.p.c, .slice (s.u 0).a (s.u 0).n (s.u 0).c, .slice (s.u 1).a (s.u 1).n (s.u 1).c, .slice (s.u 2).a (s.u 2).n (s.u 2).c, .slice s.c.a s.c.n s.c.c] 28)).alloc (.cells #[.int .i64 k.ph, .int .i64 k.ep, .bool k.mj, .slice k.wk.a k.wk.n k.wk.c, .bool k.ov, .int .i64 k.pa, .int .i64 k.pf, .int .i64 k.ps, .int .i64 k.pc, .bool k.me] 30)).alloc (.cells #[.bool t.lv, .int .i64 (t.r 0), .int .i64 (t.r 1), .int .i64 (t.r 2), .int .i64 (t.r 3), .slice (t.u 0).a (t.u 0).n (t.u 0).c, .slice (t.u 1).a (t.u 1).n (t.u 1).c, .slice (t.u 2).a (t.u 2).n (t.u 2).c, .int .i64 t.ep, .int .i64 t.sg, .int .i64 t.rt, .slice t.o.a t.o.n t.o.c, .int .i64 t.pc, .int .i64 t.x, .int .i64 t.y] 34) := ⟨_, rfl⟩
  have L1 := Lib.hid (lb_three (s := s) (k := k) (t := t) (lb_start HH.out) hW1)
  rw [← hW1]
  clear hW1
  go_upto_region 3 with (first
    | ((go_at_call 25); (with_reducible refine (Ha.awake_any _ (L1.out.over HZ.out)).mono ?_); rintro e9 w1 ⟨rfl, hb9⟩; have L2 := Lib.hid (L1.out.next hb9); clear hb9)
    | (refine w_load (ldHb (L2.out.bx (w.heap.size) (hv s) (by simp [boxes3]))) rfl rfl rfl rfl ?_)
    | (refine w_load (ldKb (L2.out.bx (w.heap.size + 1) (kv k) (by simp [boxes3]))) rfl rfl rfl rfl ?_)
    | (refine w_load (ldTb (L2.out.bx (w.heap.size + 2) (tv t) (by simp [boxes3]))) rfl rfl rfl rfl ?_)
    | ((go_at_call 26); (with_reducible refine (CF.out _).mono ?_); rintro e9 w2 ⟨rfl, hb9⟩; have L3 := Lib.hid (L2.out.next hb9); clear hb9))
  go_wp2
  go_ret
  exact ⟨rfl, L3.out.bel⟩
set_option maxHeartbeats 1000000 in
theorem walk_not (hf : fewA s k t = true) (hA : askB k.ph k.ep t = false) (hz : Cl.Sz w) (hp : Hp w w.heap.size s d) (hk : Sh.WRow w w.heap.size k xs) (ht : Th w w.heap.size t F g) : Calls Tryz.prog 6 #[(.agg #[.slice s.w.a s.w.n s.w.c, .slice s.p.a s.p.n s.p.c, .slice (s.u 0).a (s.u 0).n (s.u 0).c, .slice (s.u 1).a (s.u 1).n (s.u 1).c, .slice (s.u 2).a (s.u 2).n (s.u 2).c, .slice s.c.a s.c.n s.c.c]), (.agg #[.int .i64 k.ph, .int .i64 k.ep, .bool k.mj, .slice k.wk.a k.wk.n k.wk.c, .bool k.ov, .int .i64 k.pa, .int .i64 k.pf, .int .i64 k.ps, .int .i64 k.pc, .bool k.me]), (.agg #[.bool t.lv, .int .i64 (t.r 0), .int .i64 (t.r 1), .int .i64 (t.r 2), .int .i64 (t.r 3), .slice (t.u 0).a (t.u 0).n (t.u 0).c, .slice (t.u 1).a (t.u 1).n (t.u 1).c, .slice (t.u 2).a (t.u 2).n (t.u 2).c, .int .i64 t.ep, .int .i64 t.sg, .int .i64 t.rt, .slice t.o.a t.o.n t.o.c, .int .i64 t.pc, .int .i64 t.x, .int .i64 t.y])] w fun e w' => e = .returned (.bool true) ∧ Below w.heap.size w w' := by
  have HZ := Lib.hid hz
  have HH : Hid (Hold w ⟨s, k, t, d, xs, F, g⟩) := Lib.hid ⟨hp, hk, ht⟩
  have CF := Lib.hid (fun W => few_any s k t W)
  rw [hf] at CF
  have CA := Lib.hid (fun W => asked_any k t W)
  rw [hA] at CA
  clear hz hp hk ht hf hA
  go_enter Tryz.func6, Tryz.ntmps6
  go_upto_region 1 with fail
  obtain ⟨W1, hW1⟩ : ∃ W1, W1 = ((w.alloc (.cells #[.slice s.w.a s.w.n s.w.c, .slice s.p.a s.p.n s.p.c, .slice (s.u 0).a (s.u 0).n (s.u 0).c, .slice (s.u 1).a (s.u 1).n (s.u 1).c, .slice (s.u 2).a (s.u 2).n (s.u 2).c, .slice s.c.a s.c.n s.c.c] 28)).alloc (.cells #[.int .i64 k.ph, .int .i64 k.ep, .bool k.mj, .slice k.wk.a k.wk.n k.wk.c, .bool k.ov, .int .i64 k.pa, .int .i64 k.pf, .int .i64 k.ps, .int .i64 k.pc, .bool k.me] 30)).alloc (.cells #[.bool t.lv, .int .i64 (t.r 0), .int .i64 (t.r 1), .int .i64 (t.r 2), .int .i64 (t.r 3), .slice (t.u 0).a (t.u 0).n (t.u 0).c, .slice (t.u 1).a (t.u 1).n (t.u 1).c, .slice (t.u 2).a (t.u 2).n (t.u 2).c, .int .i64 t.ep, .int .i64 t.sg, .int .i64 t.rt, .slice t.o.a t.o.n t.o.c, .int .i64 t.pc, .int .i64 t.x, .int .i64 t.y] 34) := ⟨_, rfl⟩
  have L1 := Lib.hid (lb_three (s := s) (k := k) (t := t) (lb_start HH.out) hW1)
  rw [← hW1]
  clear hW1
  go_upto_region 3 with (first
    | ((go_at_call 25); (with_reducible refine (Ha.awake_any _ (L1.out.over HZ.out)).mono ?_); rintro e9 w1 ⟨rfl, hb9⟩; have L2 := Lib.hid (L1.out.next hb9); clear hb9)
    | (refine w_load (ldHb (L2.out.bx (w.heap.size) (hv s) (by simp [boxes3]))) rfl rfl rfl rfl ?_)
    | (refine w_load (ldKb (L2.out.bx (w.heap.size + 1) (kv k) (by simp [boxes3]))) rfl rfl rfl rfl ?_)
    | (refine w_load (ldTb (L2.out.bx (w.heap.size + 2) (tv t) (by simp [boxes3]))) rfl rfl rfl rfl ?_)
    | ((go_at_call 26); (with_reducible refine (CF.out _).mono ?_); rintro e9 w2 ⟨rfl, hb9⟩; have L3 := Lib.hid (L2.out.next hb9); clear hb9))
  go_wp2_with (first
    | (refine w_loadg (ldKb (L3.out.bx (w.heap.size + 1) (kv k) (by simp [boxes3]))) rfl (by kernel_rfl) rfl rfl ?_)
    | (refine w_loadg (ldTb (L3.out.bx (w.heap.size + 2) (tv t) (by simp [boxes3]))) rfl (by kernel_rfl) rfl rfl ?_)
    | ((go_at_call 33); (with_reducible refine (CA.out _).mono ?_); rintro e9 w4 ⟨rfl, hb9⟩; have L4 := Lib.hid (L3.out.next hb9); clear hb9))
  go_ret
  exact ⟨rfl, L4.out.bel⟩
set_option maxHeartbeats 8000000 in
theorem walk_yes (hf : fewA s k t = true) (hf64 : Fit64 d.ws) (hA : askB k.ph k.ep t = true) (hz : Cl.Sz w) (hp : Hp w w.heap.size s d) (hk : Sh.WRow w w.heap.size k xs) (ht : Th w w.heap.size t F g) : Calls Tryz.prog 6 #[(.agg #[.slice s.w.a s.w.n s.w.c, .slice s.p.a s.p.n s.p.c, .slice (s.u 0).a (s.u 0).n (s.u 0).c, .slice (s.u 1).a (s.u 1).n (s.u 1).c, .slice (s.u 2).a (s.u 2).n (s.u 2).c, .slice s.c.a s.c.n s.c.c]), (.agg #[.int .i64 k.ph, .int .i64 k.ep, .bool k.mj, .slice k.wk.a k.wk.n k.wk.c, .bool k.ov, .int .i64 k.pa, .int .i64 k.pf, .int .i64 k.ps, .int .i64 k.pc, .bool k.me]), (.agg #[.bool t.lv, .int .i64 (t.r 0), .int .i64 (t.r 1), .int .i64 (t.r 2), .int .i64 (t.r 3), .slice (t.u 0).a (t.u 0).n (t.u 0).c, .slice (t.u 1).a (t.u 1).n (t.u 1).c, .slice (t.u 2).a (t.u 2).n (t.u 2).c, .int .i64 t.ep, .int .i64 t.sg, .int .i64 t.rt, .slice t.o.a t.o.n t.o.c, .int .i64 t.pc, .int .i64 t.x, .int .i64 t.y])] w fun e w' => e = .returned (.bool true) ∧ Below w.heap.size w w' := by
  have HZ := Lib.hid hz
  have HH : Hid (Hold w ⟨s, k, t, d, xs, F, g⟩) := Lib.hid ⟨hp, hk, ht⟩
  have CF := Lib.hid (fun W => few_any s k t W)
  rw [hf] at CF
  have HB := Lib.hid (bs_few (n := ⟨s, k, t, d, xs, F, g⟩) hf ⟨hp, hk, ht⟩ hf64)
  have CA := Lib.hid (fun W => asked_any k t W)
  rw [hA] at CA
  have HX := Lib.hid hA
  have HD := Lib.hid (fewA_len hf)
  have HZN := Lib.hid (show s.w.n ≤ 130 from (few_parts (fewA_len hf).2.2).1)
  have CO := Lib.hid (fun W (hh : Hold W ⟨s, k, t, d, xs, F, g⟩) => rown7_full s d W hh.h (by have h9 := few_parts (fewA_len hf).2.2; omega) (by have h9 := few_parts (fewA_len hf).2.2; omega) (by have h9 := few_parts (fewA_len hf).2.2; omega) (fun j hj => by have h9 := few_parts (fewA_len hf).2.2; have h8 := of_decide_eq_true h9.2.2.2; match j, hj with | 0, _ => (have := h8.1; omega) | 1, _ => (have := h8.2.1; omega) | 2, _ => (have := h8.2.2; omega)))
  have CP := Lib.hid (fun W (hh : Hold W ⟨s, k, t, d, xs, F, g⟩) => rcol_any k xs W hh.c (by have h9 : xs.length ≤ 100 := HB.out.x; omega))
  have C5 := Lib.hid (fun (j : Nat) (n : Q3) (hj : j ≤ 6) (hS : Sim s k (it s k (Ha.own ⟨s, k, t, d, xs, F, g⟩) j) n) (hF : n.F = F) W (hh : Hold W n) (hW : Cl.Sz W) => answer_any s k (it s k (Ha.own ⟨s, k, t, d, xs, F, g⟩) j) n W hS (in_it HB.out j hj hS hF hh hW))
  have CW := Lib.hid (fun (a : Int) W (hh : Hold W ⟨s, k, t, d, xs, F, g⟩) (hW : Cl.Sz W) => Sh.white_any s d k xs a W hh.h hh.c hW HB.out.fine)
  clear hz hp hk ht hf hf64 hA
  go_enter Tryz.func6, Tryz.ntmps6
  go_upto_region 1 with fail
  obtain ⟨W1, hW1⟩ : ∃ W1, W1 = ((w.alloc (.cells #[.slice s.w.a s.w.n s.w.c, .slice s.p.a s.p.n s.p.c, .slice (s.u 0).a (s.u 0).n (s.u 0).c, .slice (s.u 1).a (s.u 1).n (s.u 1).c, .slice (s.u 2).a (s.u 2).n (s.u 2).c, .slice s.c.a s.c.n s.c.c] 28)).alloc (.cells #[.int .i64 k.ph, .int .i64 k.ep, .bool k.mj, .slice k.wk.a k.wk.n k.wk.c, .bool k.ov, .int .i64 k.pa, .int .i64 k.pf, .int .i64 k.ps, .int .i64 k.pc, .bool k.me] 30)).alloc (.cells #[.bool t.lv, .int .i64 (t.r 0), .int .i64 (t.r 1), .int .i64 (t.r 2), .int .i64 (t.r 3), .slice (t.u 0).a (t.u 0).n (t.u 0).c, .slice (t.u 1).a (t.u 1).n (t.u 1).c, .slice (t.u 2).a (t.u 2).n (t.u 2).c, .int .i64 t.ep, .int .i64 t.sg, .int .i64 t.rt, .slice t.o.a t.o.n t.o.c, .int .i64 t.pc, .int .i64 t.x, .int .i64 t.y] 34) := ⟨_, rfl⟩
  have L1 := Lib.hid (lb_three (s := s) (k := k) (t := t) (lb_start HH.out) hW1)
  rw [← hW1]
  clear hW1
  go_upto_region 3 with (first
    | ((go_at_call 25); (with_reducible refine (Ha.awake_any _ (L1.out.over HZ.out)).mono ?_); rintro e9 w1 ⟨rfl, hb9⟩; have L2 := Lib.hid (L1.out.next hb9); clear hb9)
    | (refine w_load (ldHb (L2.out.bx (w.heap.size) (hv s) (by simp [boxes3]))) rfl rfl rfl rfl ?_)
    | (refine w_load (ldKb (L2.out.bx (w.heap.size + 1) (kv k) (by simp [boxes3]))) rfl rfl rfl rfl ?_)
    | (refine w_load (ldTb (L2.out.bx (w.heap.size + 2) (tv t) (by simp [boxes3]))) rfl rfl rfl rfl ?_)
    | ((go_at_call 26); (with_reducible refine (CF.out _).mono ?_); rintro e9 w2 ⟨rfl, hb9⟩; have L3 := Lib.hid (L2.out.next hb9); clear hb9))
  go_upto_region 6 with (first
    | (refine w_loadg (ldKb (L3.out.bx (w.heap.size + 1) (kv k) (by simp [boxes3]))) rfl (by kernel_rfl) rfl rfl ?_)
    | (refine w_loadg (ldTb (L3.out.bx (w.heap.size + 2) (tv t) (by simp [boxes3]))) rfl (by kernel_rfl) rfl rfl ?_)
    | ((go_at_call 33); (with_reducible refine (CA.out _).mono ?_); rintro e9 w4 ⟨rfl, hb9⟩; have L4 := Lib.hid (L3.out.next hb9); clear hb9)
    | (refine w_load (ldTb (L4.out.bx (w.heap.size + 2) (tv t) (by simp [boxes3]))) rfl rfl rfl rfl ?_))
  obtain ⟨W5, hW⟩ : ∃ W5, W5 = w4.alloc (.cells #[.bool t.lv, .int .i64 (t.r 0), .int .i64 (t.r 1), .int .i64 (t.r 2), .int .i64 (t.r 3), .slice (t.u 0).a (t.u 0).n (t.u 0).c, .slice (t.u 1).a (t.u 1).n (t.u 1).c, .slice (t.u 2).a (t.u 2).n (t.u 2).c, .int .i64 t.ep, .int .i64 t.sg, .int .i64 t.rt, .slice t.o.a t.o.n t.o.c, .int .i64 t.pc, .int .i64 t.x, .int .i64 t.y] 34) := ⟨_, rfl⟩
  have HW5 := Lib.hid hW
  have L5 : Hid (Lb w W5 ((w4.heap.size, tv t) :: (boxes3 w.heap.size s k t ++ [])) [⟨s, k, t, d, xs, F, g⟩] []) := Lib.hid (by
    have l := L4.out.lay (tv t) 34
    rw [hW]
    exact l)
  rw [← hW]
  clear hW
  go_upto_region 7 with (first
    | (refine w_load (ldHb (L5.out.bx w.heap.size (hv s) (by simp [boxes3]))) rfl rfl rfl rfl ?_)
    | ((go_at_call 37); (with_reducible refine (CO.out _ (L5.out.at _ (by simp))).mono ?_); rintro e9 w6 ⟨s1, rfl, ⟨_, hp1, hl1, hn1, _, hb1⟩, _⟩; have L6 := Lib.hid (L5.out.next hb1); have T6 := Lib.hid (And.intro hp1 (And.intro hl1 (And.intro hn1 hb1.size))); clear hp1 hl1 hn1 hb1))
  obtain ⟨W7, hW⟩ : ∃ W7, W7 = w6.alloc (.cells #[.slice s1.w.a s1.w.n s1.w.c, .slice s1.p.a s1.p.n s1.p.c, .slice (s1.u 0).a (s1.u 0).n (s1.u 0).c, .slice (s1.u 1).a (s1.u 1).n (s1.u 1).c, .slice (s1.u 2).a (s1.u 2).n (s1.u 2).c, .slice s1.c.a s1.c.n s1.c.c] 28) := ⟨_, rfl⟩
  have HW7 := Lib.hid hW
  have L7 : Hid (Lb w W7 ((w6.heap.size, hv s1) :: (w4.heap.size, tv t) :: (boxes3 w.heap.size s k t ++ [])) [⟨s, k, t, d, xs, F, g⟩] []) := Lib.hid (by
    have l := L6.out.lay (hv s1) 28
    rw [hW]
    exact l)
  rw [← hW]
  clear hW
  have Z7 := Lib.hid (show w6.heap.size < W7.heap.size from (L7.out.bx w6.heap.size (hv s1) (by simp)).lt)
  have Z5 := Lib.hid (show w4.heap.size < W5.heap.size from (L5.out.bx w4.heap.size (tv t) (by simp)).lt)
  have B67 := Lib.hid (show Below w6.heap.size w6 W7 from by rw [HW7.out]; exact (Below.refl _ _).alloc (Nat.le_refl _) _)
  go_upto_region 8 with (first
    | (refine w_load (ldKb (L7.out.bx (w.heap.size + 1) (kv k) (by simp [boxes3]))) rfl rfl rfl rfl ?_)
    | ((go_at_call 38); (with_reducible refine (CP.out _ (L7.out.at _ (by simp))).mono ?_); rintro e9 w8 ⟨v, rfl, hr8, hn8, hb8⟩; have L8 := Lib.hid (L7.out.next hb8); have T8 := Lib.hid (And.intro hr8 (And.intro hn8 hb8)); clear hr8 hn8 hb8))
  obtain ⟨W9, hW⟩ : ∃ W9, W9 = w8.alloc (.cells #[.int .i64 k.ph, .int .i64 k.ep, .bool k.mj, .slice v.a v.n v.c, .bool k.ov, .int .i64 k.pa, .int .i64 k.pf, .int .i64 k.ps, .int .i64 k.pc, .bool k.me] 30) := ⟨_, rfl⟩
  have HW9 := Lib.hid hW
  have L9 : Hid (Lb w W9 ((w8.heap.size, kv (Sh.kw k v k.ov)) :: (w6.heap.size, hv s1) :: (w4.heap.size, tv t) :: (boxes3 w.heap.size s k t ++ [])) [⟨s, k, t, d, xs, F, g⟩] []) := Lib.hid (by
    have l := L8.out.lay (kv (Sh.kw k v k.ov)) 30
    rw [hW]
    exact l)
  rw [← hW]
  clear hW
  have S9 : Hid (W6 w W9 (p6 w.heap.size (w.heap.size + 1) (w.heap.size + 2) w4.heap.size w6.heap.size w8.heap.size) (c6 (hv s) (kv k) (tv t) (tv t) (hv s1) (kv (Sh.kw k v k.ov))) [(⟨s1, Sh.kw k v k.ov, t, d, xs, F, g⟩ : Q3), ⟨s, k, t, d, xs, F, g⟩]) := Lib.hid (ends_start HH.out L4.out.bel.size Z5.out T6.out.2.2.2 Z7.out B67.out T8.out.2.2 HW9.out L9.out T6.out.1 T6.out.2.2.1 T8.out.1 T8.out.2.1 (show w.heap.size + 3 ≤ w4.heap.size from (L4.out.bx (w.heap.size + 2) (tv t) (by simp [boxes3])).lt))
  have I9 : Hid (Sim s k (it s k (Ha.own ⟨s, k, t, d, xs, F, g⟩) 0) (⟨s1, Sh.kw k v k.ov, t, d, xs, F, g⟩ : Q3)) := Lib.hid ⟨T6.out.2.1, rfl, rfl, rfl, rfl, rfl⟩
  clear L4 L5 L6 L7 L8 L9 T6 T8 Z7 Z5 B67 HW5 HW7 HW9 CO CP L3 L2 L1
  go_wp2
  go_loopw [12] (fun i wr => ∃ (j : Nat) (n : Q3), j ≤ left k.ph k.ep t ∧ i = .int .i64 j ∧ Hid (W6 w wr (p6 w.heap.size (w.heap.size + 1) (w.heap.size + 2) w4.heap.size w6.heap.size w8.heap.size) (c6 (hv s) (kv k) (tv n.t) (tv t) (hv n.s) (kv n.k)) [n, ⟨s, k, t, d, xs, F, g⟩] ∧ Sim s k (it s k (Ha.own ⟨s, k, t, d, xs, F, g⟩) j) n ∧ n.F = F)) (fun i _ => 6 - (intOf i).toNat)
  case atStart => exact ⟨0, (⟨s1, Sh.kw k v k.ov, t, d, xs, F, g⟩ : Q3), Nat.zero_le _, rfl, Lib.hid ⟨S9.out, I9.out, rfl⟩⟩
  case round =>
    obtain ⟨j, n, hj, rfl, R⟩ := hrel
    have hj5 := left_five k.ph k.ep t
    have hltz : (j : Int) < 6 := by omega
    have CQ := Lib.hid (fun W => asked_any n.k n.t W)
    have hq : askB n.k.ph n.k.ep n.t = askB k.ph k.ep (it s k (Ha.own ⟨s, k, t, d, xs, F, g⟩) j).t := R.out.2.1.ask
    have hi := it_ask (k := k) (P := (Ha.own ⟨s, k, t, d, xs, F, g⟩)) s HX.out j
    rw [hq] at CQ
    clear hq
    by_cases hlt : j < left k.ph k.ep t
    · rw [hi.2 hlt] at CQ
      clear hi
      go_wp2_with (first
        | (refine w_loadg (ldKb (show Box _ (w8.heap.size) (kv n.k) from R.out.1.box 5 (by decide))) rfl (by kernel_rfl) rfl rfl ?_)
        | (refine w_loadg (ldTb (show Box _ (w.heap.size + 2) (tv n.t) from R.out.1.box 2 (by decide))) rfl (by kernel_rfl) rfl rfl ?_)
        | ((go_at_call 33); (with_reducible refine (CQ.out _).mono ?_); rintro e9 w9 ⟨rfl, hb9⟩; have R2 := Lib.hid (And.intro (R.out.1.next hb9) R.out.2); clear hb9)
        | (refine w_load (ldHb (show Box _ (w6.heap.size) (hv n.s) from R2.out.1.box 4 (by decide))) rfl rfl rfl rfl ?_)
        | (refine w_load (ldKb (show Box _ (w8.heap.size) (kv n.k) from R2.out.1.box 5 (by decide))) rfl rfl rfl rfl ?_)
        | (refine w_load (ldTb (show Box _ (w.heap.size + 2) (tv n.t) from R2.out.1.box 2 (by decide))) rfl rfl rfl rfl ?_)
        | ((go_at_call 27); (with_reducible refine (C5.out j n (by omega) R2.out.2.1 R2.out.2.2 _ (R2.out.1.at n (by simp)) (R2.out.1.over HZ.out)).mono ?_); rintro e9 w10 ⟨m, rfl, hs9, hF9, _, hh9, hn9, hb9⟩; have S5 := Lib.hid (R2.out.1.swap hh9 hn9 hb9); have I5 := Lib.hid (And.intro hs9 (hF9.trans R2.out.2.2)); clear hs9 hF9 hh9 hn9 hb9)
        | (refine Ha.w6_putH S5.out 4 (by decide) m.s (c' := c6 (hv s) (kv k) (tv n.t) (tv t) (hv m.s) (kv n.k)) rfl (all6 ⟨rfl, rfl, rfl, rfl, rfl, rfl⟩) rfl rfl rfl rfl rfl ?_; intro W5' h5; have S6 := Lib.hid h5; clear h5 S5)
        | (refine Ha.w6_putK S6.out 5 (by decide) m.k (c' := c6 (hv s) (kv k) (tv n.t) (tv t) (hv m.s) (kv m.k)) rfl (all6 ⟨rfl, rfl, rfl, rfl, rfl, rfl⟩) rfl rfl rfl rfl rfl ?_; intro W6' h5; have S7 := Lib.hid h5; clear h5 S6)
        | (refine Ha.w6_putT S7.out 2 (by decide) m.t (c' := c6 (hv s) (kv k) (tv m.t) (tv t) (hv m.s) (kv m.k)) rfl (all6 ⟨rfl, rfl, rfl, rfl, rfl, rfl⟩) rfl rfl rfl rfl rfl ?_; intro W7' h5; have S8 := Lib.hid h5; clear h5 S7))
      go_roundw
      case rel => exact ⟨j + 1, m, by omega, by go_num, Lib.hid ⟨S8.out, I5.out.1, I5.out.2⟩⟩
      case measure => simp [intOf]; omega
    · have hf9 : askB k.ph k.ep (it s k (Ha.own ⟨s, k, t, d, xs, F, g⟩) j).t = false := by rw [← Bool.not_eq_true]; exact fun h => hlt (hi.1 h)
      rw [hf9] at CQ
      clear hi
      have CQ2 := CQ
      have IN := Lib.hid R.out.2.1
      have hk5 := it_keep s k (Ha.own ⟨s, k, t, d, xs, F, g⟩) j
      have HN := Lib.hid (show n.t.r = t.r ∧ n.t.pc = 0 ∧ n.t.o.n = t.o.n ∧ n.k.ph = k.ph ∧ n.k.ep = k.ep ∧ n.s.w.n = s.w.n from ⟨by rw [IN.out.t]; exact hk5.r, by rw [IN.out.t]; exact hk5.pc.trans (ask_iff.1 HX.out).2.1, by rw [IN.out.o, hk5.o]; rfl, by rw [IN.out.k]; rfl, by rw [IN.out.k]; rfl, IN.out.len.1⟩)
      clear hk5
      have HM := Lib.hid (fun W => may_any n.t W)
      rw [show mayT n.t = true by rw [IN.out.may]; exact it_may s k (ask_iff.1 HX.out).2.2.1 j] at HM
      have hal : ∀ a : Option Addr, allB n.k.ph n.k.ep ⟨⟨a, 1, 1⟩, fun _ => n.t⟩ = true := fun a => by
        rw [all_one _ _ _ n.t rfl]
        unfold openB
        rw [IN.out.ans, it_done (k := k) s HX.out (show left k.ph k.ep (Ha.own ⟨s, k, t, d, xs, F, g⟩).t ≤ j by show left k.ph k.ep t ≤ j; omega)]
        simp
      have HL := Lib.hid hal
      clear hal hf9
      have g4 : ((s.w.n : Int) != (s.w.n : Int)) = false := by simp
      go_wp2_with (first
        | (refine w_loadg (ldKb (show Box _ (w8.heap.size) (kv n.k) from R.out.1.box 5 (by decide))) rfl (by kernel_rfl) rfl rfl ?_)
        | (refine w_loadg (ldTb (show Box _ (w.heap.size + 2) (tv n.t) from R.out.1.box 2 (by decide))) rfl (by kernel_rfl) rfl rfl ?_)
        | ((go_at_call 33); (with_reducible refine (CQ.out _).mono ?_); rintro e9 w9 ⟨rfl, hb9⟩; have R2 := Lib.hid (And.intro (R.out.1.next hb9) R.out.2); clear hb9)
        | (refine w_load (ldKb (show Box _ (w8.heap.size) (kv n.k) from R2.out.1.box 5 (by decide))) rfl rfl rfl rfl ?_)
        | (refine w_load (ldTb (show Box _ (w.heap.size + 2) (tv n.t) from R2.out.1.box 2 (by decide))) rfl rfl rfl rfl ?_)
        | ((go_at_call 33); (with_reducible refine (CQ2.out _).mono ?_); rintro e9 w10 ⟨rfl, hb9⟩; have R3 := Lib.hid (And.intro (R2.out.1.next hb9) R2.out.2); clear hb9)
        | (refine w_loadg (ldKb (show Box _ (w8.heap.size) (kv n.k) from R3.out.1.box 5 (by decide))) rfl (by kernel_rfl) rfl rfl ?_)
        | (refine w_loadg (ldTb (show Box _ (w.heap.size + 2) (tv n.t) from R3.out.1.box 2 (by decide))) rfl (by kernel_rfl) rfl rfl ?_)
        | ((go_at_call 35); refine (all_any n.k ⟨⟨some ⟨w10.heap.size, 0, none⟩, 1, 1⟩, fun _ => n.t⟩ _ (one_new w10 n.t 34) (show 1 ≤ 1000000 by decide)).mono ?_; rintro e9 w11 ⟨he9, hb9⟩; rw [HL.out _] at he9; subst he9; have R4 := Lib.hid (And.intro (R3.out.1.next (((Below.refl _ _).alloc (Nat.le_refl _) _).trans (hb9.mono (by simp)))) R3.out.2); clear hb9; have u0 := (show Box _ (w6.heap.size) (hv n.s) from R4.out.1.box 4 (by decide)).cel 0 (.slice n.s.w.a s.w.n n.s.w.c) (by rw [← HN.out.2.2.2.2.2]; rfl); have u1 := (show Box _ (w.heap.size) (hv s) from R4.out.1.box 0 (by decide)).cel 0 (.slice s.w.a s.w.n s.w.c) rfl)
        | (refine w_loadg (ldTb (show Box _ (w.heap.size + 2) (tv n.t) from R4.out.1.box 2 (by decide))) rfl (by kernel_rfl) rfl rfl ?_)
        | ((go_at_call 13); (with_reducible refine (HM.out _).mono ?_); rintro e9 w12 ⟨rfl, hb9⟩; have R5 := Lib.hid (And.intro (R4.out.1.next hb9) R4.out.2); clear hb9; clear u0 u1))
      go_loopw [13] (fun i wr => ∃ q : Nat, q ≤ s.w.n ∧ i = .int .i64 q ∧ Hid (W6 w wr (p6 w.heap.size (w.heap.size + 1) (w.heap.size + 2) w4.heap.size w6.heap.size w8.heap.size) (c6 (hv s) (kv k) (tv n.t) (tv t) (hv n.s) (kv n.k)) [n, ⟨s, k, t, d, xs, F, g⟩])) (fun i _ => s.w.n - (intOf i).toNat)
      case atStart => exact ⟨0, Nat.zero_le _, rfl, Lib.hid R5.out.1⟩
      case round =>
        obtain ⟨q, hq, rfl, R⟩ := hrel
        have u1 := (show Box _ (w.heap.size) (hv s) from R.out.box 0 (by decide)).cel 0 (.slice s.w.a s.w.n s.w.c) rfl
        have hq9 := HZN.out
        by_cases hlt : q < s.w.n
        · have hltz : (q : Int) < (s.w.n : Int) := by omega
          have hw1 := Lib.hid (R.out.at n (by simp)).h.words
          have hw0 := Lib.hid (R.out.at ⟨s, k, t, d, xs, F, g⟩ (by simp)).h.words
          obtain ⟨bn, on, en, _, hcn⟩ := hw1.out.2 (by rw [HN.out.2.2.2.2.2]; omega)
          obtain ⟨bo, oo, eo, _, hco⟩ := hw0.out.2 (by show 0 < s.w.n; omega)
          have eo : s.w.a = some ⟨bo, oo, none⟩ := eo
          have hd := Lib.hid (show n.d = (it s k (Ha.own ⟨s, k, t, d, xs, F, g⟩) j).d from IN.out.d)
          have hgn : ∀ W, W6 w W (p6 w.heap.size (w.heap.size + 1) (w.heap.size + 2) w4.heap.size w6.heap.size w8.heap.size) (c6 (hv s) (kv k) (tv n.t) (tv t) (hv n.s) (kv n.k)) [n, ⟨s, k, t, d, xs, F, g⟩] → W.cell? ⟨bn, on + q, none⟩ = some (.int .i64 (n.d.ws.getD q 0)) := fun W hI => by
            obtain ⟨b2, o2, e2, _, h2⟩ := (hI.at n (by simp)).h.words.2 (by rw [HN.out.2.2.2.2.2]; omega)
            rw [en] at e2
            cases e2
            exact h2 q (by rw [HN.out.2.2.2.2.2]; exact hlt)
          have hgo : ∀ W, W6 w W (p6 w.heap.size (w.heap.size + 1) (w.heap.size + 2) w4.heap.size w6.heap.size w8.heap.size) (c6 (hv s) (kv k) (tv n.t) (tv t) (hv n.s) (kv n.k)) [n, ⟨s, k, t, d, xs, F, g⟩] → W.cell? ⟨bo, oo + q, none⟩ = some (.int .i64 (d.ws.getD q 0)) := fun W hI => by
            obtain ⟨b2, o2, e2, _, h2⟩ := (hI.at ⟨s, k, t, d, xs, F, g⟩ (by simp)).h.words.2 (by show 0 < s.w.n; omega)
            have e2 : s.w.a = some ⟨b2, o2, none⟩ := e2
            rw [eo] at e2
            cases e2
            exact h2 q hlt
          have GN := Lib.hid hgn
          have GO := Lib.hid hgo
          clear hcn hco hgn hgo hw1 hw0
          obtain ⟨x, hx⟩ : ∃ x, x = n.d.ws.getD q 0 := ⟨_, rfl⟩
          obtain ⟨y, hy⟩ : ∃ y, y = d.ws.getD q 0 := ⟨_, rfl⟩
          rw [← hx] at GN
          rw [← hy] at GO
          by_cases hxy : x = y
          · have xa : decide (x = y) = true := decide_eq_true hxy
            have xb : (x == y) = true := xa
            have xc : (x != y) = false := by simp only [bne, xb]; rfl
            clear hx hy hxy
            go_upto_region 17 with fail
            refine Sh.region_gen fun a0 ha0 => ?_
            have G3 : a0.tmps[3]? = some (.pointer (some ⟨w.heap.size, 0, none⟩)) := by rw [ha0]; rfl
            have G4 : a0.tmps[4]? = some (.pointer (some ⟨w.heap.size + 1, 0, none⟩)) := by rw [ha0]; rfl
            have G10 : a0.tmps[10]? = some (.pointer (some ⟨w6.heap.size, 0, none⟩)) := by rw [ha0]; rfl
            have G13 : a0.tmps[13]? = some (.int .i64 (q : Int)) := by rw [ha0]; rfl
            have TZ : a0.tmps.size = 137 := by rw [ha0]; rfl
            have HA := Lib.hid ha0
            clear ha0
            refine region_planG (by kernel_rfl) (by kernel_rfl) (by rw [TZ]; kernel_rfl) (fun (_ : Unit) (i : Nat) => (match i with | 0 => .pointer (some ⟨w6.heap.size, 0, none⟩) | 1 => .slice (some ⟨bn, on, none⟩) s.w.n n.s.w.c | 2 => .int .i64 (q : Int) | 3 => .pointer (some ⟨bn, on + q, none⟩) | 4 => .int .i64 x | 5 => .pointer (some ⟨w.heap.size, 0, none⟩) | 6 => .slice (some ⟨bo, oo, none⟩) s.w.n s.w.c | 7 => .int .i64 (q : Int) | 8 => .pointer (some ⟨bo, oo + q, none⟩) | 9 => .int .i64 y | 10 => .bool false | 11 => .bool false | 12 => undef | 13 => undef | 14 => undef | 15 => undef | 16 => undef | 17 => undef | 18 => .bool false | _ => undef : Value)) (fun (i : Nat) => match i with | 12 => true | 13 => true | 14 => true | 15 => true | 16 => true | 17 => true | _ => false) ?zeroQe (fun _ l W => W6 w W (p6 w.heap.size (w.heap.size + 1) (w.heap.size + 2) w4.heap.size w6.heap.size w8.heap.size) (c6 (hv s) (kv k) (tv n.t) (tv t) (hv n.s) (kv n.k)) [n, ⟨s, k, t, d, xs, F, g⟩]) () ?startQe ?wantQe ?skipQe ?stepQe ?doneQe
            case zeroQe =>
              intro _ i h
              match i, h with
              | 0, h => first | rfl | cases h
              | 1, h => first | rfl | cases h
              | 2, h => first | rfl | cases h
              | 3, h => first | rfl | cases h
              | 4, h => first | rfl | cases h
              | 5, h => first | rfl | cases h
              | 6, h => first | rfl | cases h
              | 7, h => first | rfl | cases h
              | 8, h => first | rfl | cases h
              | 9, h => first | rfl | cases h
              | 10, h => first | rfl | cases h
              | 11, h => first | rfl | cases h
              | 12, h => first | rfl | cases h
              | 13, h => first | rfl | cases h
              | 14, h => first | rfl | cases h
              | 15, h => first | rfl | cases h
              | 16, h => first | rfl | cases h
              | 17, h => first | rfl | cases h
              | 18, h => first | rfl | cases h
              | i + 19, h => cases h
            case skipQe => exact fun i l x W _ h => h
            case startQe => exact R.out.next ⟨rfl, rfl, rfl, Nat.le_refl _, fun _ _ => rfl⟩
            case wantQe =>
              rintro i o9 l a9 _ ho hP haft
              have hi : i < 19 := (Array.getElem?_eq_some_iff.1 ho).1
              rcases (show i = 0 ∨ i = 1 ∨ i = 2 ∨ i = 3 ∨ i = 4 ∨ i = 5 ∨ i = 6 ∨ i = 7 ∨ i = 8 ∨ i = 9 ∨ i = 10 ∨ i = 11 ∨ i = 12 ∨ i = 13 ∨ i = 14 ∨ i = 15 ∨ i = 16 ∨ i = 17 ∨ i = 18 by omega) with rfl | rfl | rfl | rfl | rfl | rfl | rfl | rfl | rfl | rfl | rfl | rfl | rfl | rfl | rfl | rfl | rfl | rfl | rfl
              · obtain rfl := Option.some.inj ho
                rfl
              · obtain rfl := Option.some.inj ho
                rfl
              · obtain rfl := Option.some.inj ho
                rfl
              · obtain rfl := Option.some.inj ho
                rfl
              · obtain rfl := Option.some.inj ho
                rfl
              · obtain rfl := Option.some.inj ho
                rfl
              · obtain rfl := Option.some.inj ho
                rfl
              · obtain rfl := Option.some.inj ho
                rfl
              · obtain rfl := Option.some.inj ho
                rfl
              · obtain rfl := Option.some.inj ho
                rfl
              · obtain rfl := Option.some.inj ho
                rfl
              · obtain rfl := Option.some.inj ho
                rfl
              · obtain rfl := Option.some.inj ho
                have h11 := hP.got 11 _ 96 rfl (haft ⟨11, .guard⟩ (by simp) rfl) rfl
                try dsimp only at h11
                simp [Region.wanted, yielded, h11]
              · obtain rfl := Option.some.inj ho
                have h11 := hP.got 11 _ 96 rfl (haft ⟨11, .guard⟩ (by simp) rfl) rfl
                try dsimp only at h11
                simp [Region.wanted, yielded, h11]
              · obtain rfl := Option.some.inj ho
                have h11 := hP.got 11 _ 96 rfl (haft ⟨11, .guard⟩ (by simp) rfl) rfl
                try dsimp only at h11
                simp [Region.wanted, yielded, h11]
              · obtain rfl := Option.some.inj ho
                have h11 := hP.got 11 _ 96 rfl (haft ⟨11, .guard⟩ (by simp) rfl) rfl
                try dsimp only at h11
                simp [Region.wanted, yielded, h11]
              · obtain rfl := Option.some.inj ho
                have h11 := hP.got 11 _ 96 rfl (haft ⟨11, .guard⟩ (by simp) rfl) rfl
                try dsimp only at h11
                simp [Region.wanted, yielded, h11]
              · obtain rfl := Option.some.inj ho
                have h11 := hP.got 11 _ 96 rfl (haft ⟨11, .guard⟩ (by simp) rfl) rfl
                try dsimp only at h11
                simp [Region.wanted, yielded, h11]
              · obtain rfl := Option.some.inj ho
                rfl
            case stepQe =>
              rintro i o9 l a9 _ W9 ho hP hI hl hsk haft K hK
              have hi : i < 19 := (Array.getElem?_eq_some_iff.1 ho).1
              rcases (show i = 0 ∨ i = 1 ∨ i = 2 ∨ i = 3 ∨ i = 4 ∨ i = 5 ∨ i = 6 ∨ i = 7 ∨ i = 8 ∨ i = 9 ∨ i = 10 ∨ i = 11 ∨ i = 12 ∨ i = 13 ∨ i = 14 ∨ i = 15 ∨ i = 16 ∨ i = 17 ∨ i = 18 by omega) with rfl | rfl | rfl | rfl | rfl | rfl | rfl | rfl | rfl | rfl | rfl | rfl | rfl | rfl | rfl | rfl | rfl | rfl | rfl
              · clear hsk
                obtain rfl := Option.some.inj ho
                have q10 := (hP.keep (j := 10) (by kernel_rfl)).trans G10
                go_simp
                exact hK () _ (fun _ _ => rfl) hI
              · clear hsk
                obtain rfl := Option.some.inj ho
                have e0 := hP.got 0 _ 85 rfl (haft ⟨0, .data⟩ (by simp) rfl) rfl
                try dsimp only at e0
                have c9 := (show Box _ (w6.heap.size) (hv n.s) from hI.box 4 (by decide)).cel 0 (.slice (some ⟨bn, on, none⟩) s.w.n n.s.w.c) (by rw [← en, ← HN.out.2.2.2.2.2]; rfl)
                go_simp
                exact hK () _ (fun _ _ => rfl) hI
              · clear hsk
                obtain rfl := Option.some.inj ho
                have q13 := (hP.keep (j := 13) (by kernel_rfl)).trans G13
                go_simp
                exact hK () _ (fun _ _ => rfl) hI
              · clear hsk
                obtain rfl := Option.some.inj ho
                have e1 := hP.got 1 _ 86 rfl (haft ⟨1, .data⟩ (by simp) rfl) rfl
                have e2 := hP.got 2 _ 87 rfl (haft ⟨2, .data⟩ (by simp) rfl) rfl
                try dsimp only at e1 e2
                go_simp
                exact hK () _ (fun _ _ => rfl) hI
              · clear hsk
                obtain rfl := Option.some.inj ho
                have e3 := hP.got 3 _ 88 rfl (haft ⟨3, .data⟩ (by simp) rfl) rfl
                try dsimp only at e3
                have c9 := GN.out W9 hI
                go_simp
                exact hK () _ (fun _ _ => rfl) hI
              · clear hsk
                obtain rfl := Option.some.inj ho
                have q3 := (hP.keep (j := 3) (by kernel_rfl)).trans G3
                go_simp
                exact hK () _ (fun _ _ => rfl) hI
              · clear hsk
                obtain rfl := Option.some.inj ho
                have e5 := hP.got 5 _ 90 rfl (haft ⟨5, .data⟩ (by simp) rfl) rfl
                try dsimp only at e5
                have c9 := (show Box _ (w.heap.size) (hv s) from hI.box 0 (by decide)).cel 0 (.slice (some ⟨bo, oo, none⟩) s.w.n s.w.c) (by rw [← eo]; rfl)
                go_simp
                exact hK () _ (fun _ _ => rfl) hI
              · clear hsk
                obtain rfl := Option.some.inj ho
                have q13 := (hP.keep (j := 13) (by kernel_rfl)).trans G13
                go_simp
                exact hK () _ (fun _ _ => rfl) hI
              · clear hsk
                obtain rfl := Option.some.inj ho
                have e6 := hP.got 6 _ 91 rfl (haft ⟨6, .data⟩ (by simp) rfl) rfl
                have e7 := hP.got 7 _ 92 rfl (haft ⟨7, .data⟩ (by simp) rfl) rfl
                try dsimp only at e6 e7
                go_simp
                exact hK () _ (fun _ _ => rfl) hI
              · clear hsk
                obtain rfl := Option.some.inj ho
                have e8 := hP.got 8 _ 93 rfl (haft ⟨8, .data⟩ (by simp) rfl) rfl
                try dsimp only at e8
                have c9 := GO.out W9 hI
                go_simp
                exact hK () _ (fun _ _ => rfl) hI
              · clear hsk
                obtain rfl := Option.some.inj ho
                have e4 := hP.got 4 _ 89 rfl (haft ⟨4, .data⟩ (by simp) rfl) rfl
                have e9 := hP.got 9 _ 94 rfl (haft ⟨9, .data⟩ (by simp) rfl) rfl
                try dsimp only at e4 e9
                go_simp
                exact hK () _ (fun _ _ => rfl) hI
              · clear hsk
                obtain rfl := Option.some.inj ho
                have e10 := hP.got 10 _ 95 rfl (haft ⟨10, .data⟩ (by simp) rfl) rfl
                try dsimp only at e10
                go_simp
                exact hK () _ (fun _ _ => rfl) hI
              · cases hsk
              · cases hsk
              · cases hsk
              · cases hsk
              · cases hsk
              · cases hsk
              · clear hsk
                obtain rfl := Option.some.inj ho
                have e11 := hP.got 11 _ 96 rfl (haft ⟨11, .data⟩ (by simp) rfl) rfl
                try dsimp only at e11
                go_simp
                exact hK () _ (fun _ _ => rfl) hI
            case doneQe =>
              rintro l a9 _ W9 hP hI hall
              have R9 := Lib.hid hI
              obtain rfl := pl_full hP (by rw [TZ]; kernel_rfl) hall [some 85, some 86, some 87, some 88, some 89, some 90, some 91, some 92, some 93, some 94, some 95, some 96, some 97, some 98, some 99, some 100, some 101, some 102, some 103] (by rfl)
              clear hP hI hall TZ G3 G4 G10 G13
              rw [HA.out]
              simp only [putD, Act.put, List.setIfInBounds_toArray, List.set_cons_succ, List.set_cons_zero]
              clear HA
              go_wp2
              go_roundw
              case rel => exact ⟨q + 1, by omega, by go_num, R9⟩
              case measure => simp [intOf]; omega
          · have xa : decide (x = y) = false := decide_eq_false hxy
            have xb : (x == y) = false := xa
            have xc : (x != y) = true := by simp only [bne, xb]; rfl
            have w16 : IntKind.i64.wrap (16 + (q : Int)) = 16 + (q : Int) := IntWalk.i64_in _ (by have := HZN.out; omega)
            have HWH := Lib.hid (show Sh.isC s d k.mj k.ep (16 + (q : Int)) 1 = true from (it_hid5 (s := s) (k := k) (P := (Ha.own ⟨s, k, t, d, xs, F, g⟩)) HB.out.wlen j).word q (by rw [← hd.out, ← hx]; show ¬ x = d.ws.getD q 0; rw [← hy]; exact hxy))
            clear hx hy hxy
            go_upto_region 17 with fail
            refine Sh.region_gen fun a0 ha0 => ?_
            have G3 : a0.tmps[3]? = some (.pointer (some ⟨w.heap.size, 0, none⟩)) := by rw [ha0]; rfl
            have G4 : a0.tmps[4]? = some (.pointer (some ⟨w.heap.size + 1, 0, none⟩)) := by rw [ha0]; rfl
            have G10 : a0.tmps[10]? = some (.pointer (some ⟨w6.heap.size, 0, none⟩)) := by rw [ha0]; rfl
            have G13 : a0.tmps[13]? = some (.int .i64 (q : Int)) := by rw [ha0]; rfl
            have TZ : a0.tmps.size = 137 := by rw [ha0]; rfl
            have HA := Lib.hid ha0
            clear ha0
            refine region_planG (by kernel_rfl) (by kernel_rfl) (by rw [TZ]; kernel_rfl) (fun (_ : Unit) (i : Nat) => (match i with | 0 => .pointer (some ⟨w6.heap.size, 0, none⟩) | 1 => .slice (some ⟨bn, on, none⟩) s.w.n n.s.w.c | 2 => .int .i64 (q : Int) | 3 => .pointer (some ⟨bn, on + q, none⟩) | 4 => .int .i64 x | 5 => .pointer (some ⟨w.heap.size, 0, none⟩) | 6 => .slice (some ⟨bo, oo, none⟩) s.w.n s.w.c | 7 => .int .i64 (q : Int) | 8 => .pointer (some ⟨bo, oo + q, none⟩) | 9 => .int .i64 y | 10 => .bool true | 11 => .bool true | 12 => (.agg #[.slice s.w.a s.w.n s.w.c, .slice s.p.a s.p.n s.p.c, .slice (s.u 0).a (s.u 0).n (s.u 0).c, .slice (s.u 1).a (s.u 1).n (s.u 1).c, .slice (s.u 2).a (s.u 2).n (s.u 2).c, .slice s.c.a s.c.n s.c.c]) | 13 => (.agg #[.int .i64 k.ph, .int .i64 k.ep, .bool k.mj, .slice k.wk.a k.wk.n k.wk.c, .bool k.ov, .int .i64 k.pa, .int .i64 k.pf, .int .i64 k.ps, .int .i64 k.pc, .bool k.me]) | 14 => .int .i64 (q : Int) | 15 => .int .i64 (16 + (q : Int)) | 16 => .bool true | 17 => .bool false | 18 => .bool false | _ => undef : Value)) (fun _ => false) ?zeroQn (fun _ l W => W6 w W (p6 w.heap.size (w.heap.size + 1) (w.heap.size + 2) w4.heap.size w6.heap.size w8.heap.size) (c6 (hv s) (kv k) (tv n.t) (tv t) (hv n.s) (kv n.k)) [n, ⟨s, k, t, d, xs, F, g⟩]) () ?startQn ?wantQn ?skipQn ?stepQn ?doneQn
            case zeroQn => exact fun _ _ h => by cases h
            case skipQn => exact fun i l x W h _ => by cases h
            case startQn => exact R.out.next ⟨rfl, rfl, rfl, Nat.le_refl _, fun _ _ => rfl⟩
            case wantQn =>
              rintro i o9 l a9 _ ho hP haft
              have hi : i < 19 := (Array.getElem?_eq_some_iff.1 ho).1
              rcases (show i = 0 ∨ i = 1 ∨ i = 2 ∨ i = 3 ∨ i = 4 ∨ i = 5 ∨ i = 6 ∨ i = 7 ∨ i = 8 ∨ i = 9 ∨ i = 10 ∨ i = 11 ∨ i = 12 ∨ i = 13 ∨ i = 14 ∨ i = 15 ∨ i = 16 ∨ i = 17 ∨ i = 18 by omega) with rfl | rfl | rfl | rfl | rfl | rfl | rfl | rfl | rfl | rfl | rfl | rfl | rfl | rfl | rfl | rfl | rfl | rfl | rfl
              · obtain rfl := Option.some.inj ho
                rfl
              · obtain rfl := Option.some.inj ho
                rfl
              · obtain rfl := Option.some.inj ho
                rfl
              · obtain rfl := Option.some.inj ho
                rfl
              · obtain rfl := Option.some.inj ho
                rfl
              · obtain rfl := Option.some.inj ho
                rfl
              · obtain rfl := Option.some.inj ho
                rfl
              · obtain rfl := Option.some.inj ho
                rfl
              · obtain rfl := Option.some.inj ho
                rfl
              · obtain rfl := Option.some.inj ho
                rfl
              · obtain rfl := Option.some.inj ho
                rfl
              · obtain rfl := Option.some.inj ho
                rfl
              · obtain rfl := Option.some.inj ho
                have h11 := hP.got 11 _ 96 rfl (haft ⟨11, .guard⟩ (by simp) rfl) rfl
                try dsimp only at h11
                simp [Region.wanted, yielded, h11]
              · obtain rfl := Option.some.inj ho
                have h11 := hP.got 11 _ 96 rfl (haft ⟨11, .guard⟩ (by simp) rfl) rfl
                try dsimp only at h11
                simp [Region.wanted, yielded, h11]
              · obtain rfl := Option.some.inj ho
                have h11 := hP.got 11 _ 96 rfl (haft ⟨11, .guard⟩ (by simp) rfl) rfl
                try dsimp only at h11
                simp [Region.wanted, yielded, h11]
              · obtain rfl := Option.some.inj ho
                have h11 := hP.got 11 _ 96 rfl (haft ⟨11, .guard⟩ (by simp) rfl) rfl
                try dsimp only at h11
                simp [Region.wanted, yielded, h11]
              · obtain rfl := Option.some.inj ho
                have h11 := hP.got 11 _ 96 rfl (haft ⟨11, .guard⟩ (by simp) rfl) rfl
                try dsimp only at h11
                simp [Region.wanted, yielded, h11]
              · obtain rfl := Option.some.inj ho
                have h11 := hP.got 11 _ 96 rfl (haft ⟨11, .guard⟩ (by simp) rfl) rfl
                try dsimp only at h11
                simp [Region.wanted, yielded, h11]
              · obtain rfl := Option.some.inj ho
                rfl
            case stepQn =>
              rintro i o9 l a9 _ W9 ho hP hI hl hsk haft K hK
              have hi : i < 19 := (Array.getElem?_eq_some_iff.1 ho).1
              rcases (show i = 0 ∨ i = 1 ∨ i = 2 ∨ i = 3 ∨ i = 4 ∨ i = 5 ∨ i = 6 ∨ i = 7 ∨ i = 8 ∨ i = 9 ∨ i = 10 ∨ i = 11 ∨ i = 12 ∨ i = 13 ∨ i = 14 ∨ i = 15 ∨ i = 16 ∨ i = 17 ∨ i = 18 by omega) with rfl | rfl | rfl | rfl | rfl | rfl | rfl | rfl | rfl | rfl | rfl | rfl | rfl | rfl | rfl | rfl | rfl | rfl | rfl
              · clear hsk
                obtain rfl := Option.some.inj ho
                have q10 := (hP.keep (j := 10) (by kernel_rfl)).trans G10
                go_simp
                exact hK () _ (fun _ _ => rfl) hI
              · clear hsk
                obtain rfl := Option.some.inj ho
                have e0 := hP.got 0 _ 85 rfl (haft ⟨0, .data⟩ (by simp) rfl) rfl
                try dsimp only at e0
                have c9 := (show Box _ (w6.heap.size) (hv n.s) from hI.box 4 (by decide)).cel 0 (.slice (some ⟨bn, on, none⟩) s.w.n n.s.w.c) (by rw [← en, ← HN.out.2.2.2.2.2]; rfl)
                go_simp
                exact hK () _ (fun _ _ => rfl) hI
              · clear hsk
                obtain rfl := Option.some.inj ho
                have q13 := (hP.keep (j := 13) (by kernel_rfl)).trans G13
                go_simp
                exact hK () _ (fun _ _ => rfl) hI
              · clear hsk
                obtain rfl := Option.some.inj ho
                have e1 := hP.got 1 _ 86 rfl (haft ⟨1, .data⟩ (by simp) rfl) rfl
                have e2 := hP.got 2 _ 87 rfl (haft ⟨2, .data⟩ (by simp) rfl) rfl
                try dsimp only at e1 e2
                go_simp
                exact hK () _ (fun _ _ => rfl) hI
              · clear hsk
                obtain rfl := Option.some.inj ho
                have e3 := hP.got 3 _ 88 rfl (haft ⟨3, .data⟩ (by simp) rfl) rfl
                try dsimp only at e3
                have c9 := GN.out W9 hI
                go_simp
                exact hK () _ (fun _ _ => rfl) hI
              · clear hsk
                obtain rfl := Option.some.inj ho
                have q3 := (hP.keep (j := 3) (by kernel_rfl)).trans G3
                go_simp
                exact hK () _ (fun _ _ => rfl) hI
              · clear hsk
                obtain rfl := Option.some.inj ho
                have e5 := hP.got 5 _ 90 rfl (haft ⟨5, .data⟩ (by simp) rfl) rfl
                try dsimp only at e5
                have c9 := (show Box _ (w.heap.size) (hv s) from hI.box 0 (by decide)).cel 0 (.slice (some ⟨bo, oo, none⟩) s.w.n s.w.c) (by rw [← eo]; rfl)
                go_simp
                exact hK () _ (fun _ _ => rfl) hI
              · clear hsk
                obtain rfl := Option.some.inj ho
                have q13 := (hP.keep (j := 13) (by kernel_rfl)).trans G13
                go_simp
                exact hK () _ (fun _ _ => rfl) hI
              · clear hsk
                obtain rfl := Option.some.inj ho
                have e6 := hP.got 6 _ 91 rfl (haft ⟨6, .data⟩ (by simp) rfl) rfl
                have e7 := hP.got 7 _ 92 rfl (haft ⟨7, .data⟩ (by simp) rfl) rfl
                try dsimp only at e6 e7
                go_simp
                exact hK () _ (fun _ _ => rfl) hI
              · clear hsk
                obtain rfl := Option.some.inj ho
                have e8 := hP.got 8 _ 93 rfl (haft ⟨8, .data⟩ (by simp) rfl) rfl
                try dsimp only at e8
                have c9 := GO.out W9 hI
                go_simp
                exact hK () _ (fun _ _ => rfl) hI
              · clear hsk
                obtain rfl := Option.some.inj ho
                have e4 := hP.got 4 _ 89 rfl (haft ⟨4, .data⟩ (by simp) rfl) rfl
                have e9 := hP.got 9 _ 94 rfl (haft ⟨9, .data⟩ (by simp) rfl) rfl
                try dsimp only at e4 e9
                go_simp
                exact hK () _ (fun _ _ => rfl) hI
              · clear hsk
                obtain rfl := Option.some.inj ho
                have e10 := hP.got 10 _ 95 rfl (haft ⟨10, .data⟩ (by simp) rfl) rfl
                try dsimp only at e10
                go_simp
                exact hK () _ (fun _ _ => rfl) hI
              · clear hsk
                obtain rfl := Option.some.inj ho
                have q3 := (hP.keep (j := 3) (by kernel_rfl)).trans G3
                exact Mu.p_load rfl (Mu.ev q3) (ldHb (show Box _ (w.heap.size) (hv s) from hI.box 0 (by decide))) (hK () _ (fun _ _ => rfl) hI)
              · clear hsk
                obtain rfl := Option.some.inj ho
                have q4 := (hP.keep (j := 4) (by kernel_rfl)).trans G4
                exact Mu.p_load rfl (Mu.ev q4) (ldKb (show Box _ (w.heap.size + 1) (kv k) from hI.box 1 (by decide))) (hK () _ (fun _ _ => rfl) hI)
              · clear hsk
                obtain rfl := Option.some.inj ho
                have q13 := (hP.keep (j := 13) (by kernel_rfl)).trans G13
                go_simp
                exact hK () _ (fun _ _ => rfl) hI
              · clear hsk
                obtain rfl := Option.some.inj ho
                have e14 := hP.got 14 _ 99 rfl (haft ⟨14, .data⟩ (by simp) rfl) rfl
                try dsimp only at e14
                go_simp
                exact hK () _ (fun _ _ => rfl) hI
              · clear hsk
                obtain rfl := Option.some.inj ho
                have e12 := hP.got 12 _ 97 rfl (haft ⟨12, .data⟩ (by simp) rfl) rfl
                have e13 := hP.got 13 _ 98 rfl (haft ⟨13, .data⟩ (by simp) rfl) rfl
                have e15 := hP.got 15 _ 100 rfl (haft ⟨15, .data⟩ (by simp) rfl) rfl
                try dsimp only at e12 e13 e15
                go_simp
                have hc9 := CW.out (16 + (q : Int)) W9 (hI.at ⟨s, k, t, d, xs, F, g⟩ (by simp)) (hI.over HZ.out)
                rw [eo] at hc9
                (with_reducible refine hc9.mono ?_)
                rintro e9 w9 ⟨rfl, hb9⟩
                rw [HWH.out]
                exact hK () _ (fun _ _ => rfl) (hI.next hb9)
              · clear hsk
                obtain rfl := Option.some.inj ho
                have e16 := hP.got 16 _ 101 rfl (haft ⟨16, .data⟩ (by simp) rfl) rfl
                try dsimp only at e16
                go_simp
                exact hK () _ (fun _ _ => rfl) hI
              · clear hsk
                obtain rfl := Option.some.inj ho
                have e11 := hP.got 11 _ 96 rfl (haft ⟨11, .data⟩ (by simp) rfl) rfl
                have e17 := hP.got 17 _ 102 rfl (haft ⟨17, .data⟩ (by simp) rfl) rfl
                try dsimp only at e11 e17
                go_simp
                exact hK () _ (fun _ _ => rfl) hI
            case doneQn =>
              rintro l a9 _ W9 hP hI hall
              have R9 := Lib.hid hI
              obtain rfl := pl_full hP (by rw [TZ]; kernel_rfl) hall [some 85, some 86, some 87, some 88, some 89, some 90, some 91, some 92, some 93, some 94, some 95, some 96, some 97, some 98, some 99, some 100, some 101, some 102, some 103] (by rfl)
              clear hP hI hall TZ G3 G4 G10 G13
              rw [HA.out]
              simp only [putD, Act.put, List.setIfInBounds_toArray, List.set_cons_succ, List.set_cons_zero]
              clear HA
              go_wp2
              go_roundw
              case rel => exact ⟨q + 1, by omega, by go_num, R9⟩
              case measure => simp [intOf]; omega
        · obtain rfl : q = s.w.n := by omega
          have hltz : ¬ (s.w.n : Int) < (s.w.n : Int) := by omega
          have ra := fun W => regs_self (t.r 0) (t.r 1) (t.r 2) (t.r 3) W
          have h1 : ((t.o.n : Int) == (t.o.n : Int)) = true := by simp
          have h2 : (k.ph == k.ph) = true := by simp
          have h3 : (k.ep == k.ep) = true := by simp
          have z0 := (show Box _ (w.heap.size + 2) (tv n.t) from R.out.box 2 (by decide)).cel 1 (.int .i64 (t.r 0)) (by rw [← HN.out.1]; rfl)
          have z1 := (show Box _ (w.heap.size + 2) (tv n.t) from R.out.box 2 (by decide)).cel 2 (.int .i64 (t.r 1)) (by rw [← HN.out.1]; rfl)
          have z2 := (show Box _ (w.heap.size + 2) (tv n.t) from R.out.box 2 (by decide)).cel 3 (.int .i64 (t.r 2)) (by rw [← HN.out.1]; rfl)
          have z3 := (show Box _ (w.heap.size + 2) (tv n.t) from R.out.box 2 (by decide)).cel 4 (.int .i64 (t.r 3)) (by rw [← HN.out.1]; rfl)
          have z4 := (show Box _ (w.heap.size + 2) (tv n.t) from R.out.box 2 (by decide)).cel 12 (.int .i64 0) (by rw [← HN.out.2.1]; rfl)
          have z5 := (show Box _ (w.heap.size + 2) (tv n.t) from R.out.box 2 (by decide)).cel 11 (.slice n.t.o.a t.o.n n.t.o.c) (by rw [← HN.out.2.2.1]; rfl)
          have z6 := (show Box _ (w4.heap.size) (tv t) from R.out.box 3 (by decide)).cel 1 (.int .i64 (t.r 0)) (rfl)
          have z7 := (show Box _ (w4.heap.size) (tv t) from R.out.box 3 (by decide)).cel 2 (.int .i64 (t.r 1)) (rfl)
          have z8 := (show Box _ (w4.heap.size) (tv t) from R.out.box 3 (by decide)).cel 3 (.int .i64 (t.r 2)) (rfl)
          have z9 := (show Box _ (w4.heap.size) (tv t) from R.out.box 3 (by decide)).cel 4 (.int .i64 (t.r 3)) (rfl)
          have z10 := (show Box _ (w4.heap.size) (tv t) from R.out.box 3 (by decide)).cel 11 (.slice t.o.a t.o.n t.o.c) (rfl)
          have z11 := (show Box _ (w8.heap.size) (kv n.k) from R.out.box 5 (by decide)).cel 0 (.int .i64 k.ph) (by rw [← HN.out.2.2.2.1]; rfl)
          have z12 := (show Box _ (w8.heap.size) (kv n.k) from R.out.box 5 (by decide)).cel 1 (.int .i64 k.ep) (by rw [← HN.out.2.2.2.2.1]; rfl)
          have z13 := (show Box _ (w.heap.size + 1) (kv k) from R.out.box 1 (by decide)).cel 0 (.int .i64 k.ph) (rfl)
          have z14 := (show Box _ (w.heap.size + 1) (kv k) from R.out.box 1 (by decide)).cel 1 (.int .i64 k.ep) (rfl)
          go_wp2
          go_ret
          exact ⟨rfl, R.out.bel⟩
end
theorem walk (s : Hs) (d : Hd_) (k : Sh.Ks) (xs : List Int) (t : Ts) (F : Nat → List Int) (g : Nat → O4) (w : World) (hz : Cl.Sz w) (hp : Hp w w.heap.size s d) (hv : Fit64 d.ws) (_ : s.p.n ≤ s.p.c) (hk : Sh.WRow w w.heap.size k xs) (_ : k.wk.n ≤ k.wk.c) (_ : k.wk.c ≤ maxLen) (_ : (Lit.int .i64 k.ep).wf = true) (ht : Th w w.heap.size t F g) : Calls Tryz.prog 6 #[(.agg #[.slice s.w.a s.w.n s.w.c, .slice s.p.a s.p.n s.p.c, .slice (s.u 0).a (s.u 0).n (s.u 0).c, .slice (s.u 1).a (s.u 1).n (s.u 1).c, .slice (s.u 2).a (s.u 2).n (s.u 2).c, .slice s.c.a s.c.n s.c.c]), (.agg #[.int .i64 k.ph, .int .i64 k.ep, .bool k.mj, .slice k.wk.a k.wk.n k.wk.c, .bool k.ov, .int .i64 k.pa, .int .i64 k.pf, .int .i64 k.ps, .int .i64 k.pc, .bool k.me]), (.agg #[.bool t.lv, .int .i64 (t.r 0), .int .i64 (t.r 1), .int .i64 (t.r 2), .int .i64 (t.r 3), .slice (t.u 0).a (t.u 0).n (t.u 0).c, .slice (t.u 1).a (t.u 1).n (t.u 1).c, .slice (t.u 2).a (t.u 2).n (t.u 2).c, .int .i64 t.ep, .int .i64 t.sg, .int .i64 t.rt, .slice t.o.a t.o.n t.o.c, .int .i64 t.pc, .int .i64 t.x, .int .i64 t.y])] w fun e w' => e = .returned (.bool true) ∧ Below w.heap.size w w' := by
  cases hf : fewA s k t with
  | false => exact walk_few s k t d xs F g w hf hz hp hk ht
  | true =>
    cases hA : askB k.ph k.ep t with
    | false => exact walk_not s k t d xs F g w hf hA hz hp hk ht
    | true => exact walk_yes s k t d xs F g w hf hv hA hz hp hk ht

-- the frame (hp15frame.py)
set_option maxRecDepth 100000 in
theorem lifted (os : Os) (started : os.Started) (H : Type) (enc : TypeId × Value → H) :
    ReturnsInHanded {} Tryz.checked os 6 .any (fun w args => (Rows.handEndsSpec.pre enc Tryz.prog Tryz.f6 [] false w args ∧ laidMetH Tryz.prog laidSizes w) ∧ sizedMet enc Tryz.prog Tryz.f6 (OpenSpec.ofChange Rows.handEndsSpec) false w args)
      (Rows.handEndsSpec.post enc Tryz.prog Tryz.f6 false true false false) := by
  refine returnsInHanded_of_change_and (C := Tryz.checked) (X := fun w _ => laidMetH Tryz.prog laidSizes w) (fun _ _ _ hh h => h.of_heap hh) own started (by kernel_rfl) Tryz.func6
    (ChangeSpec.witness_shaped (enc := enc) (C := Tryz.checked) (os := os) (X := fun w _ => laidMetH Tryz.prog laidSizes w) false (World.doorLaid Tryz.prog 400 os) #[.agg #[.slice none 0 0, .slice none 0 0, .slice none 0 0, .slice none 0 0, .slice none 0 0, .slice none 0 0], .agg #[.int .i64 0, .int .i64 0, .bool false, .slice none 0 0, .bool false, .int .i64 0, .int .i64 0, .int .i64 0, .int .i64 0, .bool false], .agg #[.bool false, .int .i64 0, .int .i64 0, .int .i64 0, .int .i64 0, .slice none 0 0, .slice none 0 0, .slice none 0 0, .int .i64 0, .int .i64 0, .int .i64 0, .slice none 0 0, .int .i64 0, .int .i64 0, .int .i64 0]] 8 rfl (World.shaped_of_RefB (by kernel_rfl) (by kernel_rfl)) (by kernel_rfl) (by kernel_rfl) (by kernel_rfl) (door_met os _)) ?_
  intro W base args ds gs before hval0 hW _ _ hL _
  have hval : ∀ (j : Nat) t v, Tryz.f6.params[j]? = some t → args[j]? = some v → Value.okWide Tryz.prog W .any base t v := hval0
  have hW' := hW
  obtain ⟨p, q, hA0, hV, rfl, hfz, hnd⟩ := hW
  have hA : DataW.TrodAll enc Tryz.prog W 0 (fun _ => true) true Tryz.f6.params.toList args.toList ds p := hA0
  rw [Tryz.params6] at hA hval
  obtain ⟨v0, vs0, d0, ds0, p0, q0, hargs, rfl, rfl, h0, r0⟩ := trodAll_cons hA
  obtain ⟨v1, vs1, d1, ds1, p1, q1, rfl, rfl, rfl, h1, r1⟩ := trodAll_cons r0
  obtain ⟨v2, vs2, d2, ds2, p2, q2, rfl, rfl, rfl, h2, r2⟩ := trodAll_cons r1
  obtain ⟨rfl, rfl, rfl⟩ := trodAll_nil r2
  obtain rfl : args = #[v0, v1, v2] := by cases args; simp_all
  obtain ⟨rfl, rfl⟩ := trodVars_none hV
  have k0 := h0
  have lt0 : ∀ x ∈ p0, x.block < W.heap.size := by obtain ⟨m, hm⟩ := k0; exact DataW.trod_lt m _ _ _ hm
  obtain ⟨s0, z0, rfl, w0, f0, b0⟩ := heap_of8 (hval 0 28 v0 rfl rfl) h0
  have k1 := h1
  have lt1 : ∀ x ∈ p1, x.block < W.heap.size := by obtain ⟨m, hm⟩ := k1; exact DataW.trod_lt m _ _ _ hm
  obtain ⟨k1', z1, rfl, w1, m1, x1, f1⟩ := Sh.col_of (hval 1 30 v1 rfl rfl) h1
  have k2 := h2
  have lt2 : ∀ x ∈ p2, x.block < W.heap.size := by obtain ⟨m, hm⟩ := k2; exact DataW.trod_lt m _ _ _ hm
  obtain ⟨t2, z2, g2, rfl, w2⟩ := Rt.th_of (hval 2 34 v2 rfl rfl) h2
  clear hA0 hval0
  refine (walk s0 z0 k1' z1 t2 z2 g2 W (of_laid hL) w0 f0 b0 w1 m1 x1 f1 w2).mono fun e W' ⟨he, bel⟩ => ?_
  subst he
  exact ⟨_, rfl, _, _, _, [], _, [], hW', trodAll_mk1 (shut_bool Tryz.underlying4 _), (trodAll_cons_mk (Below.trod laidOut (by kernel_rfl) (of_decide_eq_true (by kernel_rfl)) k0 bel lt0) (trodAll_cons_mk (Below.trod laidOut (by kernel_rfl) (of_decide_eq_true (by kernel_rfl)) k1 bel lt1) (trodAll_cons_mk (Below.trod laidOut (by kernel_rfl) (of_decide_eq_true (by kernel_rfl)) k2 bel lt2) trodAll_mk0))), rfl, bel.frame _, fun h => by cases h⟩

theorem over : Rows.HandEndsSaid :=
  OpenClaim.holds_of_wide 6 Tryz.f6 rfl rfl rfl rfl rfl rfl rfl ⟨rfl, rfl, rfl, rfl, rfl⟩ rfl rfl rfl rfl rfl (by kernel_rfl) Tryz.func6 (by kernel_rfl)
    (of_decide_eq_true (by kernel_rfl)) (by unfold Func.isWrapper; first | (rw [if_pos (by decide +kernel)]; kernel_rfl) | (rw [if_neg (by decide +kernel)]; exact ⟨rfl, rfl⟩))
    (fun os started H enc _ => lifted os started H enc)

/-- The statement: the card. -/
theorem proved : Rows.HandEndsCardSaid :=
  Claim7.holds_tied_plain_at .later [] [.data] true Rows.handEndsCard.stood.harness false
    over (fun _ h => by cases h) (by kernel_rfl) (fun _ h => by cases h) handEnds_row_tie rfl ⟨rfl, rfl⟩ (by kernel_rfl) rfl
    (fun f fn hf hfn => by
      obtain rfl : f = 6 := Option.some.inj ((show Tryz.prog.funcNamed "ragpicker/ragpickerlaw15.HandEnds" = some 6 by kernel_rfl).symm.trans hf) |>.symm
      obtain rfl : fn = Tryz.f6 := (Option.some.inj (Tryz.func6.symm.trans hfn)).symm
      exact ⟨by kernel_rfl, fun j t ht => by
        rw [Tryz.params6] at ht
        have hm : t ∈ [28, 30, 34] := by simpa using Array.mem_of_getElem? ht
        have hall : ([28, 30, 34].all fun u => !Tryz.prog.wantsStandIn u) = true := by kernel_rfl
        exact (show Tryz.prog.wantsStandIn t = false by simpa using List.all_eq_true.1 hall t hm)⟩)
    (by kernel_rfl)
#print axioms proved
end Go.Proofs.YtgmkomnoiffapaaGreatDoor.HandEnds
