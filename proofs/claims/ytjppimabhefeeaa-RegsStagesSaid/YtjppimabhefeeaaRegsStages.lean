/-
  RegsStages: what makes black is what knows of the cycle; in a phase up to Trace it shades, too; where there is no cycle neither is: for every collector and every thread.
-/
import Derived.Test.YtjppimabhefeeaaRtLaw
namespace Go.Proofs.Ytjppimabhefeeaa.RegsStages
open Go.Proofs.Ytjppimabhefeeaa Go.Proofs.Ytjppimabhefeeaa.Rt
open Go.ChangeShapes Go.WideShapes Go.ChangeAt Go.RowKit
set_option maxRecDepth 100000

theorem arm_no {ph ep : Int} {t : Ts} (h : ph = 0 ∨ ¬ t.ep = ep) : armB ph ep t = false := decide_eq_false (by omega)
theorem black_no {ph ep : Int} {t : Ts} (h : ph = 0 ∨ ¬ t.ep = ep) : blackB ph ep t = false := decide_eq_false (by omega)
theorem arm_yes {ph ep : Int} {t : Ts} (h : t.ep = ep) (h0 : 1 ≤ ph) (h6 : ph ≤ 6) : armB ph ep t = (ph != 6) := by
  rw [Bool.eq_iff_iff]
  simp only [armB, decide_eq_true_eq, bne_iff_ne, ne_eq]
  omega
theorem black_yes {ph ep : Int} {t : Ts} (h : t.ep = ep) (h0 : 1 ≤ ph) : blackB ph ep t = (t.sg == 3) := by
  rw [Bool.eq_iff_iff]
  simp only [blackB, decide_eq_true_eq, beq_iff_eq]
  omega
set_option maxHeartbeats 4000000 in
theorem core_low (k : Sh.Ks) (t : Ts) (x y : Bool) (h1 : decide (k.ph < 0) = true) (w : World) (hx : armB k.ph k.ep t = x) (hy : blackB k.ph k.ep t = y) : Calls Try.prog 4 #[(.agg #[.int .i64 k.ph, .int .i64 k.ep, .bool k.mj, .slice k.wk.a k.wk.n k.wk.c, .bool k.ov, .int .i64 k.pa, .int .i64 k.pf, .int .i64 k.ps, .int .i64 k.pc, .bool k.me]), (.agg #[.bool t.lv, .int .i64 (t.r 0), .int .i64 (t.r 1), .int .i64 (t.r 2), .int .i64 (t.r 3), .slice (t.u 0).a (t.u 0).n (t.u 0).c, .slice (t.u 1).a (t.u 1).n (t.u 1).c, .slice (t.u 2).a (t.u 2).n (t.u 2).c, .int .i64 t.ep, .int .i64 t.sg, .int .i64 t.rt, .slice t.o.a t.o.n t.o.c, .int .i64 t.pc, .int .i64 t.x, .int .i64 t.y])] w fun e w' => e = .returned (.bool true) ∧ Below w.heap.size w w' := by
  have C1 := Lib.hid (fun W => parmed_any k t W)
  have C2 := Lib.hid (fun W => pblack_any k t W)
  rw [hx] at C1
  rw [hy] at C2
  clear hx hy
  go_enter Try.func4, Try.ntmps4
  go_wp2_with fail
  obtain ⟨W1, hW1⟩ : ∃ W1, W1 = (w.alloc (.cells #[.int .i64 k.ph, .int .i64 k.ep, .bool k.mj, .slice k.wk.a k.wk.n k.wk.c, .bool k.ov, .int .i64 k.pa, .int .i64 k.pf, .int .i64 k.ps, .int .i64 k.pc, .bool k.me] 41)).alloc (.cells #[.bool t.lv, .int .i64 (t.r 0), .int .i64 (t.r 1), .int .i64 (t.r 2), .int .i64 (t.r 3), .slice (t.u 0).a (t.u 0).n (t.u 0).c, .slice (t.u 1).a (t.u 1).n (t.u 1).c, .slice (t.u 2).a (t.u 2).n (t.u 2).c, .int .i64 t.ep, .int .i64 t.sg, .int .i64 t.rt, .slice t.o.a t.o.n t.o.c, .int .i64 t.pc, .int .i64 t.x, .int .i64 t.y] 28) := ⟨_, rfl⟩
  have L1 : Hid (Lt w W1 [(w.heap.size + 1, tv t), (w.heap.size, kv k)] [] []) := Lib.hid (by
    have := ((Lt.start w).lay (kv k) 41).lay (tv t) 28
    rw [World.size_alloc] at this
    rw [hW1]
    exact this)
  rw [← hW1]
  clear hW1
  refine (Rt.awake_any W1).mono ?_
  rintro e9 w1 ⟨rfl, hb9⟩
  have L2 := Lib.hid (L1.out.next hb9)
  clear hb9 L1
  have p0 := (L2.out.bx (w.heap.size) (kv k) (by simp)).cel 0 (.int .i64 k.ph) rfl
  have p1 := (L2.out.bx (w.heap.size) (kv k) (by simp)).cel 1 (.int .i64 k.ep) rfl
  have p2 := (L2.out.bx (w.heap.size) (kv k) (by simp)).cel 2 (.bool k.mj) rfl
  have p3 := (L2.out.bx (w.heap.size) (kv k) (by simp)).cel 3 (.slice k.wk.a k.wk.n k.wk.c) rfl
  have p4 := (L2.out.bx (w.heap.size) (kv k) (by simp)).cel 4 (.bool k.ov) rfl
  have p5 := (L2.out.bx (w.heap.size) (kv k) (by simp)).cel 5 (.int .i64 k.pa) rfl
  have p6 := (L2.out.bx (w.heap.size) (kv k) (by simp)).cel 6 (.int .i64 k.pf) rfl
  have p7 := (L2.out.bx (w.heap.size) (kv k) (by simp)).cel 7 (.int .i64 k.ps) rfl
  have p8 := (L2.out.bx (w.heap.size) (kv k) (by simp)).cel 8 (.int .i64 k.pc) rfl
  have p9 := (L2.out.bx (w.heap.size) (kv k) (by simp)).cel 9 (.bool k.me) rfl
  have pl := (L2.out.bx (w.heap.size) (kv k) (by simp)).lt
  have x0 := (L2.out.bx (w.heap.size + 1) (tv t) (by simp)).cel 0 (.bool t.lv) rfl
  have x1 := (L2.out.bx (w.heap.size + 1) (tv t) (by simp)).cel 1 (.int .i64 (t.r 0)) rfl
  have x2 := (L2.out.bx (w.heap.size + 1) (tv t) (by simp)).cel 2 (.int .i64 (t.r 1)) rfl
  have x3 := (L2.out.bx (w.heap.size + 1) (tv t) (by simp)).cel 3 (.int .i64 (t.r 2)) rfl
  have x4 := (L2.out.bx (w.heap.size + 1) (tv t) (by simp)).cel 4 (.int .i64 (t.r 3)) rfl
  have x5 := (L2.out.bx (w.heap.size + 1) (tv t) (by simp)).cel 5 (.slice (t.u 0).a (t.u 0).n (t.u 0).c) rfl
  have x6 := (L2.out.bx (w.heap.size + 1) (tv t) (by simp)).cel 6 (.slice (t.u 1).a (t.u 1).n (t.u 1).c) rfl
  have x7 := (L2.out.bx (w.heap.size + 1) (tv t) (by simp)).cel 7 (.slice (t.u 2).a (t.u 2).n (t.u 2).c) rfl
  have x8 := (L2.out.bx (w.heap.size + 1) (tv t) (by simp)).cel 8 (.int .i64 t.ep) rfl
  have x9 := (L2.out.bx (w.heap.size + 1) (tv t) (by simp)).cel 9 (.int .i64 t.sg) rfl
  have x10 := (L2.out.bx (w.heap.size + 1) (tv t) (by simp)).cel 10 (.int .i64 t.rt) rfl
  have x11 := (L2.out.bx (w.heap.size + 1) (tv t) (by simp)).cel 11 (.slice t.o.a t.o.n t.o.c) rfl
  have x12 := (L2.out.bx (w.heap.size + 1) (tv t) (by simp)).cel 12 (.int .i64 t.pc) rfl
  have x13 := (L2.out.bx (w.heap.size + 1) (tv t) (by simp)).cel 13 (.int .i64 t.x) rfl
  have x14 := (L2.out.bx (w.heap.size + 1) (tv t) (by simp)).cel 14 (.int .i64 t.y) rfl
  have xl := (L2.out.bx (w.heap.size + 1) (tv t) (by simp)).lt
  go_wp2_with fail
  refine (C1.out w1).mono ?_
  rintro e9 w2 ⟨rfl, hb9⟩
  have L3 := Lib.hid (L2.out.next hb9)
  clear hb9 L2
  clear p0 p1 p2 p3 p4 p5 p6 p7 p8 p9 pl
  clear x0 x1 x2 x3 x4 x5 x6 x7 x8 x9 x10 x11 x12 x13 x14 xl
  have p0 := (L3.out.bx (w.heap.size) (kv k) (by simp)).cel 0 (.int .i64 k.ph) rfl
  have p1 := (L3.out.bx (w.heap.size) (kv k) (by simp)).cel 1 (.int .i64 k.ep) rfl
  have p2 := (L3.out.bx (w.heap.size) (kv k) (by simp)).cel 2 (.bool k.mj) rfl
  have p3 := (L3.out.bx (w.heap.size) (kv k) (by simp)).cel 3 (.slice k.wk.a k.wk.n k.wk.c) rfl
  have p4 := (L3.out.bx (w.heap.size) (kv k) (by simp)).cel 4 (.bool k.ov) rfl
  have p5 := (L3.out.bx (w.heap.size) (kv k) (by simp)).cel 5 (.int .i64 k.pa) rfl
  have p6 := (L3.out.bx (w.heap.size) (kv k) (by simp)).cel 6 (.int .i64 k.pf) rfl
  have p7 := (L3.out.bx (w.heap.size) (kv k) (by simp)).cel 7 (.int .i64 k.ps) rfl
  have p8 := (L3.out.bx (w.heap.size) (kv k) (by simp)).cel 8 (.int .i64 k.pc) rfl
  have p9 := (L3.out.bx (w.heap.size) (kv k) (by simp)).cel 9 (.bool k.me) rfl
  have pl := (L3.out.bx (w.heap.size) (kv k) (by simp)).lt
  have x0 := (L3.out.bx (w.heap.size + 1) (tv t) (by simp)).cel 0 (.bool t.lv) rfl
  have x1 := (L3.out.bx (w.heap.size + 1) (tv t) (by simp)).cel 1 (.int .i64 (t.r 0)) rfl
  have x2 := (L3.out.bx (w.heap.size + 1) (tv t) (by simp)).cel 2 (.int .i64 (t.r 1)) rfl
  have x3 := (L3.out.bx (w.heap.size + 1) (tv t) (by simp)).cel 3 (.int .i64 (t.r 2)) rfl
  have x4 := (L3.out.bx (w.heap.size + 1) (tv t) (by simp)).cel 4 (.int .i64 (t.r 3)) rfl
  have x5 := (L3.out.bx (w.heap.size + 1) (tv t) (by simp)).cel 5 (.slice (t.u 0).a (t.u 0).n (t.u 0).c) rfl
  have x6 := (L3.out.bx (w.heap.size + 1) (tv t) (by simp)).cel 6 (.slice (t.u 1).a (t.u 1).n (t.u 1).c) rfl
  have x7 := (L3.out.bx (w.heap.size + 1) (tv t) (by simp)).cel 7 (.slice (t.u 2).a (t.u 2).n (t.u 2).c) rfl
  have x8 := (L3.out.bx (w.heap.size + 1) (tv t) (by simp)).cel 8 (.int .i64 t.ep) rfl
  have x9 := (L3.out.bx (w.heap.size + 1) (tv t) (by simp)).cel 9 (.int .i64 t.sg) rfl
  have x10 := (L3.out.bx (w.heap.size + 1) (tv t) (by simp)).cel 10 (.int .i64 t.rt) rfl
  have x11 := (L3.out.bx (w.heap.size + 1) (tv t) (by simp)).cel 11 (.slice t.o.a t.o.n t.o.c) rfl
  have x12 := (L3.out.bx (w.heap.size + 1) (tv t) (by simp)).cel 12 (.int .i64 t.pc) rfl
  have x13 := (L3.out.bx (w.heap.size + 1) (tv t) (by simp)).cel 13 (.int .i64 t.x) rfl
  have x14 := (L3.out.bx (w.heap.size + 1) (tv t) (by simp)).cel 14 (.int .i64 t.y) rfl
  have xl := (L3.out.bx (w.heap.size + 1) (tv t) (by simp)).lt
  go_wp2_with fail
  refine (C2.out w2).mono ?_
  rintro e9 w3 ⟨rfl, hb9⟩
  have L4 := Lib.hid (L3.out.next hb9)
  clear hb9 L3
  clear p0 p1 p2 p3 p4 p5 p6 p7 p8 p9 pl
  clear x0 x1 x2 x3 x4 x5 x6 x7 x8 x9 x10 x11 x12 x13 x14 xl
  have p0 := (L4.out.bx (w.heap.size) (kv k) (by simp)).cel 0 (.int .i64 k.ph) rfl
  have p1 := (L4.out.bx (w.heap.size) (kv k) (by simp)).cel 1 (.int .i64 k.ep) rfl
  have p2 := (L4.out.bx (w.heap.size) (kv k) (by simp)).cel 2 (.bool k.mj) rfl
  have p3 := (L4.out.bx (w.heap.size) (kv k) (by simp)).cel 3 (.slice k.wk.a k.wk.n k.wk.c) rfl
  have p4 := (L4.out.bx (w.heap.size) (kv k) (by simp)).cel 4 (.bool k.ov) rfl
  have p5 := (L4.out.bx (w.heap.size) (kv k) (by simp)).cel 5 (.int .i64 k.pa) rfl
  have p6 := (L4.out.bx (w.heap.size) (kv k) (by simp)).cel 6 (.int .i64 k.pf) rfl
  have p7 := (L4.out.bx (w.heap.size) (kv k) (by simp)).cel 7 (.int .i64 k.ps) rfl
  have p8 := (L4.out.bx (w.heap.size) (kv k) (by simp)).cel 8 (.int .i64 k.pc) rfl
  have p9 := (L4.out.bx (w.heap.size) (kv k) (by simp)).cel 9 (.bool k.me) rfl
  have pl := (L4.out.bx (w.heap.size) (kv k) (by simp)).lt
  have x0 := (L4.out.bx (w.heap.size + 1) (tv t) (by simp)).cel 0 (.bool t.lv) rfl
  have x1 := (L4.out.bx (w.heap.size + 1) (tv t) (by simp)).cel 1 (.int .i64 (t.r 0)) rfl
  have x2 := (L4.out.bx (w.heap.size + 1) (tv t) (by simp)).cel 2 (.int .i64 (t.r 1)) rfl
  have x3 := (L4.out.bx (w.heap.size + 1) (tv t) (by simp)).cel 3 (.int .i64 (t.r 2)) rfl
  have x4 := (L4.out.bx (w.heap.size + 1) (tv t) (by simp)).cel 4 (.int .i64 (t.r 3)) rfl
  have x5 := (L4.out.bx (w.heap.size + 1) (tv t) (by simp)).cel 5 (.slice (t.u 0).a (t.u 0).n (t.u 0).c) rfl
  have x6 := (L4.out.bx (w.heap.size + 1) (tv t) (by simp)).cel 6 (.slice (t.u 1).a (t.u 1).n (t.u 1).c) rfl
  have x7 := (L4.out.bx (w.heap.size + 1) (tv t) (by simp)).cel 7 (.slice (t.u 2).a (t.u 2).n (t.u 2).c) rfl
  have x8 := (L4.out.bx (w.heap.size + 1) (tv t) (by simp)).cel 8 (.int .i64 t.ep) rfl
  have x9 := (L4.out.bx (w.heap.size + 1) (tv t) (by simp)).cel 9 (.int .i64 t.sg) rfl
  have x10 := (L4.out.bx (w.heap.size + 1) (tv t) (by simp)).cel 10 (.int .i64 t.rt) rfl
  have x11 := (L4.out.bx (w.heap.size + 1) (tv t) (by simp)).cel 11 (.slice t.o.a t.o.n t.o.c) rfl
  have x12 := (L4.out.bx (w.heap.size + 1) (tv t) (by simp)).cel 12 (.int .i64 t.pc) rfl
  have x13 := (L4.out.bx (w.heap.size + 1) (tv t) (by simp)).cel 13 (.int .i64 t.x) rfl
  have x14 := (L4.out.bx (w.heap.size + 1) (tv t) (by simp)).cel 14 (.int .i64 t.y) rfl
  have xl := (L4.out.bx (w.heap.size + 1) (tv t) (by simp)).lt
  go_wp2
  go_ret
  exact ⟨rfl, L4.out.bel⟩
set_option maxHeartbeats 4000000 in
theorem core_high (k : Sh.Ks) (t : Ts) (x y : Bool) (h1 : decide (k.ph < 0) = false) (h2 : decide (6 < k.ph) = true) (w : World) (hx : armB k.ph k.ep t = x) (hy : blackB k.ph k.ep t = y) : Calls Try.prog 4 #[(.agg #[.int .i64 k.ph, .int .i64 k.ep, .bool k.mj, .slice k.wk.a k.wk.n k.wk.c, .bool k.ov, .int .i64 k.pa, .int .i64 k.pf, .int .i64 k.ps, .int .i64 k.pc, .bool k.me]), (.agg #[.bool t.lv, .int .i64 (t.r 0), .int .i64 (t.r 1), .int .i64 (t.r 2), .int .i64 (t.r 3), .slice (t.u 0).a (t.u 0).n (t.u 0).c, .slice (t.u 1).a (t.u 1).n (t.u 1).c, .slice (t.u 2).a (t.u 2).n (t.u 2).c, .int .i64 t.ep, .int .i64 t.sg, .int .i64 t.rt, .slice t.o.a t.o.n t.o.c, .int .i64 t.pc, .int .i64 t.x, .int .i64 t.y])] w fun e w' => e = .returned (.bool true) ∧ Below w.heap.size w w' := by
  have C1 := Lib.hid (fun W => parmed_any k t W)
  have C2 := Lib.hid (fun W => pblack_any k t W)
  rw [hx] at C1
  rw [hy] at C2
  clear hx hy
  go_enter Try.func4, Try.ntmps4
  go_wp2_with fail
  obtain ⟨W1, hW1⟩ : ∃ W1, W1 = (w.alloc (.cells #[.int .i64 k.ph, .int .i64 k.ep, .bool k.mj, .slice k.wk.a k.wk.n k.wk.c, .bool k.ov, .int .i64 k.pa, .int .i64 k.pf, .int .i64 k.ps, .int .i64 k.pc, .bool k.me] 41)).alloc (.cells #[.bool t.lv, .int .i64 (t.r 0), .int .i64 (t.r 1), .int .i64 (t.r 2), .int .i64 (t.r 3), .slice (t.u 0).a (t.u 0).n (t.u 0).c, .slice (t.u 1).a (t.u 1).n (t.u 1).c, .slice (t.u 2).a (t.u 2).n (t.u 2).c, .int .i64 t.ep, .int .i64 t.sg, .int .i64 t.rt, .slice t.o.a t.o.n t.o.c, .int .i64 t.pc, .int .i64 t.x, .int .i64 t.y] 28) := ⟨_, rfl⟩
  have L1 : Hid (Lt w W1 [(w.heap.size + 1, tv t), (w.heap.size, kv k)] [] []) := Lib.hid (by
    have := ((Lt.start w).lay (kv k) 41).lay (tv t) 28
    rw [World.size_alloc] at this
    rw [hW1]
    exact this)
  rw [← hW1]
  clear hW1
  refine (Rt.awake_any W1).mono ?_
  rintro e9 w1 ⟨rfl, hb9⟩
  have L2 := Lib.hid (L1.out.next hb9)
  clear hb9 L1
  have p0 := (L2.out.bx (w.heap.size) (kv k) (by simp)).cel 0 (.int .i64 k.ph) rfl
  have p1 := (L2.out.bx (w.heap.size) (kv k) (by simp)).cel 1 (.int .i64 k.ep) rfl
  have p2 := (L2.out.bx (w.heap.size) (kv k) (by simp)).cel 2 (.bool k.mj) rfl
  have p3 := (L2.out.bx (w.heap.size) (kv k) (by simp)).cel 3 (.slice k.wk.a k.wk.n k.wk.c) rfl
  have p4 := (L2.out.bx (w.heap.size) (kv k) (by simp)).cel 4 (.bool k.ov) rfl
  have p5 := (L2.out.bx (w.heap.size) (kv k) (by simp)).cel 5 (.int .i64 k.pa) rfl
  have p6 := (L2.out.bx (w.heap.size) (kv k) (by simp)).cel 6 (.int .i64 k.pf) rfl
  have p7 := (L2.out.bx (w.heap.size) (kv k) (by simp)).cel 7 (.int .i64 k.ps) rfl
  have p8 := (L2.out.bx (w.heap.size) (kv k) (by simp)).cel 8 (.int .i64 k.pc) rfl
  have p9 := (L2.out.bx (w.heap.size) (kv k) (by simp)).cel 9 (.bool k.me) rfl
  have pl := (L2.out.bx (w.heap.size) (kv k) (by simp)).lt
  have x0 := (L2.out.bx (w.heap.size + 1) (tv t) (by simp)).cel 0 (.bool t.lv) rfl
  have x1 := (L2.out.bx (w.heap.size + 1) (tv t) (by simp)).cel 1 (.int .i64 (t.r 0)) rfl
  have x2 := (L2.out.bx (w.heap.size + 1) (tv t) (by simp)).cel 2 (.int .i64 (t.r 1)) rfl
  have x3 := (L2.out.bx (w.heap.size + 1) (tv t) (by simp)).cel 3 (.int .i64 (t.r 2)) rfl
  have x4 := (L2.out.bx (w.heap.size + 1) (tv t) (by simp)).cel 4 (.int .i64 (t.r 3)) rfl
  have x5 := (L2.out.bx (w.heap.size + 1) (tv t) (by simp)).cel 5 (.slice (t.u 0).a (t.u 0).n (t.u 0).c) rfl
  have x6 := (L2.out.bx (w.heap.size + 1) (tv t) (by simp)).cel 6 (.slice (t.u 1).a (t.u 1).n (t.u 1).c) rfl
  have x7 := (L2.out.bx (w.heap.size + 1) (tv t) (by simp)).cel 7 (.slice (t.u 2).a (t.u 2).n (t.u 2).c) rfl
  have x8 := (L2.out.bx (w.heap.size + 1) (tv t) (by simp)).cel 8 (.int .i64 t.ep) rfl
  have x9 := (L2.out.bx (w.heap.size + 1) (tv t) (by simp)).cel 9 (.int .i64 t.sg) rfl
  have x10 := (L2.out.bx (w.heap.size + 1) (tv t) (by simp)).cel 10 (.int .i64 t.rt) rfl
  have x11 := (L2.out.bx (w.heap.size + 1) (tv t) (by simp)).cel 11 (.slice t.o.a t.o.n t.o.c) rfl
  have x12 := (L2.out.bx (w.heap.size + 1) (tv t) (by simp)).cel 12 (.int .i64 t.pc) rfl
  have x13 := (L2.out.bx (w.heap.size + 1) (tv t) (by simp)).cel 13 (.int .i64 t.x) rfl
  have x14 := (L2.out.bx (w.heap.size + 1) (tv t) (by simp)).cel 14 (.int .i64 t.y) rfl
  have xl := (L2.out.bx (w.heap.size + 1) (tv t) (by simp)).lt
  go_wp2_with fail
  refine (C1.out w1).mono ?_
  rintro e9 w2 ⟨rfl, hb9⟩
  have L3 := Lib.hid (L2.out.next hb9)
  clear hb9 L2
  clear p0 p1 p2 p3 p4 p5 p6 p7 p8 p9 pl
  clear x0 x1 x2 x3 x4 x5 x6 x7 x8 x9 x10 x11 x12 x13 x14 xl
  have p0 := (L3.out.bx (w.heap.size) (kv k) (by simp)).cel 0 (.int .i64 k.ph) rfl
  have p1 := (L3.out.bx (w.heap.size) (kv k) (by simp)).cel 1 (.int .i64 k.ep) rfl
  have p2 := (L3.out.bx (w.heap.size) (kv k) (by simp)).cel 2 (.bool k.mj) rfl
  have p3 := (L3.out.bx (w.heap.size) (kv k) (by simp)).cel 3 (.slice k.wk.a k.wk.n k.wk.c) rfl
  have p4 := (L3.out.bx (w.heap.size) (kv k) (by simp)).cel 4 (.bool k.ov) rfl
  have p5 := (L3.out.bx (w.heap.size) (kv k) (by simp)).cel 5 (.int .i64 k.pa) rfl
  have p6 := (L3.out.bx (w.heap.size) (kv k) (by simp)).cel 6 (.int .i64 k.pf) rfl
  have p7 := (L3.out.bx (w.heap.size) (kv k) (by simp)).cel 7 (.int .i64 k.ps) rfl
  have p8 := (L3.out.bx (w.heap.size) (kv k) (by simp)).cel 8 (.int .i64 k.pc) rfl
  have p9 := (L3.out.bx (w.heap.size) (kv k) (by simp)).cel 9 (.bool k.me) rfl
  have pl := (L3.out.bx (w.heap.size) (kv k) (by simp)).lt
  have x0 := (L3.out.bx (w.heap.size + 1) (tv t) (by simp)).cel 0 (.bool t.lv) rfl
  have x1 := (L3.out.bx (w.heap.size + 1) (tv t) (by simp)).cel 1 (.int .i64 (t.r 0)) rfl
  have x2 := (L3.out.bx (w.heap.size + 1) (tv t) (by simp)).cel 2 (.int .i64 (t.r 1)) rfl
  have x3 := (L3.out.bx (w.heap.size + 1) (tv t) (by simp)).cel 3 (.int .i64 (t.r 2)) rfl
  have x4 := (L3.out.bx (w.heap.size + 1) (tv t) (by simp)).cel 4 (.int .i64 (t.r 3)) rfl
  have x5 := (L3.out.bx (w.heap.size + 1) (tv t) (by simp)).cel 5 (.slice (t.u 0).a (t.u 0).n (t.u 0).c) rfl
  have x6 := (L3.out.bx (w.heap.size + 1) (tv t) (by simp)).cel 6 (.slice (t.u 1).a (t.u 1).n (t.u 1).c) rfl
  have x7 := (L3.out.bx (w.heap.size + 1) (tv t) (by simp)).cel 7 (.slice (t.u 2).a (t.u 2).n (t.u 2).c) rfl
  have x8 := (L3.out.bx (w.heap.size + 1) (tv t) (by simp)).cel 8 (.int .i64 t.ep) rfl
  have x9 := (L3.out.bx (w.heap.size + 1) (tv t) (by simp)).cel 9 (.int .i64 t.sg) rfl
  have x10 := (L3.out.bx (w.heap.size + 1) (tv t) (by simp)).cel 10 (.int .i64 t.rt) rfl
  have x11 := (L3.out.bx (w.heap.size + 1) (tv t) (by simp)).cel 11 (.slice t.o.a t.o.n t.o.c) rfl
  have x12 := (L3.out.bx (w.heap.size + 1) (tv t) (by simp)).cel 12 (.int .i64 t.pc) rfl
  have x13 := (L3.out.bx (w.heap.size + 1) (tv t) (by simp)).cel 13 (.int .i64 t.x) rfl
  have x14 := (L3.out.bx (w.heap.size + 1) (tv t) (by simp)).cel 14 (.int .i64 t.y) rfl
  have xl := (L3.out.bx (w.heap.size + 1) (tv t) (by simp)).lt
  go_wp2_with fail
  refine (C2.out w2).mono ?_
  rintro e9 w3 ⟨rfl, hb9⟩
  have L4 := Lib.hid (L3.out.next hb9)
  clear hb9 L3
  clear p0 p1 p2 p3 p4 p5 p6 p7 p8 p9 pl
  clear x0 x1 x2 x3 x4 x5 x6 x7 x8 x9 x10 x11 x12 x13 x14 xl
  have p0 := (L4.out.bx (w.heap.size) (kv k) (by simp)).cel 0 (.int .i64 k.ph) rfl
  have p1 := (L4.out.bx (w.heap.size) (kv k) (by simp)).cel 1 (.int .i64 k.ep) rfl
  have p2 := (L4.out.bx (w.heap.size) (kv k) (by simp)).cel 2 (.bool k.mj) rfl
  have p3 := (L4.out.bx (w.heap.size) (kv k) (by simp)).cel 3 (.slice k.wk.a k.wk.n k.wk.c) rfl
  have p4 := (L4.out.bx (w.heap.size) (kv k) (by simp)).cel 4 (.bool k.ov) rfl
  have p5 := (L4.out.bx (w.heap.size) (kv k) (by simp)).cel 5 (.int .i64 k.pa) rfl
  have p6 := (L4.out.bx (w.heap.size) (kv k) (by simp)).cel 6 (.int .i64 k.pf) rfl
  have p7 := (L4.out.bx (w.heap.size) (kv k) (by simp)).cel 7 (.int .i64 k.ps) rfl
  have p8 := (L4.out.bx (w.heap.size) (kv k) (by simp)).cel 8 (.int .i64 k.pc) rfl
  have p9 := (L4.out.bx (w.heap.size) (kv k) (by simp)).cel 9 (.bool k.me) rfl
  have pl := (L4.out.bx (w.heap.size) (kv k) (by simp)).lt
  have x0 := (L4.out.bx (w.heap.size + 1) (tv t) (by simp)).cel 0 (.bool t.lv) rfl
  have x1 := (L4.out.bx (w.heap.size + 1) (tv t) (by simp)).cel 1 (.int .i64 (t.r 0)) rfl
  have x2 := (L4.out.bx (w.heap.size + 1) (tv t) (by simp)).cel 2 (.int .i64 (t.r 1)) rfl
  have x3 := (L4.out.bx (w.heap.size + 1) (tv t) (by simp)).cel 3 (.int .i64 (t.r 2)) rfl
  have x4 := (L4.out.bx (w.heap.size + 1) (tv t) (by simp)).cel 4 (.int .i64 (t.r 3)) rfl
  have x5 := (L4.out.bx (w.heap.size + 1) (tv t) (by simp)).cel 5 (.slice (t.u 0).a (t.u 0).n (t.u 0).c) rfl
  have x6 := (L4.out.bx (w.heap.size + 1) (tv t) (by simp)).cel 6 (.slice (t.u 1).a (t.u 1).n (t.u 1).c) rfl
  have x7 := (L4.out.bx (w.heap.size + 1) (tv t) (by simp)).cel 7 (.slice (t.u 2).a (t.u 2).n (t.u 2).c) rfl
  have x8 := (L4.out.bx (w.heap.size + 1) (tv t) (by simp)).cel 8 (.int .i64 t.ep) rfl
  have x9 := (L4.out.bx (w.heap.size + 1) (tv t) (by simp)).cel 9 (.int .i64 t.sg) rfl
  have x10 := (L4.out.bx (w.heap.size + 1) (tv t) (by simp)).cel 10 (.int .i64 t.rt) rfl
  have x11 := (L4.out.bx (w.heap.size + 1) (tv t) (by simp)).cel 11 (.slice t.o.a t.o.n t.o.c) rfl
  have x12 := (L4.out.bx (w.heap.size + 1) (tv t) (by simp)).cel 12 (.int .i64 t.pc) rfl
  have x13 := (L4.out.bx (w.heap.size + 1) (tv t) (by simp)).cel 13 (.int .i64 t.x) rfl
  have x14 := (L4.out.bx (w.heap.size + 1) (tv t) (by simp)).cel 14 (.int .i64 t.y) rfl
  have xl := (L4.out.bx (w.heap.size + 1) (tv t) (by simp)).lt
  go_wp2
  go_ret
  exact ⟨rfl, L4.out.bel⟩
set_option maxHeartbeats 4000000 in
theorem core_idle (k : Sh.Ks) (t : Ts) (x y : Bool) (h1 : decide (k.ph < 0) = false) (h2 : decide (6 < k.ph) = false) (h3 : (k.ph == 0) = true) (_h4 : decide (k.ph = 0) = true) (hxf : x = false) (hyf : y = false) (w : World) (hx : armB k.ph k.ep t = x) (hy : blackB k.ph k.ep t = y) : Calls Try.prog 4 #[(.agg #[.int .i64 k.ph, .int .i64 k.ep, .bool k.mj, .slice k.wk.a k.wk.n k.wk.c, .bool k.ov, .int .i64 k.pa, .int .i64 k.pf, .int .i64 k.ps, .int .i64 k.pc, .bool k.me]), (.agg #[.bool t.lv, .int .i64 (t.r 0), .int .i64 (t.r 1), .int .i64 (t.r 2), .int .i64 (t.r 3), .slice (t.u 0).a (t.u 0).n (t.u 0).c, .slice (t.u 1).a (t.u 1).n (t.u 1).c, .slice (t.u 2).a (t.u 2).n (t.u 2).c, .int .i64 t.ep, .int .i64 t.sg, .int .i64 t.rt, .slice t.o.a t.o.n t.o.c, .int .i64 t.pc, .int .i64 t.x, .int .i64 t.y])] w fun e w' => e = .returned (.bool true) ∧ Below w.heap.size w w' := by
  have C1 := Lib.hid (fun W => parmed_any k t W)
  have C2 := Lib.hid (fun W => pblack_any k t W)
  rw [hx] at C1
  rw [hy] at C2
  clear hx hy
  subst hxf hyf
  go_enter Try.func4, Try.ntmps4
  go_wp2_with fail
  obtain ⟨W1, hW1⟩ : ∃ W1, W1 = (w.alloc (.cells #[.int .i64 k.ph, .int .i64 k.ep, .bool k.mj, .slice k.wk.a k.wk.n k.wk.c, .bool k.ov, .int .i64 k.pa, .int .i64 k.pf, .int .i64 k.ps, .int .i64 k.pc, .bool k.me] 41)).alloc (.cells #[.bool t.lv, .int .i64 (t.r 0), .int .i64 (t.r 1), .int .i64 (t.r 2), .int .i64 (t.r 3), .slice (t.u 0).a (t.u 0).n (t.u 0).c, .slice (t.u 1).a (t.u 1).n (t.u 1).c, .slice (t.u 2).a (t.u 2).n (t.u 2).c, .int .i64 t.ep, .int .i64 t.sg, .int .i64 t.rt, .slice t.o.a t.o.n t.o.c, .int .i64 t.pc, .int .i64 t.x, .int .i64 t.y] 28) := ⟨_, rfl⟩
  have L1 : Hid (Lt w W1 [(w.heap.size + 1, tv t), (w.heap.size, kv k)] [] []) := Lib.hid (by
    have := ((Lt.start w).lay (kv k) 41).lay (tv t) 28
    rw [World.size_alloc] at this
    rw [hW1]
    exact this)
  rw [← hW1]
  clear hW1
  refine (Rt.awake_any W1).mono ?_
  rintro e9 w1 ⟨rfl, hb9⟩
  have L2 := Lib.hid (L1.out.next hb9)
  clear hb9 L1
  have p0 := (L2.out.bx (w.heap.size) (kv k) (by simp)).cel 0 (.int .i64 k.ph) rfl
  have p1 := (L2.out.bx (w.heap.size) (kv k) (by simp)).cel 1 (.int .i64 k.ep) rfl
  have p2 := (L2.out.bx (w.heap.size) (kv k) (by simp)).cel 2 (.bool k.mj) rfl
  have p3 := (L2.out.bx (w.heap.size) (kv k) (by simp)).cel 3 (.slice k.wk.a k.wk.n k.wk.c) rfl
  have p4 := (L2.out.bx (w.heap.size) (kv k) (by simp)).cel 4 (.bool k.ov) rfl
  have p5 := (L2.out.bx (w.heap.size) (kv k) (by simp)).cel 5 (.int .i64 k.pa) rfl
  have p6 := (L2.out.bx (w.heap.size) (kv k) (by simp)).cel 6 (.int .i64 k.pf) rfl
  have p7 := (L2.out.bx (w.heap.size) (kv k) (by simp)).cel 7 (.int .i64 k.ps) rfl
  have p8 := (L2.out.bx (w.heap.size) (kv k) (by simp)).cel 8 (.int .i64 k.pc) rfl
  have p9 := (L2.out.bx (w.heap.size) (kv k) (by simp)).cel 9 (.bool k.me) rfl
  have pl := (L2.out.bx (w.heap.size) (kv k) (by simp)).lt
  have x0 := (L2.out.bx (w.heap.size + 1) (tv t) (by simp)).cel 0 (.bool t.lv) rfl
  have x1 := (L2.out.bx (w.heap.size + 1) (tv t) (by simp)).cel 1 (.int .i64 (t.r 0)) rfl
  have x2 := (L2.out.bx (w.heap.size + 1) (tv t) (by simp)).cel 2 (.int .i64 (t.r 1)) rfl
  have x3 := (L2.out.bx (w.heap.size + 1) (tv t) (by simp)).cel 3 (.int .i64 (t.r 2)) rfl
  have x4 := (L2.out.bx (w.heap.size + 1) (tv t) (by simp)).cel 4 (.int .i64 (t.r 3)) rfl
  have x5 := (L2.out.bx (w.heap.size + 1) (tv t) (by simp)).cel 5 (.slice (t.u 0).a (t.u 0).n (t.u 0).c) rfl
  have x6 := (L2.out.bx (w.heap.size + 1) (tv t) (by simp)).cel 6 (.slice (t.u 1).a (t.u 1).n (t.u 1).c) rfl
  have x7 := (L2.out.bx (w.heap.size + 1) (tv t) (by simp)).cel 7 (.slice (t.u 2).a (t.u 2).n (t.u 2).c) rfl
  have x8 := (L2.out.bx (w.heap.size + 1) (tv t) (by simp)).cel 8 (.int .i64 t.ep) rfl
  have x9 := (L2.out.bx (w.heap.size + 1) (tv t) (by simp)).cel 9 (.int .i64 t.sg) rfl
  have x10 := (L2.out.bx (w.heap.size + 1) (tv t) (by simp)).cel 10 (.int .i64 t.rt) rfl
  have x11 := (L2.out.bx (w.heap.size + 1) (tv t) (by simp)).cel 11 (.slice t.o.a t.o.n t.o.c) rfl
  have x12 := (L2.out.bx (w.heap.size + 1) (tv t) (by simp)).cel 12 (.int .i64 t.pc) rfl
  have x13 := (L2.out.bx (w.heap.size + 1) (tv t) (by simp)).cel 13 (.int .i64 t.x) rfl
  have x14 := (L2.out.bx (w.heap.size + 1) (tv t) (by simp)).cel 14 (.int .i64 t.y) rfl
  have xl := (L2.out.bx (w.heap.size + 1) (tv t) (by simp)).lt
  go_wp2_with fail
  refine (C1.out w1).mono ?_
  rintro e9 w2 ⟨rfl, hb9⟩
  have L3 := Lib.hid (L2.out.next hb9)
  clear hb9 L2
  clear p0 p1 p2 p3 p4 p5 p6 p7 p8 p9 pl
  clear x0 x1 x2 x3 x4 x5 x6 x7 x8 x9 x10 x11 x12 x13 x14 xl
  have p0 := (L3.out.bx (w.heap.size) (kv k) (by simp)).cel 0 (.int .i64 k.ph) rfl
  have p1 := (L3.out.bx (w.heap.size) (kv k) (by simp)).cel 1 (.int .i64 k.ep) rfl
  have p2 := (L3.out.bx (w.heap.size) (kv k) (by simp)).cel 2 (.bool k.mj) rfl
  have p3 := (L3.out.bx (w.heap.size) (kv k) (by simp)).cel 3 (.slice k.wk.a k.wk.n k.wk.c) rfl
  have p4 := (L3.out.bx (w.heap.size) (kv k) (by simp)).cel 4 (.bool k.ov) rfl
  have p5 := (L3.out.bx (w.heap.size) (kv k) (by simp)).cel 5 (.int .i64 k.pa) rfl
  have p6 := (L3.out.bx (w.heap.size) (kv k) (by simp)).cel 6 (.int .i64 k.pf) rfl
  have p7 := (L3.out.bx (w.heap.size) (kv k) (by simp)).cel 7 (.int .i64 k.ps) rfl
  have p8 := (L3.out.bx (w.heap.size) (kv k) (by simp)).cel 8 (.int .i64 k.pc) rfl
  have p9 := (L3.out.bx (w.heap.size) (kv k) (by simp)).cel 9 (.bool k.me) rfl
  have pl := (L3.out.bx (w.heap.size) (kv k) (by simp)).lt
  have x0 := (L3.out.bx (w.heap.size + 1) (tv t) (by simp)).cel 0 (.bool t.lv) rfl
  have x1 := (L3.out.bx (w.heap.size + 1) (tv t) (by simp)).cel 1 (.int .i64 (t.r 0)) rfl
  have x2 := (L3.out.bx (w.heap.size + 1) (tv t) (by simp)).cel 2 (.int .i64 (t.r 1)) rfl
  have x3 := (L3.out.bx (w.heap.size + 1) (tv t) (by simp)).cel 3 (.int .i64 (t.r 2)) rfl
  have x4 := (L3.out.bx (w.heap.size + 1) (tv t) (by simp)).cel 4 (.int .i64 (t.r 3)) rfl
  have x5 := (L3.out.bx (w.heap.size + 1) (tv t) (by simp)).cel 5 (.slice (t.u 0).a (t.u 0).n (t.u 0).c) rfl
  have x6 := (L3.out.bx (w.heap.size + 1) (tv t) (by simp)).cel 6 (.slice (t.u 1).a (t.u 1).n (t.u 1).c) rfl
  have x7 := (L3.out.bx (w.heap.size + 1) (tv t) (by simp)).cel 7 (.slice (t.u 2).a (t.u 2).n (t.u 2).c) rfl
  have x8 := (L3.out.bx (w.heap.size + 1) (tv t) (by simp)).cel 8 (.int .i64 t.ep) rfl
  have x9 := (L3.out.bx (w.heap.size + 1) (tv t) (by simp)).cel 9 (.int .i64 t.sg) rfl
  have x10 := (L3.out.bx (w.heap.size + 1) (tv t) (by simp)).cel 10 (.int .i64 t.rt) rfl
  have x11 := (L3.out.bx (w.heap.size + 1) (tv t) (by simp)).cel 11 (.slice t.o.a t.o.n t.o.c) rfl
  have x12 := (L3.out.bx (w.heap.size + 1) (tv t) (by simp)).cel 12 (.int .i64 t.pc) rfl
  have x13 := (L3.out.bx (w.heap.size + 1) (tv t) (by simp)).cel 13 (.int .i64 t.x) rfl
  have x14 := (L3.out.bx (w.heap.size + 1) (tv t) (by simp)).cel 14 (.int .i64 t.y) rfl
  have xl := (L3.out.bx (w.heap.size + 1) (tv t) (by simp)).lt
  go_wp2_with fail
  refine (C2.out w2).mono ?_
  rintro e9 w3 ⟨rfl, hb9⟩
  have L4 := Lib.hid (L3.out.next hb9)
  clear hb9 L3
  clear p0 p1 p2 p3 p4 p5 p6 p7 p8 p9 pl
  clear x0 x1 x2 x3 x4 x5 x6 x7 x8 x9 x10 x11 x12 x13 x14 xl
  have p0 := (L4.out.bx (w.heap.size) (kv k) (by simp)).cel 0 (.int .i64 k.ph) rfl
  have p1 := (L4.out.bx (w.heap.size) (kv k) (by simp)).cel 1 (.int .i64 k.ep) rfl
  have p2 := (L4.out.bx (w.heap.size) (kv k) (by simp)).cel 2 (.bool k.mj) rfl
  have p3 := (L4.out.bx (w.heap.size) (kv k) (by simp)).cel 3 (.slice k.wk.a k.wk.n k.wk.c) rfl
  have p4 := (L4.out.bx (w.heap.size) (kv k) (by simp)).cel 4 (.bool k.ov) rfl
  have p5 := (L4.out.bx (w.heap.size) (kv k) (by simp)).cel 5 (.int .i64 k.pa) rfl
  have p6 := (L4.out.bx (w.heap.size) (kv k) (by simp)).cel 6 (.int .i64 k.pf) rfl
  have p7 := (L4.out.bx (w.heap.size) (kv k) (by simp)).cel 7 (.int .i64 k.ps) rfl
  have p8 := (L4.out.bx (w.heap.size) (kv k) (by simp)).cel 8 (.int .i64 k.pc) rfl
  have p9 := (L4.out.bx (w.heap.size) (kv k) (by simp)).cel 9 (.bool k.me) rfl
  have pl := (L4.out.bx (w.heap.size) (kv k) (by simp)).lt
  have x0 := (L4.out.bx (w.heap.size + 1) (tv t) (by simp)).cel 0 (.bool t.lv) rfl
  have x1 := (L4.out.bx (w.heap.size + 1) (tv t) (by simp)).cel 1 (.int .i64 (t.r 0)) rfl
  have x2 := (L4.out.bx (w.heap.size + 1) (tv t) (by simp)).cel 2 (.int .i64 (t.r 1)) rfl
  have x3 := (L4.out.bx (w.heap.size + 1) (tv t) (by simp)).cel 3 (.int .i64 (t.r 2)) rfl
  have x4 := (L4.out.bx (w.heap.size + 1) (tv t) (by simp)).cel 4 (.int .i64 (t.r 3)) rfl
  have x5 := (L4.out.bx (w.heap.size + 1) (tv t) (by simp)).cel 5 (.slice (t.u 0).a (t.u 0).n (t.u 0).c) rfl
  have x6 := (L4.out.bx (w.heap.size + 1) (tv t) (by simp)).cel 6 (.slice (t.u 1).a (t.u 1).n (t.u 1).c) rfl
  have x7 := (L4.out.bx (w.heap.size + 1) (tv t) (by simp)).cel 7 (.slice (t.u 2).a (t.u 2).n (t.u 2).c) rfl
  have x8 := (L4.out.bx (w.heap.size + 1) (tv t) (by simp)).cel 8 (.int .i64 t.ep) rfl
  have x9 := (L4.out.bx (w.heap.size + 1) (tv t) (by simp)).cel 9 (.int .i64 t.sg) rfl
  have x10 := (L4.out.bx (w.heap.size + 1) (tv t) (by simp)).cel 10 (.int .i64 t.rt) rfl
  have x11 := (L4.out.bx (w.heap.size + 1) (tv t) (by simp)).cel 11 (.slice t.o.a t.o.n t.o.c) rfl
  have x12 := (L4.out.bx (w.heap.size + 1) (tv t) (by simp)).cel 12 (.int .i64 t.pc) rfl
  have x13 := (L4.out.bx (w.heap.size + 1) (tv t) (by simp)).cel 13 (.int .i64 t.x) rfl
  have x14 := (L4.out.bx (w.heap.size + 1) (tv t) (by simp)).cel 14 (.int .i64 t.y) rfl
  have xl := (L4.out.bx (w.heap.size + 1) (tv t) (by simp)).lt
  go_wp2
  go_ret
  exact ⟨rfl, L4.out.bel⟩
set_option maxHeartbeats 4000000 in
theorem core_other (k : Sh.Ks) (t : Ts) (x y : Bool) (h1 : decide (k.ph < 0) = false) (h2 : decide (6 < k.ph) = false) (h3 : (k.ph == 0) = false) (_h4 : decide (k.ph = 0) = false) (h5 : (t.ep != k.ep) = true) (hxf : x = false) (hyf : y = false) (w : World) (hx : armB k.ph k.ep t = x) (hy : blackB k.ph k.ep t = y) : Calls Try.prog 4 #[(.agg #[.int .i64 k.ph, .int .i64 k.ep, .bool k.mj, .slice k.wk.a k.wk.n k.wk.c, .bool k.ov, .int .i64 k.pa, .int .i64 k.pf, .int .i64 k.ps, .int .i64 k.pc, .bool k.me]), (.agg #[.bool t.lv, .int .i64 (t.r 0), .int .i64 (t.r 1), .int .i64 (t.r 2), .int .i64 (t.r 3), .slice (t.u 0).a (t.u 0).n (t.u 0).c, .slice (t.u 1).a (t.u 1).n (t.u 1).c, .slice (t.u 2).a (t.u 2).n (t.u 2).c, .int .i64 t.ep, .int .i64 t.sg, .int .i64 t.rt, .slice t.o.a t.o.n t.o.c, .int .i64 t.pc, .int .i64 t.x, .int .i64 t.y])] w fun e w' => e = .returned (.bool true) ∧ Below w.heap.size w w' := by
  have C1 := Lib.hid (fun W => parmed_any k t W)
  have C2 := Lib.hid (fun W => pblack_any k t W)
  rw [hx] at C1
  rw [hy] at C2
  clear hx hy
  subst hxf hyf
  go_enter Try.func4, Try.ntmps4
  go_wp2_with fail
  obtain ⟨W1, hW1⟩ : ∃ W1, W1 = (w.alloc (.cells #[.int .i64 k.ph, .int .i64 k.ep, .bool k.mj, .slice k.wk.a k.wk.n k.wk.c, .bool k.ov, .int .i64 k.pa, .int .i64 k.pf, .int .i64 k.ps, .int .i64 k.pc, .bool k.me] 41)).alloc (.cells #[.bool t.lv, .int .i64 (t.r 0), .int .i64 (t.r 1), .int .i64 (t.r 2), .int .i64 (t.r 3), .slice (t.u 0).a (t.u 0).n (t.u 0).c, .slice (t.u 1).a (t.u 1).n (t.u 1).c, .slice (t.u 2).a (t.u 2).n (t.u 2).c, .int .i64 t.ep, .int .i64 t.sg, .int .i64 t.rt, .slice t.o.a t.o.n t.o.c, .int .i64 t.pc, .int .i64 t.x, .int .i64 t.y] 28) := ⟨_, rfl⟩
  have L1 : Hid (Lt w W1 [(w.heap.size + 1, tv t), (w.heap.size, kv k)] [] []) := Lib.hid (by
    have := ((Lt.start w).lay (kv k) 41).lay (tv t) 28
    rw [World.size_alloc] at this
    rw [hW1]
    exact this)
  rw [← hW1]
  clear hW1
  refine (Rt.awake_any W1).mono ?_
  rintro e9 w1 ⟨rfl, hb9⟩
  have L2 := Lib.hid (L1.out.next hb9)
  clear hb9 L1
  have p0 := (L2.out.bx (w.heap.size) (kv k) (by simp)).cel 0 (.int .i64 k.ph) rfl
  have p1 := (L2.out.bx (w.heap.size) (kv k) (by simp)).cel 1 (.int .i64 k.ep) rfl
  have p2 := (L2.out.bx (w.heap.size) (kv k) (by simp)).cel 2 (.bool k.mj) rfl
  have p3 := (L2.out.bx (w.heap.size) (kv k) (by simp)).cel 3 (.slice k.wk.a k.wk.n k.wk.c) rfl
  have p4 := (L2.out.bx (w.heap.size) (kv k) (by simp)).cel 4 (.bool k.ov) rfl
  have p5 := (L2.out.bx (w.heap.size) (kv k) (by simp)).cel 5 (.int .i64 k.pa) rfl
  have p6 := (L2.out.bx (w.heap.size) (kv k) (by simp)).cel 6 (.int .i64 k.pf) rfl
  have p7 := (L2.out.bx (w.heap.size) (kv k) (by simp)).cel 7 (.int .i64 k.ps) rfl
  have p8 := (L2.out.bx (w.heap.size) (kv k) (by simp)).cel 8 (.int .i64 k.pc) rfl
  have p9 := (L2.out.bx (w.heap.size) (kv k) (by simp)).cel 9 (.bool k.me) rfl
  have pl := (L2.out.bx (w.heap.size) (kv k) (by simp)).lt
  have x0 := (L2.out.bx (w.heap.size + 1) (tv t) (by simp)).cel 0 (.bool t.lv) rfl
  have x1 := (L2.out.bx (w.heap.size + 1) (tv t) (by simp)).cel 1 (.int .i64 (t.r 0)) rfl
  have x2 := (L2.out.bx (w.heap.size + 1) (tv t) (by simp)).cel 2 (.int .i64 (t.r 1)) rfl
  have x3 := (L2.out.bx (w.heap.size + 1) (tv t) (by simp)).cel 3 (.int .i64 (t.r 2)) rfl
  have x4 := (L2.out.bx (w.heap.size + 1) (tv t) (by simp)).cel 4 (.int .i64 (t.r 3)) rfl
  have x5 := (L2.out.bx (w.heap.size + 1) (tv t) (by simp)).cel 5 (.slice (t.u 0).a (t.u 0).n (t.u 0).c) rfl
  have x6 := (L2.out.bx (w.heap.size + 1) (tv t) (by simp)).cel 6 (.slice (t.u 1).a (t.u 1).n (t.u 1).c) rfl
  have x7 := (L2.out.bx (w.heap.size + 1) (tv t) (by simp)).cel 7 (.slice (t.u 2).a (t.u 2).n (t.u 2).c) rfl
  have x8 := (L2.out.bx (w.heap.size + 1) (tv t) (by simp)).cel 8 (.int .i64 t.ep) rfl
  have x9 := (L2.out.bx (w.heap.size + 1) (tv t) (by simp)).cel 9 (.int .i64 t.sg) rfl
  have x10 := (L2.out.bx (w.heap.size + 1) (tv t) (by simp)).cel 10 (.int .i64 t.rt) rfl
  have x11 := (L2.out.bx (w.heap.size + 1) (tv t) (by simp)).cel 11 (.slice t.o.a t.o.n t.o.c) rfl
  have x12 := (L2.out.bx (w.heap.size + 1) (tv t) (by simp)).cel 12 (.int .i64 t.pc) rfl
  have x13 := (L2.out.bx (w.heap.size + 1) (tv t) (by simp)).cel 13 (.int .i64 t.x) rfl
  have x14 := (L2.out.bx (w.heap.size + 1) (tv t) (by simp)).cel 14 (.int .i64 t.y) rfl
  have xl := (L2.out.bx (w.heap.size + 1) (tv t) (by simp)).lt
  go_wp2_with fail
  refine (C1.out w1).mono ?_
  rintro e9 w2 ⟨rfl, hb9⟩
  have L3 := Lib.hid (L2.out.next hb9)
  clear hb9 L2
  clear p0 p1 p2 p3 p4 p5 p6 p7 p8 p9 pl
  clear x0 x1 x2 x3 x4 x5 x6 x7 x8 x9 x10 x11 x12 x13 x14 xl
  have p0 := (L3.out.bx (w.heap.size) (kv k) (by simp)).cel 0 (.int .i64 k.ph) rfl
  have p1 := (L3.out.bx (w.heap.size) (kv k) (by simp)).cel 1 (.int .i64 k.ep) rfl
  have p2 := (L3.out.bx (w.heap.size) (kv k) (by simp)).cel 2 (.bool k.mj) rfl
  have p3 := (L3.out.bx (w.heap.size) (kv k) (by simp)).cel 3 (.slice k.wk.a k.wk.n k.wk.c) rfl
  have p4 := (L3.out.bx (w.heap.size) (kv k) (by simp)).cel 4 (.bool k.ov) rfl
  have p5 := (L3.out.bx (w.heap.size) (kv k) (by simp)).cel 5 (.int .i64 k.pa) rfl
  have p6 := (L3.out.bx (w.heap.size) (kv k) (by simp)).cel 6 (.int .i64 k.pf) rfl
  have p7 := (L3.out.bx (w.heap.size) (kv k) (by simp)).cel 7 (.int .i64 k.ps) rfl
  have p8 := (L3.out.bx (w.heap.size) (kv k) (by simp)).cel 8 (.int .i64 k.pc) rfl
  have p9 := (L3.out.bx (w.heap.size) (kv k) (by simp)).cel 9 (.bool k.me) rfl
  have pl := (L3.out.bx (w.heap.size) (kv k) (by simp)).lt
  have x0 := (L3.out.bx (w.heap.size + 1) (tv t) (by simp)).cel 0 (.bool t.lv) rfl
  have x1 := (L3.out.bx (w.heap.size + 1) (tv t) (by simp)).cel 1 (.int .i64 (t.r 0)) rfl
  have x2 := (L3.out.bx (w.heap.size + 1) (tv t) (by simp)).cel 2 (.int .i64 (t.r 1)) rfl
  have x3 := (L3.out.bx (w.heap.size + 1) (tv t) (by simp)).cel 3 (.int .i64 (t.r 2)) rfl
  have x4 := (L3.out.bx (w.heap.size + 1) (tv t) (by simp)).cel 4 (.int .i64 (t.r 3)) rfl
  have x5 := (L3.out.bx (w.heap.size + 1) (tv t) (by simp)).cel 5 (.slice (t.u 0).a (t.u 0).n (t.u 0).c) rfl
  have x6 := (L3.out.bx (w.heap.size + 1) (tv t) (by simp)).cel 6 (.slice (t.u 1).a (t.u 1).n (t.u 1).c) rfl
  have x7 := (L3.out.bx (w.heap.size + 1) (tv t) (by simp)).cel 7 (.slice (t.u 2).a (t.u 2).n (t.u 2).c) rfl
  have x8 := (L3.out.bx (w.heap.size + 1) (tv t) (by simp)).cel 8 (.int .i64 t.ep) rfl
  have x9 := (L3.out.bx (w.heap.size + 1) (tv t) (by simp)).cel 9 (.int .i64 t.sg) rfl
  have x10 := (L3.out.bx (w.heap.size + 1) (tv t) (by simp)).cel 10 (.int .i64 t.rt) rfl
  have x11 := (L3.out.bx (w.heap.size + 1) (tv t) (by simp)).cel 11 (.slice t.o.a t.o.n t.o.c) rfl
  have x12 := (L3.out.bx (w.heap.size + 1) (tv t) (by simp)).cel 12 (.int .i64 t.pc) rfl
  have x13 := (L3.out.bx (w.heap.size + 1) (tv t) (by simp)).cel 13 (.int .i64 t.x) rfl
  have x14 := (L3.out.bx (w.heap.size + 1) (tv t) (by simp)).cel 14 (.int .i64 t.y) rfl
  have xl := (L3.out.bx (w.heap.size + 1) (tv t) (by simp)).lt
  go_wp2_with fail
  refine (C2.out w2).mono ?_
  rintro e9 w3 ⟨rfl, hb9⟩
  have L4 := Lib.hid (L3.out.next hb9)
  clear hb9 L3
  clear p0 p1 p2 p3 p4 p5 p6 p7 p8 p9 pl
  clear x0 x1 x2 x3 x4 x5 x6 x7 x8 x9 x10 x11 x12 x13 x14 xl
  have p0 := (L4.out.bx (w.heap.size) (kv k) (by simp)).cel 0 (.int .i64 k.ph) rfl
  have p1 := (L4.out.bx (w.heap.size) (kv k) (by simp)).cel 1 (.int .i64 k.ep) rfl
  have p2 := (L4.out.bx (w.heap.size) (kv k) (by simp)).cel 2 (.bool k.mj) rfl
  have p3 := (L4.out.bx (w.heap.size) (kv k) (by simp)).cel 3 (.slice k.wk.a k.wk.n k.wk.c) rfl
  have p4 := (L4.out.bx (w.heap.size) (kv k) (by simp)).cel 4 (.bool k.ov) rfl
  have p5 := (L4.out.bx (w.heap.size) (kv k) (by simp)).cel 5 (.int .i64 k.pa) rfl
  have p6 := (L4.out.bx (w.heap.size) (kv k) (by simp)).cel 6 (.int .i64 k.pf) rfl
  have p7 := (L4.out.bx (w.heap.size) (kv k) (by simp)).cel 7 (.int .i64 k.ps) rfl
  have p8 := (L4.out.bx (w.heap.size) (kv k) (by simp)).cel 8 (.int .i64 k.pc) rfl
  have p9 := (L4.out.bx (w.heap.size) (kv k) (by simp)).cel 9 (.bool k.me) rfl
  have pl := (L4.out.bx (w.heap.size) (kv k) (by simp)).lt
  have x0 := (L4.out.bx (w.heap.size + 1) (tv t) (by simp)).cel 0 (.bool t.lv) rfl
  have x1 := (L4.out.bx (w.heap.size + 1) (tv t) (by simp)).cel 1 (.int .i64 (t.r 0)) rfl
  have x2 := (L4.out.bx (w.heap.size + 1) (tv t) (by simp)).cel 2 (.int .i64 (t.r 1)) rfl
  have x3 := (L4.out.bx (w.heap.size + 1) (tv t) (by simp)).cel 3 (.int .i64 (t.r 2)) rfl
  have x4 := (L4.out.bx (w.heap.size + 1) (tv t) (by simp)).cel 4 (.int .i64 (t.r 3)) rfl
  have x5 := (L4.out.bx (w.heap.size + 1) (tv t) (by simp)).cel 5 (.slice (t.u 0).a (t.u 0).n (t.u 0).c) rfl
  have x6 := (L4.out.bx (w.heap.size + 1) (tv t) (by simp)).cel 6 (.slice (t.u 1).a (t.u 1).n (t.u 1).c) rfl
  have x7 := (L4.out.bx (w.heap.size + 1) (tv t) (by simp)).cel 7 (.slice (t.u 2).a (t.u 2).n (t.u 2).c) rfl
  have x8 := (L4.out.bx (w.heap.size + 1) (tv t) (by simp)).cel 8 (.int .i64 t.ep) rfl
  have x9 := (L4.out.bx (w.heap.size + 1) (tv t) (by simp)).cel 9 (.int .i64 t.sg) rfl
  have x10 := (L4.out.bx (w.heap.size + 1) (tv t) (by simp)).cel 10 (.int .i64 t.rt) rfl
  have x11 := (L4.out.bx (w.heap.size + 1) (tv t) (by simp)).cel 11 (.slice t.o.a t.o.n t.o.c) rfl
  have x12 := (L4.out.bx (w.heap.size + 1) (tv t) (by simp)).cel 12 (.int .i64 t.pc) rfl
  have x13 := (L4.out.bx (w.heap.size + 1) (tv t) (by simp)).cel 13 (.int .i64 t.x) rfl
  have x14 := (L4.out.bx (w.heap.size + 1) (tv t) (by simp)).cel 14 (.int .i64 t.y) rfl
  have xl := (L4.out.bx (w.heap.size + 1) (tv t) (by simp)).lt
  go_wp2
  go_ret
  exact ⟨rfl, L4.out.bel⟩
set_option maxHeartbeats 4000000 in
theorem core_tt (k : Sh.Ks) (t : Ts) (x y : Bool) (h1 : decide (k.ph < 0) = false) (h2 : decide (6 < k.ph) = false) (h3 : (k.ph == 0) = false) (_h4 : decide (k.ph = 0) = false) (h5 : (t.ep != k.ep) = false) (h6 : (k.ph != 6) = true) (h7 : (t.sg == 3) = true) (_h8 : decide (t.sg = 3) = true) (hxf : x = true) (hyf : y = true) (w : World) (hx : armB k.ph k.ep t = x) (hy : blackB k.ph k.ep t = y) : Calls Try.prog 4 #[(.agg #[.int .i64 k.ph, .int .i64 k.ep, .bool k.mj, .slice k.wk.a k.wk.n k.wk.c, .bool k.ov, .int .i64 k.pa, .int .i64 k.pf, .int .i64 k.ps, .int .i64 k.pc, .bool k.me]), (.agg #[.bool t.lv, .int .i64 (t.r 0), .int .i64 (t.r 1), .int .i64 (t.r 2), .int .i64 (t.r 3), .slice (t.u 0).a (t.u 0).n (t.u 0).c, .slice (t.u 1).a (t.u 1).n (t.u 1).c, .slice (t.u 2).a (t.u 2).n (t.u 2).c, .int .i64 t.ep, .int .i64 t.sg, .int .i64 t.rt, .slice t.o.a t.o.n t.o.c, .int .i64 t.pc, .int .i64 t.x, .int .i64 t.y])] w fun e w' => e = .returned (.bool true) ∧ Below w.heap.size w w' := by
  have C1 := Lib.hid (fun W => parmed_any k t W)
  have C2 := Lib.hid (fun W => pblack_any k t W)
  rw [hx] at C1
  rw [hy] at C2
  clear hx hy
  subst hxf hyf
  go_enter Try.func4, Try.ntmps4
  go_wp2_with fail
  obtain ⟨W1, hW1⟩ : ∃ W1, W1 = (w.alloc (.cells #[.int .i64 k.ph, .int .i64 k.ep, .bool k.mj, .slice k.wk.a k.wk.n k.wk.c, .bool k.ov, .int .i64 k.pa, .int .i64 k.pf, .int .i64 k.ps, .int .i64 k.pc, .bool k.me] 41)).alloc (.cells #[.bool t.lv, .int .i64 (t.r 0), .int .i64 (t.r 1), .int .i64 (t.r 2), .int .i64 (t.r 3), .slice (t.u 0).a (t.u 0).n (t.u 0).c, .slice (t.u 1).a (t.u 1).n (t.u 1).c, .slice (t.u 2).a (t.u 2).n (t.u 2).c, .int .i64 t.ep, .int .i64 t.sg, .int .i64 t.rt, .slice t.o.a t.o.n t.o.c, .int .i64 t.pc, .int .i64 t.x, .int .i64 t.y] 28) := ⟨_, rfl⟩
  have L1 : Hid (Lt w W1 [(w.heap.size + 1, tv t), (w.heap.size, kv k)] [] []) := Lib.hid (by
    have := ((Lt.start w).lay (kv k) 41).lay (tv t) 28
    rw [World.size_alloc] at this
    rw [hW1]
    exact this)
  rw [← hW1]
  clear hW1
  refine (Rt.awake_any W1).mono ?_
  rintro e9 w1 ⟨rfl, hb9⟩
  have L2 := Lib.hid (L1.out.next hb9)
  clear hb9 L1
  have p0 := (L2.out.bx (w.heap.size) (kv k) (by simp)).cel 0 (.int .i64 k.ph) rfl
  have p1 := (L2.out.bx (w.heap.size) (kv k) (by simp)).cel 1 (.int .i64 k.ep) rfl
  have p2 := (L2.out.bx (w.heap.size) (kv k) (by simp)).cel 2 (.bool k.mj) rfl
  have p3 := (L2.out.bx (w.heap.size) (kv k) (by simp)).cel 3 (.slice k.wk.a k.wk.n k.wk.c) rfl
  have p4 := (L2.out.bx (w.heap.size) (kv k) (by simp)).cel 4 (.bool k.ov) rfl
  have p5 := (L2.out.bx (w.heap.size) (kv k) (by simp)).cel 5 (.int .i64 k.pa) rfl
  have p6 := (L2.out.bx (w.heap.size) (kv k) (by simp)).cel 6 (.int .i64 k.pf) rfl
  have p7 := (L2.out.bx (w.heap.size) (kv k) (by simp)).cel 7 (.int .i64 k.ps) rfl
  have p8 := (L2.out.bx (w.heap.size) (kv k) (by simp)).cel 8 (.int .i64 k.pc) rfl
  have p9 := (L2.out.bx (w.heap.size) (kv k) (by simp)).cel 9 (.bool k.me) rfl
  have pl := (L2.out.bx (w.heap.size) (kv k) (by simp)).lt
  have x0 := (L2.out.bx (w.heap.size + 1) (tv t) (by simp)).cel 0 (.bool t.lv) rfl
  have x1 := (L2.out.bx (w.heap.size + 1) (tv t) (by simp)).cel 1 (.int .i64 (t.r 0)) rfl
  have x2 := (L2.out.bx (w.heap.size + 1) (tv t) (by simp)).cel 2 (.int .i64 (t.r 1)) rfl
  have x3 := (L2.out.bx (w.heap.size + 1) (tv t) (by simp)).cel 3 (.int .i64 (t.r 2)) rfl
  have x4 := (L2.out.bx (w.heap.size + 1) (tv t) (by simp)).cel 4 (.int .i64 (t.r 3)) rfl
  have x5 := (L2.out.bx (w.heap.size + 1) (tv t) (by simp)).cel 5 (.slice (t.u 0).a (t.u 0).n (t.u 0).c) rfl
  have x6 := (L2.out.bx (w.heap.size + 1) (tv t) (by simp)).cel 6 (.slice (t.u 1).a (t.u 1).n (t.u 1).c) rfl
  have x7 := (L2.out.bx (w.heap.size + 1) (tv t) (by simp)).cel 7 (.slice (t.u 2).a (t.u 2).n (t.u 2).c) rfl
  have x8 := (L2.out.bx (w.heap.size + 1) (tv t) (by simp)).cel 8 (.int .i64 t.ep) rfl
  have x9 := (L2.out.bx (w.heap.size + 1) (tv t) (by simp)).cel 9 (.int .i64 t.sg) rfl
  have x10 := (L2.out.bx (w.heap.size + 1) (tv t) (by simp)).cel 10 (.int .i64 t.rt) rfl
  have x11 := (L2.out.bx (w.heap.size + 1) (tv t) (by simp)).cel 11 (.slice t.o.a t.o.n t.o.c) rfl
  have x12 := (L2.out.bx (w.heap.size + 1) (tv t) (by simp)).cel 12 (.int .i64 t.pc) rfl
  have x13 := (L2.out.bx (w.heap.size + 1) (tv t) (by simp)).cel 13 (.int .i64 t.x) rfl
  have x14 := (L2.out.bx (w.heap.size + 1) (tv t) (by simp)).cel 14 (.int .i64 t.y) rfl
  have xl := (L2.out.bx (w.heap.size + 1) (tv t) (by simp)).lt
  go_wp2_with fail
  refine (C1.out w1).mono ?_
  rintro e9 w2 ⟨rfl, hb9⟩
  have L3 := Lib.hid (L2.out.next hb9)
  clear hb9 L2
  clear p0 p1 p2 p3 p4 p5 p6 p7 p8 p9 pl
  clear x0 x1 x2 x3 x4 x5 x6 x7 x8 x9 x10 x11 x12 x13 x14 xl
  have p0 := (L3.out.bx (w.heap.size) (kv k) (by simp)).cel 0 (.int .i64 k.ph) rfl
  have p1 := (L3.out.bx (w.heap.size) (kv k) (by simp)).cel 1 (.int .i64 k.ep) rfl
  have p2 := (L3.out.bx (w.heap.size) (kv k) (by simp)).cel 2 (.bool k.mj) rfl
  have p3 := (L3.out.bx (w.heap.size) (kv k) (by simp)).cel 3 (.slice k.wk.a k.wk.n k.wk.c) rfl
  have p4 := (L3.out.bx (w.heap.size) (kv k) (by simp)).cel 4 (.bool k.ov) rfl
  have p5 := (L3.out.bx (w.heap.size) (kv k) (by simp)).cel 5 (.int .i64 k.pa) rfl
  have p6 := (L3.out.bx (w.heap.size) (kv k) (by simp)).cel 6 (.int .i64 k.pf) rfl
  have p7 := (L3.out.bx (w.heap.size) (kv k) (by simp)).cel 7 (.int .i64 k.ps) rfl
  have p8 := (L3.out.bx (w.heap.size) (kv k) (by simp)).cel 8 (.int .i64 k.pc) rfl
  have p9 := (L3.out.bx (w.heap.size) (kv k) (by simp)).cel 9 (.bool k.me) rfl
  have pl := (L3.out.bx (w.heap.size) (kv k) (by simp)).lt
  have x0 := (L3.out.bx (w.heap.size + 1) (tv t) (by simp)).cel 0 (.bool t.lv) rfl
  have x1 := (L3.out.bx (w.heap.size + 1) (tv t) (by simp)).cel 1 (.int .i64 (t.r 0)) rfl
  have x2 := (L3.out.bx (w.heap.size + 1) (tv t) (by simp)).cel 2 (.int .i64 (t.r 1)) rfl
  have x3 := (L3.out.bx (w.heap.size + 1) (tv t) (by simp)).cel 3 (.int .i64 (t.r 2)) rfl
  have x4 := (L3.out.bx (w.heap.size + 1) (tv t) (by simp)).cel 4 (.int .i64 (t.r 3)) rfl
  have x5 := (L3.out.bx (w.heap.size + 1) (tv t) (by simp)).cel 5 (.slice (t.u 0).a (t.u 0).n (t.u 0).c) rfl
  have x6 := (L3.out.bx (w.heap.size + 1) (tv t) (by simp)).cel 6 (.slice (t.u 1).a (t.u 1).n (t.u 1).c) rfl
  have x7 := (L3.out.bx (w.heap.size + 1) (tv t) (by simp)).cel 7 (.slice (t.u 2).a (t.u 2).n (t.u 2).c) rfl
  have x8 := (L3.out.bx (w.heap.size + 1) (tv t) (by simp)).cel 8 (.int .i64 t.ep) rfl
  have x9 := (L3.out.bx (w.heap.size + 1) (tv t) (by simp)).cel 9 (.int .i64 t.sg) rfl
  have x10 := (L3.out.bx (w.heap.size + 1) (tv t) (by simp)).cel 10 (.int .i64 t.rt) rfl
  have x11 := (L3.out.bx (w.heap.size + 1) (tv t) (by simp)).cel 11 (.slice t.o.a t.o.n t.o.c) rfl
  have x12 := (L3.out.bx (w.heap.size + 1) (tv t) (by simp)).cel 12 (.int .i64 t.pc) rfl
  have x13 := (L3.out.bx (w.heap.size + 1) (tv t) (by simp)).cel 13 (.int .i64 t.x) rfl
  have x14 := (L3.out.bx (w.heap.size + 1) (tv t) (by simp)).cel 14 (.int .i64 t.y) rfl
  have xl := (L3.out.bx (w.heap.size + 1) (tv t) (by simp)).lt
  go_wp2_with fail
  refine (C2.out w2).mono ?_
  rintro e9 w3 ⟨rfl, hb9⟩
  have L4 := Lib.hid (L3.out.next hb9)
  clear hb9 L3
  clear p0 p1 p2 p3 p4 p5 p6 p7 p8 p9 pl
  clear x0 x1 x2 x3 x4 x5 x6 x7 x8 x9 x10 x11 x12 x13 x14 xl
  have p0 := (L4.out.bx (w.heap.size) (kv k) (by simp)).cel 0 (.int .i64 k.ph) rfl
  have p1 := (L4.out.bx (w.heap.size) (kv k) (by simp)).cel 1 (.int .i64 k.ep) rfl
  have p2 := (L4.out.bx (w.heap.size) (kv k) (by simp)).cel 2 (.bool k.mj) rfl
  have p3 := (L4.out.bx (w.heap.size) (kv k) (by simp)).cel 3 (.slice k.wk.a k.wk.n k.wk.c) rfl
  have p4 := (L4.out.bx (w.heap.size) (kv k) (by simp)).cel 4 (.bool k.ov) rfl
  have p5 := (L4.out.bx (w.heap.size) (kv k) (by simp)).cel 5 (.int .i64 k.pa) rfl
  have p6 := (L4.out.bx (w.heap.size) (kv k) (by simp)).cel 6 (.int .i64 k.pf) rfl
  have p7 := (L4.out.bx (w.heap.size) (kv k) (by simp)).cel 7 (.int .i64 k.ps) rfl
  have p8 := (L4.out.bx (w.heap.size) (kv k) (by simp)).cel 8 (.int .i64 k.pc) rfl
  have p9 := (L4.out.bx (w.heap.size) (kv k) (by simp)).cel 9 (.bool k.me) rfl
  have pl := (L4.out.bx (w.heap.size) (kv k) (by simp)).lt
  have x0 := (L4.out.bx (w.heap.size + 1) (tv t) (by simp)).cel 0 (.bool t.lv) rfl
  have x1 := (L4.out.bx (w.heap.size + 1) (tv t) (by simp)).cel 1 (.int .i64 (t.r 0)) rfl
  have x2 := (L4.out.bx (w.heap.size + 1) (tv t) (by simp)).cel 2 (.int .i64 (t.r 1)) rfl
  have x3 := (L4.out.bx (w.heap.size + 1) (tv t) (by simp)).cel 3 (.int .i64 (t.r 2)) rfl
  have x4 := (L4.out.bx (w.heap.size + 1) (tv t) (by simp)).cel 4 (.int .i64 (t.r 3)) rfl
  have x5 := (L4.out.bx (w.heap.size + 1) (tv t) (by simp)).cel 5 (.slice (t.u 0).a (t.u 0).n (t.u 0).c) rfl
  have x6 := (L4.out.bx (w.heap.size + 1) (tv t) (by simp)).cel 6 (.slice (t.u 1).a (t.u 1).n (t.u 1).c) rfl
  have x7 := (L4.out.bx (w.heap.size + 1) (tv t) (by simp)).cel 7 (.slice (t.u 2).a (t.u 2).n (t.u 2).c) rfl
  have x8 := (L4.out.bx (w.heap.size + 1) (tv t) (by simp)).cel 8 (.int .i64 t.ep) rfl
  have x9 := (L4.out.bx (w.heap.size + 1) (tv t) (by simp)).cel 9 (.int .i64 t.sg) rfl
  have x10 := (L4.out.bx (w.heap.size + 1) (tv t) (by simp)).cel 10 (.int .i64 t.rt) rfl
  have x11 := (L4.out.bx (w.heap.size + 1) (tv t) (by simp)).cel 11 (.slice t.o.a t.o.n t.o.c) rfl
  have x12 := (L4.out.bx (w.heap.size + 1) (tv t) (by simp)).cel 12 (.int .i64 t.pc) rfl
  have x13 := (L4.out.bx (w.heap.size + 1) (tv t) (by simp)).cel 13 (.int .i64 t.x) rfl
  have x14 := (L4.out.bx (w.heap.size + 1) (tv t) (by simp)).cel 14 (.int .i64 t.y) rfl
  have xl := (L4.out.bx (w.heap.size + 1) (tv t) (by simp)).lt
  go_wp2
  go_ret
  exact ⟨rfl, L4.out.bel⟩
set_option maxHeartbeats 4000000 in
theorem core_tf (k : Sh.Ks) (t : Ts) (x y : Bool) (h1 : decide (k.ph < 0) = false) (h2 : decide (6 < k.ph) = false) (h3 : (k.ph == 0) = false) (_h4 : decide (k.ph = 0) = false) (h5 : (t.ep != k.ep) = false) (h6 : (k.ph != 6) = true) (h7 : (t.sg == 3) = false) (_h8 : decide (t.sg = 3) = false) (hxf : x = true) (hyf : y = false) (w : World) (hx : armB k.ph k.ep t = x) (hy : blackB k.ph k.ep t = y) : Calls Try.prog 4 #[(.agg #[.int .i64 k.ph, .int .i64 k.ep, .bool k.mj, .slice k.wk.a k.wk.n k.wk.c, .bool k.ov, .int .i64 k.pa, .int .i64 k.pf, .int .i64 k.ps, .int .i64 k.pc, .bool k.me]), (.agg #[.bool t.lv, .int .i64 (t.r 0), .int .i64 (t.r 1), .int .i64 (t.r 2), .int .i64 (t.r 3), .slice (t.u 0).a (t.u 0).n (t.u 0).c, .slice (t.u 1).a (t.u 1).n (t.u 1).c, .slice (t.u 2).a (t.u 2).n (t.u 2).c, .int .i64 t.ep, .int .i64 t.sg, .int .i64 t.rt, .slice t.o.a t.o.n t.o.c, .int .i64 t.pc, .int .i64 t.x, .int .i64 t.y])] w fun e w' => e = .returned (.bool true) ∧ Below w.heap.size w w' := by
  have C1 := Lib.hid (fun W => parmed_any k t W)
  have C2 := Lib.hid (fun W => pblack_any k t W)
  rw [hx] at C1
  rw [hy] at C2
  clear hx hy
  subst hxf hyf
  go_enter Try.func4, Try.ntmps4
  go_wp2_with fail
  obtain ⟨W1, hW1⟩ : ∃ W1, W1 = (w.alloc (.cells #[.int .i64 k.ph, .int .i64 k.ep, .bool k.mj, .slice k.wk.a k.wk.n k.wk.c, .bool k.ov, .int .i64 k.pa, .int .i64 k.pf, .int .i64 k.ps, .int .i64 k.pc, .bool k.me] 41)).alloc (.cells #[.bool t.lv, .int .i64 (t.r 0), .int .i64 (t.r 1), .int .i64 (t.r 2), .int .i64 (t.r 3), .slice (t.u 0).a (t.u 0).n (t.u 0).c, .slice (t.u 1).a (t.u 1).n (t.u 1).c, .slice (t.u 2).a (t.u 2).n (t.u 2).c, .int .i64 t.ep, .int .i64 t.sg, .int .i64 t.rt, .slice t.o.a t.o.n t.o.c, .int .i64 t.pc, .int .i64 t.x, .int .i64 t.y] 28) := ⟨_, rfl⟩
  have L1 : Hid (Lt w W1 [(w.heap.size + 1, tv t), (w.heap.size, kv k)] [] []) := Lib.hid (by
    have := ((Lt.start w).lay (kv k) 41).lay (tv t) 28
    rw [World.size_alloc] at this
    rw [hW1]
    exact this)
  rw [← hW1]
  clear hW1
  refine (Rt.awake_any W1).mono ?_
  rintro e9 w1 ⟨rfl, hb9⟩
  have L2 := Lib.hid (L1.out.next hb9)
  clear hb9 L1
  have p0 := (L2.out.bx (w.heap.size) (kv k) (by simp)).cel 0 (.int .i64 k.ph) rfl
  have p1 := (L2.out.bx (w.heap.size) (kv k) (by simp)).cel 1 (.int .i64 k.ep) rfl
  have p2 := (L2.out.bx (w.heap.size) (kv k) (by simp)).cel 2 (.bool k.mj) rfl
  have p3 := (L2.out.bx (w.heap.size) (kv k) (by simp)).cel 3 (.slice k.wk.a k.wk.n k.wk.c) rfl
  have p4 := (L2.out.bx (w.heap.size) (kv k) (by simp)).cel 4 (.bool k.ov) rfl
  have p5 := (L2.out.bx (w.heap.size) (kv k) (by simp)).cel 5 (.int .i64 k.pa) rfl
  have p6 := (L2.out.bx (w.heap.size) (kv k) (by simp)).cel 6 (.int .i64 k.pf) rfl
  have p7 := (L2.out.bx (w.heap.size) (kv k) (by simp)).cel 7 (.int .i64 k.ps) rfl
  have p8 := (L2.out.bx (w.heap.size) (kv k) (by simp)).cel 8 (.int .i64 k.pc) rfl
  have p9 := (L2.out.bx (w.heap.size) (kv k) (by simp)).cel 9 (.bool k.me) rfl
  have pl := (L2.out.bx (w.heap.size) (kv k) (by simp)).lt
  have x0 := (L2.out.bx (w.heap.size + 1) (tv t) (by simp)).cel 0 (.bool t.lv) rfl
  have x1 := (L2.out.bx (w.heap.size + 1) (tv t) (by simp)).cel 1 (.int .i64 (t.r 0)) rfl
  have x2 := (L2.out.bx (w.heap.size + 1) (tv t) (by simp)).cel 2 (.int .i64 (t.r 1)) rfl
  have x3 := (L2.out.bx (w.heap.size + 1) (tv t) (by simp)).cel 3 (.int .i64 (t.r 2)) rfl
  have x4 := (L2.out.bx (w.heap.size + 1) (tv t) (by simp)).cel 4 (.int .i64 (t.r 3)) rfl
  have x5 := (L2.out.bx (w.heap.size + 1) (tv t) (by simp)).cel 5 (.slice (t.u 0).a (t.u 0).n (t.u 0).c) rfl
  have x6 := (L2.out.bx (w.heap.size + 1) (tv t) (by simp)).cel 6 (.slice (t.u 1).a (t.u 1).n (t.u 1).c) rfl
  have x7 := (L2.out.bx (w.heap.size + 1) (tv t) (by simp)).cel 7 (.slice (t.u 2).a (t.u 2).n (t.u 2).c) rfl
  have x8 := (L2.out.bx (w.heap.size + 1) (tv t) (by simp)).cel 8 (.int .i64 t.ep) rfl
  have x9 := (L2.out.bx (w.heap.size + 1) (tv t) (by simp)).cel 9 (.int .i64 t.sg) rfl
  have x10 := (L2.out.bx (w.heap.size + 1) (tv t) (by simp)).cel 10 (.int .i64 t.rt) rfl
  have x11 := (L2.out.bx (w.heap.size + 1) (tv t) (by simp)).cel 11 (.slice t.o.a t.o.n t.o.c) rfl
  have x12 := (L2.out.bx (w.heap.size + 1) (tv t) (by simp)).cel 12 (.int .i64 t.pc) rfl
  have x13 := (L2.out.bx (w.heap.size + 1) (tv t) (by simp)).cel 13 (.int .i64 t.x) rfl
  have x14 := (L2.out.bx (w.heap.size + 1) (tv t) (by simp)).cel 14 (.int .i64 t.y) rfl
  have xl := (L2.out.bx (w.heap.size + 1) (tv t) (by simp)).lt
  go_wp2_with fail
  refine (C1.out w1).mono ?_
  rintro e9 w2 ⟨rfl, hb9⟩
  have L3 := Lib.hid (L2.out.next hb9)
  clear hb9 L2
  clear p0 p1 p2 p3 p4 p5 p6 p7 p8 p9 pl
  clear x0 x1 x2 x3 x4 x5 x6 x7 x8 x9 x10 x11 x12 x13 x14 xl
  have p0 := (L3.out.bx (w.heap.size) (kv k) (by simp)).cel 0 (.int .i64 k.ph) rfl
  have p1 := (L3.out.bx (w.heap.size) (kv k) (by simp)).cel 1 (.int .i64 k.ep) rfl
  have p2 := (L3.out.bx (w.heap.size) (kv k) (by simp)).cel 2 (.bool k.mj) rfl
  have p3 := (L3.out.bx (w.heap.size) (kv k) (by simp)).cel 3 (.slice k.wk.a k.wk.n k.wk.c) rfl
  have p4 := (L3.out.bx (w.heap.size) (kv k) (by simp)).cel 4 (.bool k.ov) rfl
  have p5 := (L3.out.bx (w.heap.size) (kv k) (by simp)).cel 5 (.int .i64 k.pa) rfl
  have p6 := (L3.out.bx (w.heap.size) (kv k) (by simp)).cel 6 (.int .i64 k.pf) rfl
  have p7 := (L3.out.bx (w.heap.size) (kv k) (by simp)).cel 7 (.int .i64 k.ps) rfl
  have p8 := (L3.out.bx (w.heap.size) (kv k) (by simp)).cel 8 (.int .i64 k.pc) rfl
  have p9 := (L3.out.bx (w.heap.size) (kv k) (by simp)).cel 9 (.bool k.me) rfl
  have pl := (L3.out.bx (w.heap.size) (kv k) (by simp)).lt
  have x0 := (L3.out.bx (w.heap.size + 1) (tv t) (by simp)).cel 0 (.bool t.lv) rfl
  have x1 := (L3.out.bx (w.heap.size + 1) (tv t) (by simp)).cel 1 (.int .i64 (t.r 0)) rfl
  have x2 := (L3.out.bx (w.heap.size + 1) (tv t) (by simp)).cel 2 (.int .i64 (t.r 1)) rfl
  have x3 := (L3.out.bx (w.heap.size + 1) (tv t) (by simp)).cel 3 (.int .i64 (t.r 2)) rfl
  have x4 := (L3.out.bx (w.heap.size + 1) (tv t) (by simp)).cel 4 (.int .i64 (t.r 3)) rfl
  have x5 := (L3.out.bx (w.heap.size + 1) (tv t) (by simp)).cel 5 (.slice (t.u 0).a (t.u 0).n (t.u 0).c) rfl
  have x6 := (L3.out.bx (w.heap.size + 1) (tv t) (by simp)).cel 6 (.slice (t.u 1).a (t.u 1).n (t.u 1).c) rfl
  have x7 := (L3.out.bx (w.heap.size + 1) (tv t) (by simp)).cel 7 (.slice (t.u 2).a (t.u 2).n (t.u 2).c) rfl
  have x8 := (L3.out.bx (w.heap.size + 1) (tv t) (by simp)).cel 8 (.int .i64 t.ep) rfl
  have x9 := (L3.out.bx (w.heap.size + 1) (tv t) (by simp)).cel 9 (.int .i64 t.sg) rfl
  have x10 := (L3.out.bx (w.heap.size + 1) (tv t) (by simp)).cel 10 (.int .i64 t.rt) rfl
  have x11 := (L3.out.bx (w.heap.size + 1) (tv t) (by simp)).cel 11 (.slice t.o.a t.o.n t.o.c) rfl
  have x12 := (L3.out.bx (w.heap.size + 1) (tv t) (by simp)).cel 12 (.int .i64 t.pc) rfl
  have x13 := (L3.out.bx (w.heap.size + 1) (tv t) (by simp)).cel 13 (.int .i64 t.x) rfl
  have x14 := (L3.out.bx (w.heap.size + 1) (tv t) (by simp)).cel 14 (.int .i64 t.y) rfl
  have xl := (L3.out.bx (w.heap.size + 1) (tv t) (by simp)).lt
  go_wp2_with fail
  refine (C2.out w2).mono ?_
  rintro e9 w3 ⟨rfl, hb9⟩
  have L4 := Lib.hid (L3.out.next hb9)
  clear hb9 L3
  clear p0 p1 p2 p3 p4 p5 p6 p7 p8 p9 pl
  clear x0 x1 x2 x3 x4 x5 x6 x7 x8 x9 x10 x11 x12 x13 x14 xl
  have p0 := (L4.out.bx (w.heap.size) (kv k) (by simp)).cel 0 (.int .i64 k.ph) rfl
  have p1 := (L4.out.bx (w.heap.size) (kv k) (by simp)).cel 1 (.int .i64 k.ep) rfl
  have p2 := (L4.out.bx (w.heap.size) (kv k) (by simp)).cel 2 (.bool k.mj) rfl
  have p3 := (L4.out.bx (w.heap.size) (kv k) (by simp)).cel 3 (.slice k.wk.a k.wk.n k.wk.c) rfl
  have p4 := (L4.out.bx (w.heap.size) (kv k) (by simp)).cel 4 (.bool k.ov) rfl
  have p5 := (L4.out.bx (w.heap.size) (kv k) (by simp)).cel 5 (.int .i64 k.pa) rfl
  have p6 := (L4.out.bx (w.heap.size) (kv k) (by simp)).cel 6 (.int .i64 k.pf) rfl
  have p7 := (L4.out.bx (w.heap.size) (kv k) (by simp)).cel 7 (.int .i64 k.ps) rfl
  have p8 := (L4.out.bx (w.heap.size) (kv k) (by simp)).cel 8 (.int .i64 k.pc) rfl
  have p9 := (L4.out.bx (w.heap.size) (kv k) (by simp)).cel 9 (.bool k.me) rfl
  have pl := (L4.out.bx (w.heap.size) (kv k) (by simp)).lt
  have x0 := (L4.out.bx (w.heap.size + 1) (tv t) (by simp)).cel 0 (.bool t.lv) rfl
  have x1 := (L4.out.bx (w.heap.size + 1) (tv t) (by simp)).cel 1 (.int .i64 (t.r 0)) rfl
  have x2 := (L4.out.bx (w.heap.size + 1) (tv t) (by simp)).cel 2 (.int .i64 (t.r 1)) rfl
  have x3 := (L4.out.bx (w.heap.size + 1) (tv t) (by simp)).cel 3 (.int .i64 (t.r 2)) rfl
  have x4 := (L4.out.bx (w.heap.size + 1) (tv t) (by simp)).cel 4 (.int .i64 (t.r 3)) rfl
  have x5 := (L4.out.bx (w.heap.size + 1) (tv t) (by simp)).cel 5 (.slice (t.u 0).a (t.u 0).n (t.u 0).c) rfl
  have x6 := (L4.out.bx (w.heap.size + 1) (tv t) (by simp)).cel 6 (.slice (t.u 1).a (t.u 1).n (t.u 1).c) rfl
  have x7 := (L4.out.bx (w.heap.size + 1) (tv t) (by simp)).cel 7 (.slice (t.u 2).a (t.u 2).n (t.u 2).c) rfl
  have x8 := (L4.out.bx (w.heap.size + 1) (tv t) (by simp)).cel 8 (.int .i64 t.ep) rfl
  have x9 := (L4.out.bx (w.heap.size + 1) (tv t) (by simp)).cel 9 (.int .i64 t.sg) rfl
  have x10 := (L4.out.bx (w.heap.size + 1) (tv t) (by simp)).cel 10 (.int .i64 t.rt) rfl
  have x11 := (L4.out.bx (w.heap.size + 1) (tv t) (by simp)).cel 11 (.slice t.o.a t.o.n t.o.c) rfl
  have x12 := (L4.out.bx (w.heap.size + 1) (tv t) (by simp)).cel 12 (.int .i64 t.pc) rfl
  have x13 := (L4.out.bx (w.heap.size + 1) (tv t) (by simp)).cel 13 (.int .i64 t.x) rfl
  have x14 := (L4.out.bx (w.heap.size + 1) (tv t) (by simp)).cel 14 (.int .i64 t.y) rfl
  have xl := (L4.out.bx (w.heap.size + 1) (tv t) (by simp)).lt
  go_wp2
  go_ret
  exact ⟨rfl, L4.out.bel⟩
set_option maxHeartbeats 4000000 in
theorem core_ft (k : Sh.Ks) (t : Ts) (x y : Bool) (h1 : decide (k.ph < 0) = false) (h2 : decide (6 < k.ph) = false) (h3 : (k.ph == 0) = false) (_h4 : decide (k.ph = 0) = false) (h5 : (t.ep != k.ep) = false) (h6 : (k.ph != 6) = false) (h7 : (t.sg == 3) = true) (_h8 : decide (t.sg = 3) = true) (hxf : x = false) (hyf : y = true) (w : World) (hx : armB k.ph k.ep t = x) (hy : blackB k.ph k.ep t = y) : Calls Try.prog 4 #[(.agg #[.int .i64 k.ph, .int .i64 k.ep, .bool k.mj, .slice k.wk.a k.wk.n k.wk.c, .bool k.ov, .int .i64 k.pa, .int .i64 k.pf, .int .i64 k.ps, .int .i64 k.pc, .bool k.me]), (.agg #[.bool t.lv, .int .i64 (t.r 0), .int .i64 (t.r 1), .int .i64 (t.r 2), .int .i64 (t.r 3), .slice (t.u 0).a (t.u 0).n (t.u 0).c, .slice (t.u 1).a (t.u 1).n (t.u 1).c, .slice (t.u 2).a (t.u 2).n (t.u 2).c, .int .i64 t.ep, .int .i64 t.sg, .int .i64 t.rt, .slice t.o.a t.o.n t.o.c, .int .i64 t.pc, .int .i64 t.x, .int .i64 t.y])] w fun e w' => e = .returned (.bool true) ∧ Below w.heap.size w w' := by
  have C1 := Lib.hid (fun W => parmed_any k t W)
  have C2 := Lib.hid (fun W => pblack_any k t W)
  rw [hx] at C1
  rw [hy] at C2
  clear hx hy
  subst hxf hyf
  go_enter Try.func4, Try.ntmps4
  go_wp2_with fail
  obtain ⟨W1, hW1⟩ : ∃ W1, W1 = (w.alloc (.cells #[.int .i64 k.ph, .int .i64 k.ep, .bool k.mj, .slice k.wk.a k.wk.n k.wk.c, .bool k.ov, .int .i64 k.pa, .int .i64 k.pf, .int .i64 k.ps, .int .i64 k.pc, .bool k.me] 41)).alloc (.cells #[.bool t.lv, .int .i64 (t.r 0), .int .i64 (t.r 1), .int .i64 (t.r 2), .int .i64 (t.r 3), .slice (t.u 0).a (t.u 0).n (t.u 0).c, .slice (t.u 1).a (t.u 1).n (t.u 1).c, .slice (t.u 2).a (t.u 2).n (t.u 2).c, .int .i64 t.ep, .int .i64 t.sg, .int .i64 t.rt, .slice t.o.a t.o.n t.o.c, .int .i64 t.pc, .int .i64 t.x, .int .i64 t.y] 28) := ⟨_, rfl⟩
  have L1 : Hid (Lt w W1 [(w.heap.size + 1, tv t), (w.heap.size, kv k)] [] []) := Lib.hid (by
    have := ((Lt.start w).lay (kv k) 41).lay (tv t) 28
    rw [World.size_alloc] at this
    rw [hW1]
    exact this)
  rw [← hW1]
  clear hW1
  refine (Rt.awake_any W1).mono ?_
  rintro e9 w1 ⟨rfl, hb9⟩
  have L2 := Lib.hid (L1.out.next hb9)
  clear hb9 L1
  have p0 := (L2.out.bx (w.heap.size) (kv k) (by simp)).cel 0 (.int .i64 k.ph) rfl
  have p1 := (L2.out.bx (w.heap.size) (kv k) (by simp)).cel 1 (.int .i64 k.ep) rfl
  have p2 := (L2.out.bx (w.heap.size) (kv k) (by simp)).cel 2 (.bool k.mj) rfl
  have p3 := (L2.out.bx (w.heap.size) (kv k) (by simp)).cel 3 (.slice k.wk.a k.wk.n k.wk.c) rfl
  have p4 := (L2.out.bx (w.heap.size) (kv k) (by simp)).cel 4 (.bool k.ov) rfl
  have p5 := (L2.out.bx (w.heap.size) (kv k) (by simp)).cel 5 (.int .i64 k.pa) rfl
  have p6 := (L2.out.bx (w.heap.size) (kv k) (by simp)).cel 6 (.int .i64 k.pf) rfl
  have p7 := (L2.out.bx (w.heap.size) (kv k) (by simp)).cel 7 (.int .i64 k.ps) rfl
  have p8 := (L2.out.bx (w.heap.size) (kv k) (by simp)).cel 8 (.int .i64 k.pc) rfl
  have p9 := (L2.out.bx (w.heap.size) (kv k) (by simp)).cel 9 (.bool k.me) rfl
  have pl := (L2.out.bx (w.heap.size) (kv k) (by simp)).lt
  have x0 := (L2.out.bx (w.heap.size + 1) (tv t) (by simp)).cel 0 (.bool t.lv) rfl
  have x1 := (L2.out.bx (w.heap.size + 1) (tv t) (by simp)).cel 1 (.int .i64 (t.r 0)) rfl
  have x2 := (L2.out.bx (w.heap.size + 1) (tv t) (by simp)).cel 2 (.int .i64 (t.r 1)) rfl
  have x3 := (L2.out.bx (w.heap.size + 1) (tv t) (by simp)).cel 3 (.int .i64 (t.r 2)) rfl
  have x4 := (L2.out.bx (w.heap.size + 1) (tv t) (by simp)).cel 4 (.int .i64 (t.r 3)) rfl
  have x5 := (L2.out.bx (w.heap.size + 1) (tv t) (by simp)).cel 5 (.slice (t.u 0).a (t.u 0).n (t.u 0).c) rfl
  have x6 := (L2.out.bx (w.heap.size + 1) (tv t) (by simp)).cel 6 (.slice (t.u 1).a (t.u 1).n (t.u 1).c) rfl
  have x7 := (L2.out.bx (w.heap.size + 1) (tv t) (by simp)).cel 7 (.slice (t.u 2).a (t.u 2).n (t.u 2).c) rfl
  have x8 := (L2.out.bx (w.heap.size + 1) (tv t) (by simp)).cel 8 (.int .i64 t.ep) rfl
  have x9 := (L2.out.bx (w.heap.size + 1) (tv t) (by simp)).cel 9 (.int .i64 t.sg) rfl
  have x10 := (L2.out.bx (w.heap.size + 1) (tv t) (by simp)).cel 10 (.int .i64 t.rt) rfl
  have x11 := (L2.out.bx (w.heap.size + 1) (tv t) (by simp)).cel 11 (.slice t.o.a t.o.n t.o.c) rfl
  have x12 := (L2.out.bx (w.heap.size + 1) (tv t) (by simp)).cel 12 (.int .i64 t.pc) rfl
  have x13 := (L2.out.bx (w.heap.size + 1) (tv t) (by simp)).cel 13 (.int .i64 t.x) rfl
  have x14 := (L2.out.bx (w.heap.size + 1) (tv t) (by simp)).cel 14 (.int .i64 t.y) rfl
  have xl := (L2.out.bx (w.heap.size + 1) (tv t) (by simp)).lt
  go_wp2_with fail
  refine (C1.out w1).mono ?_
  rintro e9 w2 ⟨rfl, hb9⟩
  have L3 := Lib.hid (L2.out.next hb9)
  clear hb9 L2
  clear p0 p1 p2 p3 p4 p5 p6 p7 p8 p9 pl
  clear x0 x1 x2 x3 x4 x5 x6 x7 x8 x9 x10 x11 x12 x13 x14 xl
  have p0 := (L3.out.bx (w.heap.size) (kv k) (by simp)).cel 0 (.int .i64 k.ph) rfl
  have p1 := (L3.out.bx (w.heap.size) (kv k) (by simp)).cel 1 (.int .i64 k.ep) rfl
  have p2 := (L3.out.bx (w.heap.size) (kv k) (by simp)).cel 2 (.bool k.mj) rfl
  have p3 := (L3.out.bx (w.heap.size) (kv k) (by simp)).cel 3 (.slice k.wk.a k.wk.n k.wk.c) rfl
  have p4 := (L3.out.bx (w.heap.size) (kv k) (by simp)).cel 4 (.bool k.ov) rfl
  have p5 := (L3.out.bx (w.heap.size) (kv k) (by simp)).cel 5 (.int .i64 k.pa) rfl
  have p6 := (L3.out.bx (w.heap.size) (kv k) (by simp)).cel 6 (.int .i64 k.pf) rfl
  have p7 := (L3.out.bx (w.heap.size) (kv k) (by simp)).cel 7 (.int .i64 k.ps) rfl
  have p8 := (L3.out.bx (w.heap.size) (kv k) (by simp)).cel 8 (.int .i64 k.pc) rfl
  have p9 := (L3.out.bx (w.heap.size) (kv k) (by simp)).cel 9 (.bool k.me) rfl
  have pl := (L3.out.bx (w.heap.size) (kv k) (by simp)).lt
  have x0 := (L3.out.bx (w.heap.size + 1) (tv t) (by simp)).cel 0 (.bool t.lv) rfl
  have x1 := (L3.out.bx (w.heap.size + 1) (tv t) (by simp)).cel 1 (.int .i64 (t.r 0)) rfl
  have x2 := (L3.out.bx (w.heap.size + 1) (tv t) (by simp)).cel 2 (.int .i64 (t.r 1)) rfl
  have x3 := (L3.out.bx (w.heap.size + 1) (tv t) (by simp)).cel 3 (.int .i64 (t.r 2)) rfl
  have x4 := (L3.out.bx (w.heap.size + 1) (tv t) (by simp)).cel 4 (.int .i64 (t.r 3)) rfl
  have x5 := (L3.out.bx (w.heap.size + 1) (tv t) (by simp)).cel 5 (.slice (t.u 0).a (t.u 0).n (t.u 0).c) rfl
  have x6 := (L3.out.bx (w.heap.size + 1) (tv t) (by simp)).cel 6 (.slice (t.u 1).a (t.u 1).n (t.u 1).c) rfl
  have x7 := (L3.out.bx (w.heap.size + 1) (tv t) (by simp)).cel 7 (.slice (t.u 2).a (t.u 2).n (t.u 2).c) rfl
  have x8 := (L3.out.bx (w.heap.size + 1) (tv t) (by simp)).cel 8 (.int .i64 t.ep) rfl
  have x9 := (L3.out.bx (w.heap.size + 1) (tv t) (by simp)).cel 9 (.int .i64 t.sg) rfl
  have x10 := (L3.out.bx (w.heap.size + 1) (tv t) (by simp)).cel 10 (.int .i64 t.rt) rfl
  have x11 := (L3.out.bx (w.heap.size + 1) (tv t) (by simp)).cel 11 (.slice t.o.a t.o.n t.o.c) rfl
  have x12 := (L3.out.bx (w.heap.size + 1) (tv t) (by simp)).cel 12 (.int .i64 t.pc) rfl
  have x13 := (L3.out.bx (w.heap.size + 1) (tv t) (by simp)).cel 13 (.int .i64 t.x) rfl
  have x14 := (L3.out.bx (w.heap.size + 1) (tv t) (by simp)).cel 14 (.int .i64 t.y) rfl
  have xl := (L3.out.bx (w.heap.size + 1) (tv t) (by simp)).lt
  go_wp2_with fail
  refine (C2.out w2).mono ?_
  rintro e9 w3 ⟨rfl, hb9⟩
  have L4 := Lib.hid (L3.out.next hb9)
  clear hb9 L3
  clear p0 p1 p2 p3 p4 p5 p6 p7 p8 p9 pl
  clear x0 x1 x2 x3 x4 x5 x6 x7 x8 x9 x10 x11 x12 x13 x14 xl
  have p0 := (L4.out.bx (w.heap.size) (kv k) (by simp)).cel 0 (.int .i64 k.ph) rfl
  have p1 := (L4.out.bx (w.heap.size) (kv k) (by simp)).cel 1 (.int .i64 k.ep) rfl
  have p2 := (L4.out.bx (w.heap.size) (kv k) (by simp)).cel 2 (.bool k.mj) rfl
  have p3 := (L4.out.bx (w.heap.size) (kv k) (by simp)).cel 3 (.slice k.wk.a k.wk.n k.wk.c) rfl
  have p4 := (L4.out.bx (w.heap.size) (kv k) (by simp)).cel 4 (.bool k.ov) rfl
  have p5 := (L4.out.bx (w.heap.size) (kv k) (by simp)).cel 5 (.int .i64 k.pa) rfl
  have p6 := (L4.out.bx (w.heap.size) (kv k) (by simp)).cel 6 (.int .i64 k.pf) rfl
  have p7 := (L4.out.bx (w.heap.size) (kv k) (by simp)).cel 7 (.int .i64 k.ps) rfl
  have p8 := (L4.out.bx (w.heap.size) (kv k) (by simp)).cel 8 (.int .i64 k.pc) rfl
  have p9 := (L4.out.bx (w.heap.size) (kv k) (by simp)).cel 9 (.bool k.me) rfl
  have pl := (L4.out.bx (w.heap.size) (kv k) (by simp)).lt
  have x0 := (L4.out.bx (w.heap.size + 1) (tv t) (by simp)).cel 0 (.bool t.lv) rfl
  have x1 := (L4.out.bx (w.heap.size + 1) (tv t) (by simp)).cel 1 (.int .i64 (t.r 0)) rfl
  have x2 := (L4.out.bx (w.heap.size + 1) (tv t) (by simp)).cel 2 (.int .i64 (t.r 1)) rfl
  have x3 := (L4.out.bx (w.heap.size + 1) (tv t) (by simp)).cel 3 (.int .i64 (t.r 2)) rfl
  have x4 := (L4.out.bx (w.heap.size + 1) (tv t) (by simp)).cel 4 (.int .i64 (t.r 3)) rfl
  have x5 := (L4.out.bx (w.heap.size + 1) (tv t) (by simp)).cel 5 (.slice (t.u 0).a (t.u 0).n (t.u 0).c) rfl
  have x6 := (L4.out.bx (w.heap.size + 1) (tv t) (by simp)).cel 6 (.slice (t.u 1).a (t.u 1).n (t.u 1).c) rfl
  have x7 := (L4.out.bx (w.heap.size + 1) (tv t) (by simp)).cel 7 (.slice (t.u 2).a (t.u 2).n (t.u 2).c) rfl
  have x8 := (L4.out.bx (w.heap.size + 1) (tv t) (by simp)).cel 8 (.int .i64 t.ep) rfl
  have x9 := (L4.out.bx (w.heap.size + 1) (tv t) (by simp)).cel 9 (.int .i64 t.sg) rfl
  have x10 := (L4.out.bx (w.heap.size + 1) (tv t) (by simp)).cel 10 (.int .i64 t.rt) rfl
  have x11 := (L4.out.bx (w.heap.size + 1) (tv t) (by simp)).cel 11 (.slice t.o.a t.o.n t.o.c) rfl
  have x12 := (L4.out.bx (w.heap.size + 1) (tv t) (by simp)).cel 12 (.int .i64 t.pc) rfl
  have x13 := (L4.out.bx (w.heap.size + 1) (tv t) (by simp)).cel 13 (.int .i64 t.x) rfl
  have x14 := (L4.out.bx (w.heap.size + 1) (tv t) (by simp)).cel 14 (.int .i64 t.y) rfl
  have xl := (L4.out.bx (w.heap.size + 1) (tv t) (by simp)).lt
  go_wp2
  go_ret
  exact ⟨rfl, L4.out.bel⟩
set_option maxHeartbeats 4000000 in
theorem core_ff (k : Sh.Ks) (t : Ts) (x y : Bool) (h1 : decide (k.ph < 0) = false) (h2 : decide (6 < k.ph) = false) (h3 : (k.ph == 0) = false) (_h4 : decide (k.ph = 0) = false) (h5 : (t.ep != k.ep) = false) (h6 : (k.ph != 6) = false) (h7 : (t.sg == 3) = false) (_h8 : decide (t.sg = 3) = false) (hxf : x = false) (hyf : y = false) (w : World) (hx : armB k.ph k.ep t = x) (hy : blackB k.ph k.ep t = y) : Calls Try.prog 4 #[(.agg #[.int .i64 k.ph, .int .i64 k.ep, .bool k.mj, .slice k.wk.a k.wk.n k.wk.c, .bool k.ov, .int .i64 k.pa, .int .i64 k.pf, .int .i64 k.ps, .int .i64 k.pc, .bool k.me]), (.agg #[.bool t.lv, .int .i64 (t.r 0), .int .i64 (t.r 1), .int .i64 (t.r 2), .int .i64 (t.r 3), .slice (t.u 0).a (t.u 0).n (t.u 0).c, .slice (t.u 1).a (t.u 1).n (t.u 1).c, .slice (t.u 2).a (t.u 2).n (t.u 2).c, .int .i64 t.ep, .int .i64 t.sg, .int .i64 t.rt, .slice t.o.a t.o.n t.o.c, .int .i64 t.pc, .int .i64 t.x, .int .i64 t.y])] w fun e w' => e = .returned (.bool true) ∧ Below w.heap.size w w' := by
  have C1 := Lib.hid (fun W => parmed_any k t W)
  have C2 := Lib.hid (fun W => pblack_any k t W)
  rw [hx] at C1
  rw [hy] at C2
  clear hx hy
  subst hxf hyf
  go_enter Try.func4, Try.ntmps4
  go_wp2_with fail
  obtain ⟨W1, hW1⟩ : ∃ W1, W1 = (w.alloc (.cells #[.int .i64 k.ph, .int .i64 k.ep, .bool k.mj, .slice k.wk.a k.wk.n k.wk.c, .bool k.ov, .int .i64 k.pa, .int .i64 k.pf, .int .i64 k.ps, .int .i64 k.pc, .bool k.me] 41)).alloc (.cells #[.bool t.lv, .int .i64 (t.r 0), .int .i64 (t.r 1), .int .i64 (t.r 2), .int .i64 (t.r 3), .slice (t.u 0).a (t.u 0).n (t.u 0).c, .slice (t.u 1).a (t.u 1).n (t.u 1).c, .slice (t.u 2).a (t.u 2).n (t.u 2).c, .int .i64 t.ep, .int .i64 t.sg, .int .i64 t.rt, .slice t.o.a t.o.n t.o.c, .int .i64 t.pc, .int .i64 t.x, .int .i64 t.y] 28) := ⟨_, rfl⟩
  have L1 : Hid (Lt w W1 [(w.heap.size + 1, tv t), (w.heap.size, kv k)] [] []) := Lib.hid (by
    have := ((Lt.start w).lay (kv k) 41).lay (tv t) 28
    rw [World.size_alloc] at this
    rw [hW1]
    exact this)
  rw [← hW1]
  clear hW1
  refine (Rt.awake_any W1).mono ?_
  rintro e9 w1 ⟨rfl, hb9⟩
  have L2 := Lib.hid (L1.out.next hb9)
  clear hb9 L1
  have p0 := (L2.out.bx (w.heap.size) (kv k) (by simp)).cel 0 (.int .i64 k.ph) rfl
  have p1 := (L2.out.bx (w.heap.size) (kv k) (by simp)).cel 1 (.int .i64 k.ep) rfl
  have p2 := (L2.out.bx (w.heap.size) (kv k) (by simp)).cel 2 (.bool k.mj) rfl
  have p3 := (L2.out.bx (w.heap.size) (kv k) (by simp)).cel 3 (.slice k.wk.a k.wk.n k.wk.c) rfl
  have p4 := (L2.out.bx (w.heap.size) (kv k) (by simp)).cel 4 (.bool k.ov) rfl
  have p5 := (L2.out.bx (w.heap.size) (kv k) (by simp)).cel 5 (.int .i64 k.pa) rfl
  have p6 := (L2.out.bx (w.heap.size) (kv k) (by simp)).cel 6 (.int .i64 k.pf) rfl
  have p7 := (L2.out.bx (w.heap.size) (kv k) (by simp)).cel 7 (.int .i64 k.ps) rfl
  have p8 := (L2.out.bx (w.heap.size) (kv k) (by simp)).cel 8 (.int .i64 k.pc) rfl
  have p9 := (L2.out.bx (w.heap.size) (kv k) (by simp)).cel 9 (.bool k.me) rfl
  have pl := (L2.out.bx (w.heap.size) (kv k) (by simp)).lt
  have x0 := (L2.out.bx (w.heap.size + 1) (tv t) (by simp)).cel 0 (.bool t.lv) rfl
  have x1 := (L2.out.bx (w.heap.size + 1) (tv t) (by simp)).cel 1 (.int .i64 (t.r 0)) rfl
  have x2 := (L2.out.bx (w.heap.size + 1) (tv t) (by simp)).cel 2 (.int .i64 (t.r 1)) rfl
  have x3 := (L2.out.bx (w.heap.size + 1) (tv t) (by simp)).cel 3 (.int .i64 (t.r 2)) rfl
  have x4 := (L2.out.bx (w.heap.size + 1) (tv t) (by simp)).cel 4 (.int .i64 (t.r 3)) rfl
  have x5 := (L2.out.bx (w.heap.size + 1) (tv t) (by simp)).cel 5 (.slice (t.u 0).a (t.u 0).n (t.u 0).c) rfl
  have x6 := (L2.out.bx (w.heap.size + 1) (tv t) (by simp)).cel 6 (.slice (t.u 1).a (t.u 1).n (t.u 1).c) rfl
  have x7 := (L2.out.bx (w.heap.size + 1) (tv t) (by simp)).cel 7 (.slice (t.u 2).a (t.u 2).n (t.u 2).c) rfl
  have x8 := (L2.out.bx (w.heap.size + 1) (tv t) (by simp)).cel 8 (.int .i64 t.ep) rfl
  have x9 := (L2.out.bx (w.heap.size + 1) (tv t) (by simp)).cel 9 (.int .i64 t.sg) rfl
  have x10 := (L2.out.bx (w.heap.size + 1) (tv t) (by simp)).cel 10 (.int .i64 t.rt) rfl
  have x11 := (L2.out.bx (w.heap.size + 1) (tv t) (by simp)).cel 11 (.slice t.o.a t.o.n t.o.c) rfl
  have x12 := (L2.out.bx (w.heap.size + 1) (tv t) (by simp)).cel 12 (.int .i64 t.pc) rfl
  have x13 := (L2.out.bx (w.heap.size + 1) (tv t) (by simp)).cel 13 (.int .i64 t.x) rfl
  have x14 := (L2.out.bx (w.heap.size + 1) (tv t) (by simp)).cel 14 (.int .i64 t.y) rfl
  have xl := (L2.out.bx (w.heap.size + 1) (tv t) (by simp)).lt
  go_wp2_with fail
  refine (C1.out w1).mono ?_
  rintro e9 w2 ⟨rfl, hb9⟩
  have L3 := Lib.hid (L2.out.next hb9)
  clear hb9 L2
  clear p0 p1 p2 p3 p4 p5 p6 p7 p8 p9 pl
  clear x0 x1 x2 x3 x4 x5 x6 x7 x8 x9 x10 x11 x12 x13 x14 xl
  have p0 := (L3.out.bx (w.heap.size) (kv k) (by simp)).cel 0 (.int .i64 k.ph) rfl
  have p1 := (L3.out.bx (w.heap.size) (kv k) (by simp)).cel 1 (.int .i64 k.ep) rfl
  have p2 := (L3.out.bx (w.heap.size) (kv k) (by simp)).cel 2 (.bool k.mj) rfl
  have p3 := (L3.out.bx (w.heap.size) (kv k) (by simp)).cel 3 (.slice k.wk.a k.wk.n k.wk.c) rfl
  have p4 := (L3.out.bx (w.heap.size) (kv k) (by simp)).cel 4 (.bool k.ov) rfl
  have p5 := (L3.out.bx (w.heap.size) (kv k) (by simp)).cel 5 (.int .i64 k.pa) rfl
  have p6 := (L3.out.bx (w.heap.size) (kv k) (by simp)).cel 6 (.int .i64 k.pf) rfl
  have p7 := (L3.out.bx (w.heap.size) (kv k) (by simp)).cel 7 (.int .i64 k.ps) rfl
  have p8 := (L3.out.bx (w.heap.size) (kv k) (by simp)).cel 8 (.int .i64 k.pc) rfl
  have p9 := (L3.out.bx (w.heap.size) (kv k) (by simp)).cel 9 (.bool k.me) rfl
  have pl := (L3.out.bx (w.heap.size) (kv k) (by simp)).lt
  have x0 := (L3.out.bx (w.heap.size + 1) (tv t) (by simp)).cel 0 (.bool t.lv) rfl
  have x1 := (L3.out.bx (w.heap.size + 1) (tv t) (by simp)).cel 1 (.int .i64 (t.r 0)) rfl
  have x2 := (L3.out.bx (w.heap.size + 1) (tv t) (by simp)).cel 2 (.int .i64 (t.r 1)) rfl
  have x3 := (L3.out.bx (w.heap.size + 1) (tv t) (by simp)).cel 3 (.int .i64 (t.r 2)) rfl
  have x4 := (L3.out.bx (w.heap.size + 1) (tv t) (by simp)).cel 4 (.int .i64 (t.r 3)) rfl
  have x5 := (L3.out.bx (w.heap.size + 1) (tv t) (by simp)).cel 5 (.slice (t.u 0).a (t.u 0).n (t.u 0).c) rfl
  have x6 := (L3.out.bx (w.heap.size + 1) (tv t) (by simp)).cel 6 (.slice (t.u 1).a (t.u 1).n (t.u 1).c) rfl
  have x7 := (L3.out.bx (w.heap.size + 1) (tv t) (by simp)).cel 7 (.slice (t.u 2).a (t.u 2).n (t.u 2).c) rfl
  have x8 := (L3.out.bx (w.heap.size + 1) (tv t) (by simp)).cel 8 (.int .i64 t.ep) rfl
  have x9 := (L3.out.bx (w.heap.size + 1) (tv t) (by simp)).cel 9 (.int .i64 t.sg) rfl
  have x10 := (L3.out.bx (w.heap.size + 1) (tv t) (by simp)).cel 10 (.int .i64 t.rt) rfl
  have x11 := (L3.out.bx (w.heap.size + 1) (tv t) (by simp)).cel 11 (.slice t.o.a t.o.n t.o.c) rfl
  have x12 := (L3.out.bx (w.heap.size + 1) (tv t) (by simp)).cel 12 (.int .i64 t.pc) rfl
  have x13 := (L3.out.bx (w.heap.size + 1) (tv t) (by simp)).cel 13 (.int .i64 t.x) rfl
  have x14 := (L3.out.bx (w.heap.size + 1) (tv t) (by simp)).cel 14 (.int .i64 t.y) rfl
  have xl := (L3.out.bx (w.heap.size + 1) (tv t) (by simp)).lt
  go_wp2_with fail
  refine (C2.out w2).mono ?_
  rintro e9 w3 ⟨rfl, hb9⟩
  have L4 := Lib.hid (L3.out.next hb9)
  clear hb9 L3
  clear p0 p1 p2 p3 p4 p5 p6 p7 p8 p9 pl
  clear x0 x1 x2 x3 x4 x5 x6 x7 x8 x9 x10 x11 x12 x13 x14 xl
  have p0 := (L4.out.bx (w.heap.size) (kv k) (by simp)).cel 0 (.int .i64 k.ph) rfl
  have p1 := (L4.out.bx (w.heap.size) (kv k) (by simp)).cel 1 (.int .i64 k.ep) rfl
  have p2 := (L4.out.bx (w.heap.size) (kv k) (by simp)).cel 2 (.bool k.mj) rfl
  have p3 := (L4.out.bx (w.heap.size) (kv k) (by simp)).cel 3 (.slice k.wk.a k.wk.n k.wk.c) rfl
  have p4 := (L4.out.bx (w.heap.size) (kv k) (by simp)).cel 4 (.bool k.ov) rfl
  have p5 := (L4.out.bx (w.heap.size) (kv k) (by simp)).cel 5 (.int .i64 k.pa) rfl
  have p6 := (L4.out.bx (w.heap.size) (kv k) (by simp)).cel 6 (.int .i64 k.pf) rfl
  have p7 := (L4.out.bx (w.heap.size) (kv k) (by simp)).cel 7 (.int .i64 k.ps) rfl
  have p8 := (L4.out.bx (w.heap.size) (kv k) (by simp)).cel 8 (.int .i64 k.pc) rfl
  have p9 := (L4.out.bx (w.heap.size) (kv k) (by simp)).cel 9 (.bool k.me) rfl
  have pl := (L4.out.bx (w.heap.size) (kv k) (by simp)).lt
  have x0 := (L4.out.bx (w.heap.size + 1) (tv t) (by simp)).cel 0 (.bool t.lv) rfl
  have x1 := (L4.out.bx (w.heap.size + 1) (tv t) (by simp)).cel 1 (.int .i64 (t.r 0)) rfl
  have x2 := (L4.out.bx (w.heap.size + 1) (tv t) (by simp)).cel 2 (.int .i64 (t.r 1)) rfl
  have x3 := (L4.out.bx (w.heap.size + 1) (tv t) (by simp)).cel 3 (.int .i64 (t.r 2)) rfl
  have x4 := (L4.out.bx (w.heap.size + 1) (tv t) (by simp)).cel 4 (.int .i64 (t.r 3)) rfl
  have x5 := (L4.out.bx (w.heap.size + 1) (tv t) (by simp)).cel 5 (.slice (t.u 0).a (t.u 0).n (t.u 0).c) rfl
  have x6 := (L4.out.bx (w.heap.size + 1) (tv t) (by simp)).cel 6 (.slice (t.u 1).a (t.u 1).n (t.u 1).c) rfl
  have x7 := (L4.out.bx (w.heap.size + 1) (tv t) (by simp)).cel 7 (.slice (t.u 2).a (t.u 2).n (t.u 2).c) rfl
  have x8 := (L4.out.bx (w.heap.size + 1) (tv t) (by simp)).cel 8 (.int .i64 t.ep) rfl
  have x9 := (L4.out.bx (w.heap.size + 1) (tv t) (by simp)).cel 9 (.int .i64 t.sg) rfl
  have x10 := (L4.out.bx (w.heap.size + 1) (tv t) (by simp)).cel 10 (.int .i64 t.rt) rfl
  have x11 := (L4.out.bx (w.heap.size + 1) (tv t) (by simp)).cel 11 (.slice t.o.a t.o.n t.o.c) rfl
  have x12 := (L4.out.bx (w.heap.size + 1) (tv t) (by simp)).cel 12 (.int .i64 t.pc) rfl
  have x13 := (L4.out.bx (w.heap.size + 1) (tv t) (by simp)).cel 13 (.int .i64 t.x) rfl
  have x14 := (L4.out.bx (w.heap.size + 1) (tv t) (by simp)).cel 14 (.int .i64 t.y) rfl
  have xl := (L4.out.bx (w.heap.size + 1) (tv t) (by simp)).lt
  go_wp2
  go_ret
  exact ⟨rfl, L4.out.bel⟩
theorem walk (k : Sh.Ks) (t : Ts) (F : Nat → List Int) (g : Nat → O4) (w : World) (_ : Th w w.heap.size t F g) : Calls Try.prog 4 #[(.agg #[.int .i64 k.ph, .int .i64 k.ep, .bool k.mj, .slice k.wk.a k.wk.n k.wk.c, .bool k.ov, .int .i64 k.pa, .int .i64 k.pf, .int .i64 k.ps, .int .i64 k.pc, .bool k.me]), (.agg #[.bool t.lv, .int .i64 (t.r 0), .int .i64 (t.r 1), .int .i64 (t.r 2), .int .i64 (t.r 3), .slice (t.u 0).a (t.u 0).n (t.u 0).c, .slice (t.u 1).a (t.u 1).n (t.u 1).c, .slice (t.u 2).a (t.u 2).n (t.u 2).c, .int .i64 t.ep, .int .i64 t.sg, .int .i64 t.rt, .slice t.o.a t.o.n t.o.c, .int .i64 t.pc, .int .i64 t.x, .int .i64 t.y])] w fun e w' => e = .returned (.bool true) ∧ Below w.heap.size w w' := by
  by_cases h1 : k.ph < 0
  · exact core_low k t _ _ (decide_eq_true h1) w rfl rfl
  by_cases h2 : 6 < k.ph
  · exact core_high k t _ _ (decide_eq_false h1) (decide_eq_true h2) w rfl rfl
  by_cases h3 : k.ph = 0
  · exact core_idle k t _ _ (decide_eq_false h1) (decide_eq_false h2) (by simpa using h3) (decide_eq_true h3) (arm_no (Or.inl h3)) (black_no (Or.inl h3)) w rfl rfl
  by_cases h5 : t.ep = k.ep
  · have hx := arm_yes (t := t) h5 (show 1 ≤ k.ph by omega) (show k.ph ≤ 6 by omega)
    have hy := black_yes (t := t) h5 (show 1 ≤ k.ph by omega)
    have g5 : (t.ep != k.ep) = false := by simpa using h5
    have g3 : (k.ph == 0) = false := by simpa using h3
    cases h6 : (k.ph != 6) <;> cases h7 : (t.sg == 3) <;> rw [h6] at hx <;> rw [h7] at hy
    · exact core_ff k t _ _ (decide_eq_false h1) (decide_eq_false h2) g3 (decide_eq_false h3) g5 h6 h7 h7 hx hy w rfl rfl
    · exact core_ft k t _ _ (decide_eq_false h1) (decide_eq_false h2) g3 (decide_eq_false h3) g5 h6 h7 h7 hx hy w rfl rfl
    · exact core_tf k t _ _ (decide_eq_false h1) (decide_eq_false h2) g3 (decide_eq_false h3) g5 h6 h7 h7 hx hy w rfl rfl
    · exact core_tt k t _ _ (decide_eq_false h1) (decide_eq_false h2) g3 (decide_eq_false h3) g5 h6 h7 h7 hx hy w rfl rfl
  · exact core_other k t _ _ (decide_eq_false h1) (decide_eq_false h2) (by simpa using h3) (decide_eq_false h3) (by simpa using h5) (arm_no (Or.inr h5)) (black_no (Or.inr h5)) w rfl rfl

-- the frame (rtframe.py)
set_option maxRecDepth 100000 in
theorem lifted (os : Os) (started : os.Started) (H : Type) (enc : TypeId × Value → H) :
    ReturnsInHanded {} Try.checked os 4 .any (Rows.regsStagesSpec.pre6 enc Try.prog Try.f4 Rows.regsStagesRow.domain false) (Rows.regsStagesSpec.post enc Try.prog Try.f4 false true false false) := by
  refine returnsInHanded_of_change (C := Try.checked) ownK started (by kernel_rfl) Try.func4
    (ChangeSpec.witness6 (enc := enc) (C := Try.checked) false ⟨#[], #[.agg #[.int .i64 0, .int .i64 0, .bool false, .slice none 0 0, .bool false, .int .i64 0, .int .i64 0, .int .i64 0, .int .i64 0, .bool false], .agg #[.bool false, .int .i64 0, .int .i64 0, .int .i64 0, .int .i64 0, .slice none 0 0, .slice none 0 0, .slice none 0 0, .int .i64 0, .int .i64 0, .int .i64 0, .slice none 0 0, .int .i64 0, .int .i64 0, .int .i64 0]], []⟩ 8 (by kernel_rfl) (by kernel_rfl) (by kernel_rfl) (by kernel_rfl)) ?_
  intro W base args ds gs before hval0 hW hcnd _
  have hval : ∀ (j : Nat) t v, Try.f4.params[j]? = some t → args[j]? = some v → Value.okWide Try.prog W .any base t v := hval0
  have hW' := hW
  obtain ⟨p, q, hA0, hV, rfl, hfz, hnd⟩ := hW
  have hA : DataW.TrodAll enc Try.prog W 0 (fun _ => true) true Try.f4.params.toList args.toList ds p := hA0
  rw [Try.params4] at hA hval
  obtain ⟨v0, vs0, d0, ds0, p0, q0, hargs, rfl, rfl, h0, r0⟩ := trodAll_cons hA
  obtain ⟨v1, vs1, d1, ds1, p1, q1, rfl, rfl, rfl, h1, r1⟩ := trodAll_cons r0
  obtain ⟨rfl, rfl, rfl⟩ := trodAll_nil r1
  obtain rfl : args = #[v0, v1] := by cases args; simp_all
  obtain ⟨rfl, rfl⟩ := trodVars_none hV
  have k0 := h0
  have lt0 : ∀ x ∈ p0, x.block < W.heap.size := by obtain ⟨m, hm⟩ := k0; exact DataW.trod_lt m _ _ _ hm
  obtain ⟨k0', rfl⟩ := col_in (hval 0 41 v0 rfl rfl) h0
  have k1 := h1
  have lt1 : ∀ x ∈ p1, x.block < W.heap.size := by obtain ⟨m, hm⟩ := k1; exact DataW.trod_lt m _ _ _ hm
  obtain ⟨t1, z1, g1, rfl, w1⟩ := th_of (hval 1 28 v1 rfl rfl) h1
  clear hA0 hval0
  refine (walk k0' t1 z1 g1 W w1).mono fun e W' ⟨he, bel⟩ => ?_
  subst he
  exact ⟨_, rfl, _, _, _, [], _, [], hW', trodAll_mk1 (shut_bool Try.underlying4 _), (trodAll_cons_mk (Below.trod laidK (by kernel_rfl) (of_decide_eq_true (by kernel_rfl)) k0 bel lt0) (trodAll_cons_mk (Below.trod laidK (by kernel_rfl) (of_decide_eq_true (by kernel_rfl)) k1 bel lt1) trodAll_mk0)), rfl, bel.frame _, fun h => by cases h⟩

theorem over : Rows.regsStagesRow.holds Try.pinned (OpenSpec.ofChange Rows.regsStagesSpec) :=
  OpenClaim.holds_of_wide 4 Try.f4 rfl rfl rfl rfl rfl rfl rfl ⟨rfl, rfl, rfl, rfl, rfl⟩ rfl rfl rfl rfl rfl (by kernel_rfl) Try.func4 (by kernel_rfl)
    (of_decide_eq_true (by kernel_rfl)) (by unfold Func.isWrapper; first | (rw [if_pos (by decide +kernel)]; kernel_rfl) | (rw [if_neg (by decide +kernel)]; exact ⟨rfl, rfl⟩))
    (fun os started H enc _ => lifted os started H enc)

/-- The statement. -/
theorem proved : Rows.RegsStagesSaid :=
  over
#print axioms proved
end Go.Proofs.Ytjppimabhefeeaa.RegsStages
