/-
  RegsHolds: what a thread holds are its registers, and what it has at hand, but nothing; with a register let go it holds no more: for every thread of at most 220 operations.
-/
import Derived.Test.YtjppimabhefeeaaRtLawK
import Derived.Deep.RegionHeld3
namespace Go.Proofs.Ytjppimabhefeeaa.RegsHolds
open Go.Proofs.Ytjppimabhefeeaa Go.Proofs.Ytjppimabhefeeaa.Rt
open Go.ChangeShapes Go.WideShapes Go.ChangeAt Go.RowKit
set_option maxRecDepth 100000

set_option maxHeartbeats 4000000 in
theorem walk_few (t : Ts) (F : Nat → List Int) (g : Nat → O4) (r : Int) (w : World) (h : Th w w.heap.size t F g) (hf : fewT t = false) : Calls Try.prog 5 #[(.agg #[.bool t.lv, .int .i64 (t.r 0), .int .i64 (t.r 1), .int .i64 (t.r 2), .int .i64 (t.r 3), .slice (t.u 0).a (t.u 0).n (t.u 0).c, .slice (t.u 1).a (t.u 1).n (t.u 1).c, .slice (t.u 2).a (t.u 2).n (t.u 2).c, .int .i64 t.ep, .int .i64 t.sg, .int .i64 t.rt, .slice t.o.a t.o.n t.o.c, .int .i64 t.pc, .int .i64 t.x, .int .i64 t.y]), .int .i64 r] w fun e w' => e = .returned (.bool true) ∧ Below w.heap.size w w' := by
  have HT := Lib.hid h
  have CF := Lib.hid (fun W => rfew_any t W)
  rw [hf] at CF
  clear h hf
  go_enter Try.func5, Try.ntmps5
  go_wp2_with fail
  obtain ⟨W1, hW1⟩ : ∃ W1, W1 = w.alloc (.cells #[.bool t.lv, .int .i64 (t.r 0), .int .i64 (t.r 1), .int .i64 (t.r 2), .int .i64 (t.r 3), .slice (t.u 0).a (t.u 0).n (t.u 0).c, .slice (t.u 1).a (t.u 1).n (t.u 1).c, .slice (t.u 2).a (t.u 2).n (t.u 2).c, .int .i64 t.ep, .int .i64 t.sg, .int .i64 t.rt, .slice t.o.a t.o.n t.o.c, .int .i64 t.pc, .int .i64 t.x, .int .i64 t.y] 28) := ⟨_, rfl⟩
  have L1 : Hid (Lt w W1 [(w.heap.size, tv t)] [(t, F, g)] []) := Lib.hid (by rw [hW1]; exact ((Lt.start w).thread HT.out).lay (tv t) 28)
  rw [← hW1]
  clear hW1
  refine (Rt.awake_any W1).mono ?_
  rintro e9 w1 ⟨rfl, hb9⟩
  have L2 := Lib.hid (L1.out.next hb9)
  clear hb9 L1
  have x0 := (L2.out.bx (w.heap.size) (tv t) (by simp)).cel 0 (.bool t.lv) rfl
  have x1 := (L2.out.bx (w.heap.size) (tv t) (by simp)).cel 1 (.int .i64 (t.r 0)) rfl
  have x2 := (L2.out.bx (w.heap.size) (tv t) (by simp)).cel 2 (.int .i64 (t.r 1)) rfl
  have x3 := (L2.out.bx (w.heap.size) (tv t) (by simp)).cel 3 (.int .i64 (t.r 2)) rfl
  have x4 := (L2.out.bx (w.heap.size) (tv t) (by simp)).cel 4 (.int .i64 (t.r 3)) rfl
  have x5 := (L2.out.bx (w.heap.size) (tv t) (by simp)).cel 5 (.slice (t.u 0).a (t.u 0).n (t.u 0).c) rfl
  have x6 := (L2.out.bx (w.heap.size) (tv t) (by simp)).cel 6 (.slice (t.u 1).a (t.u 1).n (t.u 1).c) rfl
  have x7 := (L2.out.bx (w.heap.size) (tv t) (by simp)).cel 7 (.slice (t.u 2).a (t.u 2).n (t.u 2).c) rfl
  have x8 := (L2.out.bx (w.heap.size) (tv t) (by simp)).cel 8 (.int .i64 t.ep) rfl
  have x9 := (L2.out.bx (w.heap.size) (tv t) (by simp)).cel 9 (.int .i64 t.sg) rfl
  have x10 := (L2.out.bx (w.heap.size) (tv t) (by simp)).cel 10 (.int .i64 t.rt) rfl
  have x11 := (L2.out.bx (w.heap.size) (tv t) (by simp)).cel 11 (.slice t.o.a t.o.n t.o.c) rfl
  have x12 := (L2.out.bx (w.heap.size) (tv t) (by simp)).cel 12 (.int .i64 t.pc) rfl
  have x13 := (L2.out.bx (w.heap.size) (tv t) (by simp)).cel 13 (.int .i64 t.x) rfl
  have x14 := (L2.out.bx (w.heap.size) (tv t) (by simp)).cel 14 (.int .i64 t.y) rfl
  have xl := (L2.out.bx (w.heap.size) (tv t) (by simp)).lt
  go_wp2_with fail
  refine (CF.out w1).mono ?_
  rintro e9 w2 ⟨rfl, hb9⟩
  have L3 := Lib.hid (L2.out.next hb9)
  clear hb9 L2
  clear x0 x1 x2 x3 x4 x5 x6 x7 x8 x9 x10 x11 x12 x13 x14 xl
  have x0 := (L3.out.bx (w.heap.size) (tv t) (by simp)).cel 0 (.bool t.lv) rfl
  have x1 := (L3.out.bx (w.heap.size) (tv t) (by simp)).cel 1 (.int .i64 (t.r 0)) rfl
  have x2 := (L3.out.bx (w.heap.size) (tv t) (by simp)).cel 2 (.int .i64 (t.r 1)) rfl
  have x3 := (L3.out.bx (w.heap.size) (tv t) (by simp)).cel 3 (.int .i64 (t.r 2)) rfl
  have x4 := (L3.out.bx (w.heap.size) (tv t) (by simp)).cel 4 (.int .i64 (t.r 3)) rfl
  have x5 := (L3.out.bx (w.heap.size) (tv t) (by simp)).cel 5 (.slice (t.u 0).a (t.u 0).n (t.u 0).c) rfl
  have x6 := (L3.out.bx (w.heap.size) (tv t) (by simp)).cel 6 (.slice (t.u 1).a (t.u 1).n (t.u 1).c) rfl
  have x7 := (L3.out.bx (w.heap.size) (tv t) (by simp)).cel 7 (.slice (t.u 2).a (t.u 2).n (t.u 2).c) rfl
  have x8 := (L3.out.bx (w.heap.size) (tv t) (by simp)).cel 8 (.int .i64 t.ep) rfl
  have x9 := (L3.out.bx (w.heap.size) (tv t) (by simp)).cel 9 (.int .i64 t.sg) rfl
  have x10 := (L3.out.bx (w.heap.size) (tv t) (by simp)).cel 10 (.int .i64 t.rt) rfl
  have x11 := (L3.out.bx (w.heap.size) (tv t) (by simp)).cel 11 (.slice t.o.a t.o.n t.o.c) rfl
  have x12 := (L3.out.bx (w.heap.size) (tv t) (by simp)).cel 12 (.int .i64 t.pc) rfl
  have x13 := (L3.out.bx (w.heap.size) (tv t) (by simp)).cel 13 (.int .i64 t.x) rfl
  have x14 := (L3.out.bx (w.heap.size) (tv t) (by simp)).cel 14 (.int .i64 t.y) rfl
  have xl := (L3.out.bx (w.heap.size) (tv t) (by simp)).lt
  go_wp2
  go_ret
  exact ⟨rfl, L3.out.bel⟩
set_option maxHeartbeats 4000000 in
theorem walk_low (t : Ts) (F : Nat → List Int) (g : Nat → O4) (r : Int) (w : World) (h : Th w w.heap.size t F g) (hf : fewT t = true) (h1 : decide (r < 0) = true) : Calls Try.prog 5 #[(.agg #[.bool t.lv, .int .i64 (t.r 0), .int .i64 (t.r 1), .int .i64 (t.r 2), .int .i64 (t.r 3), .slice (t.u 0).a (t.u 0).n (t.u 0).c, .slice (t.u 1).a (t.u 1).n (t.u 1).c, .slice (t.u 2).a (t.u 2).n (t.u 2).c, .int .i64 t.ep, .int .i64 t.sg, .int .i64 t.rt, .slice t.o.a t.o.n t.o.c, .int .i64 t.pc, .int .i64 t.x, .int .i64 t.y]), .int .i64 r] w fun e w' => e = .returned (.bool true) ∧ Below w.heap.size w w' := by
  have HT := Lib.hid h
  have CF := Lib.hid (fun W => rfew_any t W)
  rw [hf] at CF
  clear h hf
  go_enter Try.func5, Try.ntmps5
  go_wp2_with fail
  obtain ⟨W1, hW1⟩ : ∃ W1, W1 = w.alloc (.cells #[.bool t.lv, .int .i64 (t.r 0), .int .i64 (t.r 1), .int .i64 (t.r 2), .int .i64 (t.r 3), .slice (t.u 0).a (t.u 0).n (t.u 0).c, .slice (t.u 1).a (t.u 1).n (t.u 1).c, .slice (t.u 2).a (t.u 2).n (t.u 2).c, .int .i64 t.ep, .int .i64 t.sg, .int .i64 t.rt, .slice t.o.a t.o.n t.o.c, .int .i64 t.pc, .int .i64 t.x, .int .i64 t.y] 28) := ⟨_, rfl⟩
  have L1 : Hid (Lt w W1 [(w.heap.size, tv t)] [(t, F, g)] []) := Lib.hid (by rw [hW1]; exact ((Lt.start w).thread HT.out).lay (tv t) 28)
  rw [← hW1]
  clear hW1
  refine (Rt.awake_any W1).mono ?_
  rintro e9 w1 ⟨rfl, hb9⟩
  have L2 := Lib.hid (L1.out.next hb9)
  clear hb9 L1
  have x0 := (L2.out.bx (w.heap.size) (tv t) (by simp)).cel 0 (.bool t.lv) rfl
  have x1 := (L2.out.bx (w.heap.size) (tv t) (by simp)).cel 1 (.int .i64 (t.r 0)) rfl
  have x2 := (L2.out.bx (w.heap.size) (tv t) (by simp)).cel 2 (.int .i64 (t.r 1)) rfl
  have x3 := (L2.out.bx (w.heap.size) (tv t) (by simp)).cel 3 (.int .i64 (t.r 2)) rfl
  have x4 := (L2.out.bx (w.heap.size) (tv t) (by simp)).cel 4 (.int .i64 (t.r 3)) rfl
  have x5 := (L2.out.bx (w.heap.size) (tv t) (by simp)).cel 5 (.slice (t.u 0).a (t.u 0).n (t.u 0).c) rfl
  have x6 := (L2.out.bx (w.heap.size) (tv t) (by simp)).cel 6 (.slice (t.u 1).a (t.u 1).n (t.u 1).c) rfl
  have x7 := (L2.out.bx (w.heap.size) (tv t) (by simp)).cel 7 (.slice (t.u 2).a (t.u 2).n (t.u 2).c) rfl
  have x8 := (L2.out.bx (w.heap.size) (tv t) (by simp)).cel 8 (.int .i64 t.ep) rfl
  have x9 := (L2.out.bx (w.heap.size) (tv t) (by simp)).cel 9 (.int .i64 t.sg) rfl
  have x10 := (L2.out.bx (w.heap.size) (tv t) (by simp)).cel 10 (.int .i64 t.rt) rfl
  have x11 := (L2.out.bx (w.heap.size) (tv t) (by simp)).cel 11 (.slice t.o.a t.o.n t.o.c) rfl
  have x12 := (L2.out.bx (w.heap.size) (tv t) (by simp)).cel 12 (.int .i64 t.pc) rfl
  have x13 := (L2.out.bx (w.heap.size) (tv t) (by simp)).cel 13 (.int .i64 t.x) rfl
  have x14 := (L2.out.bx (w.heap.size) (tv t) (by simp)).cel 14 (.int .i64 t.y) rfl
  have xl := (L2.out.bx (w.heap.size) (tv t) (by simp)).lt
  go_wp2_with fail
  refine (CF.out w1).mono ?_
  rintro e9 w2 ⟨rfl, hb9⟩
  have L3 := Lib.hid (L2.out.next hb9)
  clear hb9 L2
  clear x0 x1 x2 x3 x4 x5 x6 x7 x8 x9 x10 x11 x12 x13 x14 xl
  have x0 := (L3.out.bx (w.heap.size) (tv t) (by simp)).cel 0 (.bool t.lv) rfl
  have x1 := (L3.out.bx (w.heap.size) (tv t) (by simp)).cel 1 (.int .i64 (t.r 0)) rfl
  have x2 := (L3.out.bx (w.heap.size) (tv t) (by simp)).cel 2 (.int .i64 (t.r 1)) rfl
  have x3 := (L3.out.bx (w.heap.size) (tv t) (by simp)).cel 3 (.int .i64 (t.r 2)) rfl
  have x4 := (L3.out.bx (w.heap.size) (tv t) (by simp)).cel 4 (.int .i64 (t.r 3)) rfl
  have x5 := (L3.out.bx (w.heap.size) (tv t) (by simp)).cel 5 (.slice (t.u 0).a (t.u 0).n (t.u 0).c) rfl
  have x6 := (L3.out.bx (w.heap.size) (tv t) (by simp)).cel 6 (.slice (t.u 1).a (t.u 1).n (t.u 1).c) rfl
  have x7 := (L3.out.bx (w.heap.size) (tv t) (by simp)).cel 7 (.slice (t.u 2).a (t.u 2).n (t.u 2).c) rfl
  have x8 := (L3.out.bx (w.heap.size) (tv t) (by simp)).cel 8 (.int .i64 t.ep) rfl
  have x9 := (L3.out.bx (w.heap.size) (tv t) (by simp)).cel 9 (.int .i64 t.sg) rfl
  have x10 := (L3.out.bx (w.heap.size) (tv t) (by simp)).cel 10 (.int .i64 t.rt) rfl
  have x11 := (L3.out.bx (w.heap.size) (tv t) (by simp)).cel 11 (.slice t.o.a t.o.n t.o.c) rfl
  have x12 := (L3.out.bx (w.heap.size) (tv t) (by simp)).cel 12 (.int .i64 t.pc) rfl
  have x13 := (L3.out.bx (w.heap.size) (tv t) (by simp)).cel 13 (.int .i64 t.x) rfl
  have x14 := (L3.out.bx (w.heap.size) (tv t) (by simp)).cel 14 (.int .i64 t.y) rfl
  have xl := (L3.out.bx (w.heap.size) (tv t) (by simp)).lt
  go_wp2
  go_ret
  exact ⟨rfl, L3.out.bel⟩
set_option maxHeartbeats 4000000 in
theorem walk_high (t : Ts) (F : Nat → List Int) (g : Nat → O4) (r : Int) (w : World) (h : Th w w.heap.size t F g) (hf : fewT t = true) (h1 : decide (r < 0) = false) (h2 : decide (3 < r) = true) : Calls Try.prog 5 #[(.agg #[.bool t.lv, .int .i64 (t.r 0), .int .i64 (t.r 1), .int .i64 (t.r 2), .int .i64 (t.r 3), .slice (t.u 0).a (t.u 0).n (t.u 0).c, .slice (t.u 1).a (t.u 1).n (t.u 1).c, .slice (t.u 2).a (t.u 2).n (t.u 2).c, .int .i64 t.ep, .int .i64 t.sg, .int .i64 t.rt, .slice t.o.a t.o.n t.o.c, .int .i64 t.pc, .int .i64 t.x, .int .i64 t.y]), .int .i64 r] w fun e w' => e = .returned (.bool true) ∧ Below w.heap.size w w' := by
  have HT := Lib.hid h
  have CF := Lib.hid (fun W => rfew_any t W)
  rw [hf] at CF
  clear h hf
  go_enter Try.func5, Try.ntmps5
  go_wp2_with fail
  obtain ⟨W1, hW1⟩ : ∃ W1, W1 = w.alloc (.cells #[.bool t.lv, .int .i64 (t.r 0), .int .i64 (t.r 1), .int .i64 (t.r 2), .int .i64 (t.r 3), .slice (t.u 0).a (t.u 0).n (t.u 0).c, .slice (t.u 1).a (t.u 1).n (t.u 1).c, .slice (t.u 2).a (t.u 2).n (t.u 2).c, .int .i64 t.ep, .int .i64 t.sg, .int .i64 t.rt, .slice t.o.a t.o.n t.o.c, .int .i64 t.pc, .int .i64 t.x, .int .i64 t.y] 28) := ⟨_, rfl⟩
  have L1 : Hid (Lt w W1 [(w.heap.size, tv t)] [(t, F, g)] []) := Lib.hid (by rw [hW1]; exact ((Lt.start w).thread HT.out).lay (tv t) 28)
  rw [← hW1]
  clear hW1
  refine (Rt.awake_any W1).mono ?_
  rintro e9 w1 ⟨rfl, hb9⟩
  have L2 := Lib.hid (L1.out.next hb9)
  clear hb9 L1
  have x0 := (L2.out.bx (w.heap.size) (tv t) (by simp)).cel 0 (.bool t.lv) rfl
  have x1 := (L2.out.bx (w.heap.size) (tv t) (by simp)).cel 1 (.int .i64 (t.r 0)) rfl
  have x2 := (L2.out.bx (w.heap.size) (tv t) (by simp)).cel 2 (.int .i64 (t.r 1)) rfl
  have x3 := (L2.out.bx (w.heap.size) (tv t) (by simp)).cel 3 (.int .i64 (t.r 2)) rfl
  have x4 := (L2.out.bx (w.heap.size) (tv t) (by simp)).cel 4 (.int .i64 (t.r 3)) rfl
  have x5 := (L2.out.bx (w.heap.size) (tv t) (by simp)).cel 5 (.slice (t.u 0).a (t.u 0).n (t.u 0).c) rfl
  have x6 := (L2.out.bx (w.heap.size) (tv t) (by simp)).cel 6 (.slice (t.u 1).a (t.u 1).n (t.u 1).c) rfl
  have x7 := (L2.out.bx (w.heap.size) (tv t) (by simp)).cel 7 (.slice (t.u 2).a (t.u 2).n (t.u 2).c) rfl
  have x8 := (L2.out.bx (w.heap.size) (tv t) (by simp)).cel 8 (.int .i64 t.ep) rfl
  have x9 := (L2.out.bx (w.heap.size) (tv t) (by simp)).cel 9 (.int .i64 t.sg) rfl
  have x10 := (L2.out.bx (w.heap.size) (tv t) (by simp)).cel 10 (.int .i64 t.rt) rfl
  have x11 := (L2.out.bx (w.heap.size) (tv t) (by simp)).cel 11 (.slice t.o.a t.o.n t.o.c) rfl
  have x12 := (L2.out.bx (w.heap.size) (tv t) (by simp)).cel 12 (.int .i64 t.pc) rfl
  have x13 := (L2.out.bx (w.heap.size) (tv t) (by simp)).cel 13 (.int .i64 t.x) rfl
  have x14 := (L2.out.bx (w.heap.size) (tv t) (by simp)).cel 14 (.int .i64 t.y) rfl
  have xl := (L2.out.bx (w.heap.size) (tv t) (by simp)).lt
  go_wp2_with fail
  refine (CF.out w1).mono ?_
  rintro e9 w2 ⟨rfl, hb9⟩
  have L3 := Lib.hid (L2.out.next hb9)
  clear hb9 L2
  clear x0 x1 x2 x3 x4 x5 x6 x7 x8 x9 x10 x11 x12 x13 x14 xl
  have x0 := (L3.out.bx (w.heap.size) (tv t) (by simp)).cel 0 (.bool t.lv) rfl
  have x1 := (L3.out.bx (w.heap.size) (tv t) (by simp)).cel 1 (.int .i64 (t.r 0)) rfl
  have x2 := (L3.out.bx (w.heap.size) (tv t) (by simp)).cel 2 (.int .i64 (t.r 1)) rfl
  have x3 := (L3.out.bx (w.heap.size) (tv t) (by simp)).cel 3 (.int .i64 (t.r 2)) rfl
  have x4 := (L3.out.bx (w.heap.size) (tv t) (by simp)).cel 4 (.int .i64 (t.r 3)) rfl
  have x5 := (L3.out.bx (w.heap.size) (tv t) (by simp)).cel 5 (.slice (t.u 0).a (t.u 0).n (t.u 0).c) rfl
  have x6 := (L3.out.bx (w.heap.size) (tv t) (by simp)).cel 6 (.slice (t.u 1).a (t.u 1).n (t.u 1).c) rfl
  have x7 := (L3.out.bx (w.heap.size) (tv t) (by simp)).cel 7 (.slice (t.u 2).a (t.u 2).n (t.u 2).c) rfl
  have x8 := (L3.out.bx (w.heap.size) (tv t) (by simp)).cel 8 (.int .i64 t.ep) rfl
  have x9 := (L3.out.bx (w.heap.size) (tv t) (by simp)).cel 9 (.int .i64 t.sg) rfl
  have x10 := (L3.out.bx (w.heap.size) (tv t) (by simp)).cel 10 (.int .i64 t.rt) rfl
  have x11 := (L3.out.bx (w.heap.size) (tv t) (by simp)).cel 11 (.slice t.o.a t.o.n t.o.c) rfl
  have x12 := (L3.out.bx (w.heap.size) (tv t) (by simp)).cel 12 (.int .i64 t.pc) rfl
  have x13 := (L3.out.bx (w.heap.size) (tv t) (by simp)).cel 13 (.int .i64 t.x) rfl
  have x14 := (L3.out.bx (w.heap.size) (tv t) (by simp)).cel 14 (.int .i64 t.y) rfl
  have xl := (L3.out.bx (w.heap.size) (tv t) (by simp)).lt
  go_wp2
  go_ret
  exact ⟨rfl, L3.out.bel⟩
theorem hold_tw (t : Ts) (u : Nat → Ls.Sl) (o : Ls.Sl) : holdL (tw t u o) = holdL t := rfl
/-- How many are held, with the register let go. -/
theorem counts (t : Ts) {k : Nat} (hk : k < 4) {n m : Nat} (hn : (holdL t).length = n) (hm : (holdL (tr t (Ls.upd t.r k 0))).length = m) : n ≤ 6 ∧ m ≤ n ∧ (decide (m = n) = decide (t.r k = 0)) := by
  have h1 := hold_six t
  have h2 := hold_less t k hk
  have h3 := one0_le (t.r k)
  refine ⟨by omega, by omega, decide_eq_decide.2 ?_⟩
  unfold one0 at h2
  split at h2 <;> omega
set_option maxHeartbeats 8000000 in
theorem walk_yes (t : Ts) (F : Nat → List Int) (g : Nat → O4) (k : Nat) (hk : k < 4) (w : World) (h : Th w w.heap.size t F g) (hf : fewT t = true) : Calls Try.prog 5 #[(.agg #[.bool t.lv, .int .i64 (t.r 0), .int .i64 (t.r 1), .int .i64 (t.r 2), .int .i64 (t.r 3), .slice (t.u 0).a (t.u 0).n (t.u 0).c, .slice (t.u 1).a (t.u 1).n (t.u 1).c, .slice (t.u 2).a (t.u 2).n (t.u 2).c, .int .i64 t.ep, .int .i64 t.sg, .int .i64 t.rt, .slice t.o.a t.o.n t.o.c, .int .i64 t.pc, .int .i64 t.x, .int .i64 t.y]), .int .i64 (k : Int)] w fun e w' => e = .returned (.bool true) ∧ Below w.heap.size w w' := by
  have HT := Lib.hid h
  have CF := Lib.hid (fun W => rfew_any t W)
  rw [hf] at CF
  have hp := fewT_parts hf
  have C1 := Lib.hid (fun W => holds_any t W)
  have C2 := Lib.hid (fun W (hT : Th W W.heap.size t F g) => put_any t F g k 0 W hT (fun j hj => by have := hp.2 j hj; omega) (by have := hp.1; omega))
  have EE := Lib.hid (And.intro (getE_at hk) (putT_at hk t 0))
  have g1 : decide ((k : Int) < 0) = false := decide_eq_false (by omega)
  have g2 : decide ((3 : Int) < (k : Int)) = false := decide_eq_false (by omega)
  have g3 : decide (3 < k) = false := decide_eq_false (by omega)
  have hk3 : (k : Int) < 4 := by omega
  clear h hf hp
  go_enter Try.func5, Try.ntmps5
  go_wp2_with fail
  obtain ⟨W1, hW1⟩ : ∃ W1, W1 = w.alloc (.cells #[.bool t.lv, .int .i64 (t.r 0), .int .i64 (t.r 1), .int .i64 (t.r 2), .int .i64 (t.r 3), .slice (t.u 0).a (t.u 0).n (t.u 0).c, .slice (t.u 1).a (t.u 1).n (t.u 1).c, .slice (t.u 2).a (t.u 2).n (t.u 2).c, .int .i64 t.ep, .int .i64 t.sg, .int .i64 t.rt, .slice t.o.a t.o.n t.o.c, .int .i64 t.pc, .int .i64 t.x, .int .i64 t.y] 28) := ⟨_, rfl⟩
  have L1 : Hid (Lt w W1 [(w.heap.size, tv t)] [(t, F, g)] []) := Lib.hid (by rw [hW1]; exact ((Lt.start w).thread HT.out).lay (tv t) 28)
  rw [← hW1]
  clear hW1
  refine (Rt.awake_any W1).mono ?_
  rintro e9 w1 ⟨rfl, hb9⟩
  have L2 := Lib.hid (L1.out.next hb9)
  clear hb9 L1
  have x0 := (L2.out.bx (w.heap.size) (tv t) (by simp)).cel 0 (.bool t.lv) rfl
  have x1 := (L2.out.bx (w.heap.size) (tv t) (by simp)).cel 1 (.int .i64 (t.r 0)) rfl
  have x2 := (L2.out.bx (w.heap.size) (tv t) (by simp)).cel 2 (.int .i64 (t.r 1)) rfl
  have x3 := (L2.out.bx (w.heap.size) (tv t) (by simp)).cel 3 (.int .i64 (t.r 2)) rfl
  have x4 := (L2.out.bx (w.heap.size) (tv t) (by simp)).cel 4 (.int .i64 (t.r 3)) rfl
  have x5 := (L2.out.bx (w.heap.size) (tv t) (by simp)).cel 5 (.slice (t.u 0).a (t.u 0).n (t.u 0).c) rfl
  have x6 := (L2.out.bx (w.heap.size) (tv t) (by simp)).cel 6 (.slice (t.u 1).a (t.u 1).n (t.u 1).c) rfl
  have x7 := (L2.out.bx (w.heap.size) (tv t) (by simp)).cel 7 (.slice (t.u 2).a (t.u 2).n (t.u 2).c) rfl
  have x8 := (L2.out.bx (w.heap.size) (tv t) (by simp)).cel 8 (.int .i64 t.ep) rfl
  have x9 := (L2.out.bx (w.heap.size) (tv t) (by simp)).cel 9 (.int .i64 t.sg) rfl
  have x10 := (L2.out.bx (w.heap.size) (tv t) (by simp)).cel 10 (.int .i64 t.rt) rfl
  have x11 := (L2.out.bx (w.heap.size) (tv t) (by simp)).cel 11 (.slice t.o.a t.o.n t.o.c) rfl
  have x12 := (L2.out.bx (w.heap.size) (tv t) (by simp)).cel 12 (.int .i64 t.pc) rfl
  have x13 := (L2.out.bx (w.heap.size) (tv t) (by simp)).cel 13 (.int .i64 t.x) rfl
  have x14 := (L2.out.bx (w.heap.size) (tv t) (by simp)).cel 14 (.int .i64 t.y) rfl
  have xl := (L2.out.bx (w.heap.size) (tv t) (by simp)).lt
  go_wp2_with fail
  refine (CF.out w1).mono ?_
  rintro e9 w2 ⟨rfl, hb9⟩
  have L3 := Lib.hid (L2.out.next hb9)
  clear hb9 L2
  clear x0 x1 x2 x3 x4 x5 x6 x7 x8 x9 x10 x11 x12 x13 x14 xl
  have x0 := (L3.out.bx (w.heap.size) (tv t) (by simp)).cel 0 (.bool t.lv) rfl
  have x1 := (L3.out.bx (w.heap.size) (tv t) (by simp)).cel 1 (.int .i64 (t.r 0)) rfl
  have x2 := (L3.out.bx (w.heap.size) (tv t) (by simp)).cel 2 (.int .i64 (t.r 1)) rfl
  have x3 := (L3.out.bx (w.heap.size) (tv t) (by simp)).cel 3 (.int .i64 (t.r 2)) rfl
  have x4 := (L3.out.bx (w.heap.size) (tv t) (by simp)).cel 4 (.int .i64 (t.r 3)) rfl
  have x5 := (L3.out.bx (w.heap.size) (tv t) (by simp)).cel 5 (.slice (t.u 0).a (t.u 0).n (t.u 0).c) rfl
  have x6 := (L3.out.bx (w.heap.size) (tv t) (by simp)).cel 6 (.slice (t.u 1).a (t.u 1).n (t.u 1).c) rfl
  have x7 := (L3.out.bx (w.heap.size) (tv t) (by simp)).cel 7 (.slice (t.u 2).a (t.u 2).n (t.u 2).c) rfl
  have x8 := (L3.out.bx (w.heap.size) (tv t) (by simp)).cel 8 (.int .i64 t.ep) rfl
  have x9 := (L3.out.bx (w.heap.size) (tv t) (by simp)).cel 9 (.int .i64 t.sg) rfl
  have x10 := (L3.out.bx (w.heap.size) (tv t) (by simp)).cel 10 (.int .i64 t.rt) rfl
  have x11 := (L3.out.bx (w.heap.size) (tv t) (by simp)).cel 11 (.slice t.o.a t.o.n t.o.c) rfl
  have x12 := (L3.out.bx (w.heap.size) (tv t) (by simp)).cel 12 (.int .i64 t.pc) rfl
  have x13 := (L3.out.bx (w.heap.size) (tv t) (by simp)).cel 13 (.int .i64 t.x) rfl
  have x14 := (L3.out.bx (w.heap.size) (tv t) (by simp)).cel 14 (.int .i64 t.y) rfl
  have xl := (L3.out.bx (w.heap.size) (tv t) (by simp)).lt
  go_wp2_with fail
  refine (C1.out w2).mono ?_
  rintro e9 w3 ⟨⟨a1, n1, c1⟩, rfl, ho, hb9⟩
  have R4 := all_row ho
  have N1 := Lib.hid (show (holdL t).length = n1 by have := ho.1; simpa using this)
  have L4 := Lib.hid ((L3.out.next hb9).held R4)
  clear ho hb9 R4 L3
  dsimp only
  clear x0 x1 x2 x3 x4 x5 x6 x7 x8 x9 x10 x11 x12 x13 x14 xl
  have x0 := (L4.out.bx (w.heap.size) (tv t) (by simp)).cel 0 (.bool t.lv) rfl
  have x1 := (L4.out.bx (w.heap.size) (tv t) (by simp)).cel 1 (.int .i64 (t.r 0)) rfl
  have x2 := (L4.out.bx (w.heap.size) (tv t) (by simp)).cel 2 (.int .i64 (t.r 1)) rfl
  have x3 := (L4.out.bx (w.heap.size) (tv t) (by simp)).cel 3 (.int .i64 (t.r 2)) rfl
  have x4 := (L4.out.bx (w.heap.size) (tv t) (by simp)).cel 4 (.int .i64 (t.r 3)) rfl
  have x5 := (L4.out.bx (w.heap.size) (tv t) (by simp)).cel 5 (.slice (t.u 0).a (t.u 0).n (t.u 0).c) rfl
  have x6 := (L4.out.bx (w.heap.size) (tv t) (by simp)).cel 6 (.slice (t.u 1).a (t.u 1).n (t.u 1).c) rfl
  have x7 := (L4.out.bx (w.heap.size) (tv t) (by simp)).cel 7 (.slice (t.u 2).a (t.u 2).n (t.u 2).c) rfl
  have x8 := (L4.out.bx (w.heap.size) (tv t) (by simp)).cel 8 (.int .i64 t.ep) rfl
  have x9 := (L4.out.bx (w.heap.size) (tv t) (by simp)).cel 9 (.int .i64 t.sg) rfl
  have x10 := (L4.out.bx (w.heap.size) (tv t) (by simp)).cel 10 (.int .i64 t.rt) rfl
  have x11 := (L4.out.bx (w.heap.size) (tv t) (by simp)).cel 11 (.slice t.o.a t.o.n t.o.c) rfl
  have x12 := (L4.out.bx (w.heap.size) (tv t) (by simp)).cel 12 (.int .i64 t.pc) rfl
  have x13 := (L4.out.bx (w.heap.size) (tv t) (by simp)).cel 13 (.int .i64 t.x) rfl
  have x14 := (L4.out.bx (w.heap.size) (tv t) (by simp)).cel 14 (.int .i64 t.y) rfl
  have xl := (L4.out.bx (w.heap.size) (tv t) (by simp)).lt
  go_wp2_with fail
  refine (C2.out w3 (L4.out.tt t F g (by simp))).mono ?_
  rintro e9 w4 ⟨u, o, hon, he, hth, hb9⟩
  rw [EE.out.1, EE.out.2] at he
  obtain ⟨t9, ht9⟩ : ∃ t9, t9 = tw (tr t (Ls.upd t.r k 0)) u o := ⟨_, rfl⟩
  rw [← ht9] at he
  subst he
  have L5 := Lib.hid (L4.out.next hb9)
  have E9 := Lib.hid ht9
  have C3 := Lib.hid (fun W => holds_any t9 W)
  clear hb9 L4 hth hon ht9
  clear x0 x1 x2 x3 x4 x5 x6 x7 x8 x9 x10 x11 x12 x13 x14 xl
  go_upto_region 7 with fail
  obtain ⟨W6, hW6⟩ : ∃ W6, W6 = w4.alloc (.cells #[.bool t9.lv, .int .i64 (t9.r 0), .int .i64 (t9.r 1), .int .i64 (t9.r 2), .int .i64 (t9.r 3), .slice (t9.u 0).a (t9.u 0).n (t9.u 0).c, .slice (t9.u 1).a (t9.u 1).n (t9.u 1).c, .slice (t9.u 2).a (t9.u 2).n (t9.u 2).c, .int .i64 t9.ep, .int .i64 t9.sg, .int .i64 t9.rt, .slice t9.o.a t9.o.n t9.o.c, .int .i64 t9.pc, .int .i64 t9.x, .int .i64 t9.y] 28) := ⟨_, rfl⟩
  obtain ⟨b4, hb4⟩ : ∃ b4, b4 = w4.heap.size := ⟨_, rfl⟩
  have L6 := L5.out.lay (tv t9) 28
  rw [← show (W6 : World) = w4.alloc (.cells (tv t9).toArray 28) from hW6] at L6
  rw [← hb4] at L6
  have L6 := Lib.hid L6
  rw [← hW6, ← hb4]
  clear hW6 hb4 L5
  have x0 := (L6.out.bx (b4) (tv t9) (by simp)).cel 0 (.bool t9.lv) rfl
  have x1 := (L6.out.bx (b4) (tv t9) (by simp)).cel 1 (.int .i64 (t9.r 0)) rfl
  have x2 := (L6.out.bx (b4) (tv t9) (by simp)).cel 2 (.int .i64 (t9.r 1)) rfl
  have x3 := (L6.out.bx (b4) (tv t9) (by simp)).cel 3 (.int .i64 (t9.r 2)) rfl
  have x4 := (L6.out.bx (b4) (tv t9) (by simp)).cel 4 (.int .i64 (t9.r 3)) rfl
  have x5 := (L6.out.bx (b4) (tv t9) (by simp)).cel 5 (.slice (t9.u 0).a (t9.u 0).n (t9.u 0).c) rfl
  have x6 := (L6.out.bx (b4) (tv t9) (by simp)).cel 6 (.slice (t9.u 1).a (t9.u 1).n (t9.u 1).c) rfl
  have x7 := (L6.out.bx (b4) (tv t9) (by simp)).cel 7 (.slice (t9.u 2).a (t9.u 2).n (t9.u 2).c) rfl
  have x8 := (L6.out.bx (b4) (tv t9) (by simp)).cel 8 (.int .i64 t9.ep) rfl
  have x9 := (L6.out.bx (b4) (tv t9) (by simp)).cel 9 (.int .i64 t9.sg) rfl
  have x10 := (L6.out.bx (b4) (tv t9) (by simp)).cel 10 (.int .i64 t9.rt) rfl
  have x11 := (L6.out.bx (b4) (tv t9) (by simp)).cel 11 (.slice t9.o.a t9.o.n t9.o.c) rfl
  have x12 := (L6.out.bx (b4) (tv t9) (by simp)).cel 12 (.int .i64 t9.pc) rfl
  have x13 := (L6.out.bx (b4) (tv t9) (by simp)).cel 13 (.int .i64 t9.x) rfl
  have x14 := (L6.out.bx (b4) (tv t9) (by simp)).cel 14 (.int .i64 t9.y) rfl
  have xl := (L6.out.bx (b4) (tv t9) (by simp)).lt
  go_wp2_with fail
  refine (C3.out W6).mono ?_
  rintro e9 w7 ⟨⟨a2, n2, c2⟩, rfl, ho, hb9⟩
  have N2 := Lib.hid (show (holdL (tr t (Ls.upd t.r k 0))).length = n2 by have := ho.1; rw [E9.out, hold_tw] at this; simpa using this)
  have L7 := Lib.hid (L6.out.next hb9)
  clear ho hb9 L6
  dsimp only
  clear x0 x1 x2 x3 x4 x5 x6 x7 x8 x9 x10 x11 x12 x13 x14 xl
  obtain ⟨m1, m2, m3⟩ := counts t hk N1.out N2.out
  have g4 : decide ((6 : Int) < (n1 : Int)) = false := decide_eq_false (by omega)
  have g5 : decide (6 < n1) = false := decide_eq_false (by omega)
  have g6 : decide ((n1 : Int) < (n2 : Int)) = false := decide_eq_false (by omega)
  have g7 : decide (n1 < n2) = false := decide_eq_false (by omega)
  have qk := tbox_reg (L7.out.bx (w.heap.size) (tv t) (by simp)) hk
  have ql := (L7.out.bx (w.heap.size) (tv t) (by simp)).lt
  have HR := Lib.hid (L7.out.rr ⟨a1, n1, c1⟩ (holdL t) (by simp))
  have HN := Lib.hid (fun i (hi : i < n1) => hold_ne t i (by rw [N1.out]; exact hi))
  obtain ⟨y, hy⟩ : ∃ y, decide (t.r k = 0) = y := ⟨_, rfl⟩
  rw [hy] at m3
  have y1 : (t.r k == 0) = y := by rw [← hy]; rfl
  have z1 : decide ((n2 : Int) = (n1 : Int)) = y := by rw [← m3]; exact decide_eq_decide.2 (by omega)
  have z2 : ((n2 : Int) == (n1 : Int)) = y := z1
  have z3 : (n2 == n1) = y := by rw [← m3]; rfl
  clear m1 m2 N1 N2
  cases y
  · go_wp2
    go_loopw [11] (fun i wr => ∃ q : Nat, q ≤ n1 ∧ i = .int .i64 q ∧ wr = w7) (fun i _ => n1 - (intOf i).toNat)
    case atStart => exact ⟨0, Nat.zero_le _, rfl, rfl⟩
    case round =>
      obtain ⟨q, hq, rfl, rfl⟩ := hrel
      by_cases hlt : q < n1
      · obtain ⟨b, off, rfl, hbl, hc⟩ := HR.out.2 (by show 0 < n1; omega)
        have hcell := hc q hlt
        have hne := HN.out q hlt
        obtain ⟨x, hx⟩ : ∃ x, x = (holdL t).getD q 0 := ⟨_, rfl⟩
        rw [← hx] at hcell hne
        have hd : (x == 0) = false := by simpa using hne
        have hd2 : decide (x = 0) = false := hd
        have hsm : n1 ≤ 6 := by simpa using of_decide_eq_false g5
        clear hc hx hne
        go_wp2
        go_roundw
        case rel => exact ⟨q + 1, by omega, by go_num, trivial⟩
        case measure => simp [intOf]; omega
      · obtain rfl : q = n1 := by omega
        go_wp2
        go_ret
        exact ⟨rfl, L7.out.bel⟩
  · go_wp2
    go_loopw [11] (fun i wr => ∃ q : Nat, q ≤ n1 ∧ i = .int .i64 q ∧ wr = w7) (fun i _ => n1 - (intOf i).toNat)
    case atStart => exact ⟨0, Nat.zero_le _, rfl, rfl⟩
    case round =>
      obtain ⟨q, hq, rfl, rfl⟩ := hrel
      by_cases hlt : q < n1
      · obtain ⟨b, off, rfl, hbl, hc⟩ := HR.out.2 (by show 0 < n1; omega)
        have hcell := hc q hlt
        have hne := HN.out q hlt
        obtain ⟨x, hx⟩ : ∃ x, x = (holdL t).getD q 0 := ⟨_, rfl⟩
        rw [← hx] at hcell hne
        have hd : (x == 0) = false := by simpa using hne
        have hd2 : decide (x = 0) = false := hd
        have hsm : n1 ≤ 6 := by simpa using of_decide_eq_false g5
        clear hc hx hne
        go_wp2
        go_roundw
        case rel => exact ⟨q + 1, by omega, by go_num, trivial⟩
        case measure => simp [intOf]; omega
      · obtain rfl : q = n1 := by omega
        go_wp2
        go_ret
        exact ⟨rfl, L7.out.bel⟩
theorem walk (t : Ts) (F : Nat → List Int) (g : Nat → O4) (r : Int) (w : World) (h : Th w w.heap.size t F g) (_ : (Lit.int .i64 r).wf = true) : Calls Try.prog 5 #[(.agg #[.bool t.lv, .int .i64 (t.r 0), .int .i64 (t.r 1), .int .i64 (t.r 2), .int .i64 (t.r 3), .slice (t.u 0).a (t.u 0).n (t.u 0).c, .slice (t.u 1).a (t.u 1).n (t.u 1).c, .slice (t.u 2).a (t.u 2).n (t.u 2).c, .int .i64 t.ep, .int .i64 t.sg, .int .i64 t.rt, .slice t.o.a t.o.n t.o.c, .int .i64 t.pc, .int .i64 t.x, .int .i64 t.y]), .int .i64 r] w fun e w' => e = .returned (.bool true) ∧ Below w.heap.size w w' := by
  cases hf : fewT t with
  | false => exact walk_few t F g r w h hf
  | true =>
    by_cases h1 : r < 0
    · exact walk_low t F g r w h hf (decide_eq_true h1)
    by_cases h2 : 3 < r
    · exact walk_high t F g r w h hf (decide_eq_false h1) (decide_eq_true h2)
    obtain ⟨k, hk, rfl⟩ := inReg_yes (show inReg r = true from decide_eq_true (by omega))
    exact walk_yes t F g k hk w h hf

-- the frame (rtframe.py)
set_option maxRecDepth 100000 in
theorem lifted (os : Os) (started : os.Started) (H : Type) (enc : TypeId × Value → H) :
    ReturnsInHanded {} Try.checked os 5 .any (Rows.regsHoldsSpec.pre6 enc Try.prog Try.f5 Rows.regsHoldsRow.domain false) (Rows.regsHoldsSpec.post enc Try.prog Try.f5 false true false false) := by
  refine returnsInHanded_of_change (C := Try.checked) ownK started (by kernel_rfl) Try.func5
    (ChangeSpec.witness6 (enc := enc) (C := Try.checked) false ⟨#[], #[.agg #[.bool false, .int .i64 0, .int .i64 0, .int .i64 0, .int .i64 0, .slice none 0 0, .slice none 0 0, .slice none 0 0, .int .i64 0, .int .i64 0, .int .i64 0, .slice none 0 0, .int .i64 0, .int .i64 0, .int .i64 0], .int .i64 0], []⟩ 8 (by kernel_rfl) (by kernel_rfl) (by kernel_rfl) (by kernel_rfl)) ?_
  intro W base args ds gs before hval0 hW hcnd _
  have hval : ∀ (j : Nat) t v, Try.f5.params[j]? = some t → args[j]? = some v → Value.okWide Try.prog W .any base t v := hval0
  have hW' := hW
  obtain ⟨p, q, hA0, hV, rfl, hfz, hnd⟩ := hW
  have hA : DataW.TrodAll enc Try.prog W 0 (fun _ => true) true Try.f5.params.toList args.toList ds p := hA0
  rw [Try.params5] at hA hval
  obtain ⟨v0, vs0, d0, ds0, p0, q0, hargs, rfl, rfl, h0, r0⟩ := trodAll_cons hA
  obtain ⟨v1, vs1, d1, ds1, p1, q1, rfl, rfl, rfl, h1, r1⟩ := trodAll_cons r0
  obtain ⟨rfl, rfl, rfl⟩ := trodAll_nil r1
  obtain rfl : args = #[v0, v1] := by cases args; simp_all
  obtain ⟨rfl, rfl⟩ := trodVars_none hV
  have k0 := h0
  have lt0 : ∀ x ∈ p0, x.block < W.heap.size := by obtain ⟨m, hm⟩ := k0; exact DataW.trod_lt m _ _ _ hm
  obtain ⟨t0, z0, g0, rfl, w0⟩ := th_of (hval 0 28 v0 rfl rfl) h0
  obtain ⟨a1, rfl, rfl, rfl, w1⟩ := open_int Try.underlying3 (hval 1 3 v1 rfl rfl) h1
  clear hA0 hval0
  refine (walk t0 z0 g0 a1 W w0 w1).mono fun e W' ⟨he, bel⟩ => ?_
  subst he
  exact ⟨_, rfl, _, _, _, [], _, [], hW', trodAll_mk1 (shut_bool Try.underlying4 _), (trodAll_cons_mk (Below.trod laidK (by kernel_rfl) (of_decide_eq_true (by kernel_rfl)) k0 bel lt0) (trodAll_cons_mk (shut_int Try.underlying3 w1) trodAll_mk0)), rfl, bel.frame _, fun h => by cases h⟩

theorem over : Rows.regsHoldsRow.holds Try.pinned (OpenSpec.ofChange Rows.regsHoldsSpec) :=
  OpenClaim.holds_of_wide 5 Try.f5 rfl rfl rfl rfl rfl rfl rfl ⟨rfl, rfl, rfl, rfl, rfl⟩ rfl rfl rfl rfl rfl (by kernel_rfl) Try.func5 (by kernel_rfl)
    (of_decide_eq_true (by kernel_rfl)) (by unfold Func.isWrapper; first | (rw [if_pos (by decide +kernel)]; kernel_rfl) | (rw [if_neg (by decide +kernel)]; exact ⟨rfl, rfl⟩))
    (fun os started H enc _ => lifted os started H enc)

/-- The statement. -/
theorem proved : Rows.RegsHoldsSaid :=
  over
#print axioms proved
end Go.Proofs.Ytjppimabhefeeaa.RegsHolds
