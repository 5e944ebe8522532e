/-
  RegsSame: a register that is set to what it has changes nothing; a thread that may be stays so; Get is told of just four: for every thread of at most 220 operations.
-/
import Derived.Test.YtjppimabhefeeaaRtLawK
import Derived.Deep.RegionHeld3
namespace Go.Proofs.Ytjppimabhefeeaa.RegsSame
open Go.Proofs.Ytjppimabhefeeaa Go.Proofs.Ytjppimabhefeeaa.Rt
open Go.ChangeShapes Go.WideShapes Go.ChangeAt Go.RowKit
set_option maxRecDepth 100000

set_option maxHeartbeats 4000000 in
theorem walk_few (t : Ts) (F : Nat → List Int) (g : Nat → O4) (r : Int) (w : World) (h : Th w w.heap.size t F g) (hf : fewT t = false) : Calls Try.prog 6 #[(.agg #[.bool t.lv, .int .i64 (t.r 0), .int .i64 (t.r 1), .int .i64 (t.r 2), .int .i64 (t.r 3), .slice (t.u 0).a (t.u 0).n (t.u 0).c, .slice (t.u 1).a (t.u 1).n (t.u 1).c, .slice (t.u 2).a (t.u 2).n (t.u 2).c, .int .i64 t.ep, .int .i64 t.sg, .int .i64 t.rt, .slice t.o.a t.o.n t.o.c, .int .i64 t.pc, .int .i64 t.x, .int .i64 t.y]), .int .i64 r] w fun e w' => e = .returned (.bool true) ∧ Below w.heap.size w w' := by
  have HT := Lib.hid h
  have CF := Lib.hid (fun W => rfew_any t W)
  rw [hf] at CF
  clear h hf
  go_enter Try.func6, Try.ntmps6
  go_wp2_with fail
  obtain ⟨W1, hW1⟩ : ∃ W1, W1 = w.alloc (.cells #[.bool t.lv, .int .i64 (t.r 0), .int .i64 (t.r 1), .int .i64 (t.r 2), .int .i64 (t.r 3), .slice (t.u 0).a (t.u 0).n (t.u 0).c, .slice (t.u 1).a (t.u 1).n (t.u 1).c, .slice (t.u 2).a (t.u 2).n (t.u 2).c, .int .i64 t.ep, .int .i64 t.sg, .int .i64 t.rt, .slice t.o.a t.o.n t.o.c, .int .i64 t.pc, .int .i64 t.x, .int .i64 t.y] 28) := ⟨_, rfl⟩
  have L1 : Hid (Lt w W1 [(w.heap.size, tv t)] [(t, F, g)] []) := Lib.hid (by rw [hW1]; exact ((Lt.start w).thread HT.out).lay (tv t) 28)
  rw [← hW1]
  clear hW1
  refine (Rt.awake_any W1).mono ?_
  rintro e9 w1 ⟨rfl, hb9⟩
  have L2 := Lib.hid (L1.out.next hb9)
  clear hb9 L1
  have x0 := (L2.out.bx (w.heap.size) (tv t) (by simp)).cel 0 (.bool t.lv) rfl
  have x1 := (L2.out.bx (w.heap.size) (tv t) (by simp)).cel 1 (.int .i64 (t.r 0)) rfl
  have x2 := (L2.out.bx (w.heap.size) (tv t) (by simp)).cel 2 (.int .i64 (t.r 1)) rfl
  have x3 := (L2.out.bx (w.heap.size) (tv t) (by simp)).cel 3 (.int .i64 (t.r 2)) rfl
  have x4 := (L2.out.bx (w.heap.size) (tv t) (by simp)).cel 4 (.int .i64 (t.r 3)) rfl
  have x5 := (L2.out.bx (w.heap.size) (tv t) (by simp)).cel 5 (.slice (t.u 0).a (t.u 0).n (t.u 0).c) rfl
  have x6 := (L2.out.bx (w.heap.size) (tv t) (by simp)).cel 6 (.slice (t.u 1).a (t.u 1).n (t.u 1).c) rfl
  have x7 := (L2.out.bx (w.heap.size) (tv t) (by simp)).cel 7 (.slice (t.u 2).a (t.u 2).n (t.u 2).c) rfl
  have x8 := (L2.out.bx (w.heap.size) (tv t) (by simp)).cel 8 (.int .i64 t.ep) rfl
  have x9 := (L2.out.bx (w.heap.size) (tv t) (by simp)).cel 9 (.int .i64 t.sg) rfl
  have x10 := (L2.out.bx (w.heap.size) (tv t) (by simp)).cel 10 (.int .i64 t.rt) rfl
  have x11 := (L2.out.bx (w.heap.size) (tv t) (by simp)).cel 11 (.slice t.o.a t.o.n t.o.c) rfl
  have x12 := (L2.out.bx (w.heap.size) (tv t) (by simp)).cel 12 (.int .i64 t.pc) rfl
  have x13 := (L2.out.bx (w.heap.size) (tv t) (by simp)).cel 13 (.int .i64 t.x) rfl
  have x14 := (L2.out.bx (w.heap.size) (tv t) (by simp)).cel 14 (.int .i64 t.y) rfl
  have xl := (L2.out.bx (w.heap.size) (tv t) (by simp)).lt
  go_wp2_with fail
  refine (CF.out w1).mono ?_
  rintro e9 w2 ⟨rfl, hb9⟩
  have L3 := Lib.hid (L2.out.next hb9)
  clear hb9 L2
  clear x0 x1 x2 x3 x4 x5 x6 x7 x8 x9 x10 x11 x12 x13 x14 xl
  have x0 := (L3.out.bx (w.heap.size) (tv t) (by simp)).cel 0 (.bool t.lv) rfl
  have x1 := (L3.out.bx (w.heap.size) (tv t) (by simp)).cel 1 (.int .i64 (t.r 0)) rfl
  have x2 := (L3.out.bx (w.heap.size) (tv t) (by simp)).cel 2 (.int .i64 (t.r 1)) rfl
  have x3 := (L3.out.bx (w.heap.size) (tv t) (by simp)).cel 3 (.int .i64 (t.r 2)) rfl
  have x4 := (L3.out.bx (w.heap.size) (tv t) (by simp)).cel 4 (.int .i64 (t.r 3)) rfl
  have x5 := (L3.out.bx (w.heap.size) (tv t) (by simp)).cel 5 (.slice (t.u 0).a (t.u 0).n (t.u 0).c) rfl
  have x6 := (L3.out.bx (w.heap.size) (tv t) (by simp)).cel 6 (.slice (t.u 1).a (t.u 1).n (t.u 1).c) rfl
  have x7 := (L3.out.bx (w.heap.size) (tv t) (by simp)).cel 7 (.slice (t.u 2).a (t.u 2).n (t.u 2).c) rfl
  have x8 := (L3.out.bx (w.heap.size) (tv t) (by simp)).cel 8 (.int .i64 t.ep) rfl
  have x9 := (L3.out.bx (w.heap.size) (tv t) (by simp)).cel 9 (.int .i64 t.sg) rfl
  have x10 := (L3.out.bx (w.heap.size) (tv t) (by simp)).cel 10 (.int .i64 t.rt) rfl
  have x11 := (L3.out.bx (w.heap.size) (tv t) (by simp)).cel 11 (.slice t.o.a t.o.n t.o.c) rfl
  have x12 := (L3.out.bx (w.heap.size) (tv t) (by simp)).cel 12 (.int .i64 t.pc) rfl
  have x13 := (L3.out.bx (w.heap.size) (tv t) (by simp)).cel 13 (.int .i64 t.x) rfl
  have x14 := (L3.out.bx (w.heap.size) (tv t) (by simp)).cel 14 (.int .i64 t.y) rfl
  have xl := (L3.out.bx (w.heap.size) (tv t) (by simp)).lt
  go_wp2
  go_ret
  exact ⟨rfl, L3.out.bel⟩
set_option maxHeartbeats 4000000 in
theorem walk_no (t : Ts) (F : Nat → List Int) (g : Nat → O4) (r : Int) (w : World) (h : Th w w.heap.size t F g) (hf : fewT t = true) (hr : inReg r = false) (b : Bool) (hb : decide (r < 0) = b) (hb2 : (b || decide (3 < r)) = true) : Calls Try.prog 6 #[(.agg #[.bool t.lv, .int .i64 (t.r 0), .int .i64 (t.r 1), .int .i64 (t.r 2), .int .i64 (t.r 3), .slice (t.u 0).a (t.u 0).n (t.u 0).c, .slice (t.u 1).a (t.u 1).n (t.u 1).c, .slice (t.u 2).a (t.u 2).n (t.u 2).c, .int .i64 t.ep, .int .i64 t.sg, .int .i64 t.rt, .slice t.o.a t.o.n t.o.c, .int .i64 t.pc, .int .i64 t.x, .int .i64 t.y]), .int .i64 r] w fun e w' => e = .returned (.bool true) ∧ Below w.heap.size w w' := by
  have HT := Lib.hid h
  have CF := Lib.hid (fun W => rfew_any t W)
  rw [hf] at CF
  have C1 := Lib.hid (fun W => get_any t r W)
  rw [show getV t r = 0 from if_neg (by rw [hr]; decide), getE_no hr] at C1
  have hp := fewT_parts hf
  have C2 := Lib.hid (fun W (hT : Th W W.heap.size t F g) => put_any t F g r 0 W hT (fun j hj => by have := hp.2 j hj; omega) (by have := hp.1; omega))
  have E2 := Lib.hid (getE_no hr)
  have hb3 : decide (3 < r) = true ∨ b = true := by cases b <;> simp_all
  clear h hf hp hr hb2
  go_enter Try.func6, Try.ntmps6
  go_wp2_with fail
  obtain ⟨W1, hW1⟩ : ∃ W1, W1 = w.alloc (.cells #[.bool t.lv, .int .i64 (t.r 0), .int .i64 (t.r 1), .int .i64 (t.r 2), .int .i64 (t.r 3), .slice (t.u 0).a (t.u 0).n (t.u 0).c, .slice (t.u 1).a (t.u 1).n (t.u 1).c, .slice (t.u 2).a (t.u 2).n (t.u 2).c, .int .i64 t.ep, .int .i64 t.sg, .int .i64 t.rt, .slice t.o.a t.o.n t.o.c, .int .i64 t.pc, .int .i64 t.x, .int .i64 t.y] 28) := ⟨_, rfl⟩
  have L1 : Hid (Lt w W1 [(w.heap.size, tv t)] [(t, F, g)] []) := Lib.hid (by rw [hW1]; exact ((Lt.start w).thread HT.out).lay (tv t) 28)
  rw [← hW1]
  clear hW1
  refine (Rt.awake_any W1).mono ?_
  rintro e9 w1 ⟨rfl, hb9⟩
  have L2 := Lib.hid (L1.out.next hb9)
  clear hb9 L1
  have x0 := (L2.out.bx (w.heap.size) (tv t) (by simp)).cel 0 (.bool t.lv) rfl
  have x1 := (L2.out.bx (w.heap.size) (tv t) (by simp)).cel 1 (.int .i64 (t.r 0)) rfl
  have x2 := (L2.out.bx (w.heap.size) (tv t) (by simp)).cel 2 (.int .i64 (t.r 1)) rfl
  have x3 := (L2.out.bx (w.heap.size) (tv t) (by simp)).cel 3 (.int .i64 (t.r 2)) rfl
  have x4 := (L2.out.bx (w.heap.size) (tv t) (by simp)).cel 4 (.int .i64 (t.r 3)) rfl
  have x5 := (L2.out.bx (w.heap.size) (tv t) (by simp)).cel 5 (.slice (t.u 0).a (t.u 0).n (t.u 0).c) rfl
  have x6 := (L2.out.bx (w.heap.size) (tv t) (by simp)).cel 6 (.slice (t.u 1).a (t.u 1).n (t.u 1).c) rfl
  have x7 := (L2.out.bx (w.heap.size) (tv t) (by simp)).cel 7 (.slice (t.u 2).a (t.u 2).n (t.u 2).c) rfl
  have x8 := (L2.out.bx (w.heap.size) (tv t) (by simp)).cel 8 (.int .i64 t.ep) rfl
  have x9 := (L2.out.bx (w.heap.size) (tv t) (by simp)).cel 9 (.int .i64 t.sg) rfl
  have x10 := (L2.out.bx (w.heap.size) (tv t) (by simp)).cel 10 (.int .i64 t.rt) rfl
  have x11 := (L2.out.bx (w.heap.size) (tv t) (by simp)).cel 11 (.slice t.o.a t.o.n t.o.c) rfl
  have x12 := (L2.out.bx (w.heap.size) (tv t) (by simp)).cel 12 (.int .i64 t.pc) rfl
  have x13 := (L2.out.bx (w.heap.size) (tv t) (by simp)).cel 13 (.int .i64 t.x) rfl
  have x14 := (L2.out.bx (w.heap.size) (tv t) (by simp)).cel 14 (.int .i64 t.y) rfl
  have xl := (L2.out.bx (w.heap.size) (tv t) (by simp)).lt
  go_wp2_with fail
  refine (CF.out w1).mono ?_
  rintro e9 w2 ⟨rfl, hb9⟩
  have L3 := Lib.hid (L2.out.next hb9)
  clear hb9 L2
  clear x0 x1 x2 x3 x4 x5 x6 x7 x8 x9 x10 x11 x12 x13 x14 xl
  have x0 := (L3.out.bx (w.heap.size) (tv t) (by simp)).cel 0 (.bool t.lv) rfl
  have x1 := (L3.out.bx (w.heap.size) (tv t) (by simp)).cel 1 (.int .i64 (t.r 0)) rfl
  have x2 := (L3.out.bx (w.heap.size) (tv t) (by simp)).cel 2 (.int .i64 (t.r 1)) rfl
  have x3 := (L3.out.bx (w.heap.size) (tv t) (by simp)).cel 3 (.int .i64 (t.r 2)) rfl
  have x4 := (L3.out.bx (w.heap.size) (tv t) (by simp)).cel 4 (.int .i64 (t.r 3)) rfl
  have x5 := (L3.out.bx (w.heap.size) (tv t) (by simp)).cel 5 (.slice (t.u 0).a (t.u 0).n (t.u 0).c) rfl
  have x6 := (L3.out.bx (w.heap.size) (tv t) (by simp)).cel 6 (.slice (t.u 1).a (t.u 1).n (t.u 1).c) rfl
  have x7 := (L3.out.bx (w.heap.size) (tv t) (by simp)).cel 7 (.slice (t.u 2).a (t.u 2).n (t.u 2).c) rfl
  have x8 := (L3.out.bx (w.heap.size) (tv t) (by simp)).cel 8 (.int .i64 t.ep) rfl
  have x9 := (L3.out.bx (w.heap.size) (tv t) (by simp)).cel 9 (.int .i64 t.sg) rfl
  have x10 := (L3.out.bx (w.heap.size) (tv t) (by simp)).cel 10 (.int .i64 t.rt) rfl
  have x11 := (L3.out.bx (w.heap.size) (tv t) (by simp)).cel 11 (.slice t.o.a t.o.n t.o.c) rfl
  have x12 := (L3.out.bx (w.heap.size) (tv t) (by simp)).cel 12 (.int .i64 t.pc) rfl
  have x13 := (L3.out.bx (w.heap.size) (tv t) (by simp)).cel 13 (.int .i64 t.x) rfl
  have x14 := (L3.out.bx (w.heap.size) (tv t) (by simp)).cel 14 (.int .i64 t.y) rfl
  have xl := (L3.out.bx (w.heap.size) (tv t) (by simp)).lt
  go_wp2_with fail
  refine (C1.out w2).mono ?_
  rintro e9 w3 ⟨rfl, hb9⟩
  have L4 := Lib.hid (L3.out.next hb9)
  clear hb9 L3
  clear x0 x1 x2 x3 x4 x5 x6 x7 x8 x9 x10 x11 x12 x13 x14 xl
  have x0 := (L4.out.bx (w.heap.size) (tv t) (by simp)).cel 0 (.bool t.lv) rfl
  have x1 := (L4.out.bx (w.heap.size) (tv t) (by simp)).cel 1 (.int .i64 (t.r 0)) rfl
  have x2 := (L4.out.bx (w.heap.size) (tv t) (by simp)).cel 2 (.int .i64 (t.r 1)) rfl
  have x3 := (L4.out.bx (w.heap.size) (tv t) (by simp)).cel 3 (.int .i64 (t.r 2)) rfl
  have x4 := (L4.out.bx (w.heap.size) (tv t) (by simp)).cel 4 (.int .i64 (t.r 3)) rfl
  have x5 := (L4.out.bx (w.heap.size) (tv t) (by simp)).cel 5 (.slice (t.u 0).a (t.u 0).n (t.u 0).c) rfl
  have x6 := (L4.out.bx (w.heap.size) (tv t) (by simp)).cel 6 (.slice (t.u 1).a (t.u 1).n (t.u 1).c) rfl
  have x7 := (L4.out.bx (w.heap.size) (tv t) (by simp)).cel 7 (.slice (t.u 2).a (t.u 2).n (t.u 2).c) rfl
  have x8 := (L4.out.bx (w.heap.size) (tv t) (by simp)).cel 8 (.int .i64 t.ep) rfl
  have x9 := (L4.out.bx (w.heap.size) (tv t) (by simp)).cel 9 (.int .i64 t.sg) rfl
  have x10 := (L4.out.bx (w.heap.size) (tv t) (by simp)).cel 10 (.int .i64 t.rt) rfl
  have x11 := (L4.out.bx (w.heap.size) (tv t) (by simp)).cel 11 (.slice t.o.a t.o.n t.o.c) rfl
  have x12 := (L4.out.bx (w.heap.size) (tv t) (by simp)).cel 12 (.int .i64 t.pc) rfl
  have x13 := (L4.out.bx (w.heap.size) (tv t) (by simp)).cel 13 (.int .i64 t.x) rfl
  have x14 := (L4.out.bx (w.heap.size) (tv t) (by simp)).cel 14 (.int .i64 t.y) rfl
  have xl := (L4.out.bx (w.heap.size) (tv t) (by simp)).lt
  go_wp2_with fail
  refine (C2.out w3 (L4.out.tt t F g (by simp))).mono ?_
  rintro e9 w4 ⟨u, o, hon, he, hth, hb9⟩
  rw [E2.out] at he
  obtain ⟨t9, ht9⟩ : ∃ t9, t9 = tw (putT t r 0) u o := ⟨_, rfl⟩
  rw [← ht9] at he
  subst he
  have L5 := Lib.hid (L4.out.next hb9)
  clear hb9 L4 hth hon ht9
  clear x0 x1 x2 x3 x4 x5 x6 x7 x8 x9 x10 x11 x12 x13 x14 xl
  cases b
  · obtain hb3 := hb3.resolve_right (by decide)
    go_wp2
    go_ret
    exact ⟨rfl, L5.out.bel.alloc L5.out.bel.size _⟩
  · go_wp2
    go_ret
    exact ⟨rfl, L5.out.bel.alloc L5.out.bel.size _⟩
set_option maxHeartbeats 4000000 in
theorem walk_yes (t : Ts) (F : Nat → List Int) (g : Nat → O4) (k : Nat) (hk : k < 4) (w : World) (h : Th w w.heap.size t F g) (hf : fewT t = true) : Calls Try.prog 6 #[(.agg #[.bool t.lv, .int .i64 (t.r 0), .int .i64 (t.r 1), .int .i64 (t.r 2), .int .i64 (t.r 3), .slice (t.u 0).a (t.u 0).n (t.u 0).c, .slice (t.u 1).a (t.u 1).n (t.u 1).c, .slice (t.u 2).a (t.u 2).n (t.u 2).c, .int .i64 t.ep, .int .i64 t.sg, .int .i64 t.rt, .slice t.o.a t.o.n t.o.c, .int .i64 t.pc, .int .i64 t.x, .int .i64 t.y]), .int .i64 (k : Int)] w fun e w' => e = .returned (.bool true) ∧ Below w.heap.size w w' := by
  have HT := Lib.hid h
  have CF := Lib.hid (fun W => rfew_any t W)
  rw [hf] at CF
  have hp := fewT_parts hf
  have C1 := Lib.hid (fun W => get_yes t k hk W)
  have C2 := Lib.hid (fun W (hT : Th W W.heap.size t F g) => put_any t F g k (t.r k) W hT (fun j hj => by have := hp.2 j hj; omega) (by have := hp.1; omega))
  have EE := Lib.hid (And.intro (getE_at hk) (And.intro ((putT_at hk t (t.r k)).trans (tr_self t k)) (putF_at hk F)))
  have FL := Lib.hid (And.intro (th_len h hp.2) hp.1)
  have hk3 : (k : Int) < 4 := by omega
  clear h hf hp
  go_enter Try.func6, Try.ntmps6
  go_wp2_with fail
  obtain ⟨W1, hW1⟩ : ∃ W1, W1 = w.alloc (.cells #[.bool t.lv, .int .i64 (t.r 0), .int .i64 (t.r 1), .int .i64 (t.r 2), .int .i64 (t.r 3), .slice (t.u 0).a (t.u 0).n (t.u 0).c, .slice (t.u 1).a (t.u 1).n (t.u 1).c, .slice (t.u 2).a (t.u 2).n (t.u 2).c, .int .i64 t.ep, .int .i64 t.sg, .int .i64 t.rt, .slice t.o.a t.o.n t.o.c, .int .i64 t.pc, .int .i64 t.x, .int .i64 t.y] 28) := ⟨_, rfl⟩
  have L1 : Hid (Lt w W1 [(w.heap.size, tv t)] [(t, F, g)] []) := Lib.hid (by rw [hW1]; exact ((Lt.start w).thread HT.out).lay (tv t) 28)
  rw [← hW1]
  clear hW1
  refine (Rt.awake_any W1).mono ?_
  rintro e9 w1 ⟨rfl, hb9⟩
  have L2 := Lib.hid (L1.out.next hb9)
  clear hb9 L1
  have x0 := (L2.out.bx (w.heap.size) (tv t) (by simp)).cel 0 (.bool t.lv) rfl
  have x1 := (L2.out.bx (w.heap.size) (tv t) (by simp)).cel 1 (.int .i64 (t.r 0)) rfl
  have x2 := (L2.out.bx (w.heap.size) (tv t) (by simp)).cel 2 (.int .i64 (t.r 1)) rfl
  have x3 := (L2.out.bx (w.heap.size) (tv t) (by simp)).cel 3 (.int .i64 (t.r 2)) rfl
  have x4 := (L2.out.bx (w.heap.size) (tv t) (by simp)).cel 4 (.int .i64 (t.r 3)) rfl
  have x5 := (L2.out.bx (w.heap.size) (tv t) (by simp)).cel 5 (.slice (t.u 0).a (t.u 0).n (t.u 0).c) rfl
  have x6 := (L2.out.bx (w.heap.size) (tv t) (by simp)).cel 6 (.slice (t.u 1).a (t.u 1).n (t.u 1).c) rfl
  have x7 := (L2.out.bx (w.heap.size) (tv t) (by simp)).cel 7 (.slice (t.u 2).a (t.u 2).n (t.u 2).c) rfl
  have x8 := (L2.out.bx (w.heap.size) (tv t) (by simp)).cel 8 (.int .i64 t.ep) rfl
  have x9 := (L2.out.bx (w.heap.size) (tv t) (by simp)).cel 9 (.int .i64 t.sg) rfl
  have x10 := (L2.out.bx (w.heap.size) (tv t) (by simp)).cel 10 (.int .i64 t.rt) rfl
  have x11 := (L2.out.bx (w.heap.size) (tv t) (by simp)).cel 11 (.slice t.o.a t.o.n t.o.c) rfl
  have x12 := (L2.out.bx (w.heap.size) (tv t) (by simp)).cel 12 (.int .i64 t.pc) rfl
  have x13 := (L2.out.bx (w.heap.size) (tv t) (by simp)).cel 13 (.int .i64 t.x) rfl
  have x14 := (L2.out.bx (w.heap.size) (tv t) (by simp)).cel 14 (.int .i64 t.y) rfl
  have xl := (L2.out.bx (w.heap.size) (tv t) (by simp)).lt
  go_wp2_with fail
  refine (CF.out w1).mono ?_
  rintro e9 w2 ⟨rfl, hb9⟩
  have L3 := Lib.hid (L2.out.next hb9)
  clear hb9 L2
  clear x0 x1 x2 x3 x4 x5 x6 x7 x8 x9 x10 x11 x12 x13 x14 xl
  have x0 := (L3.out.bx (w.heap.size) (tv t) (by simp)).cel 0 (.bool t.lv) rfl
  have x1 := (L3.out.bx (w.heap.size) (tv t) (by simp)).cel 1 (.int .i64 (t.r 0)) rfl
  have x2 := (L3.out.bx (w.heap.size) (tv t) (by simp)).cel 2 (.int .i64 (t.r 1)) rfl
  have x3 := (L3.out.bx (w.heap.size) (tv t) (by simp)).cel 3 (.int .i64 (t.r 2)) rfl
  have x4 := (L3.out.bx (w.heap.size) (tv t) (by simp)).cel 4 (.int .i64 (t.r 3)) rfl
  have x5 := (L3.out.bx (w.heap.size) (tv t) (by simp)).cel 5 (.slice (t.u 0).a (t.u 0).n (t.u 0).c) rfl
  have x6 := (L3.out.bx (w.heap.size) (tv t) (by simp)).cel 6 (.slice (t.u 1).a (t.u 1).n (t.u 1).c) rfl
  have x7 := (L3.out.bx (w.heap.size) (tv t) (by simp)).cel 7 (.slice (t.u 2).a (t.u 2).n (t.u 2).c) rfl
  have x8 := (L3.out.bx (w.heap.size) (tv t) (by simp)).cel 8 (.int .i64 t.ep) rfl
  have x9 := (L3.out.bx (w.heap.size) (tv t) (by simp)).cel 9 (.int .i64 t.sg) rfl
  have x10 := (L3.out.bx (w.heap.size) (tv t) (by simp)).cel 10 (.int .i64 t.rt) rfl
  have x11 := (L3.out.bx (w.heap.size) (tv t) (by simp)).cel 11 (.slice t.o.a t.o.n t.o.c) rfl
  have x12 := (L3.out.bx (w.heap.size) (tv t) (by simp)).cel 12 (.int .i64 t.pc) rfl
  have x13 := (L3.out.bx (w.heap.size) (tv t) (by simp)).cel 13 (.int .i64 t.x) rfl
  have x14 := (L3.out.bx (w.heap.size) (tv t) (by simp)).cel 14 (.int .i64 t.y) rfl
  have xl := (L3.out.bx (w.heap.size) (tv t) (by simp)).lt
  go_wp2_with fail
  refine (C1.out w2).mono ?_
  rintro e9 w3 ⟨rfl, hb9⟩
  have L4 := Lib.hid (L3.out.next hb9)
  clear hb9 L3
  clear x0 x1 x2 x3 x4 x5 x6 x7 x8 x9 x10 x11 x12 x13 x14 xl
  have x0 := (L4.out.bx (w.heap.size) (tv t) (by simp)).cel 0 (.bool t.lv) rfl
  have x1 := (L4.out.bx (w.heap.size) (tv t) (by simp)).cel 1 (.int .i64 (t.r 0)) rfl
  have x2 := (L4.out.bx (w.heap.size) (tv t) (by simp)).cel 2 (.int .i64 (t.r 1)) rfl
  have x3 := (L4.out.bx (w.heap.size) (tv t) (by simp)).cel 3 (.int .i64 (t.r 2)) rfl
  have x4 := (L4.out.bx (w.heap.size) (tv t) (by simp)).cel 4 (.int .i64 (t.r 3)) rfl
  have x5 := (L4.out.bx (w.heap.size) (tv t) (by simp)).cel 5 (.slice (t.u 0).a (t.u 0).n (t.u 0).c) rfl
  have x6 := (L4.out.bx (w.heap.size) (tv t) (by simp)).cel 6 (.slice (t.u 1).a (t.u 1).n (t.u 1).c) rfl
  have x7 := (L4.out.bx (w.heap.size) (tv t) (by simp)).cel 7 (.slice (t.u 2).a (t.u 2).n (t.u 2).c) rfl
  have x8 := (L4.out.bx (w.heap.size) (tv t) (by simp)).cel 8 (.int .i64 t.ep) rfl
  have x9 := (L4.out.bx (w.heap.size) (tv t) (by simp)).cel 9 (.int .i64 t.sg) rfl
  have x10 := (L4.out.bx (w.heap.size) (tv t) (by simp)).cel 10 (.int .i64 t.rt) rfl
  have x11 := (L4.out.bx (w.heap.size) (tv t) (by simp)).cel 11 (.slice t.o.a t.o.n t.o.c) rfl
  have x12 := (L4.out.bx (w.heap.size) (tv t) (by simp)).cel 12 (.int .i64 t.pc) rfl
  have x13 := (L4.out.bx (w.heap.size) (tv t) (by simp)).cel 13 (.int .i64 t.x) rfl
  have x14 := (L4.out.bx (w.heap.size) (tv t) (by simp)).cel 14 (.int .i64 t.y) rfl
  have xl := (L4.out.bx (w.heap.size) (tv t) (by simp)).lt
  go_wp2_with fail
  refine (C2.out w3 (L4.out.tt t F g (by simp))).mono ?_
  rintro e9 w4 ⟨u, o, hon, he, hth, hb9⟩
  rw [EE.out.1, EE.out.2.1] at he
  rw [EE.out.2.1] at hon
  rw [EE.out.2.1, EE.out.2.2] at hth
  obtain ⟨t9, ht9⟩ : ∃ t9, t9 = tw t u o := ⟨_, rfl⟩
  rw [← ht9] at he hth
  subst he
  have L5 := Lib.hid ((L4.out.next hb9).thread hth)
  have E9 := Lib.hid (And.intro ht9 hon)
  clear hb9 L4 hth hon ht9
  clear x0 x1 x2 x3 x4 x5 x6 x7 x8 x9 x10 x11 x12 x13 x14 xl
  go_upto_region 7 with fail
  obtain ⟨W6, hW6⟩ : ∃ W6, W6 = w4.alloc (.cells #[.bool t9.lv, .int .i64 (t9.r 0), .int .i64 (t9.r 1), .int .i64 (t9.r 2), .int .i64 (t9.r 3), .slice (t9.u 0).a (t9.u 0).n (t9.u 0).c, .slice (t9.u 1).a (t9.u 1).n (t9.u 1).c, .slice (t9.u 2).a (t9.u 2).n (t9.u 2).c, .int .i64 t9.ep, .int .i64 t9.sg, .int .i64 t9.rt, .slice t9.o.a t9.o.n t9.o.c, .int .i64 t9.pc, .int .i64 t9.x, .int .i64 t9.y] 28) := ⟨_, rfl⟩
  obtain ⟨b4, hb4⟩ : ∃ b4, b4 = w4.heap.size := ⟨_, rfl⟩
  have L6 := L5.out.lay (tv t9) 28
  rw [← show (W6 : World) = w4.alloc (.cells (tv t9).toArray 28) from hW6] at L6
  rw [← hb4] at L6
  have L6 := Lib.hid L6
  rw [← hW6, ← hb4]
  have C3 := Lib.hid (fun W (hL : Lt w W [(b4, tv t9), (w.heap.size, tv t)] [(t9, F, g), (t, F, g)] []) => rsame_yes t t9 t F g W (by rw [E9.out.1]; rfl) rfl (by rw [E9.out.1]; exact E9.out.2.symm) (hL.tt t9 F g (by simp)) (hL.tt t F g (by simp)) FL.out.1 (by rw [E9.out.1]; have := FL.out.2; have := E9.out.2; show o.n ≤ _; omega))
  have C4 := Lib.hid (fun W => may_any t9 W)
  rw [may_tw E9.out.1 E9.out.2] at C4
  have C5 := Lib.hid (fun W => may_any t W)
  obtain ⟨m, hm⟩ : ∃ m, m = mayT t := ⟨_, rfl⟩
  rw [← hm] at C4 C5
  have qk := tbox_reg (L6.out.bx (w.heap.size) (tv t) (by simp)) hk
  clear hW6 hb4 L5 hm
  have x0 := (L6.out.bx (b4) (tv t9) (by simp)).cel 0 (.bool t9.lv) rfl
  have x1 := (L6.out.bx (b4) (tv t9) (by simp)).cel 1 (.int .i64 (t9.r 0)) rfl
  have x2 := (L6.out.bx (b4) (tv t9) (by simp)).cel 2 (.int .i64 (t9.r 1)) rfl
  have x3 := (L6.out.bx (b4) (tv t9) (by simp)).cel 3 (.int .i64 (t9.r 2)) rfl
  have x4 := (L6.out.bx (b4) (tv t9) (by simp)).cel 4 (.int .i64 (t9.r 3)) rfl
  have x5 := (L6.out.bx (b4) (tv t9) (by simp)).cel 5 (.slice (t9.u 0).a (t9.u 0).n (t9.u 0).c) rfl
  have x6 := (L6.out.bx (b4) (tv t9) (by simp)).cel 6 (.slice (t9.u 1).a (t9.u 1).n (t9.u 1).c) rfl
  have x7 := (L6.out.bx (b4) (tv t9) (by simp)).cel 7 (.slice (t9.u 2).a (t9.u 2).n (t9.u 2).c) rfl
  have x8 := (L6.out.bx (b4) (tv t9) (by simp)).cel 8 (.int .i64 t9.ep) rfl
  have x9 := (L6.out.bx (b4) (tv t9) (by simp)).cel 9 (.int .i64 t9.sg) rfl
  have x10 := (L6.out.bx (b4) (tv t9) (by simp)).cel 10 (.int .i64 t9.rt) rfl
  have x11 := (L6.out.bx (b4) (tv t9) (by simp)).cel 11 (.slice t9.o.a t9.o.n t9.o.c) rfl
  have x12 := (L6.out.bx (b4) (tv t9) (by simp)).cel 12 (.int .i64 t9.pc) rfl
  have x13 := (L6.out.bx (b4) (tv t9) (by simp)).cel 13 (.int .i64 t9.x) rfl
  have x14 := (L6.out.bx (b4) (tv t9) (by simp)).cel 14 (.int .i64 t9.y) rfl
  have xl := (L6.out.bx (b4) (tv t9) (by simp)).lt
  have y0 := (L6.out.bx (w.heap.size) (tv t) (by simp)).cel 0 (.bool t.lv) rfl
  have y1 := (L6.out.bx (w.heap.size) (tv t) (by simp)).cel 1 (.int .i64 (t.r 0)) rfl
  have y2 := (L6.out.bx (w.heap.size) (tv t) (by simp)).cel 2 (.int .i64 (t.r 1)) rfl
  have y3 := (L6.out.bx (w.heap.size) (tv t) (by simp)).cel 3 (.int .i64 (t.r 2)) rfl
  have y4 := (L6.out.bx (w.heap.size) (tv t) (by simp)).cel 4 (.int .i64 (t.r 3)) rfl
  have y5 := (L6.out.bx (w.heap.size) (tv t) (by simp)).cel 5 (.slice (t.u 0).a (t.u 0).n (t.u 0).c) rfl
  have y6 := (L6.out.bx (w.heap.size) (tv t) (by simp)).cel 6 (.slice (t.u 1).a (t.u 1).n (t.u 1).c) rfl
  have y7 := (L6.out.bx (w.heap.size) (tv t) (by simp)).cel 7 (.slice (t.u 2).a (t.u 2).n (t.u 2).c) rfl
  have y8 := (L6.out.bx (w.heap.size) (tv t) (by simp)).cel 8 (.int .i64 t.ep) rfl
  have y9 := (L6.out.bx (w.heap.size) (tv t) (by simp)).cel 9 (.int .i64 t.sg) rfl
  have y10 := (L6.out.bx (w.heap.size) (tv t) (by simp)).cel 10 (.int .i64 t.rt) rfl
  have y11 := (L6.out.bx (w.heap.size) (tv t) (by simp)).cel 11 (.slice t.o.a t.o.n t.o.c) rfl
  have y12 := (L6.out.bx (w.heap.size) (tv t) (by simp)).cel 12 (.int .i64 t.pc) rfl
  have y13 := (L6.out.bx (w.heap.size) (tv t) (by simp)).cel 13 (.int .i64 t.x) rfl
  have y14 := (L6.out.bx (w.heap.size) (tv t) (by simp)).cel 14 (.int .i64 t.y) rfl
  have yl := (L6.out.bx (w.heap.size) (tv t) (by simp)).lt
  go_upto_region 9 with fail
  go_region_held3 (fun W => (Lt w W [(b4, tv t9), (w.heap.size, tv t)] [(t9, F, g), (t, F, g)] [] ∧ True) ∧ W.cell? ⟨w.heap.size, 1 + k, none⟩ = some (.int .i64 (t.r k)) ∧ b4 < W.heap.size ∧ W.cell? ⟨b4, 0, none⟩ = some (.bool t9.lv) ∧ W.cell? ⟨b4, 1, none⟩ = some (.int .i64 (t9.r 0)) ∧ W.cell? ⟨b4, 2, none⟩ = some (.int .i64 (t9.r 1)) ∧ W.cell? ⟨b4, 3, none⟩ = some (.int .i64 (t9.r 2)) ∧ W.cell? ⟨b4, 4, none⟩ = some (.int .i64 (t9.r 3)) ∧ W.cell? ⟨b4, 5, none⟩ = some (.slice (t9.u 0).a (t9.u 0).n (t9.u 0).c) ∧ W.cell? ⟨b4, 6, none⟩ = some (.slice (t9.u 1).a (t9.u 1).n (t9.u 1).c) ∧ W.cell? ⟨b4, 7, none⟩ = some (.slice (t9.u 2).a (t9.u 2).n (t9.u 2).c) ∧ W.cell? ⟨b4, 8, none⟩ = some (.int .i64 t9.ep) ∧ W.cell? ⟨b4, 9, none⟩ = some (.int .i64 t9.sg) ∧ W.cell? ⟨b4, 10, none⟩ = some (.int .i64 t9.rt) ∧ W.cell? ⟨b4, 11, none⟩ = some (.slice t9.o.a t9.o.n t9.o.c) ∧ W.cell? ⟨b4, 12, none⟩ = some (.int .i64 t9.pc) ∧ W.cell? ⟨b4, 13, none⟩ = some (.int .i64 t9.x) ∧ W.cell? ⟨b4, 14, none⟩ = some (.int .i64 t9.y) ∧ w.heap.size < W.heap.size ∧ W.cell? ⟨w.heap.size, 0, none⟩ = some (.bool t.lv) ∧ W.cell? ⟨w.heap.size, 1, none⟩ = some (.int .i64 (t.r 0)) ∧ W.cell? ⟨w.heap.size, 2, none⟩ = some (.int .i64 (t.r 1)) ∧ W.cell? ⟨w.heap.size, 3, none⟩ = some (.int .i64 (t.r 2)) ∧ W.cell? ⟨w.heap.size, 4, none⟩ = some (.int .i64 (t.r 3)) ∧ W.cell? ⟨w.heap.size, 5, none⟩ = some (.slice (t.u 0).a (t.u 0).n (t.u 0).c) ∧ W.cell? ⟨w.heap.size, 6, none⟩ = some (.slice (t.u 1).a (t.u 1).n (t.u 1).c) ∧ W.cell? ⟨w.heap.size, 7, none⟩ = some (.slice (t.u 2).a (t.u 2).n (t.u 2).c) ∧ W.cell? ⟨w.heap.size, 8, none⟩ = some (.int .i64 t.ep) ∧ W.cell? ⟨w.heap.size, 9, none⟩ = some (.int .i64 t.sg) ∧ W.cell? ⟨w.heap.size, 10, none⟩ = some (.int .i64 t.rt) ∧ W.cell? ⟨w.heap.size, 11, none⟩ = some (.slice t.o.a t.o.n t.o.c) ∧ W.cell? ⟨w.heap.size, 12, none⟩ = some (.int .i64 t.pc) ∧ W.cell? ⟨w.heap.size, 13, none⟩ = some (.int .i64 t.x) ∧ W.cell? ⟨w.heap.size, 14, none⟩ = some (.int .i64 t.y)) (first
    | with_reducible exact lt_keep hk (‹(Lt w _ [(b4, tv t9), (w.heap.size, tv t)] _ _ ∧ _) ∧ _›).1 ‹Below _ _ _›
    | with_reducible exact lt_keep hk (And.intro L6.out True.intro) (Below.refl _ _)
    | exact lt_keep hk (And.intro L6.out True.intro) (Ls.below_drawn (Below.refl _ _) 1)) (first
    | ((go_at_call 13; refine (C3.out _ ((‹(Lt w _ [(b4, tv t9), (w.heap.size, tv t)] _ _ ∧ _) ∧ _›).1.1)).mono ?_; rintro e9 w7 ⟨rfl, hb7⟩))
    | ((go_at_call 16; with_reducible refine (C4.out _).mono ?_; rintro e9 w8 ⟨rfl, hb8⟩))
    | ((go_at_call 16; with_reducible refine (C5.out _).mono ?_; rintro e9 w9 ⟨rfl, hb9⟩)))
  go_wp2
  go_ret
  exact ⟨rfl, (‹(Lt w w9 [(b4, tv t9), (w.heap.size, tv t)] _ _ ∧ _) ∧ _›).1.1.bel⟩
theorem walk (t : Ts) (F : Nat → List Int) (g : Nat → O4) (r : Int) (w : World) (h : Th w w.heap.size t F g) (_ : (Lit.int .i64 r).wf = true) : Calls Try.prog 6 #[(.agg #[.bool t.lv, .int .i64 (t.r 0), .int .i64 (t.r 1), .int .i64 (t.r 2), .int .i64 (t.r 3), .slice (t.u 0).a (t.u 0).n (t.u 0).c, .slice (t.u 1).a (t.u 1).n (t.u 1).c, .slice (t.u 2).a (t.u 2).n (t.u 2).c, .int .i64 t.ep, .int .i64 t.sg, .int .i64 t.rt, .slice t.o.a t.o.n t.o.c, .int .i64 t.pc, .int .i64 t.x, .int .i64 t.y]), .int .i64 r] w fun e w' => e = .returned (.bool true) ∧ Below w.heap.size w w' := by
  cases hf : fewT t with
  | false => exact walk_few t F g r w h hf
  | true =>
    cases hr : inReg r with
    | false =>
      have hn : ¬ (0 ≤ r ∧ r ≤ 3) := of_decide_eq_false hr
      refine walk_no t F g r w h hf hr _ rfl ?_
      simp only [Bool.or_eq_true, decide_eq_true_eq]
      omega
    | true =>
      obtain ⟨k, hk, rfl⟩ := inReg_yes hr
      exact walk_yes t F g k hk w h hf

-- the frame (rtframe.py)
set_option maxRecDepth 100000 in
theorem lifted (os : Os) (started : os.Started) (H : Type) (enc : TypeId × Value → H) :
    ReturnsInHanded {} Try.checked os 6 .any (Rows.regsSameSpec.pre6 enc Try.prog Try.f6 Rows.regsSameRow.domain false) (Rows.regsSameSpec.post enc Try.prog Try.f6 false true false false) := by
  refine returnsInHanded_of_change (C := Try.checked) ownK started (by kernel_rfl) Try.func6
    (ChangeSpec.witness6 (enc := enc) (C := Try.checked) false ⟨#[], #[.agg #[.bool false, .int .i64 0, .int .i64 0, .int .i64 0, .int .i64 0, .slice none 0 0, .slice none 0 0, .slice none 0 0, .int .i64 0, .int .i64 0, .int .i64 0, .slice none 0 0, .int .i64 0, .int .i64 0, .int .i64 0], .int .i64 0], []⟩ 8 (by kernel_rfl) (by kernel_rfl) (by kernel_rfl) (by kernel_rfl)) ?_
  intro W base args ds gs before hval0 hW hcnd _
  have hval : ∀ (j : Nat) t v, Try.f6.params[j]? = some t → args[j]? = some v → Value.okWide Try.prog W .any base t v := hval0
  have hW' := hW
  obtain ⟨p, q, hA0, hV, rfl, hfz, hnd⟩ := hW
  have hA : DataW.TrodAll enc Try.prog W 0 (fun _ => true) true Try.f6.params.toList args.toList ds p := hA0
  rw [Try.params6] at hA hval
  obtain ⟨v0, vs0, d0, ds0, p0, q0, hargs, rfl, rfl, h0, r0⟩ := trodAll_cons hA
  obtain ⟨v1, vs1, d1, ds1, p1, q1, rfl, rfl, rfl, h1, r1⟩ := trodAll_cons r0
  obtain ⟨rfl, rfl, rfl⟩ := trodAll_nil r1
  obtain rfl : args = #[v0, v1] := by cases args; simp_all
  obtain ⟨rfl, rfl⟩ := trodVars_none hV
  have k0 := h0
  have lt0 : ∀ x ∈ p0, x.block < W.heap.size := by obtain ⟨m, hm⟩ := k0; exact DataW.trod_lt m _ _ _ hm
  obtain ⟨t0, z0, g0, rfl, w0⟩ := th_of (hval 0 28 v0 rfl rfl) h0
  obtain ⟨a1, rfl, rfl, rfl, w1⟩ := open_int Try.underlying3 (hval 1 3 v1 rfl rfl) h1
  clear hA0 hval0
  refine (walk t0 z0 g0 a1 W w0 w1).mono fun e W' ⟨he, bel⟩ => ?_
  subst he
  exact ⟨_, rfl, _, _, _, [], _, [], hW', trodAll_mk1 (shut_bool Try.underlying4 _), (trodAll_cons_mk (Below.trod laidK (by kernel_rfl) (of_decide_eq_true (by kernel_rfl)) k0 bel lt0) (trodAll_cons_mk (shut_int Try.underlying3 w1) trodAll_mk0)), rfl, bel.frame _, fun h => by cases h⟩

theorem over : Rows.regsSameRow.holds Try.pinned (OpenSpec.ofChange Rows.regsSameSpec) :=
  OpenClaim.holds_of_wide 6 Try.f6 rfl rfl rfl rfl rfl rfl rfl ⟨rfl, rfl, rfl, rfl, rfl⟩ rfl rfl rfl rfl rfl (by kernel_rfl) Try.func6 (by kernel_rfl)
    (of_decide_eq_true (by kernel_rfl)) (by unfold Func.isWrapper; first | (rw [if_pos (by decide +kernel)]; kernel_rfl) | (rw [if_neg (by decide +kernel)]; exact ⟨rfl, rfl⟩))
    (fun os started H enc _ => lifted os started H enc)

/-- The statement. -/
theorem proved : Rows.RegsSameSaid :=
  over
#print axioms proved
end Go.Proofs.Ytjppimabhefeeaa.RegsSame
