/-
  RegsPuts: what was put is got, and held; other registers stay, and all else does; what was handed in stays: for every thread of at most 220 operations.
-/
import Derived.Test.YtjppimabhefeeaaRtLawK
import Derived.Deep.RegionHeld3
import Derived.Deep.Cut
import Derived.Deep.CutRange
namespace Go.Proofs.Ytjppimabhefeeaa.RegsPuts
open Go.Proofs.Ytjppimabhefeeaa Go.Proofs.Ytjppimabhefeeaa.Rt
open Go.ChangeShapes Go.WideShapes Go.ChangeAt Go.RowKit
set_option maxRecDepth 100000

set_option maxHeartbeats 4000000 in
theorem walk_few (t : Ts) (F : Nat → List Int) (g : Nat → O4) (r a : Int) (w : World) (h : Th w w.heap.size t F g) (hf : fewT t = false) : Calls Try.prog 3 #[(.agg #[.bool t.lv, .int .i64 (t.r 0), .int .i64 (t.r 1), .int .i64 (t.r 2), .int .i64 (t.r 3), .slice (t.u 0).a (t.u 0).n (t.u 0).c, .slice (t.u 1).a (t.u 1).n (t.u 1).c, .slice (t.u 2).a (t.u 2).n (t.u 2).c, .int .i64 t.ep, .int .i64 t.sg, .int .i64 t.rt, .slice t.o.a t.o.n t.o.c, .int .i64 t.pc, .int .i64 t.x, .int .i64 t.y]), .int .i64 r, .int .i64 a] w fun e w' => e = .returned (.bool true) ∧ Below w.heap.size w w' := by
  have HT := Lib.hid h
  have CF := Lib.hid (fun W => rfew_any t W)
  rw [hf] at CF
  clear h hf
  go_enter Try.func3, Try.ntmps3
  go_wp2_with fail
  obtain ⟨W1, hW1⟩ : ∃ W1, W1 = w.alloc (.cells #[.bool t.lv, .int .i64 (t.r 0), .int .i64 (t.r 1), .int .i64 (t.r 2), .int .i64 (t.r 3), .slice (t.u 0).a (t.u 0).n (t.u 0).c, .slice (t.u 1).a (t.u 1).n (t.u 1).c, .slice (t.u 2).a (t.u 2).n (t.u 2).c, .int .i64 t.ep, .int .i64 t.sg, .int .i64 t.rt, .slice t.o.a t.o.n t.o.c, .int .i64 t.pc, .int .i64 t.x, .int .i64 t.y] 28) := ⟨_, rfl⟩
  have L1 : Hid (Lt w W1 [(w.heap.size, tv t)] [(t, F, g)] []) := Lib.hid (by rw [hW1]; exact ((Lt.start w).thread HT.out).lay (tv t) 28)
  rw [← hW1]
  clear hW1
  refine (Rt.awake_any W1).mono ?_
  rintro e9 w1 ⟨rfl, hb9⟩
  have L2 := Lib.hid (L1.out.next hb9)
  clear hb9 L1
  have x0 := (L2.out.bx (w.heap.size) (tv t) (by simp)).cel 0 (.bool t.lv) rfl
  have x1 := (L2.out.bx (w.heap.size) (tv t) (by simp)).cel 1 (.int .i64 (t.r 0)) rfl
  have x2 := (L2.out.bx (w.heap.size) (tv t) (by simp)).cel 2 (.int .i64 (t.r 1)) rfl
  have x3 := (L2.out.bx (w.heap.size) (tv t) (by simp)).cel 3 (.int .i64 (t.r 2)) rfl
  have x4 := (L2.out.bx (w.heap.size) (tv t) (by simp)).cel 4 (.int .i64 (t.r 3)) rfl
  have x5 := (L2.out.bx (w.heap.size) (tv t) (by simp)).cel 5 (.slice (t.u 0).a (t.u 0).n (t.u 0).c) rfl
  have x6 := (L2.out.bx (w.heap.size) (tv t) (by simp)).cel 6 (.slice (t.u 1).a (t.u 1).n (t.u 1).c) rfl
  have x7 := (L2.out.bx (w.heap.size) (tv t) (by simp)).cel 7 (.slice (t.u 2).a (t.u 2).n (t.u 2).c) rfl
  have x8 := (L2.out.bx (w.heap.size) (tv t) (by simp)).cel 8 (.int .i64 t.ep) rfl
  have x9 := (L2.out.bx (w.heap.size) (tv t) (by simp)).cel 9 (.int .i64 t.sg) rfl
  have x10 := (L2.out.bx (w.heap.size) (tv t) (by simp)).cel 10 (.int .i64 t.rt) rfl
  have x11 := (L2.out.bx (w.heap.size) (tv t) (by simp)).cel 11 (.slice t.o.a t.o.n t.o.c) rfl
  have x12 := (L2.out.bx (w.heap.size) (tv t) (by simp)).cel 12 (.int .i64 t.pc) rfl
  have x13 := (L2.out.bx (w.heap.size) (tv t) (by simp)).cel 13 (.int .i64 t.x) rfl
  have x14 := (L2.out.bx (w.heap.size) (tv t) (by simp)).cel 14 (.int .i64 t.y) rfl
  have xl := (L2.out.bx (w.heap.size) (tv t) (by simp)).lt
  go_wp2_with fail
  refine (CF.out w1).mono ?_
  rintro e9 w2 ⟨rfl, hb9⟩
  have L3 := Lib.hid (L2.out.next hb9)
  clear hb9 L2
  clear x0 x1 x2 x3 x4 x5 x6 x7 x8 x9 x10 x11 x12 x13 x14 xl
  have x0 := (L3.out.bx (w.heap.size) (tv t) (by simp)).cel 0 (.bool t.lv) rfl
  have x1 := (L3.out.bx (w.heap.size) (tv t) (by simp)).cel 1 (.int .i64 (t.r 0)) rfl
  have x2 := (L3.out.bx (w.heap.size) (tv t) (by simp)).cel 2 (.int .i64 (t.r 1)) rfl
  have x3 := (L3.out.bx (w.heap.size) (tv t) (by simp)).cel 3 (.int .i64 (t.r 2)) rfl
  have x4 := (L3.out.bx (w.heap.size) (tv t) (by simp)).cel 4 (.int .i64 (t.r 3)) rfl
  have x5 := (L3.out.bx (w.heap.size) (tv t) (by simp)).cel 5 (.slice (t.u 0).a (t.u 0).n (t.u 0).c) rfl
  have x6 := (L3.out.bx (w.heap.size) (tv t) (by simp)).cel 6 (.slice (t.u 1).a (t.u 1).n (t.u 1).c) rfl
  have x7 := (L3.out.bx (w.heap.size) (tv t) (by simp)).cel 7 (.slice (t.u 2).a (t.u 2).n (t.u 2).c) rfl
  have x8 := (L3.out.bx (w.heap.size) (tv t) (by simp)).cel 8 (.int .i64 t.ep) rfl
  have x9 := (L3.out.bx (w.heap.size) (tv t) (by simp)).cel 9 (.int .i64 t.sg) rfl
  have x10 := (L3.out.bx (w.heap.size) (tv t) (by simp)).cel 10 (.int .i64 t.rt) rfl
  have x11 := (L3.out.bx (w.heap.size) (tv t) (by simp)).cel 11 (.slice t.o.a t.o.n t.o.c) rfl
  have x12 := (L3.out.bx (w.heap.size) (tv t) (by simp)).cel 12 (.int .i64 t.pc) rfl
  have x13 := (L3.out.bx (w.heap.size) (tv t) (by simp)).cel 13 (.int .i64 t.x) rfl
  have x14 := (L3.out.bx (w.heap.size) (tv t) (by simp)).cel 14 (.int .i64 t.y) rfl
  have xl := (L3.out.bx (w.heap.size) (tv t) (by simp)).lt
  go_wp2
  go_ret
  exact ⟨rfl, L3.out.bel⟩
set_option maxHeartbeats 4000000 in
theorem walk_no (t : Ts) (F : Nat → List Int) (g : Nat → O4) (r a : Int) (w : World) (h : Th w w.heap.size t F g) (hf : fewT t = true) (hr : inReg r = false) (b : Bool) (hb : decide (r < 0) = b) (hb2 : (b || decide (3 < r)) = true) : Calls Try.prog 3 #[(.agg #[.bool t.lv, .int .i64 (t.r 0), .int .i64 (t.r 1), .int .i64 (t.r 2), .int .i64 (t.r 3), .slice (t.u 0).a (t.u 0).n (t.u 0).c, .slice (t.u 1).a (t.u 1).n (t.u 1).c, .slice (t.u 2).a (t.u 2).n (t.u 2).c, .int .i64 t.ep, .int .i64 t.sg, .int .i64 t.rt, .slice t.o.a t.o.n t.o.c, .int .i64 t.pc, .int .i64 t.x, .int .i64 t.y]), .int .i64 r, .int .i64 a] w fun e w' => e = .returned (.bool true) ∧ Below w.heap.size w w' := by
  have HT := Lib.hid h
  have CF := Lib.hid (fun W => rfew_any t W)
  rw [hf] at CF
  have hp := fewT_parts hf
  have CW := Lib.hid (fun W (hT : Th W W.heap.size t F g) => rown12_any t F g W hT (fun j hj => by have := hp.2 j hj; omega) (by have := hp.1; omega))
  have C2 := Lib.hid (fun W (hT : Th W W.heap.size t F g) => put_any t F g r a W hT (fun j hj => by have := hp.2 j hj; omega) (by have := hp.1; omega))
  have E2 := Lib.hid (getE_no hr)
  have hb3 : decide (3 < r) = true ∨ b = true := by cases b <;> simp_all
  clear h hf hp hr hb2
  go_enter Try.func3, Try.ntmps3
  go_wp2_with fail
  obtain ⟨W1, hW1⟩ : ∃ W1, W1 = w.alloc (.cells #[.bool t.lv, .int .i64 (t.r 0), .int .i64 (t.r 1), .int .i64 (t.r 2), .int .i64 (t.r 3), .slice (t.u 0).a (t.u 0).n (t.u 0).c, .slice (t.u 1).a (t.u 1).n (t.u 1).c, .slice (t.u 2).a (t.u 2).n (t.u 2).c, .int .i64 t.ep, .int .i64 t.sg, .int .i64 t.rt, .slice t.o.a t.o.n t.o.c, .int .i64 t.pc, .int .i64 t.x, .int .i64 t.y] 28) := ⟨_, rfl⟩
  have L1 : Hid (Lt w W1 [(w.heap.size, tv t)] [(t, F, g)] []) := Lib.hid (by rw [hW1]; exact ((Lt.start w).thread HT.out).lay (tv t) 28)
  rw [← hW1]
  clear hW1
  refine (Rt.awake_any W1).mono ?_
  rintro e9 w1 ⟨rfl, hb9⟩
  have L2 := Lib.hid (L1.out.next hb9)
  clear hb9 L1
  have x0 := (L2.out.bx (w.heap.size) (tv t) (by simp)).cel 0 (.bool t.lv) rfl
  have x1 := (L2.out.bx (w.heap.size) (tv t) (by simp)).cel 1 (.int .i64 (t.r 0)) rfl
  have x2 := (L2.out.bx (w.heap.size) (tv t) (by simp)).cel 2 (.int .i64 (t.r 1)) rfl
  have x3 := (L2.out.bx (w.heap.size) (tv t) (by simp)).cel 3 (.int .i64 (t.r 2)) rfl
  have x4 := (L2.out.bx (w.heap.size) (tv t) (by simp)).cel 4 (.int .i64 (t.r 3)) rfl
  have x5 := (L2.out.bx (w.heap.size) (tv t) (by simp)).cel 5 (.slice (t.u 0).a (t.u 0).n (t.u 0).c) rfl
  have x6 := (L2.out.bx (w.heap.size) (tv t) (by simp)).cel 6 (.slice (t.u 1).a (t.u 1).n (t.u 1).c) rfl
  have x7 := (L2.out.bx (w.heap.size) (tv t) (by simp)).cel 7 (.slice (t.u 2).a (t.u 2).n (t.u 2).c) rfl
  have x8 := (L2.out.bx (w.heap.size) (tv t) (by simp)).cel 8 (.int .i64 t.ep) rfl
  have x9 := (L2.out.bx (w.heap.size) (tv t) (by simp)).cel 9 (.int .i64 t.sg) rfl
  have x10 := (L2.out.bx (w.heap.size) (tv t) (by simp)).cel 10 (.int .i64 t.rt) rfl
  have x11 := (L2.out.bx (w.heap.size) (tv t) (by simp)).cel 11 (.slice t.o.a t.o.n t.o.c) rfl
  have x12 := (L2.out.bx (w.heap.size) (tv t) (by simp)).cel 12 (.int .i64 t.pc) rfl
  have x13 := (L2.out.bx (w.heap.size) (tv t) (by simp)).cel 13 (.int .i64 t.x) rfl
  have x14 := (L2.out.bx (w.heap.size) (tv t) (by simp)).cel 14 (.int .i64 t.y) rfl
  have xl := (L2.out.bx (w.heap.size) (tv t) (by simp)).lt
  go_wp2_with fail
  refine (CF.out w1).mono ?_
  rintro e9 w2 ⟨rfl, hb9⟩
  have L3 := Lib.hid (L2.out.next hb9)
  clear hb9 L2
  clear x0 x1 x2 x3 x4 x5 x6 x7 x8 x9 x10 x11 x12 x13 x14 xl
  have x0 := (L3.out.bx (w.heap.size) (tv t) (by simp)).cel 0 (.bool t.lv) rfl
  have x1 := (L3.out.bx (w.heap.size) (tv t) (by simp)).cel 1 (.int .i64 (t.r 0)) rfl
  have x2 := (L3.out.bx (w.heap.size) (tv t) (by simp)).cel 2 (.int .i64 (t.r 1)) rfl
  have x3 := (L3.out.bx (w.heap.size) (tv t) (by simp)).cel 3 (.int .i64 (t.r 2)) rfl
  have x4 := (L3.out.bx (w.heap.size) (tv t) (by simp)).cel 4 (.int .i64 (t.r 3)) rfl
  have x5 := (L3.out.bx (w.heap.size) (tv t) (by simp)).cel 5 (.slice (t.u 0).a (t.u 0).n (t.u 0).c) rfl
  have x6 := (L3.out.bx (w.heap.size) (tv t) (by simp)).cel 6 (.slice (t.u 1).a (t.u 1).n (t.u 1).c) rfl
  have x7 := (L3.out.bx (w.heap.size) (tv t) (by simp)).cel 7 (.slice (t.u 2).a (t.u 2).n (t.u 2).c) rfl
  have x8 := (L3.out.bx (w.heap.size) (tv t) (by simp)).cel 8 (.int .i64 t.ep) rfl
  have x9 := (L3.out.bx (w.heap.size) (tv t) (by simp)).cel 9 (.int .i64 t.sg) rfl
  have x10 := (L3.out.bx (w.heap.size) (tv t) (by simp)).cel 10 (.int .i64 t.rt) rfl
  have x11 := (L3.out.bx (w.heap.size) (tv t) (by simp)).cel 11 (.slice t.o.a t.o.n t.o.c) rfl
  have x12 := (L3.out.bx (w.heap.size) (tv t) (by simp)).cel 12 (.int .i64 t.pc) rfl
  have x13 := (L3.out.bx (w.heap.size) (tv t) (by simp)).cel 13 (.int .i64 t.x) rfl
  have x14 := (L3.out.bx (w.heap.size) (tv t) (by simp)).cel 14 (.int .i64 t.y) rfl
  have xl := (L3.out.bx (w.heap.size) (tv t) (by simp)).lt
  go_wp2_with fail
  refine (CW.out w2 (L3.out.tt t F g (by simp))).mono ?_
  rintro e9 w3 ⟨u, o, hon, he, hth, hx1, hx2, hb9⟩
  obtain ⟨t1, ht1⟩ : ∃ t1, t1 = tw t u o := ⟨_, rfl⟩
  replace he : e9 = .returned (.agg #[.bool t1.lv, .int .i64 (t1.r 0), .int .i64 (t1.r 1), .int .i64 (t1.r 2), .int .i64 (t1.r 3), .slice (t1.u 0).a (t1.u 0).n (t1.u 0).c, .slice (t1.u 1).a (t1.u 1).n (t1.u 1).c, .slice (t1.u 2).a (t1.u 2).n (t1.u 2).c, .int .i64 t1.ep, .int .i64 t1.sg, .int .i64 t1.rt, .slice t1.o.a t1.o.n t1.o.c, .int .i64 t1.pc, .int .i64 t1.x, .int .i64 t1.y]) := he.trans (by subst ht1; rfl)
  rw [← ht1] at hth
  subst he
  have L4 := Lib.hid ((L3.out.next hb9).thread hth)
  have E1 := Lib.hid (And.intro ht1 hon)
  clear hb9 L3 hth hon ht1 hx1 hx2
  clear x0 x1 x2 x3 x4 x5 x6 x7 x8 x9 x10 x11 x12 x13 x14 xl
  go_upto_region 6 with fail
  obtain ⟨W4, hW4⟩ : ∃ W4, W4 = w3.alloc (.cells #[.bool t1.lv, .int .i64 (t1.r 0), .int .i64 (t1.r 1), .int .i64 (t1.r 2), .int .i64 (t1.r 3), .slice (t1.u 0).a (t1.u 0).n (t1.u 0).c, .slice (t1.u 1).a (t1.u 1).n (t1.u 1).c, .slice (t1.u 2).a (t1.u 2).n (t1.u 2).c, .int .i64 t1.ep, .int .i64 t1.sg, .int .i64 t1.rt, .slice t1.o.a t1.o.n t1.o.c, .int .i64 t1.pc, .int .i64 t1.x, .int .i64 t1.y] 28) := ⟨_, rfl⟩
  obtain ⟨b1, hb1⟩ : ∃ b1, b1 = w3.heap.size := ⟨_, rfl⟩
  have L5 := L4.out.lay (tv t1) 28
  rw [← show (W4 : World) = w3.alloc (.cells (tv t1).toArray 28) from hW4] at L5
  rw [← hb1] at L5
  have L5 := Lib.hid L5
  rw [← hW4, ← hb1]
  clear hW4 hb1 L4
  have x0 := (L5.out.bx (w.heap.size) (tv t) (by simp)).cel 0 (.bool t.lv) rfl
  have x1 := (L5.out.bx (w.heap.size) (tv t) (by simp)).cel 1 (.int .i64 (t.r 0)) rfl
  have x2 := (L5.out.bx (w.heap.size) (tv t) (by simp)).cel 2 (.int .i64 (t.r 1)) rfl
  have x3 := (L5.out.bx (w.heap.size) (tv t) (by simp)).cel 3 (.int .i64 (t.r 2)) rfl
  have x4 := (L5.out.bx (w.heap.size) (tv t) (by simp)).cel 4 (.int .i64 (t.r 3)) rfl
  have x5 := (L5.out.bx (w.heap.size) (tv t) (by simp)).cel 5 (.slice (t.u 0).a (t.u 0).n (t.u 0).c) rfl
  have x6 := (L5.out.bx (w.heap.size) (tv t) (by simp)).cel 6 (.slice (t.u 1).a (t.u 1).n (t.u 1).c) rfl
  have x7 := (L5.out.bx (w.heap.size) (tv t) (by simp)).cel 7 (.slice (t.u 2).a (t.u 2).n (t.u 2).c) rfl
  have x8 := (L5.out.bx (w.heap.size) (tv t) (by simp)).cel 8 (.int .i64 t.ep) rfl
  have x9 := (L5.out.bx (w.heap.size) (tv t) (by simp)).cel 9 (.int .i64 t.sg) rfl
  have x10 := (L5.out.bx (w.heap.size) (tv t) (by simp)).cel 10 (.int .i64 t.rt) rfl
  have x11 := (L5.out.bx (w.heap.size) (tv t) (by simp)).cel 11 (.slice t.o.a t.o.n t.o.c) rfl
  have x12 := (L5.out.bx (w.heap.size) (tv t) (by simp)).cel 12 (.int .i64 t.pc) rfl
  have x13 := (L5.out.bx (w.heap.size) (tv t) (by simp)).cel 13 (.int .i64 t.x) rfl
  have x14 := (L5.out.bx (w.heap.size) (tv t) (by simp)).cel 14 (.int .i64 t.y) rfl
  have xl := (L5.out.bx (w.heap.size) (tv t) (by simp)).lt
  go_wp2_with fail
  refine (C2.out W4 (L5.out.tt t F g (by simp))).mono ?_
  rintro e9 w5 ⟨u2, o2, hon, he, hth, hb9⟩
  rw [E2.out] at he
  obtain ⟨t9, ht9⟩ : ∃ t9, t9 = tw (putT t r a) u2 o2 := ⟨_, rfl⟩
  rw [← ht9] at he
  subst he
  have L6 := Lib.hid (L5.out.next hb9)
  clear hb9 L5 hth hon ht9
  clear x0 x1 x2 x3 x4 x5 x6 x7 x8 x9 x10 x11 x12 x13 x14 xl
  cases b
  · obtain hb3 := hb3.resolve_right (by decide)
    go_wp2
    go_ret
    exact ⟨rfl, L6.out.bel.alloc L6.out.bel.size _⟩
  · go_wp2
    go_ret
    exact ⟨rfl, L6.out.bel.alloc L6.out.bel.size _⟩
/-- Whether a is met among the first q. -/
def met (a : Int) (xs : List Int) (q : Nat) : Bool := decide (a = 0 ∨ ∃ i, i < q ∧ xs.getD i 0 = a)
theorem met_zero (a : Int) (xs : List Int) : met a xs 0 = (a == 0) := by
  rw [Bool.eq_iff_iff]
  simp [met]
theorem met_next (a : Int) (xs : List Int) (q : Nat) : met a xs (q + 1) = (met a xs q || (xs.getD q 0 == a)) := by
  rw [Bool.eq_iff_iff]
  simp only [met, decide_eq_true_eq, Bool.or_eq_true, beq_iff_eq]
  constructor
  · rintro (h | ⟨i, hi, e⟩)
    · exact Or.inl (Or.inl h)
    · by_cases hq : i = q
      · subst hq; exact Or.inr e
      · exact Or.inl (Or.inr ⟨i, by omega, e⟩)
  · rintro ((h | ⟨i, hi, e⟩) | e)
    · exact Or.inl h
    · exact Or.inr ⟨i, by omega, e⟩
    · exact Or.inr ⟨q, by omega, e⟩
theorem met_all (t : Ts) {k : Nat} (hk : k < 4) (a : Int) : met a (holdL (tr t (Ls.upd t.r k a))) (holdL (tr t (Ls.upd t.r k a))).length = true := by
  refine decide_eq_true ?_
  by_cases h : a = 0
  · exact Or.inl h
  · exact Or.inr (hold_put t k hk a h)
theorem hold_tw (t : Ts) (u : Nat → Ls.Sl) (o : Ls.Sl) : holdL (tw t u o) = holdL t := rfl
theorem reg_at (t : Ts) (k : Nat) (a : Int) (u : Nat → Ls.Sl) (o : Ls.Sl) : (tw (tr t (Ls.upd t.r k a)) u o).r k = a := Ls.upd_same _ _ _
theorem reg_other (t : Ts) {k i : Nat} (h : ¬ i = k) (a : Int) (u : Nat → Ls.Sl) (o : Ls.Sl) : (tw (tr t (Ls.upd t.r k a)) u o).r i = t.r i := Ls.upd_other _ _ h
/-- With t's registers again it is t. -/
theorem back (t : Ts) (k : Nat) (a : Int) (u : Nat → Ls.Sl) (o : Ls.Sl) : tr (tw (tr t (Ls.upd t.r k a)) u o) t.r = tw t u o := rfl
theorem box_back {W : World} {b : Nat} {t9 : Ts} {r : Nat → Int} (h : Box W b (tv t9)) : Box ((((W.setCell ⟨b, 1, none⟩ (.int .i64 (r 0))).setCell ⟨b, 2, none⟩ (.int .i64 (r 1))).setCell ⟨b, 3, none⟩ (.int .i64 (r 2))).setCell ⟨b, 4, none⟩ (.int .i64 (r 3))) b (tv (tr t9 r)) :=
  (((h.set 1 (.int .i64 (r 0))).set 2 (.int .i64 (r 1))).set 3 (.int .i64 (r 2))).set 4 (.int .i64 (r 3))
section
variable {w W W' : World} {b b1 : Nat} {t t1 t9 : Ts} {F : Nat → List Int} {g : Nat → O4} {rs : List (Ls.Sl × List Int)}
/-- The copy's registers are stored to: all else stays. -/
theorem lt_back {B : Nat} (h : Lt w W [(b, tv t9), (b1, tv t1), (w.heap.size, tv t)] [(t9, F, g), (t1, F, g), (t, F, g)] rs) (hB : w.heap.size ≤ B) (hb : B = b) (h1 : b1 < b) (h0 : w.heap.size < b) (hth : Th W B t9 F g ∧ Th W B t1 F g ∧ Th W B t F g) (t5 : Ts) (e5 : t5 = tr t9 t.r)
    (hW : W' = (((W.setCell ⟨b, 1, none⟩ (.int .i64 (t.r 0))).setCell ⟨b, 2, none⟩ (.int .i64 (t.r 1))).setCell ⟨b, 3, none⟩ (.int .i64 (t.r 2))).setCell ⟨b, 4, none⟩ (.int .i64 (t.r 3))) :
    Lt w W' [(b, tv t5), (b1, tv t1), (w.heap.size, tv t)] [(t5, F, g), (t1, F, g), (t, F, g)] [] := by
  subst hb
  have bw : Below B W W' := by
    rw [hW]
    exact ((((Below.refl _ _).setCell (p := ⟨B, 1, none⟩) (Nat.le_refl _) _).setCell (p := ⟨B, 2, none⟩) (Nat.le_refl _) _).setCell (p := ⟨B, 3, none⟩) (Nat.le_refl _) _).setCell (p := ⟨B, 4, none⟩) (Nat.le_refl _) _
  have hbl := (h.bx B (tv t9) (by simp)).lt
  have hs := bw.size
  refine ⟨h.bel.trans (bw.mono hB), fun x hx => ?_, fun x hx => ?_, fun x hx => by cases hx⟩
  · simp only [List.mem_cons, List.not_mem_nil, or_false] at hx
    rcases hx with rfl | rfl | rfl
    · rw [hW, e5]
      exact box_back (h.bx B (tv t9) (by simp))
    · exact (h.bx b1 (tv t1) (by simp)).same (bw.block _ h1) hs
    · exact (h.bx w.heap.size (tv t) (by simp)).same (bw.block _ h0) hs
  · simp only [List.mem_cons, List.not_mem_nil, or_false] at hx
    have hle : B ≤ W'.heap.size := by omega
    rcases hx with rfl | rfl | rfl
    · have q := hth.1.below bw
      rw [e5]
      exact ⟨q.c.more hle, q.o.more hle⟩
    · have q := hth.2.1.below bw
      exact ⟨q.c.more hle, q.o.more hle⟩
    · have q := hth.2.2.below bw
      exact ⟨q.c.more hle, q.o.more hle⟩
theorem lt_three (h : Lt w W [(b, tv t9), (b1, tv t1), (w.heap.size, tv t)] [(t9, F, g), (t1, F, g), (t, F, g)] rs ∧ True) (hb : Below W.heap.size W W') : (Lt w W' [(b, tv t9), (b1, tv t1), (w.heap.size, tv t)] [(t9, F, g), (t1, F, g), (t, F, g)] rs ∧ True) ∧ b < W'.heap.size ∧ W'.cell? ⟨b, 0, none⟩ = some (.bool t9.lv) ∧ W'.cell? ⟨b, 1, none⟩ = some (.int .i64 (t9.r 0)) ∧ W'.cell? ⟨b, 2, none⟩ = some (.int .i64 (t9.r 1)) ∧ W'.cell? ⟨b, 3, none⟩ = some (.int .i64 (t9.r 2)) ∧ W'.cell? ⟨b, 4, none⟩ = some (.int .i64 (t9.r 3)) ∧ W'.cell? ⟨b, 5, none⟩ = some (.slice (t9.u 0).a (t9.u 0).n (t9.u 0).c) ∧ W'.cell? ⟨b, 6, none⟩ = some (.slice (t9.u 1).a (t9.u 1).n (t9.u 1).c) ∧ W'.cell? ⟨b, 7, none⟩ = some (.slice (t9.u 2).a (t9.u 2).n (t9.u 2).c) ∧ W'.cell? ⟨b, 8, none⟩ = some (.int .i64 t9.ep) ∧ W'.cell? ⟨b, 9, none⟩ = some (.int .i64 t9.sg) ∧ W'.cell? ⟨b, 10, none⟩ = some (.int .i64 t9.rt) ∧ W'.cell? ⟨b, 11, none⟩ = some (.slice t9.o.a t9.o.n t9.o.c) ∧ W'.cell? ⟨b, 12, none⟩ = some (.int .i64 t9.pc) ∧ W'.cell? ⟨b, 13, none⟩ = some (.int .i64 t9.x) ∧ W'.cell? ⟨b, 14, none⟩ = some (.int .i64 t9.y) ∧ b1 < W'.heap.size ∧ W'.cell? ⟨b1, 0, none⟩ = some (.bool t1.lv) ∧ W'.cell? ⟨b1, 1, none⟩ = some (.int .i64 (t1.r 0)) ∧ W'.cell? ⟨b1, 2, none⟩ = some (.int .i64 (t1.r 1)) ∧ W'.cell? ⟨b1, 3, none⟩ = some (.int .i64 (t1.r 2)) ∧ W'.cell? ⟨b1, 4, none⟩ = some (.int .i64 (t1.r 3)) ∧ W'.cell? ⟨b1, 5, none⟩ = some (.slice (t1.u 0).a (t1.u 0).n (t1.u 0).c) ∧ W'.cell? ⟨b1, 6, none⟩ = some (.slice (t1.u 1).a (t1.u 1).n (t1.u 1).c) ∧ W'.cell? ⟨b1, 7, none⟩ = some (.slice (t1.u 2).a (t1.u 2).n (t1.u 2).c) ∧ W'.cell? ⟨b1, 8, none⟩ = some (.int .i64 t1.ep) ∧ W'.cell? ⟨b1, 9, none⟩ = some (.int .i64 t1.sg) ∧ W'.cell? ⟨b1, 10, none⟩ = some (.int .i64 t1.rt) ∧ W'.cell? ⟨b1, 11, none⟩ = some (.slice t1.o.a t1.o.n t1.o.c) ∧ W'.cell? ⟨b1, 12, none⟩ = some (.int .i64 t1.pc) ∧ W'.cell? ⟨b1, 13, none⟩ = some (.int .i64 t1.x) ∧ W'.cell? ⟨b1, 14, none⟩ = some (.int .i64 t1.y) ∧ w.heap.size < W'.heap.size ∧ W'.cell? ⟨w.heap.size, 0, none⟩ = some (.bool t.lv) ∧ W'.cell? ⟨w.heap.size, 1, none⟩ = some (.int .i64 (t.r 0)) ∧ W'.cell? ⟨w.heap.size, 2, none⟩ = some (.int .i64 (t.r 1)) ∧ W'.cell? ⟨w.heap.size, 3, none⟩ = some (.int .i64 (t.r 2)) ∧ W'.cell? ⟨w.heap.size, 4, none⟩ = some (.int .i64 (t.r 3)) ∧ W'.cell? ⟨w.heap.size, 5, none⟩ = some (.slice (t.u 0).a (t.u 0).n (t.u 0).c) ∧ W'.cell? ⟨w.heap.size, 6, none⟩ = some (.slice (t.u 1).a (t.u 1).n (t.u 1).c) ∧ W'.cell? ⟨w.heap.size, 7, none⟩ = some (.slice (t.u 2).a (t.u 2).n (t.u 2).c) ∧ W'.cell? ⟨w.heap.size, 8, none⟩ = some (.int .i64 t.ep) ∧ W'.cell? ⟨w.heap.size, 9, none⟩ = some (.int .i64 t.sg) ∧ W'.cell? ⟨w.heap.size, 10, none⟩ = some (.int .i64 t.rt) ∧ W'.cell? ⟨w.heap.size, 11, none⟩ = some (.slice t.o.a t.o.n t.o.c) ∧ W'.cell? ⟨w.heap.size, 12, none⟩ = some (.int .i64 t.pc) ∧ W'.cell? ⟨w.heap.size, 13, none⟩ = some (.int .i64 t.x) ∧ W'.cell? ⟨w.heap.size, 14, none⟩ = some (.int .i64 t.y) := by
  have g := h.1.next hb
  obtain ⟨p0, p1, p2, p3, p4, p5, p6, p7, p8, p9, p10, p11, p12, p13, p14, p15⟩ := ts_of (g.bx b (tv t9) (by simp))
  obtain ⟨q0, q1, q2, q3, q4, q5, q6, q7, q8, q9, q10, q11, q12, q13, q14, q15⟩ := ts_of (g.bx b1 (tv t1) (by simp))
  exact ⟨⟨g, trivial⟩, p0, p1, p2, p3, p4, p5, p6, p7, p8, p9, p10, p11, p12, p13, p14, p15, q0, q1, q2, q3, q4, q5, q6, q7, q8, q9, q10, q11, q12, q13, q14, q15, ts_of (g.bx w.heap.size (tv t) (by simp))⟩
end
set_option maxHeartbeats 8000000 in
theorem walk_yes (t : Ts) (F : Nat → List Int) (g : Nat → O4) (k : Nat) (hk : k < 4) (a : Int) (w : World) (h : Th w w.heap.size t F g) (hf : fewT t = true) : Calls Try.prog 3 #[(.agg #[.bool t.lv, .int .i64 (t.r 0), .int .i64 (t.r 1), .int .i64 (t.r 2), .int .i64 (t.r 3), .slice (t.u 0).a (t.u 0).n (t.u 0).c, .slice (t.u 1).a (t.u 1).n (t.u 1).c, .slice (t.u 2).a (t.u 2).n (t.u 2).c, .int .i64 t.ep, .int .i64 t.sg, .int .i64 t.rt, .slice t.o.a t.o.n t.o.c, .int .i64 t.pc, .int .i64 t.x, .int .i64 t.y]), .int .i64 (k : Int), .int .i64 a] w fun e w' => e = .returned (.bool true) ∧ Below w.heap.size w w' := by
  have HT := Lib.hid h
  have CF := Lib.hid (fun W => rfew_any t W)
  rw [hf] at CF
  have hp := fewT_parts hf
  have CW := Lib.hid (fun W (hT : Th W W.heap.size t F g) => rown12_any t F g W hT (fun j hj => by have := hp.2 j hj; omega) (by have := hp.1; omega))
  have C2 := Lib.hid (fun W (hT : Th W W.heap.size t F g) => put_any t F g k a W hT (fun j hj => by have := hp.2 j hj; omega) (by have := hp.1; omega))
  have EE := Lib.hid (And.intro (getE_at hk) (And.intro (putT_at hk t a) (putF_at hk F)))
  have FL := Lib.hid (And.intro (th_len h hp.2) hp.1)
  have CG := Lib.hid (fun i (hi : i < 4) W => get_yes t i hi W)
  have k0 : decide ((0 : Int) ≤ (k : Int)) = true := decide_eq_true (by omega)
  have k3 : decide ((k : Int) ≤ 3) = true := decide_eq_true (by omega)
  have k3n : decide (k ≤ 3) = true := decide_eq_true (by omega)
  clear h hf hp
  go_enter Try.func3, Try.ntmps3
  go_wp2_with fail
  obtain ⟨W1, hW1⟩ : ∃ W1, W1 = w.alloc (.cells #[.bool t.lv, .int .i64 (t.r 0), .int .i64 (t.r 1), .int .i64 (t.r 2), .int .i64 (t.r 3), .slice (t.u 0).a (t.u 0).n (t.u 0).c, .slice (t.u 1).a (t.u 1).n (t.u 1).c, .slice (t.u 2).a (t.u 2).n (t.u 2).c, .int .i64 t.ep, .int .i64 t.sg, .int .i64 t.rt, .slice t.o.a t.o.n t.o.c, .int .i64 t.pc, .int .i64 t.x, .int .i64 t.y] 28) := ⟨_, rfl⟩
  have L1 : Hid (Lt w W1 [(w.heap.size, tv t)] [(t, F, g)] []) := Lib.hid (by rw [hW1]; exact ((Lt.start w).thread HT.out).lay (tv t) 28)
  rw [← hW1]
  clear hW1
  refine (Rt.awake_any W1).mono ?_
  rintro e9 w1 ⟨rfl, hb9⟩
  have L2 := Lib.hid (L1.out.next hb9)
  clear hb9 L1
  have x0 := (L2.out.bx (w.heap.size) (tv t) (by simp)).cel 0 (.bool t.lv) rfl
  have x1 := (L2.out.bx (w.heap.size) (tv t) (by simp)).cel 1 (.int .i64 (t.r 0)) rfl
  have x2 := (L2.out.bx (w.heap.size) (tv t) (by simp)).cel 2 (.int .i64 (t.r 1)) rfl
  have x3 := (L2.out.bx (w.heap.size) (tv t) (by simp)).cel 3 (.int .i64 (t.r 2)) rfl
  have x4 := (L2.out.bx (w.heap.size) (tv t) (by simp)).cel 4 (.int .i64 (t.r 3)) rfl
  have x5 := (L2.out.bx (w.heap.size) (tv t) (by simp)).cel 5 (.slice (t.u 0).a (t.u 0).n (t.u 0).c) rfl
  have x6 := (L2.out.bx (w.heap.size) (tv t) (by simp)).cel 6 (.slice (t.u 1).a (t.u 1).n (t.u 1).c) rfl
  have x7 := (L2.out.bx (w.heap.size) (tv t) (by simp)).cel 7 (.slice (t.u 2).a (t.u 2).n (t.u 2).c) rfl
  have x8 := (L2.out.bx (w.heap.size) (tv t) (by simp)).cel 8 (.int .i64 t.ep) rfl
  have x9 := (L2.out.bx (w.heap.size) (tv t) (by simp)).cel 9 (.int .i64 t.sg) rfl
  have x10 := (L2.out.bx (w.heap.size) (tv t) (by simp)).cel 10 (.int .i64 t.rt) rfl
  have x11 := (L2.out.bx (w.heap.size) (tv t) (by simp)).cel 11 (.slice t.o.a t.o.n t.o.c) rfl
  have x12 := (L2.out.bx (w.heap.size) (tv t) (by simp)).cel 12 (.int .i64 t.pc) rfl
  have x13 := (L2.out.bx (w.heap.size) (tv t) (by simp)).cel 13 (.int .i64 t.x) rfl
  have x14 := (L2.out.bx (w.heap.size) (tv t) (by simp)).cel 14 (.int .i64 t.y) rfl
  have xl := (L2.out.bx (w.heap.size) (tv t) (by simp)).lt
  go_wp2_with fail
  refine (CF.out w1).mono ?_
  rintro e9 w2 ⟨rfl, hb9⟩
  have L3 := Lib.hid (L2.out.next hb9)
  clear hb9 L2
  clear x0 x1 x2 x3 x4 x5 x6 x7 x8 x9 x10 x11 x12 x13 x14 xl
  have x0 := (L3.out.bx (w.heap.size) (tv t) (by simp)).cel 0 (.bool t.lv) rfl
  have x1 := (L3.out.bx (w.heap.size) (tv t) (by simp)).cel 1 (.int .i64 (t.r 0)) rfl
  have x2 := (L3.out.bx (w.heap.size) (tv t) (by simp)).cel 2 (.int .i64 (t.r 1)) rfl
  have x3 := (L3.out.bx (w.heap.size) (tv t) (by simp)).cel 3 (.int .i64 (t.r 2)) rfl
  have x4 := (L3.out.bx (w.heap.size) (tv t) (by simp)).cel 4 (.int .i64 (t.r 3)) rfl
  have x5 := (L3.out.bx (w.heap.size) (tv t) (by simp)).cel 5 (.slice (t.u 0).a (t.u 0).n (t.u 0).c) rfl
  have x6 := (L3.out.bx (w.heap.size) (tv t) (by simp)).cel 6 (.slice (t.u 1).a (t.u 1).n (t.u 1).c) rfl
  have x7 := (L3.out.bx (w.heap.size) (tv t) (by simp)).cel 7 (.slice (t.u 2).a (t.u 2).n (t.u 2).c) rfl
  have x8 := (L3.out.bx (w.heap.size) (tv t) (by simp)).cel 8 (.int .i64 t.ep) rfl
  have x9 := (L3.out.bx (w.heap.size) (tv t) (by simp)).cel 9 (.int .i64 t.sg) rfl
  have x10 := (L3.out.bx (w.heap.size) (tv t) (by simp)).cel 10 (.int .i64 t.rt) rfl
  have x11 := (L3.out.bx (w.heap.size) (tv t) (by simp)).cel 11 (.slice t.o.a t.o.n t.o.c) rfl
  have x12 := (L3.out.bx (w.heap.size) (tv t) (by simp)).cel 12 (.int .i64 t.pc) rfl
  have x13 := (L3.out.bx (w.heap.size) (tv t) (by simp)).cel 13 (.int .i64 t.x) rfl
  have x14 := (L3.out.bx (w.heap.size) (tv t) (by simp)).cel 14 (.int .i64 t.y) rfl
  have xl := (L3.out.bx (w.heap.size) (tv t) (by simp)).lt
  go_wp2_with fail
  refine (CW.out w2 (L3.out.tt t F g (by simp))).mono ?_
  rintro e9 w3 ⟨u, o, hon, he, hth, hx1, hx2, hb9⟩
  obtain ⟨t1, ht1⟩ : ∃ t1, t1 = tw t u o := ⟨_, rfl⟩
  replace he : e9 = .returned (.agg #[.bool t1.lv, .int .i64 (t1.r 0), .int .i64 (t1.r 1), .int .i64 (t1.r 2), .int .i64 (t1.r 3), .slice (t1.u 0).a (t1.u 0).n (t1.u 0).c, .slice (t1.u 1).a (t1.u 1).n (t1.u 1).c, .slice (t1.u 2).a (t1.u 2).n (t1.u 2).c, .int .i64 t1.ep, .int .i64 t1.sg, .int .i64 t1.rt, .slice t1.o.a t1.o.n t1.o.c, .int .i64 t1.pc, .int .i64 t1.x, .int .i64 t1.y]) := he.trans (by subst ht1; rfl)
  rw [← ht1] at hth
  subst he
  have L4 := Lib.hid ((L3.out.next hb9).thread hth)
  have E1 := Lib.hid (And.intro ht1 hon)
  clear hb9 L3 hth hon ht1 hx1 hx2
  clear x0 x1 x2 x3 x4 x5 x6 x7 x8 x9 x10 x11 x12 x13 x14 xl
  go_upto_region 6 with fail
  obtain ⟨W4, hW4⟩ : ∃ W4, W4 = w3.alloc (.cells #[.bool t1.lv, .int .i64 (t1.r 0), .int .i64 (t1.r 1), .int .i64 (t1.r 2), .int .i64 (t1.r 3), .slice (t1.u 0).a (t1.u 0).n (t1.u 0).c, .slice (t1.u 1).a (t1.u 1).n (t1.u 1).c, .slice (t1.u 2).a (t1.u 2).n (t1.u 2).c, .int .i64 t1.ep, .int .i64 t1.sg, .int .i64 t1.rt, .slice t1.o.a t1.o.n t1.o.c, .int .i64 t1.pc, .int .i64 t1.x, .int .i64 t1.y] 28) := ⟨_, rfl⟩
  obtain ⟨b1, hb1⟩ : ∃ b1, b1 = w3.heap.size := ⟨_, rfl⟩
  have L5 := L4.out.lay (tv t1) 28
  rw [← show (W4 : World) = w3.alloc (.cells (tv t1).toArray 28) from hW4] at L5
  rw [← hb1] at L5
  have L5 := Lib.hid L5
  rw [← hW4, ← hb1]
  clear hW4 hb1 L4
  have x0 := (L5.out.bx (w.heap.size) (tv t) (by simp)).cel 0 (.bool t.lv) rfl
  have x1 := (L5.out.bx (w.heap.size) (tv t) (by simp)).cel 1 (.int .i64 (t.r 0)) rfl
  have x2 := (L5.out.bx (w.heap.size) (tv t) (by simp)).cel 2 (.int .i64 (t.r 1)) rfl
  have x3 := (L5.out.bx (w.heap.size) (tv t) (by simp)).cel 3 (.int .i64 (t.r 2)) rfl
  have x4 := (L5.out.bx (w.heap.size) (tv t) (by simp)).cel 4 (.int .i64 (t.r 3)) rfl
  have x5 := (L5.out.bx (w.heap.size) (tv t) (by simp)).cel 5 (.slice (t.u 0).a (t.u 0).n (t.u 0).c) rfl
  have x6 := (L5.out.bx (w.heap.size) (tv t) (by simp)).cel 6 (.slice (t.u 1).a (t.u 1).n (t.u 1).c) rfl
  have x7 := (L5.out.bx (w.heap.size) (tv t) (by simp)).cel 7 (.slice (t.u 2).a (t.u 2).n (t.u 2).c) rfl
  have x8 := (L5.out.bx (w.heap.size) (tv t) (by simp)).cel 8 (.int .i64 t.ep) rfl
  have x9 := (L5.out.bx (w.heap.size) (tv t) (by simp)).cel 9 (.int .i64 t.sg) rfl
  have x10 := (L5.out.bx (w.heap.size) (tv t) (by simp)).cel 10 (.int .i64 t.rt) rfl
  have x11 := (L5.out.bx (w.heap.size) (tv t) (by simp)).cel 11 (.slice t.o.a t.o.n t.o.c) rfl
  have x12 := (L5.out.bx (w.heap.size) (tv t) (by simp)).cel 12 (.int .i64 t.pc) rfl
  have x13 := (L5.out.bx (w.heap.size) (tv t) (by simp)).cel 13 (.int .i64 t.x) rfl
  have x14 := (L5.out.bx (w.heap.size) (tv t) (by simp)).cel 14 (.int .i64 t.y) rfl
  have xl := (L5.out.bx (w.heap.size) (tv t) (by simp)).lt
  go_wp2_with fail
  refine (C2.out W4 (L5.out.tt t F g (by simp))).mono ?_
  rintro e9 w5 ⟨u2, o2, hon, he, hth, hb9⟩
  rw [EE.out.1, EE.out.2.1] at he
  rw [EE.out.2.1] at hon
  rw [EE.out.2.1, EE.out.2.2] at hth
  obtain ⟨t9, ht9⟩ : ∃ t9, t9 = tw (tr t (Ls.upd t.r k a)) u2 o2 := ⟨_, rfl⟩
  rw [← ht9] at he hth
  subst he
  have L6 := Lib.hid ((L5.out.next hb9).thread hth)
  have E9 := Lib.hid (And.intro ht9 hon)
  have M9 := Lib.hid (L6.out.bel.size)
  have B1 := Lib.hid ((L6.out.bx b1 (tv t1) (by simp)).lt)
  clear hb9 L5 hth hon ht9
  clear x0 x1 x2 x3 x4 x5 x6 x7 x8 x9 x10 x11 x12 x13 x14 xl
  go_upto_region 7 with fail
  obtain ⟨W7, hW7⟩ : ∃ W7, W7 = w5.alloc (.cells #[.bool t9.lv, .int .i64 (t9.r 0), .int .i64 (t9.r 1), .int .i64 (t9.r 2), .int .i64 (t9.r 3), .slice (t9.u 0).a (t9.u 0).n (t9.u 0).c, .slice (t9.u 1).a (t9.u 1).n (t9.u 1).c, .slice (t9.u 2).a (t9.u 2).n (t9.u 2).c, .int .i64 t9.ep, .int .i64 t9.sg, .int .i64 t9.rt, .slice t9.o.a t9.o.n t9.o.c, .int .i64 t9.pc, .int .i64 t9.x, .int .i64 t9.y] 28) := ⟨_, rfl⟩
  obtain ⟨b, hb⟩ : ∃ b, b = w5.heap.size := ⟨_, rfl⟩
  have L7 := L6.out.lay (tv t9) 28
  rw [← show (W7 : World) = w5.alloc (.cells (tv t9).toArray 28) from hW7] at L7
  rw [← hb] at L7 B1 M9
  have L7 := Lib.hid L7
  have hbw : Below w5.heap.size w5 W7 := by rw [hW7]; exact (Below.refl _ _).alloc (Nat.le_refl _) _
  have TB : Hid (Th W7 b t9 F g ∧ Th W7 b t1 F g ∧ Th W7 b t F g) := Lib.hid (by rw [hb]; exact ⟨(L6.out.tt t9 F g (by simp)).below hbw, (L6.out.tt t1 F g (by simp)).below hbw, (L6.out.tt t F g (by simp)).below hbw⟩)
  have S7 := Lib.hid (show w.heap.size < b by have := (L6.out.bx (w.heap.size) (tv t) (by simp)).lt; omega)
  have Z7 := Lib.hid (show b < W7.heap.size from (L7.out.bx b (tv t9) (by simp)).lt)
  have C9 := Lib.hid (fun i (hi : i < 4) W => get_yes t9 i hi W)
  have CH := Lib.hid (fun W => holds_any t9 W)
  rw [← hW7, ← hb]
  clear hW7 hb L6 hbw
  go_cut [40] from 20 to 39 (fun v wc => v = .bool false ∧ W7 = wc)
  case first =>
    go_wp2
    go_meet
    exact ⟨rfl, rfl⟩
  case rest =>
    obtain ⟨rfl, rfl⟩ := hcut
    clear HT CF CW C2
    as_aux_lemma =>
      go_wp2
      go_loopw [12, 13, 14, 15, 16] (fun i _ _ _ _ wr => ∃ q : Nat, q ≤ 4 ∧ i = .int .i64 q ∧ Hid (Lt w wr [(b, tv t9), (b1, tv t1), (w.heap.size, tv t)] [(t9, F, g), (t1, F, g), (t, F, g)] [] ∧ Below W7.heap.size W7 wr)) (fun i _ _ _ _ _ => 4 - (intOf i).toNat)
      case atStart => exact ⟨0, by omega, rfl, Lib.hid ⟨L7.out, Below.refl _ _⟩⟩
      case round =>
        obtain ⟨q, hq, rfl, HA⟩ := hrel
        by_cases hlt : q < 4
        · have hlt' : (q : Int) < 4 := by omega
          have LA := Lib.hid HA.out.1
          have x0 := (LA.out.bx b (tv t9) (by simp)).cel 0 (.bool t9.lv) rfl
          have x1 := (LA.out.bx b (tv t9) (by simp)).cel 1 (.int .i64 (t9.r 0)) rfl
          have x2 := (LA.out.bx b (tv t9) (by simp)).cel 2 (.int .i64 (t9.r 1)) rfl
          have x3 := (LA.out.bx b (tv t9) (by simp)).cel 3 (.int .i64 (t9.r 2)) rfl
          have x4 := (LA.out.bx b (tv t9) (by simp)).cel 4 (.int .i64 (t9.r 3)) rfl
          have x5 := (LA.out.bx b (tv t9) (by simp)).cel 5 (.slice (t9.u 0).a (t9.u 0).n (t9.u 0).c) rfl
          have x6 := (LA.out.bx b (tv t9) (by simp)).cel 6 (.slice (t9.u 1).a (t9.u 1).n (t9.u 1).c) rfl
          have x7 := (LA.out.bx b (tv t9) (by simp)).cel 7 (.slice (t9.u 2).a (t9.u 2).n (t9.u 2).c) rfl
          have x8 := (LA.out.bx b (tv t9) (by simp)).cel 8 (.int .i64 t9.ep) rfl
          have x9 := (LA.out.bx b (tv t9) (by simp)).cel 9 (.int .i64 t9.sg) rfl
          have x10 := (LA.out.bx b (tv t9) (by simp)).cel 10 (.int .i64 t9.rt) rfl
          have x11 := (LA.out.bx b (tv t9) (by simp)).cel 11 (.slice t9.o.a t9.o.n t9.o.c) rfl
          have x12 := (LA.out.bx b (tv t9) (by simp)).cel 12 (.int .i64 t9.pc) rfl
          have x13 := (LA.out.bx b (tv t9) (by simp)).cel 13 (.int .i64 t9.x) rfl
          have x14 := (LA.out.bx b (tv t9) (by simp)).cel 14 (.int .i64 t9.y) rfl
          have xl := (LA.out.bx b (tv t9) (by simp)).lt
          go_wp2_with fail
          refine (C9.out q hlt wr).mono ?_
          rintro e9 w8 ⟨rfl, hb9⟩
          have LB := Lib.hid (LA.out.next hb9)
          have BB := Lib.hid (HA.out.2.trans (hb9.mono HA.out.2.size))
          clear hb9 LA
          clear x0 x1 x2 x3 x4 x5 x6 x7 x8 x9 x10 x11 x12 x13 x14 xl
          have x0 := (LB.out.bx (w.heap.size) (tv t) (by simp)).cel 0 (.bool t.lv) rfl
          have x1 := (LB.out.bx (w.heap.size) (tv t) (by simp)).cel 1 (.int .i64 (t.r 0)) rfl
          have x2 := (LB.out.bx (w.heap.size) (tv t) (by simp)).cel 2 (.int .i64 (t.r 1)) rfl
          have x3 := (LB.out.bx (w.heap.size) (tv t) (by simp)).cel 3 (.int .i64 (t.r 2)) rfl
          have x4 := (LB.out.bx (w.heap.size) (tv t) (by simp)).cel 4 (.int .i64 (t.r 3)) rfl
          have x5 := (LB.out.bx (w.heap.size) (tv t) (by simp)).cel 5 (.slice (t.u 0).a (t.u 0).n (t.u 0).c) rfl
          have x6 := (LB.out.bx (w.heap.size) (tv t) (by simp)).cel 6 (.slice (t.u 1).a (t.u 1).n (t.u 1).c) rfl
          have x7 := (LB.out.bx (w.heap.size) (tv t) (by simp)).cel 7 (.slice (t.u 2).a (t.u 2).n (t.u 2).c) rfl
          have x8 := (LB.out.bx (w.heap.size) (tv t) (by simp)).cel 8 (.int .i64 t.ep) rfl
          have x9 := (LB.out.bx (w.heap.size) (tv t) (by simp)).cel 9 (.int .i64 t.sg) rfl
          have x10 := (LB.out.bx (w.heap.size) (tv t) (by simp)).cel 10 (.int .i64 t.rt) rfl
          have x11 := (LB.out.bx (w.heap.size) (tv t) (by simp)).cel 11 (.slice t.o.a t.o.n t.o.c) rfl
          have x12 := (LB.out.bx (w.heap.size) (tv t) (by simp)).cel 12 (.int .i64 t.pc) rfl
          have x13 := (LB.out.bx (w.heap.size) (tv t) (by simp)).cel 13 (.int .i64 t.x) rfl
          have x14 := (LB.out.bx (w.heap.size) (tv t) (by simp)).cel 14 (.int .i64 t.y) rfl
          have xl := (LB.out.bx (w.heap.size) (tv t) (by simp)).lt
          go_wp2_with fail
          refine (CG.out q hlt w8).mono ?_
          rintro e9 w9 ⟨rfl, hb9⟩
          have LC := Lib.hid (And.intro (LB.out.next hb9) (BB.out.trans (hb9.mono BB.out.size)))
          clear hb9 LB BB
          clear x0 x1 x2 x3 x4 x5 x6 x7 x8 x9 x10 x11 x12 x13 x14 xl
          by_cases hqk : q = k
          · have e1 : t9.r q = a := by rw [E9.out.1, hqk]; exact reg_at t k a u2 o2
            have d1 : ((q : Int) == (k : Int)) = true := by simp [hqk]
            have d2 : ((q : Int) != (k : Int)) = false := by simp [hqk]
            have d3 : (q == k) = true := by simp [hqk]
            have d4 : (q != k) = false := by simp [hqk]
            have d5 : decide (q = k) = true := decide_eq_true hqk
            rw [e1]
            clear hqk e1
            go_wp2
            go_roundw
            case rel => exact ⟨q + 1, by omega, by go_num, LC⟩
            case measure => simp [intOf]; omega
          · have e1 : t9.r q = t.r q := by rw [E9.out.1]; exact reg_other t hqk a u2 o2
            have hqi : ¬ (q : Int) = (k : Int) := by omega
            have d1 : ((q : Int) == (k : Int)) = false := decide_eq_false hqi
            have d2 : ((q : Int) != (k : Int)) = true := by rw [bne, d1]; rfl
            have d3 : (q == k) = false := by simpa using hqk
            have d4 : (q != k) = true := by simpa using hqk
            have d5 : decide (q = k) = false := decide_eq_false hqk
            rw [e1]
            clear hqk e1 hqi
            go_wp2
            go_roundw
            case rel => exact ⟨q + 1, by omega, by go_num, LC⟩
            case measure => simp [intOf]; omega
        · obtain rfl : q = 4 := by omega
          have LA := Lib.hid HA.out.1
          have x0 := (LA.out.bx b (tv t9) (by simp)).cel 0 (.bool t9.lv) rfl
          have x1 := (LA.out.bx b (tv t9) (by simp)).cel 1 (.int .i64 (t9.r 0)) rfl
          have x2 := (LA.out.bx b (tv t9) (by simp)).cel 2 (.int .i64 (t9.r 1)) rfl
          have x3 := (LA.out.bx b (tv t9) (by simp)).cel 3 (.int .i64 (t9.r 2)) rfl
          have x4 := (LA.out.bx b (tv t9) (by simp)).cel 4 (.int .i64 (t9.r 3)) rfl
          have x5 := (LA.out.bx b (tv t9) (by simp)).cel 5 (.slice (t9.u 0).a (t9.u 0).n (t9.u 0).c) rfl
          have x6 := (LA.out.bx b (tv t9) (by simp)).cel 6 (.slice (t9.u 1).a (t9.u 1).n (t9.u 1).c) rfl
          have x7 := (LA.out.bx b (tv t9) (by simp)).cel 7 (.slice (t9.u 2).a (t9.u 2).n (t9.u 2).c) rfl
          have x8 := (LA.out.bx b (tv t9) (by simp)).cel 8 (.int .i64 t9.ep) rfl
          have x9 := (LA.out.bx b (tv t9) (by simp)).cel 9 (.int .i64 t9.sg) rfl
          have x10 := (LA.out.bx b (tv t9) (by simp)).cel 10 (.int .i64 t9.rt) rfl
          have x11 := (LA.out.bx b (tv t9) (by simp)).cel 11 (.slice t9.o.a t9.o.n t9.o.c) rfl
          have x12 := (LA.out.bx b (tv t9) (by simp)).cel 12 (.int .i64 t9.pc) rfl
          have x13 := (LA.out.bx b (tv t9) (by simp)).cel 13 (.int .i64 t9.x) rfl
          have x14 := (LA.out.bx b (tv t9) (by simp)).cel 14 (.int .i64 t9.y) rfl
          have xl := (LA.out.bx b (tv t9) (by simp)).lt
          go_wp2_with fail
          refine (CH.out wr).mono ?_
          rintro e9 w8 ⟨⟨a2, n2, c2⟩, rfl, ho, hb9⟩
          have R8 := all_row ho
          have N8 := Lib.hid (show (holdL t9).length = n2 by have := ho.1; simpa using this)
          have LB := Lib.hid ((LA.out.next hb9).held R8)
          have BB := Lib.hid (HA.out.2.trans (hb9.mono HA.out.2.size))
          have MA : Hid (met a (holdL t9) n2 = true) := Lib.hid (by rw [← N8.out, E9.out.1, hold_tw]; exact met_all t hk a)
          have HR := Lib.hid R8
          have n6 : n2 ≤ 6 := by have := hold_six t9; have := N8.out; omega
          clear ho hb9 R8 LA
          dsimp only at HR
          clear x0 x1 x2 x3 x4 x5 x6 x7 x8 x9 x10 x11 x12 x13 x14 xl
          go_wp2
          go_loopw [19, 17] (fun i h wz => ∃ q : Nat, q ≤ n2 ∧ i = .int .i64 q ∧ h = .bool (met a (holdL t9) q) ∧ wz = w8) (fun i _ _ => n2 - (intOf i).toNat)
          case atStart => exact ⟨0, Nat.zero_le _, rfl, by rw [met_zero], rfl⟩
          case round =>
            obtain ⟨q, hq, rfl, rfl, rfl⟩ := hrel
            by_cases hlt : q < n2
            · obtain ⟨bb, off, rfl, hbl, hc⟩ := HR.out.2 (by show 0 < n2; omega)
              have hcell := hc q hlt
              have hm := met_next a (holdL t9) q
              obtain ⟨x, hx⟩ : ∃ x, x = (holdL t9).getD q 0 := ⟨_, rfl⟩
              rw [← hx] at hcell hm
              clear hc hx
              cases hq1 : met a (holdL t9) q with
              | true =>
                rw [hq1, Bool.true_or] at hm
                have HM := Lib.hid hm
                clear hm hq1
                go_wp2
                go_roundw
                case rel => exact ⟨q + 1, by omega, by go_num, by rw [HM.out], trivial⟩
                case measure => simp [intOf]; omega
              | false =>
                rw [hq1, Bool.false_or] at hm
                have HM := Lib.hid hm
                clear hm hq1
                go_wp2
                go_roundw
                case rel => exact ⟨q + 1, by omega, by go_num, by rw [HM.out], trivial⟩
                case measure => simp [intOf]; omega
            · obtain rfl : q = n2 := by omega
              rw [MA.out]
              have x0 := (LB.out.bx (w.heap.size) (tv t) (by simp)).cel 0 (.bool t.lv) rfl
              have x1 := (LB.out.bx (w.heap.size) (tv t) (by simp)).cel 1 (.int .i64 (t.r 0)) rfl
              have x2 := (LB.out.bx (w.heap.size) (tv t) (by simp)).cel 2 (.int .i64 (t.r 1)) rfl
              have x3 := (LB.out.bx (w.heap.size) (tv t) (by simp)).cel 3 (.int .i64 (t.r 2)) rfl
              have x4 := (LB.out.bx (w.heap.size) (tv t) (by simp)).cel 4 (.int .i64 (t.r 3)) rfl
              have x5 := (LB.out.bx (w.heap.size) (tv t) (by simp)).cel 5 (.slice (t.u 0).a (t.u 0).n (t.u 0).c) rfl
              have x6 := (LB.out.bx (w.heap.size) (tv t) (by simp)).cel 6 (.slice (t.u 1).a (t.u 1).n (t.u 1).c) rfl
              have x7 := (LB.out.bx (w.heap.size) (tv t) (by simp)).cel 7 (.slice (t.u 2).a (t.u 2).n (t.u 2).c) rfl
              have x8 := (LB.out.bx (w.heap.size) (tv t) (by simp)).cel 8 (.int .i64 t.ep) rfl
              have x9 := (LB.out.bx (w.heap.size) (tv t) (by simp)).cel 9 (.int .i64 t.sg) rfl
              have x10 := (LB.out.bx (w.heap.size) (tv t) (by simp)).cel 10 (.int .i64 t.rt) rfl
              have x11 := (LB.out.bx (w.heap.size) (tv t) (by simp)).cel 11 (.slice t.o.a t.o.n t.o.c) rfl
              have x12 := (LB.out.bx (w.heap.size) (tv t) (by simp)).cel 12 (.int .i64 t.pc) rfl
              have x13 := (LB.out.bx (w.heap.size) (tv t) (by simp)).cel 13 (.int .i64 t.x) rfl
              have x14 := (LB.out.bx (w.heap.size) (tv t) (by simp)).cel 14 (.int .i64 t.y) rfl
              have xl := (LB.out.bx (w.heap.size) (tv t) (by simp)).lt
              have y0 := (LB.out.bx b (tv t9) (by simp)).cel 0 (.bool t9.lv) rfl
              have y1 := (LB.out.bx b (tv t9) (by simp)).cel 1 (.int .i64 (t9.r 0)) rfl
              have y2 := (LB.out.bx b (tv t9) (by simp)).cel 2 (.int .i64 (t9.r 1)) rfl
              have y3 := (LB.out.bx b (tv t9) (by simp)).cel 3 (.int .i64 (t9.r 2)) rfl
              have y4 := (LB.out.bx b (tv t9) (by simp)).cel 4 (.int .i64 (t9.r 3)) rfl
              have y5 := (LB.out.bx b (tv t9) (by simp)).cel 5 (.slice (t9.u 0).a (t9.u 0).n (t9.u 0).c) rfl
              have y6 := (LB.out.bx b (tv t9) (by simp)).cel 6 (.slice (t9.u 1).a (t9.u 1).n (t9.u 1).c) rfl
              have y7 := (LB.out.bx b (tv t9) (by simp)).cel 7 (.slice (t9.u 2).a (t9.u 2).n (t9.u 2).c) rfl
              have y8 := (LB.out.bx b (tv t9) (by simp)).cel 8 (.int .i64 t9.ep) rfl
              have y9 := (LB.out.bx b (tv t9) (by simp)).cel 9 (.int .i64 t9.sg) rfl
              have y10 := (LB.out.bx b (tv t9) (by simp)).cel 10 (.int .i64 t9.rt) rfl
              have y11 := (LB.out.bx b (tv t9) (by simp)).cel 11 (.slice t9.o.a t9.o.n t9.o.c) rfl
              have y12 := (LB.out.bx b (tv t9) (by simp)).cel 12 (.int .i64 t9.pc) rfl
              have y13 := (LB.out.bx b (tv t9) (by simp)).cel 13 (.int .i64 t9.x) rfl
              have y14 := (LB.out.bx b (tv t9) (by simp)).cel 14 (.int .i64 t9.y) rfl
              have yl := (LB.out.bx b (tv t9) (by simp)).lt
              have yf := (LB.out.bx b (tv t9) (by simp)).free
              go_upto_region 23 with fail
              obtain ⟨W9, hW9⟩ : ∃ W9, W9 = (((wr.setCell ⟨b, 1, none⟩ (.int .i64 (t.r 0))).setCell ⟨b, 2, none⟩ (.int .i64 (t.r 1))).setCell ⟨b, 3, none⟩ (.int .i64 (t.r 2))).setCell ⟨b, 4, none⟩ (.int .i64 (t.r 3)) := ⟨_, rfl⟩
              obtain ⟨t5, ht5⟩ : ∃ t5, t5 = tr t9 t.r := ⟨_, rfl⟩
              have tb : Below b W7 wr := BB.out.mono (Nat.le_of_lt Z7.out)
              have L9 := Lib.hid (lt_back LB.out M9.out rfl B1.out S7.out ⟨TB.out.1.below tb, TB.out.2.1.below tb, TB.out.2.2.below tb⟩ t5 ht5 hW9)
              have E5 : Hid (t5 = tw t u2 o2 ∧ o2.n = t.o.n) := Lib.hid ⟨by rw [ht5, E9.out.1]; exact back t k a u2 o2, E9.out.2⟩
              rw [← hW9]
              clear hW9 ht5 tb LB BB HR MA N8 yf
              clear x0 x1 x2 x3 x4 x5 x6 x7 x8 x9 x10 x11 x12 x13 x14 xl
              clear y0 y1 y2 y3 y4 y5 y6 y7 y8 y9 y10 y11 y12 y13 y14 yl
              have x0 := (L9.out.bx b (tv t5) (by simp)).cel 0 (.bool t5.lv) rfl
              have x1 := (L9.out.bx b (tv t5) (by simp)).cel 1 (.int .i64 (t5.r 0)) rfl
              have x2 := (L9.out.bx b (tv t5) (by simp)).cel 2 (.int .i64 (t5.r 1)) rfl
              have x3 := (L9.out.bx b (tv t5) (by simp)).cel 3 (.int .i64 (t5.r 2)) rfl
              have x4 := (L9.out.bx b (tv t5) (by simp)).cel 4 (.int .i64 (t5.r 3)) rfl
              have x5 := (L9.out.bx b (tv t5) (by simp)).cel 5 (.slice (t5.u 0).a (t5.u 0).n (t5.u 0).c) rfl
              have x6 := (L9.out.bx b (tv t5) (by simp)).cel 6 (.slice (t5.u 1).a (t5.u 1).n (t5.u 1).c) rfl
              have x7 := (L9.out.bx b (tv t5) (by simp)).cel 7 (.slice (t5.u 2).a (t5.u 2).n (t5.u 2).c) rfl
              have x8 := (L9.out.bx b (tv t5) (by simp)).cel 8 (.int .i64 t5.ep) rfl
              have x9 := (L9.out.bx b (tv t5) (by simp)).cel 9 (.int .i64 t5.sg) rfl
              have x10 := (L9.out.bx b (tv t5) (by simp)).cel 10 (.int .i64 t5.rt) rfl
              have x11 := (L9.out.bx b (tv t5) (by simp)).cel 11 (.slice t5.o.a t5.o.n t5.o.c) rfl
              have x12 := (L9.out.bx b (tv t5) (by simp)).cel 12 (.int .i64 t5.pc) rfl
              have x13 := (L9.out.bx b (tv t5) (by simp)).cel 13 (.int .i64 t5.x) rfl
              have x14 := (L9.out.bx b (tv t5) (by simp)).cel 14 (.int .i64 t5.y) rfl
              have xl := (L9.out.bx b (tv t5) (by simp)).lt
              have y0 := (L9.out.bx (w.heap.size) (tv t) (by simp)).cel 0 (.bool t.lv) rfl
              have y1 := (L9.out.bx (w.heap.size) (tv t) (by simp)).cel 1 (.int .i64 (t.r 0)) rfl
              have y2 := (L9.out.bx (w.heap.size) (tv t) (by simp)).cel 2 (.int .i64 (t.r 1)) rfl
              have y3 := (L9.out.bx (w.heap.size) (tv t) (by simp)).cel 3 (.int .i64 (t.r 2)) rfl
              have y4 := (L9.out.bx (w.heap.size) (tv t) (by simp)).cel 4 (.int .i64 (t.r 3)) rfl
              have y5 := (L9.out.bx (w.heap.size) (tv t) (by simp)).cel 5 (.slice (t.u 0).a (t.u 0).n (t.u 0).c) rfl
              have y6 := (L9.out.bx (w.heap.size) (tv t) (by simp)).cel 6 (.slice (t.u 1).a (t.u 1).n (t.u 1).c) rfl
              have y7 := (L9.out.bx (w.heap.size) (tv t) (by simp)).cel 7 (.slice (t.u 2).a (t.u 2).n (t.u 2).c) rfl
              have y8 := (L9.out.bx (w.heap.size) (tv t) (by simp)).cel 8 (.int .i64 t.ep) rfl
              have y9 := (L9.out.bx (w.heap.size) (tv t) (by simp)).cel 9 (.int .i64 t.sg) rfl
              have y10 := (L9.out.bx (w.heap.size) (tv t) (by simp)).cel 10 (.int .i64 t.rt) rfl
              have y11 := (L9.out.bx (w.heap.size) (tv t) (by simp)).cel 11 (.slice t.o.a t.o.n t.o.c) rfl
              have y12 := (L9.out.bx (w.heap.size) (tv t) (by simp)).cel 12 (.int .i64 t.pc) rfl
              have y13 := (L9.out.bx (w.heap.size) (tv t) (by simp)).cel 13 (.int .i64 t.x) rfl
              have y14 := (L9.out.bx (w.heap.size) (tv t) (by simp)).cel 14 (.int .i64 t.y) rfl
              have yl := (L9.out.bx (w.heap.size) (tv t) (by simp)).lt
              go_wp2_with fail
              refine (rsame_yes t t5 t F g W9 (by rw [E5.out.1]; rfl) rfl (by rw [E5.out.1]; exact E5.out.2.symm) (L9.out.tt t5 F g (by simp)) (L9.out.tt t F g (by simp)) FL.out.1 (by rw [E5.out.1]; have := FL.out.2; have := E5.out.2; show o2.n ≤ _; omega)).mono ?_
              rintro e9 w10 ⟨rfl, hb9⟩
              have L10 := Lib.hid (L9.out.next hb9)
              clear hb9 L9
              clear x0 x1 x2 x3 x4 x5 x6 x7 x8 x9 x10 x11 x12 x13 x14 xl
              clear y0 y1 y2 y3 y4 y5 y6 y7 y8 y9 y10 y11 y12 y13 y14 yl
              have x0 := (L10.out.bx b1 (tv t1) (by simp)).cel 0 (.bool t1.lv) rfl
              have x1 := (L10.out.bx b1 (tv t1) (by simp)).cel 1 (.int .i64 (t1.r 0)) rfl
              have x2 := (L10.out.bx b1 (tv t1) (by simp)).cel 2 (.int .i64 (t1.r 1)) rfl
              have x3 := (L10.out.bx b1 (tv t1) (by simp)).cel 3 (.int .i64 (t1.r 2)) rfl
              have x4 := (L10.out.bx b1 (tv t1) (by simp)).cel 4 (.int .i64 (t1.r 3)) rfl
              have x5 := (L10.out.bx b1 (tv t1) (by simp)).cel 5 (.slice (t1.u 0).a (t1.u 0).n (t1.u 0).c) rfl
              have x6 := (L10.out.bx b1 (tv t1) (by simp)).cel 6 (.slice (t1.u 1).a (t1.u 1).n (t1.u 1).c) rfl
              have x7 := (L10.out.bx b1 (tv t1) (by simp)).cel 7 (.slice (t1.u 2).a (t1.u 2).n (t1.u 2).c) rfl
              have x8 := (L10.out.bx b1 (tv t1) (by simp)).cel 8 (.int .i64 t1.ep) rfl
              have x9 := (L10.out.bx b1 (tv t1) (by simp)).cel 9 (.int .i64 t1.sg) rfl
              have x10 := (L10.out.bx b1 (tv t1) (by simp)).cel 10 (.int .i64 t1.rt) rfl
              have x11 := (L10.out.bx b1 (tv t1) (by simp)).cel 11 (.slice t1.o.a t1.o.n t1.o.c) rfl
              have x12 := (L10.out.bx b1 (tv t1) (by simp)).cel 12 (.int .i64 t1.pc) rfl
              have x13 := (L10.out.bx b1 (tv t1) (by simp)).cel 13 (.int .i64 t1.x) rfl
              have x14 := (L10.out.bx b1 (tv t1) (by simp)).cel 14 (.int .i64 t1.y) rfl
              have xl := (L10.out.bx b1 (tv t1) (by simp)).lt
              have y0 := (L10.out.bx (w.heap.size) (tv t) (by simp)).cel 0 (.bool t.lv) rfl
              have y1 := (L10.out.bx (w.heap.size) (tv t) (by simp)).cel 1 (.int .i64 (t.r 0)) rfl
              have y2 := (L10.out.bx (w.heap.size) (tv t) (by simp)).cel 2 (.int .i64 (t.r 1)) rfl
              have y3 := (L10.out.bx (w.heap.size) (tv t) (by simp)).cel 3 (.int .i64 (t.r 2)) rfl
              have y4 := (L10.out.bx (w.heap.size) (tv t) (by simp)).cel 4 (.int .i64 (t.r 3)) rfl
              have y5 := (L10.out.bx (w.heap.size) (tv t) (by simp)).cel 5 (.slice (t.u 0).a (t.u 0).n (t.u 0).c) rfl
              have y6 := (L10.out.bx (w.heap.size) (tv t) (by simp)).cel 6 (.slice (t.u 1).a (t.u 1).n (t.u 1).c) rfl
              have y7 := (L10.out.bx (w.heap.size) (tv t) (by simp)).cel 7 (.slice (t.u 2).a (t.u 2).n (t.u 2).c) rfl
              have y8 := (L10.out.bx (w.heap.size) (tv t) (by simp)).cel 8 (.int .i64 t.ep) rfl
              have y9 := (L10.out.bx (w.heap.size) (tv t) (by simp)).cel 9 (.int .i64 t.sg) rfl
              have y10 := (L10.out.bx (w.heap.size) (tv t) (by simp)).cel 10 (.int .i64 t.rt) rfl
              have y11 := (L10.out.bx (w.heap.size) (tv t) (by simp)).cel 11 (.slice t.o.a t.o.n t.o.c) rfl
              have y12 := (L10.out.bx (w.heap.size) (tv t) (by simp)).cel 12 (.int .i64 t.pc) rfl
              have y13 := (L10.out.bx (w.heap.size) (tv t) (by simp)).cel 13 (.int .i64 t.x) rfl
              have y14 := (L10.out.bx (w.heap.size) (tv t) (by simp)).cel 14 (.int .i64 t.y) rfl
              have yl := (L10.out.bx (w.heap.size) (tv t) (by simp)).lt
              go_wp2_with fail
              refine (rsame_yes t t t1 F g w10 rfl (by rw [E1.out.1]; rfl) (by rw [E1.out.1]; exact E1.out.2) (L10.out.tt t F g (by simp)) (L10.out.tt t1 F g (by simp)) FL.out.1 (by have := FL.out.2; omega)).mono ?_
              rintro e9 w11 ⟨rfl, hb9⟩
              have L11 := Lib.hid (L10.out.next hb9)
              clear hb9 L10
              go_wp2
              go_ret
              exact ⟨rfl, L11.out.bel⟩
theorem walk (t : Ts) (F : Nat → List Int) (g : Nat → O4) (r a : Int) (w : World) (h : Th w w.heap.size t F g) (_ : (Lit.int .i64 r).wf = true) (_ : (Lit.int .i64 a).wf = true) : Calls Try.prog 3 #[(.agg #[.bool t.lv, .int .i64 (t.r 0), .int .i64 (t.r 1), .int .i64 (t.r 2), .int .i64 (t.r 3), .slice (t.u 0).a (t.u 0).n (t.u 0).c, .slice (t.u 1).a (t.u 1).n (t.u 1).c, .slice (t.u 2).a (t.u 2).n (t.u 2).c, .int .i64 t.ep, .int .i64 t.sg, .int .i64 t.rt, .slice t.o.a t.o.n t.o.c, .int .i64 t.pc, .int .i64 t.x, .int .i64 t.y]), .int .i64 r, .int .i64 a] w fun e w' => e = .returned (.bool true) ∧ Below w.heap.size w w' := by
  cases hf : fewT t with
  | false => exact walk_few t F g r a w h hf
  | true =>
    cases hr : inReg r with
    | false =>
      have hn : ¬ (0 ≤ r ∧ r ≤ 3) := of_decide_eq_false hr
      refine walk_no t F g r a w h hf hr _ rfl ?_
      simp only [Bool.or_eq_true, decide_eq_true_eq]
      omega
    | true =>
      obtain ⟨k, hk, rfl⟩ := inReg_yes hr
      exact walk_yes t F g k hk a w h hf

-- the frame (rtframe.py)
set_option maxRecDepth 100000 in
theorem lifted (os : Os) (started : os.Started) (H : Type) (enc : TypeId × Value → H) :
    ReturnsInHanded {} Try.checked os 3 .any (Rows.regsPutsSpec.pre6 enc Try.prog Try.f3 Rows.regsPutsRow.domain false) (Rows.regsPutsSpec.post enc Try.prog Try.f3 false true false false) := by
  refine returnsInHanded_of_change (C := Try.checked) ownK started (by kernel_rfl) Try.func3
    (ChangeSpec.witness6 (enc := enc) (C := Try.checked) false ⟨#[], #[.agg #[.bool false, .int .i64 0, .int .i64 0, .int .i64 0, .int .i64 0, .slice none 0 0, .slice none 0 0, .slice none 0 0, .int .i64 0, .int .i64 0, .int .i64 0, .slice none 0 0, .int .i64 0, .int .i64 0, .int .i64 0], .int .i64 0, .int .i64 0], []⟩ 8 (by kernel_rfl) (by kernel_rfl) (by kernel_rfl) (by kernel_rfl)) ?_
  intro W base args ds gs before hval0 hW hcnd _
  have hval : ∀ (j : Nat) t v, Try.f3.params[j]? = some t → args[j]? = some v → Value.okWide Try.prog W .any base t v := hval0
  have hW' := hW
  obtain ⟨p, q, hA0, hV, rfl, hfz, hnd⟩ := hW
  have hA : DataW.TrodAll enc Try.prog W 0 (fun _ => true) true Try.f3.params.toList args.toList ds p := hA0
  rw [Try.params3] at hA hval
  obtain ⟨v0, vs0, d0, ds0, p0, q0, hargs, rfl, rfl, h0, r0⟩ := trodAll_cons hA
  obtain ⟨v1, vs1, d1, ds1, p1, q1, rfl, rfl, rfl, h1, r1⟩ := trodAll_cons r0
  obtain ⟨v2, vs2, d2, ds2, p2, q2, rfl, rfl, rfl, h2, r2⟩ := trodAll_cons r1
  obtain ⟨rfl, rfl, rfl⟩ := trodAll_nil r2
  obtain rfl : args = #[v0, v1, v2] := by cases args; simp_all
  obtain ⟨rfl, rfl⟩ := trodVars_none hV
  have k0 := h0
  have lt0 : ∀ x ∈ p0, x.block < W.heap.size := by obtain ⟨m, hm⟩ := k0; exact DataW.trod_lt m _ _ _ hm
  obtain ⟨t0, z0, g0, rfl, w0⟩ := th_of (hval 0 28 v0 rfl rfl) h0
  obtain ⟨a1, rfl, rfl, rfl, w1⟩ := open_int Try.underlying3 (hval 1 3 v1 rfl rfl) h1
  obtain ⟨a2, rfl, rfl, rfl, w2⟩ := open_int Try.underlying3 (hval 2 3 v2 rfl rfl) h2
  clear hA0 hval0
  refine (walk t0 z0 g0 a1 a2 W w0 w1 w2).mono fun e W' ⟨he, bel⟩ => ?_
  subst he
  exact ⟨_, rfl, _, _, _, [], _, [], hW', trodAll_mk1 (shut_bool Try.underlying4 _), (trodAll_cons_mk (Below.trod laidK (by kernel_rfl) (of_decide_eq_true (by kernel_rfl)) k0 bel lt0) (trodAll_cons_mk (shut_int Try.underlying3 w1) (trodAll_cons_mk (shut_int Try.underlying3 w2) trodAll_mk0))), rfl, bel.frame _, fun h => by cases h⟩

theorem over : Rows.regsPutsRow.holds Try.pinned (OpenSpec.ofChange Rows.regsPutsSpec) :=
  OpenClaim.holds_of_wide 3 Try.f3 rfl rfl rfl rfl rfl rfl rfl ⟨rfl, rfl, rfl, rfl, rfl⟩ rfl rfl rfl rfl rfl (by kernel_rfl) Try.func3 (by kernel_rfl)
    (of_decide_eq_true (by kernel_rfl)) (by unfold Func.isWrapper; first | (rw [if_pos (by decide +kernel)]; kernel_rfl) | (rw [if_neg (by decide +kernel)]; exact ⟨rfl, rfl⟩))
    (fun os started H enc _ => lifted os started H enc)

/-- The statement. -/
theorem proved : Rows.RegsPutsSaid :=
  over
#print axioms proved
end Go.Proofs.Ytjppimabhefeeaa.RegsPuts
