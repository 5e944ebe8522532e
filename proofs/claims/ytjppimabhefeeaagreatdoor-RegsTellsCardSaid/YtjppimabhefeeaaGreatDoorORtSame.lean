/-
  The reference's Same, of two threads that are the same.
-/
import Derived.Test.YtjppimabhefeeaaGreatDoorORtRef
import Derived.Test.YtjppimabhefeeaaGreatDoorHpOG
import Derived.Deep.QuietTactic
import Derived.BigQuiet
namespace Go.Proofs.YtjppimabhefeeaaGreatDoor.Rt
open Go.Proofs.YtjppimabhefeeaaGreatDoor
open Go.RowKit
set_option maxRecDepth 100000

theorem regs_self (a b c d : Int) (w : World) : (binOp .eql 31 (.agg #[.int .i64 a, .int .i64 b, .int .i64 c, .int .i64 d]) (.agg #[.int .i64 a, .int .i64 b, .int .i64 c, .int .i64 d])).run Tryz.prog w = .ok (.bool true) w := by
  have u3 := Tryz.underlying3
  have a3 := Tryz.isAgg3
  have z3 := Tryz.sizeOf3
  rw [run_eql_struct, show (10000 : Nat) = 9999 + 1 from rfl, Op.equalIn]
  simp only [Sem.run_bind, run_underlying Tryz.underlying31, Result.andThen_ok]
  simp only [Std.Legacy.Range.forIn_eq_forIn_range', Std.Legacy.Range.size, Nat.sub_zero, Nat.add_sub_cancel, Nat.div_one, List.range'_succ, List.range'_zero, List.forIn_cons, List.forIn_nil]
  go_simp
theorem op_self (a b c d : Int) (w : World) : (binOp .neq 55 (.agg #[.int .i64 a, .int .i64 b, .int .i64 c, .int .i64 d]) (.agg #[.int .i64 a, .int .i64 b, .int .i64 c, .int .i64 d])).run Tryz.prog w = .ok (.bool false) w := by
  go_simp
structure Tw (w W : World) (t t' : Ts) : Prop where
  bel : Below w.heap.size w W
  one : Box W w.heap.size (tv t)
  two : Box W (w.heap.size + 1) (tv t')
theorem Tw.next {w W W' : World} {t t' : Ts} (h : Tw w W t t') (hb : Below W.heap.size W W') : Tw w W' t t' := ⟨h.bel.trans (hb.mono h.bel.size), h.one.next hb, h.two.next hb⟩
theorem tw_start {w W : World} {t t' : Ts} {ty ty' : TypeId} (h : W = (w.alloc (.cells #[.bool t.lv, .int .i64 (t.r 0), .int .i64 (t.r 1), .int .i64 (t.r 2), .int .i64 (t.r 3), .slice (t.u 0).a (t.u 0).n (t.u 0).c, .slice (t.u 1).a (t.u 1).n (t.u 1).c, .slice (t.u 2).a (t.u 2).n (t.u 2).c, .int .i64 t.ep, .int .i64 t.sg, .int .i64 t.rt, .slice t.o.a t.o.n t.o.c, .int .i64 t.pc, .int .i64 t.x, .int .i64 t.y] ty)).alloc (.cells #[.bool t'.lv, .int .i64 (t'.r 0), .int .i64 (t'.r 1), .int .i64 (t'.r 2), .int .i64 (t'.r 3), .slice (t'.u 0).a (t'.u 0).n (t'.u 0).c, .slice (t'.u 1).a (t'.u 1).n (t'.u 1).c, .slice (t'.u 2).a (t'.u 2).n (t'.u 2).c, .int .i64 t'.ep, .int .i64 t'.sg, .int .i64 t'.rt, .slice t'.o.a t'.o.n t'.o.c, .int .i64 t'.pc, .int .i64 t'.x, .int .i64 t'.y] ty')) : Tw w W t t' := by
  have b2 : Below (w.alloc (.cells #[.bool t.lv, .int .i64 (t.r 0), .int .i64 (t.r 1), .int .i64 (t.r 2), .int .i64 (t.r 3), .slice (t.u 0).a (t.u 0).n (t.u 0).c, .slice (t.u 1).a (t.u 1).n (t.u 1).c, .slice (t.u 2).a (t.u 2).n (t.u 2).c, .int .i64 t.ep, .int .i64 t.sg, .int .i64 t.rt, .slice t.o.a t.o.n t.o.c, .int .i64 t.pc, .int .i64 t.x, .int .i64 t.y] ty)).heap.size (w.alloc (.cells #[.bool t.lv, .int .i64 (t.r 0), .int .i64 (t.r 1), .int .i64 (t.r 2), .int .i64 (t.r 3), .slice (t.u 0).a (t.u 0).n (t.u 0).c, .slice (t.u 1).a (t.u 1).n (t.u 1).c, .slice (t.u 2).a (t.u 2).n (t.u 2).c, .int .i64 t.ep, .int .i64 t.sg, .int .i64 t.rt, .slice t.o.a t.o.n t.o.c, .int .i64 t.pc, .int .i64 t.x, .int .i64 t.y] ty)) W := by rw [h]; exact (Below.refl _ _).alloc (Nat.le_refl _) _
  refine ⟨by rw [h]; exact ((Below.refl _ _).alloc (Nat.le_refl _) _).alloc (by simp) _, (Box.new w (tv t) ty).next b2, ?_⟩
  have := Box.new (w.alloc (.cells #[.bool t.lv, .int .i64 (t.r 0), .int .i64 (t.r 1), .int .i64 (t.r 2), .int .i64 (t.r 3), .slice (t.u 0).a (t.u 0).n (t.u 0).c, .slice (t.u 1).a (t.u 1).n (t.u 1).c, .slice (t.u 2).a (t.u 2).n (t.u 2).c, .int .i64 t.ep, .int .i64 t.sg, .int .i64 t.rt, .slice t.o.a t.o.n t.o.c, .int .i64 t.pc, .int .i64 t.x, .int .i64 t.y] ty)) (tv t') ty'
  rw [World.size_alloc] at this
  rw [h]
  exact this
set_option maxHeartbeats 4000000 in
theorem rsame_core (p : Ts) (u u' : Nat → Ls.Sl) (A A' : Option Addr) (n c c' : Nat) (F : Nat → List Int) (g : Nat → O4) (w : World) (h : Th w w.heap.size (tw p u ⟨A, n, c⟩) F g) (h' : Th w w.heap.size (tw p u' ⟨A', n, c'⟩) F g) (hn : ∀ j, j < 3 → (F j).length ≤ 2000000) (hm : n ≤ 100000) :
    Calls Tryz.prog 11 #[(.agg #[.bool (tw p u ⟨A, n, c⟩).lv, .int .i64 ((tw p u ⟨A, n, c⟩).r 0), .int .i64 ((tw p u ⟨A, n, c⟩).r 1), .int .i64 ((tw p u ⟨A, n, c⟩).r 2), .int .i64 ((tw p u ⟨A, n, c⟩).r 3), .slice ((tw p u ⟨A, n, c⟩).u 0).a ((tw p u ⟨A, n, c⟩).u 0).n ((tw p u ⟨A, n, c⟩).u 0).c, .slice ((tw p u ⟨A, n, c⟩).u 1).a ((tw p u ⟨A, n, c⟩).u 1).n ((tw p u ⟨A, n, c⟩).u 1).c, .slice ((tw p u ⟨A, n, c⟩).u 2).a ((tw p u ⟨A, n, c⟩).u 2).n ((tw p u ⟨A, n, c⟩).u 2).c, .int .i64 (tw p u ⟨A, n, c⟩).ep, .int .i64 (tw p u ⟨A, n, c⟩).sg, .int .i64 (tw p u ⟨A, n, c⟩).rt, .slice (tw p u ⟨A, n, c⟩).o.a (tw p u ⟨A, n, c⟩).o.n (tw p u ⟨A, n, c⟩).o.c, .int .i64 (tw p u ⟨A, n, c⟩).pc, .int .i64 (tw p u ⟨A, n, c⟩).x, .int .i64 (tw p u ⟨A, n, c⟩).y]), (.agg #[.bool (tw p u' ⟨A', n, c'⟩).lv, .int .i64 ((tw p u' ⟨A', n, c'⟩).r 0), .int .i64 ((tw p u' ⟨A', n, c'⟩).r 1), .int .i64 ((tw p u' ⟨A', n, c'⟩).r 2), .int .i64 ((tw p u' ⟨A', n, c'⟩).r 3), .slice ((tw p u' ⟨A', n, c'⟩).u 0).a ((tw p u' ⟨A', n, c'⟩).u 0).n ((tw p u' ⟨A', n, c'⟩).u 0).c, .slice ((tw p u' ⟨A', n, c'⟩).u 1).a ((tw p u' ⟨A', n, c'⟩).u 1).n ((tw p u' ⟨A', n, c'⟩).u 1).c, .slice ((tw p u' ⟨A', n, c'⟩).u 2).a ((tw p u' ⟨A', n, c'⟩).u 2).n ((tw p u' ⟨A', n, c'⟩).u 2).c, .int .i64 (tw p u' ⟨A', n, c'⟩).ep, .int .i64 (tw p u' ⟨A', n, c'⟩).sg, .int .i64 (tw p u' ⟨A', n, c'⟩).rt, .slice (tw p u' ⟨A', n, c'⟩).o.a (tw p u' ⟨A', n, c'⟩).o.n (tw p u' ⟨A', n, c'⟩).o.c, .int .i64 (tw p u' ⟨A', n, c'⟩).pc, .int .i64 (tw p u' ⟨A', n, c'⟩).x, .int .i64 (tw p u' ⟨A', n, c'⟩).y])] w fun e w' => e = .returned (.bool true) ∧ Below w.heap.size w w' := by
  have HT := Lib.hid h
  have HT' := Lib.hid h'
  have C1 := Lib.hid (fun W (hb : Below w.heap.size w W) => Ls.same_any w.heap.size w.heap.size u u' F F W (h.c.below hb) hb.size (h'.c.below hb) hb.size (fun j hj => by have := h.c.len j hj; have := hn j hj; show (u j).n ≤ _; simp only [tw] at *; omega) (fun j hj => by have := h'.c.len j hj; have := hn j hj; show (u' j).n ≤ _; simp only [tw] at *; omega))
  have hs : decide (Ls.sameUp F F 3) = true := decide_eq_true (fun _ _ => rfl)
  rw [hs] at C1
  have qr := fun w => regs_self (p.r 0) (p.r 1) (p.r 2) (p.r 3) w
  clear h h' hn hs
  dsimp only [tw]
  go_enter Tryz.func11, Tryz.ntmps11
  go_upto_region 1 with fail
  obtain ⟨W0, hW0⟩ : ∃ W0, W0 = (w.alloc (.cells #[.bool (tw p u ⟨A, n, c⟩).lv, .int .i64 ((tw p u ⟨A, n, c⟩).r 0), .int .i64 ((tw p u ⟨A, n, c⟩).r 1), .int .i64 ((tw p u ⟨A, n, c⟩).r 2), .int .i64 ((tw p u ⟨A, n, c⟩).r 3), .slice ((tw p u ⟨A, n, c⟩).u 0).a ((tw p u ⟨A, n, c⟩).u 0).n ((tw p u ⟨A, n, c⟩).u 0).c, .slice ((tw p u ⟨A, n, c⟩).u 1).a ((tw p u ⟨A, n, c⟩).u 1).n ((tw p u ⟨A, n, c⟩).u 1).c, .slice ((tw p u ⟨A, n, c⟩).u 2).a ((tw p u ⟨A, n, c⟩).u 2).n ((tw p u ⟨A, n, c⟩).u 2).c, .int .i64 (tw p u ⟨A, n, c⟩).ep, .int .i64 (tw p u ⟨A, n, c⟩).sg, .int .i64 (tw p u ⟨A, n, c⟩).rt, .slice (tw p u ⟨A, n, c⟩).o.a (tw p u ⟨A, n, c⟩).o.n (tw p u ⟨A, n, c⟩).o.c, .int .i64 (tw p u ⟨A, n, c⟩).pc, .int .i64 (tw p u ⟨A, n, c⟩).x, .int .i64 (tw p u ⟨A, n, c⟩).y] 34)).alloc (.cells #[.bool (tw p u' ⟨A', n, c'⟩).lv, .int .i64 ((tw p u' ⟨A', n, c'⟩).r 0), .int .i64 ((tw p u' ⟨A', n, c'⟩).r 1), .int .i64 ((tw p u' ⟨A', n, c'⟩).r 2), .int .i64 ((tw p u' ⟨A', n, c'⟩).r 3), .slice ((tw p u' ⟨A', n, c'⟩).u 0).a ((tw p u' ⟨A', n, c'⟩).u 0).n ((tw p u' ⟨A', n, c'⟩).u 0).c, .slice ((tw p u' ⟨A', n, c'⟩).u 1).a ((tw p u' ⟨A', n, c'⟩).u 1).n ((tw p u' ⟨A', n, c'⟩).u 1).c, .slice ((tw p u' ⟨A', n, c'⟩).u 2).a ((tw p u' ⟨A', n, c'⟩).u 2).n ((tw p u' ⟨A', n, c'⟩).u 2).c, .int .i64 (tw p u' ⟨A', n, c'⟩).ep, .int .i64 (tw p u' ⟨A', n, c'⟩).sg, .int .i64 (tw p u' ⟨A', n, c'⟩).rt, .slice (tw p u' ⟨A', n, c'⟩).o.a (tw p u' ⟨A', n, c'⟩).o.n (tw p u' ⟨A', n, c'⟩).o.c, .int .i64 (tw p u' ⟨A', n, c'⟩).pc, .int .i64 (tw p u' ⟨A', n, c'⟩).x, .int .i64 (tw p u' ⟨A', n, c'⟩).y] 34) := ⟨_, rfl⟩
  have K0 := Lib.hid (tw_start hW0)
  dsimp only [tw] at hW0
  rw [← hW0]
  clear hW0
  have x0 := (K0.out.one).cel 0 (.bool (tw p u ⟨A, n, c⟩).lv) rfl
  have x1 := (K0.out.one).cel 1 (.int .i64 ((tw p u ⟨A, n, c⟩).r 0)) rfl
  have x2 := (K0.out.one).cel 2 (.int .i64 ((tw p u ⟨A, n, c⟩).r 1)) rfl
  have x3 := (K0.out.one).cel 3 (.int .i64 ((tw p u ⟨A, n, c⟩).r 2)) rfl
  have x4 := (K0.out.one).cel 4 (.int .i64 ((tw p u ⟨A, n, c⟩).r 3)) rfl
  have x5 := (K0.out.one).cel 5 (.slice ((tw p u ⟨A, n, c⟩).u 0).a ((tw p u ⟨A, n, c⟩).u 0).n ((tw p u ⟨A, n, c⟩).u 0).c) rfl
  have x6 := (K0.out.one).cel 6 (.slice ((tw p u ⟨A, n, c⟩).u 1).a ((tw p u ⟨A, n, c⟩).u 1).n ((tw p u ⟨A, n, c⟩).u 1).c) rfl
  have x7 := (K0.out.one).cel 7 (.slice ((tw p u ⟨A, n, c⟩).u 2).a ((tw p u ⟨A, n, c⟩).u 2).n ((tw p u ⟨A, n, c⟩).u 2).c) rfl
  have x8 := (K0.out.one).cel 8 (.int .i64 (tw p u ⟨A, n, c⟩).ep) rfl
  have x9 := (K0.out.one).cel 9 (.int .i64 (tw p u ⟨A, n, c⟩).sg) rfl
  have x10 := (K0.out.one).cel 10 (.int .i64 (tw p u ⟨A, n, c⟩).rt) rfl
  have x11 := (K0.out.one).cel 11 (.slice (tw p u ⟨A, n, c⟩).o.a (tw p u ⟨A, n, c⟩).o.n (tw p u ⟨A, n, c⟩).o.c) rfl
  have x12 := (K0.out.one).cel 12 (.int .i64 (tw p u ⟨A, n, c⟩).pc) rfl
  have x13 := (K0.out.one).cel 13 (.int .i64 (tw p u ⟨A, n, c⟩).x) rfl
  have x14 := (K0.out.one).cel 14 (.int .i64 (tw p u ⟨A, n, c⟩).y) rfl
  have xl := (K0.out.one).lt
  have y0 := (K0.out.two).cel 0 (.bool (tw p u' ⟨A', n, c'⟩).lv) rfl
  have y1 := (K0.out.two).cel 1 (.int .i64 ((tw p u' ⟨A', n, c'⟩).r 0)) rfl
  have y2 := (K0.out.two).cel 2 (.int .i64 ((tw p u' ⟨A', n, c'⟩).r 1)) rfl
  have y3 := (K0.out.two).cel 3 (.int .i64 ((tw p u' ⟨A', n, c'⟩).r 2)) rfl
  have y4 := (K0.out.two).cel 4 (.int .i64 ((tw p u' ⟨A', n, c'⟩).r 3)) rfl
  have y5 := (K0.out.two).cel 5 (.slice ((tw p u' ⟨A', n, c'⟩).u 0).a ((tw p u' ⟨A', n, c'⟩).u 0).n ((tw p u' ⟨A', n, c'⟩).u 0).c) rfl
  have y6 := (K0.out.two).cel 6 (.slice ((tw p u' ⟨A', n, c'⟩).u 1).a ((tw p u' ⟨A', n, c'⟩).u 1).n ((tw p u' ⟨A', n, c'⟩).u 1).c) rfl
  have y7 := (K0.out.two).cel 7 (.slice ((tw p u' ⟨A', n, c'⟩).u 2).a ((tw p u' ⟨A', n, c'⟩).u 2).n ((tw p u' ⟨A', n, c'⟩).u 2).c) rfl
  have y8 := (K0.out.two).cel 8 (.int .i64 (tw p u' ⟨A', n, c'⟩).ep) rfl
  have y9 := (K0.out.two).cel 9 (.int .i64 (tw p u' ⟨A', n, c'⟩).sg) rfl
  have y10 := (K0.out.two).cel 10 (.int .i64 (tw p u' ⟨A', n, c'⟩).rt) rfl
  have y11 := (K0.out.two).cel 11 (.slice (tw p u' ⟨A', n, c'⟩).o.a (tw p u' ⟨A', n, c'⟩).o.n (tw p u' ⟨A', n, c'⟩).o.c) rfl
  have y12 := (K0.out.two).cel 12 (.int .i64 (tw p u' ⟨A', n, c'⟩).pc) rfl
  have y13 := (K0.out.two).cel 13 (.int .i64 (tw p u' ⟨A', n, c'⟩).x) rfl
  have y14 := (K0.out.two).cel 14 (.int .i64 (tw p u' ⟨A', n, c'⟩).y) rfl
  have yl := (K0.out.two).lt
  dsimp only [tw] at x0 x1 x2 x3 x4 x5 x6 x7 x8 x9 x10 x11 x12 x13 x14 y0 y1 y2 y3 y4 y5 y6 y7 y8 y9 y10 y11 y12 y13 y14
  go_wp2_with fail
  refine (C1.out W0 K0.out.bel).mono ?_
  rintro e w1 ⟨rfl, hb1⟩
  have K1 := Lib.hid (K0.out.next hb1)
  clear hb1
  clear x0 x1 x2 x3 x4 x5 x6 x7 x8 x9 x10 x11 x12 x13 x14 xl
  clear y0 y1 y2 y3 y4 y5 y6 y7 y8 y9 y10 y11 y12 y13 y14 yl
  have x0 := (K1.out.one).cel 0 (.bool (tw p u ⟨A, n, c⟩).lv) rfl
  have x1 := (K1.out.one).cel 1 (.int .i64 ((tw p u ⟨A, n, c⟩).r 0)) rfl
  have x2 := (K1.out.one).cel 2 (.int .i64 ((tw p u ⟨A, n, c⟩).r 1)) rfl
  have x3 := (K1.out.one).cel 3 (.int .i64 ((tw p u ⟨A, n, c⟩).r 2)) rfl
  have x4 := (K1.out.one).cel 4 (.int .i64 ((tw p u ⟨A, n, c⟩).r 3)) rfl
  have x5 := (K1.out.one).cel 5 (.slice ((tw p u ⟨A, n, c⟩).u 0).a ((tw p u ⟨A, n, c⟩).u 0).n ((tw p u ⟨A, n, c⟩).u 0).c) rfl
  have x6 := (K1.out.one).cel 6 (.slice ((tw p u ⟨A, n, c⟩).u 1).a ((tw p u ⟨A, n, c⟩).u 1).n ((tw p u ⟨A, n, c⟩).u 1).c) rfl
  have x7 := (K1.out.one).cel 7 (.slice ((tw p u ⟨A, n, c⟩).u 2).a ((tw p u ⟨A, n, c⟩).u 2).n ((tw p u ⟨A, n, c⟩).u 2).c) rfl
  have x8 := (K1.out.one).cel 8 (.int .i64 (tw p u ⟨A, n, c⟩).ep) rfl
  have x9 := (K1.out.one).cel 9 (.int .i64 (tw p u ⟨A, n, c⟩).sg) rfl
  have x10 := (K1.out.one).cel 10 (.int .i64 (tw p u ⟨A, n, c⟩).rt) rfl
  have x11 := (K1.out.one).cel 11 (.slice (tw p u ⟨A, n, c⟩).o.a (tw p u ⟨A, n, c⟩).o.n (tw p u ⟨A, n, c⟩).o.c) rfl
  have x12 := (K1.out.one).cel 12 (.int .i64 (tw p u ⟨A, n, c⟩).pc) rfl
  have x13 := (K1.out.one).cel 13 (.int .i64 (tw p u ⟨A, n, c⟩).x) rfl
  have x14 := (K1.out.one).cel 14 (.int .i64 (tw p u ⟨A, n, c⟩).y) rfl
  have xl := (K1.out.one).lt
  have y0 := (K1.out.two).cel 0 (.bool (tw p u' ⟨A', n, c'⟩).lv) rfl
  have y1 := (K1.out.two).cel 1 (.int .i64 ((tw p u' ⟨A', n, c'⟩).r 0)) rfl
  have y2 := (K1.out.two).cel 2 (.int .i64 ((tw p u' ⟨A', n, c'⟩).r 1)) rfl
  have y3 := (K1.out.two).cel 3 (.int .i64 ((tw p u' ⟨A', n, c'⟩).r 2)) rfl
  have y4 := (K1.out.two).cel 4 (.int .i64 ((tw p u' ⟨A', n, c'⟩).r 3)) rfl
  have y5 := (K1.out.two).cel 5 (.slice ((tw p u' ⟨A', n, c'⟩).u 0).a ((tw p u' ⟨A', n, c'⟩).u 0).n ((tw p u' ⟨A', n, c'⟩).u 0).c) rfl
  have y6 := (K1.out.two).cel 6 (.slice ((tw p u' ⟨A', n, c'⟩).u 1).a ((tw p u' ⟨A', n, c'⟩).u 1).n ((tw p u' ⟨A', n, c'⟩).u 1).c) rfl
  have y7 := (K1.out.two).cel 7 (.slice ((tw p u' ⟨A', n, c'⟩).u 2).a ((tw p u' ⟨A', n, c'⟩).u 2).n ((tw p u' ⟨A', n, c'⟩).u 2).c) rfl
  have y8 := (K1.out.two).cel 8 (.int .i64 (tw p u' ⟨A', n, c'⟩).ep) rfl
  have y9 := (K1.out.two).cel 9 (.int .i64 (tw p u' ⟨A', n, c'⟩).sg) rfl
  have y10 := (K1.out.two).cel 10 (.int .i64 (tw p u' ⟨A', n, c'⟩).rt) rfl
  have y11 := (K1.out.two).cel 11 (.slice (tw p u' ⟨A', n, c'⟩).o.a (tw p u' ⟨A', n, c'⟩).o.n (tw p u' ⟨A', n, c'⟩).o.c) rfl
  have y12 := (K1.out.two).cel 12 (.int .i64 (tw p u' ⟨A', n, c'⟩).pc) rfl
  have y13 := (K1.out.two).cel 13 (.int .i64 (tw p u' ⟨A', n, c'⟩).x) rfl
  have y14 := (K1.out.two).cel 14 (.int .i64 (tw p u' ⟨A', n, c'⟩).y) rfl
  have yl := (K1.out.two).lt
  dsimp only [tw] at x0 x1 x2 x3 x4 x5 x6 x7 x8 x9 x10 x11 x12 x13 x14 y0 y1 y2 y3 y4 y5 y6 y7 y8 y9 y10 y11 y12 y13 y14
  go_wp2
  go_loopw [7] (fun i wr => ∃ k d : Nat, k ≤ n ∧ i = .int .i64 k ∧ wr = w1.drewN d) (fun i _ => n - (intOf i).toNat)
  case atStart => exact ⟨0, 0, Nat.zero_le _, rfl, rfl⟩
  case round =>
    obtain ⟨k, d, hk, rfl, rfl⟩ := hrel
    by_cases hlt : k < n
    · obtain ⟨b, off, rfl, _, hc⟩ := (HT.out.next K1.out.bel).o (by show 0 < n; omega)
      obtain ⟨b', off', rfl, _, hc'⟩ := (HT'.out.next K1.out.bel).o (by show 0 < n; omega)
      obtain ⟨h0, h1, h2, h3⟩ := hc k hlt
      obtain ⟨g0, g1, g2, g3⟩ := hc' k hlt
      have qo := fun w => op_self (g k).k (g k).a (g k).b (g k).c w
      clear hc hc'
      go_wp2
      go_quiet (fail)
      go_wp2
      go_roundw
      case rel => exact ⟨k + 1, _, by omega, by go_num, rfl⟩
      case measure => simp [intOf]; omega
    · obtain rfl : k = n := by omega
      go_wp2
      go_ret
      exact ⟨rfl, Ls.below_drawn (K1.out.bel) _⟩
/-- .. as two copies of a thread. -/
theorem rsame_yes (p t t' : Ts) (F : Nat → List Int) (g : Nat → O4) (w : World) (e : t = tw p t.u t.o) (e' : t' = tw p t'.u t'.o) (ho : t'.o.n = t.o.n) (h : Th w w.heap.size t F g) (h' : Th w w.heap.size t' F g) (hn : ∀ j, j < 3 → (F j).length ≤ 2000000) (hm : t.o.n ≤ 100000) :
    Calls Tryz.prog 11 #[(.agg #[.bool t.lv, .int .i64 (t.r 0), .int .i64 (t.r 1), .int .i64 (t.r 2), .int .i64 (t.r 3), .slice (t.u 0).a (t.u 0).n (t.u 0).c, .slice (t.u 1).a (t.u 1).n (t.u 1).c, .slice (t.u 2).a (t.u 2).n (t.u 2).c, .int .i64 t.ep, .int .i64 t.sg, .int .i64 t.rt, .slice t.o.a t.o.n t.o.c, .int .i64 t.pc, .int .i64 t.x, .int .i64 t.y]), (.agg #[.bool t'.lv, .int .i64 (t'.r 0), .int .i64 (t'.r 1), .int .i64 (t'.r 2), .int .i64 (t'.r 3), .slice (t'.u 0).a (t'.u 0).n (t'.u 0).c, .slice (t'.u 1).a (t'.u 1).n (t'.u 1).c, .slice (t'.u 2).a (t'.u 2).n (t'.u 2).c, .int .i64 t'.ep, .int .i64 t'.sg, .int .i64 t'.rt, .slice t'.o.a t'.o.n t'.o.c, .int .i64 t'.pc, .int .i64 t'.x, .int .i64 t'.y])] w fun e w' => e = .returned (.bool true) ∧ Below w.heap.size w w' := by
  have q : t'.o = ⟨t'.o.a, t.o.n, t'.o.c⟩ := by rw [← ho]
  rw [q] at e'
  rw [e] at h
  rw [e'] at h'
  have := rsame_core p t.u t'.u t.o.a t'.o.a t.o.n t.o.c t'.o.c F g w h h' hn hm
  rw [e, e']
  exact this
end Go.Proofs.YtjppimabhefeeaaGreatDoor.Rt
