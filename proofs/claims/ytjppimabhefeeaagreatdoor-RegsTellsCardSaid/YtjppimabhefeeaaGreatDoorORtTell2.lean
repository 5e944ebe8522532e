/-
  RegsTells's rows from the puts on: any thread may be, or not; any register is told, set, and has the object, that the document says, or it is told why not; so is all that a thread holds, and whether it is armed, and makes what is black: for every heap of at most 9 pages and 130 words, every collector, and every thread of at most 220 operations; the table of sizes is tied to the program's text by the card.
-/
import Derived.Test.YtjppimabhefeeaaGreatDoorORtTell
import Derived.Test.YtjppimabhefeeaaGreatDoorHpOJ
import Derived.Deep.RegionHeld3
import Derived.Deep.Cut
import Derived.Deep.CutRange
namespace Go.Proofs.YtjppimabhefeeaaGreatDoor.RegsTells
open Go.Proofs.YtjppimabhefeeaaGreatDoor Go.Proofs.YtjppimabhefeeaaGreatDoor.Rt
open Go.ChangeShapes Go.WideShapes Go.ChangeAt Go.RowKit
set_option maxRecDepth 100000

/-- The law's rows from one on. -/
noncomputable def tailC8 : Code := dropC 7 (Tryz.f3.body.getD .skip)
set_option maxHeartbeats 8000000 in
theorem tail8 (w wc : World) (s : Hs) (d : Hd_) (k : Sh.Ks) (t : Ts) (F : Nat → List Int) (g : Nat → O4) (v e1 x1 x2 x3 a : Int) (p : Ts) (F5 : Nat → List Int) (m1 m2 m3 : Bool) (CM : Hid (∀ W, Calls Tryz.prog 17 #[(.agg #[.bool t.lv, .int .i64 (t.r 0), .int .i64 (t.r 1), .int .i64 (t.r 2), .int .i64 (t.r 3), .slice (t.u 0).a (t.u 0).n (t.u 0).c, .slice (t.u 1).a (t.u 1).n (t.u 1).c, .slice (t.u 2).a (t.u 2).n (t.u 2).c, .int .i64 t.ep, .int .i64 t.sg, .int .i64 t.rt, .slice t.o.a t.o.n t.o.c, .int .i64 t.pc, .int .i64 t.x, .int .i64 t.y])] W fun e w' => e = .returned (.bool m1) ∧ Below W.heap.size W w')) (CM2 : Hid (∀ W, Calls Tryz.prog 18 #[(.agg #[.bool t.lv, .int .i64 (t.r 0), .int .i64 (t.r 1), .int .i64 (t.r 2), .int .i64 (t.r 3), .slice (t.u 0).a (t.u 0).n (t.u 0).c, .slice (t.u 1).a (t.u 1).n (t.u 1).c, .slice (t.u 2).a (t.u 2).n (t.u 2).c, .int .i64 t.ep, .int .i64 t.sg, .int .i64 t.rt, .slice t.o.a t.o.n t.o.c, .int .i64 t.pc, .int .i64 t.x, .int .i64 t.y])] W fun e w' => e = .returned (.bool m1) ∧ Below W.heap.size W w')) (CA : Hid (∀ W, Calls Tryz.prog 19 #[(.agg #[.int .i64 k.ph, .int .i64 k.ep, .bool k.mj, .slice k.wk.a k.wk.n k.wk.c, .bool k.ov, .int .i64 k.pa, .int .i64 k.pf, .int .i64 k.ps, .int .i64 k.pc, .bool k.me]), (.agg #[.bool t.lv, .int .i64 (t.r 0), .int .i64 (t.r 1), .int .i64 (t.r 2), .int .i64 (t.r 3), .slice (t.u 0).a (t.u 0).n (t.u 0).c, .slice (t.u 1).a (t.u 1).n (t.u 1).c, .slice (t.u 2).a (t.u 2).n (t.u 2).c, .int .i64 t.ep, .int .i64 t.sg, .int .i64 t.rt, .slice t.o.a t.o.n t.o.c, .int .i64 t.pc, .int .i64 t.x, .int .i64 t.y])] W fun e w' => e = .returned (.bool m2) ∧ Below W.heap.size W w')) (CA2 : Hid (∀ W, Calls Tryz.prog 20 #[(.agg #[.int .i64 k.ph, .int .i64 k.ep, .bool k.mj, .slice k.wk.a k.wk.n k.wk.c, .bool k.ov, .int .i64 k.pa, .int .i64 k.pf, .int .i64 k.ps, .int .i64 k.pc, .bool k.me]), (.agg #[.bool t.lv, .int .i64 (t.r 0), .int .i64 (t.r 1), .int .i64 (t.r 2), .int .i64 (t.r 3), .slice (t.u 0).a (t.u 0).n (t.u 0).c, .slice (t.u 1).a (t.u 1).n (t.u 1).c, .slice (t.u 2).a (t.u 2).n (t.u 2).c, .int .i64 t.ep, .int .i64 t.sg, .int .i64 t.rt, .slice t.o.a t.o.n t.o.c, .int .i64 t.pc, .int .i64 t.x, .int .i64 t.y])] W fun e w' => e = .returned (.bool m2) ∧ Below W.heap.size W w')) (CB : Hid (∀ W, Calls Tryz.prog 21 #[(.agg #[.int .i64 k.ph, .int .i64 k.ep, .bool k.mj, .slice k.wk.a k.wk.n k.wk.c, .bool k.ov, .int .i64 k.pa, .int .i64 k.pf, .int .i64 k.ps, .int .i64 k.pc, .bool k.me]), (.agg #[.bool t.lv, .int .i64 (t.r 0), .int .i64 (t.r 1), .int .i64 (t.r 2), .int .i64 (t.r 3), .slice (t.u 0).a (t.u 0).n (t.u 0).c, .slice (t.u 1).a (t.u 1).n (t.u 1).c, .slice (t.u 2).a (t.u 2).n (t.u 2).c, .int .i64 t.ep, .int .i64 t.sg, .int .i64 t.rt, .slice t.o.a t.o.n t.o.c, .int .i64 t.pc, .int .i64 t.x, .int .i64 t.y])] W fun e w' => e = .returned (.bool m3) ∧ Below W.heap.size W w')) (CB2 : Hid (∀ W, Calls Tryz.prog 22 #[(.agg #[.int .i64 k.ph, .int .i64 k.ep, .bool k.mj, .slice k.wk.a k.wk.n k.wk.c, .bool k.ov, .int .i64 k.pa, .int .i64 k.pf, .int .i64 k.ps, .int .i64 k.pc, .bool k.me]), (.agg #[.bool t.lv, .int .i64 (t.r 0), .int .i64 (t.r 1), .int .i64 (t.r 2), .int .i64 (t.r 3), .slice (t.u 0).a (t.u 0).n (t.u 0).c, .slice (t.u 1).a (t.u 1).n (t.u 1).c, .slice (t.u 2).a (t.u 2).n (t.u 2).c, .int .i64 t.ep, .int .i64 t.sg, .int .i64 t.rt, .slice t.o.a t.o.n t.o.c, .int .i64 t.pc, .int .i64 t.x, .int .i64 t.y])] W fun e w' => e = .returned (.bool m3) ∧ Below W.heap.size W w')) (hs : List Int) (hx6 : hs.length ≤ 6) (CI : Hid (∀ W, Calls Tryz.prog 15 #[(.agg #[.bool t.lv, .int .i64 (t.r 0), .int .i64 (t.r 1), .int .i64 (t.r 2), .int .i64 (t.r 3), .slice (t.u 0).a (t.u 0).n (t.u 0).c, .slice (t.u 1).a (t.u 1).n (t.u 1).c, .slice (t.u 2).a (t.u 2).n (t.u 2).c, .int .i64 t.ep, .int .i64 t.sg, .int .i64 t.rt, .slice t.o.a t.o.n t.o.c, .int .i64 t.pc, .int .i64 t.x, .int .i64 t.y])] W (Ls.AllOut W hs))) (CI2 : Hid (∀ W, Calls Tryz.prog 16 #[(.agg #[.bool t.lv, .int .i64 (t.r 0), .int .i64 (t.r 1), .int .i64 (t.r 2), .int .i64 (t.r 3), .slice (t.u 0).a (t.u 0).n (t.u 0).c, .slice (t.u 1).a (t.u 1).n (t.u 1).c, .slice (t.u 2).a (t.u 2).n (t.u 2).c, .int .i64 t.ep, .int .i64 t.sg, .int .i64 t.rt, .slice t.o.a t.o.n t.o.c, .int .i64 t.pc, .int .i64 t.x, .int .i64 t.y])] W (Ls.AllOut W hs))) (r : Int) (CO : Hid (∀ W, Below w.heap.size w W → Hp W W.heap.size s d → Calls Tryz.prog 12 #[(.agg #[.slice s.w.a s.w.n s.w.c, .slice s.p.a s.p.n s.p.c, .slice (s.u 0).a (s.u 0).n (s.u 0).c, .slice (s.u 1).a (s.u 1).n (s.u 1).c, .slice (s.u 2).a (s.u 2).n (s.u 2).c, .slice s.c.a s.c.n s.c.c]), (.agg #[.bool t.lv, .int .i64 (t.r 0), .int .i64 (t.r 1), .int .i64 (t.r 2), .int .i64 (t.r 3), .slice (t.u 0).a (t.u 0).n (t.u 0).c, .slice (t.u 1).a (t.u 1).n (t.u 1).c, .slice (t.u 2).a (t.u 2).n (t.u 2).c, .int .i64 t.ep, .int .i64 t.sg, .int .i64 t.rt, .slice t.o.a t.o.n t.o.c, .int .i64 t.pc, .int .i64 t.x, .int .i64 t.y]), .int .i64 r] W (Three W x1 x2 x3))) (CO2 : Hid (∀ W, Hp W W.heap.size s d → Calls Tryz.prog 13 #[(.agg #[.slice s.w.a s.w.n s.w.c, .slice s.p.a s.p.n s.p.c, .slice (s.u 0).a (s.u 0).n (s.u 0).c, .slice (s.u 1).a (s.u 1).n (s.u 1).c, .slice (s.u 2).a (s.u 2).n (s.u 2).c, .slice s.c.a s.c.n s.c.c]), (.agg #[.bool t.lv, .int .i64 (t.r 0), .int .i64 (t.r 1), .int .i64 (t.r 2), .int .i64 (t.r 3), .slice (t.u 0).a (t.u 0).n (t.u 0).c, .slice (t.u 1).a (t.u 1).n (t.u 1).c, .slice (t.u 2).a (t.u 2).n (t.u 2).c, .int .i64 t.ep, .int .i64 t.sg, .int .i64 t.rt, .slice t.o.a t.o.n t.o.c, .int .i64 t.pc, .int .i64 t.x, .int .i64 t.y]), .int .i64 r] W (Three W x1 x2 x3))) (CP : Hid (∀ W, Th W W.heap.size t F g → Calls Tryz.prog 9 #[(.agg #[.bool t.lv, .int .i64 (t.r 0), .int .i64 (t.r 1), .int .i64 (t.r 2), .int .i64 (t.r 3), .slice (t.u 0).a (t.u 0).n (t.u 0).c, .slice (t.u 1).a (t.u 1).n (t.u 1).c, .slice (t.u 2).a (t.u 2).n (t.u 2).c, .int .i64 t.ep, .int .i64 t.sg, .int .i64 t.rt, .slice t.o.a t.o.n t.o.c, .int .i64 t.pc, .int .i64 t.x, .int .i64 t.y]), .int .i64 r, .int .i64 a] W fun e w' => ∃ (u : Nat → Ls.Sl) (o : Ls.Sl), o.n = p.o.n ∧ e = .returned (.tuple #[(.agg #[.bool (tw p u o).lv, .int .i64 ((tw p u o).r 0), .int .i64 ((tw p u o).r 1), .int .i64 ((tw p u o).r 2), .int .i64 ((tw p u o).r 3), .slice ((tw p u o).u 0).a ((tw p u o).u 0).n ((tw p u o).u 0).c, .slice ((tw p u o).u 1).a ((tw p u o).u 1).n ((tw p u o).u 1).c, .slice ((tw p u o).u 2).a ((tw p u o).u 2).n ((tw p u o).u 2).c, .int .i64 (tw p u o).ep, .int .i64 (tw p u o).sg, .int .i64 (tw p u o).rt, .slice (tw p u o).o.a (tw p u o).o.n (tw p u o).o.c, .int .i64 (tw p u o).pc, .int .i64 (tw p u o).x, .int .i64 (tw p u o).y]), .int .i64 e1]) ∧ Th w' w'.heap.size (tw p u o) F5 g ∧ Below W.heap.size W w')) (CP2 : Hid (∀ W, Th W W.heap.size t F g → Calls Tryz.prog 10 #[(.agg #[.bool t.lv, .int .i64 (t.r 0), .int .i64 (t.r 1), .int .i64 (t.r 2), .int .i64 (t.r 3), .slice (t.u 0).a (t.u 0).n (t.u 0).c, .slice (t.u 1).a (t.u 1).n (t.u 1).c, .slice (t.u 2).a (t.u 2).n (t.u 2).c, .int .i64 t.ep, .int .i64 t.sg, .int .i64 t.rt, .slice t.o.a t.o.n t.o.c, .int .i64 t.pc, .int .i64 t.x, .int .i64 t.y]), .int .i64 r, .int .i64 a] W fun e w' => ∃ (u : Nat → Ls.Sl) (o : Ls.Sl), o.n = p.o.n ∧ e = .returned (.tuple #[(.agg #[.bool (tw p u o).lv, .int .i64 ((tw p u o).r 0), .int .i64 ((tw p u o).r 1), .int .i64 ((tw p u o).r 2), .int .i64 ((tw p u o).r 3), .slice ((tw p u o).u 0).a ((tw p u o).u 0).n ((tw p u o).u 0).c, .slice ((tw p u o).u 1).a ((tw p u o).u 1).n ((tw p u o).u 1).c, .slice ((tw p u o).u 2).a ((tw p u o).u 2).n ((tw p u o).u 2).c, .int .i64 (tw p u o).ep, .int .i64 (tw p u o).sg, .int .i64 (tw p u o).rt, .slice (tw p u o).o.a (tw p u o).o.n (tw p u o).o.c, .int .i64 (tw p u o).pc, .int .i64 (tw p u o).x, .int .i64 (tw p u o).y]), .int .i64 e1]) ∧ Th w' w'.heap.size (tw p u o) F5 g ∧ Below W.heap.size W w')) (FL : Hid ((∀ j, j < 3 → (F5 j).length ≤ 2000000) ∧ p.o.n ≤ 220)) (L6 : Hid (Lq w wc s d [(w.heap.size + 1 + 1, tv t), (w.heap.size + 1, kv k), (w.heap.size, hv s)] [(t, F, g)])) (c0 c1 c2 c8 c9 c10 c11 c12 c13 c18 c19 c20 c21 c22 c23 c24 c25 c26 c27 c28 c29 c30 c31 c32 c33 c34 c35 c36 c37 c38 c39 c40 c41 c42 c43 c44 c45 c46 c47 c48 c49 c50 c51 c52 c53 c54 c55 c56 c57 c58 c59 c60 c61 c62 c63 c64 c65 c66 c67 c68 c69 c70 c71 c72 c73 c74 c75 c76 c77 c78 c79 c80 c81 c82 c83 c84 c85 c86 c87 c88 c89 c90 c91 c92 c93 c94 c95 c96 c97 c98 c99 c100 c101 c102 c103 c104 c105 c106 c107 c108 c109 c110 c111 c112 c113 c114 c115 c116 c117 c118 c119 c120 c121 c122 c123 c124 c125 c126 c127 c128 c129 c130 c131 c132 c133 c134 c135 c136 c137 c138 c139 c140 c141 c142 c143 c144 c145 c146 c147 c148 c149 c150 c151 c152 c153 c154 c155 c156 : Value) :
    Code.wp Tryz.prog tailC8 (bodyPost Tryz.prog Tryz.f3 (fun e w' => e = .returned (.bool true) ∧ Below w.heap.size w w')) ⟨#[c0, c1, c2, .int .i64 r, .int .i64 a, .pointer (some ⟨w.heap.size, 0, none⟩), .pointer (some ⟨w.heap.size + 1, 0, none⟩), .pointer (some ⟨w.heap.size + 1 + 1, 0, none⟩), c8, c9, c10, c11, c12, c13, .int .i64 v, .int .i64 e1, .int .i64 v, .int .i64 e1, c18, c19, c20, c21, c22, c23, c24, c25, c26, c27, c28, c29, c30, c31, c32, c33, c34, c35, c36, c37, c38, c39, c40, c41, c42, c43, c44, c45, c46, c47, c48, c49, c50, c51, c52, c53, c54, c55, c56, c57, c58, c59, c60, c61, c62, c63, c64, c65, c66, c67, c68, c69, c70, c71, c72, c73, c74, c75, c76, c77, c78, c79, c80, c81, c82, c83, c84, c85, c86, c87, c88, c89, c90, c91, c92, c93, c94, c95, c96, c97, c98, c99, c100, c101, c102, c103, c104, c105, c106, c107, c108, c109, c110, c111, c112, c113, c114, c115, c116, c117, c118, c119, c120, c121, c122, c123, c124, c125, c126, c127, c128, c129, c130, c131, c132, c133, c134, c135, c136, c137, c138, c139, c140, c141, c142, c143, c144, c145, c146, c147, c148, c149, c150, c151, c152, c153, c154, c155, c156], []⟩ wc := by
  unfold tailC8
  conv => arg 2; whnf
  have x0 := (L6.out.lt.bx (w.heap.size + 1 + 1) (tv t) (by simp)).cel 0 (.bool t.lv) rfl
  have x1 := (L6.out.lt.bx (w.heap.size + 1 + 1) (tv t) (by simp)).cel 1 (.int .i64 (t.r 0)) rfl
  have x2 := (L6.out.lt.bx (w.heap.size + 1 + 1) (tv t) (by simp)).cel 2 (.int .i64 (t.r 1)) rfl
  have x3 := (L6.out.lt.bx (w.heap.size + 1 + 1) (tv t) (by simp)).cel 3 (.int .i64 (t.r 2)) rfl
  have x4 := (L6.out.lt.bx (w.heap.size + 1 + 1) (tv t) (by simp)).cel 4 (.int .i64 (t.r 3)) rfl
  have x5 := (L6.out.lt.bx (w.heap.size + 1 + 1) (tv t) (by simp)).cel 5 (.slice (t.u 0).a (t.u 0).n (t.u 0).c) rfl
  have x6 := (L6.out.lt.bx (w.heap.size + 1 + 1) (tv t) (by simp)).cel 6 (.slice (t.u 1).a (t.u 1).n (t.u 1).c) rfl
  have x7 := (L6.out.lt.bx (w.heap.size + 1 + 1) (tv t) (by simp)).cel 7 (.slice (t.u 2).a (t.u 2).n (t.u 2).c) rfl
  have x8 := (L6.out.lt.bx (w.heap.size + 1 + 1) (tv t) (by simp)).cel 8 (.int .i64 t.ep) rfl
  have x9 := (L6.out.lt.bx (w.heap.size + 1 + 1) (tv t) (by simp)).cel 9 (.int .i64 t.sg) rfl
  have x10 := (L6.out.lt.bx (w.heap.size + 1 + 1) (tv t) (by simp)).cel 10 (.int .i64 t.rt) rfl
  have x11 := (L6.out.lt.bx (w.heap.size + 1 + 1) (tv t) (by simp)).cel 11 (.slice t.o.a t.o.n t.o.c) rfl
  have x12 := (L6.out.lt.bx (w.heap.size + 1 + 1) (tv t) (by simp)).cel 12 (.int .i64 t.pc) rfl
  have x13 := (L6.out.lt.bx (w.heap.size + 1 + 1) (tv t) (by simp)).cel 13 (.int .i64 t.x) rfl
  have x14 := (L6.out.lt.bx (w.heap.size + 1 + 1) (tv t) (by simp)).cel 14 (.int .i64 t.y) rfl
  have xl := (L6.out.lt.bx (w.heap.size + 1 + 1) (tv t) (by simp)).lt
  go_wp2_with fail
  refine (CP.out wc (L6.out.lt.tt t F g (by simp))).mono ?_
  rintro e9 w7 ⟨u1, o1, hon, he, hth, hb9⟩
  obtain ⟨t5, ht9⟩ : ∃ t9, t9 = tw p u1 o1 := ⟨_, rfl⟩
  rw [← ht9] at he hth
  subst he
  have L7a := Lib.hid ((L6.out.next hb9).thread hth)
  have E5 := Lib.hid (And.intro ht9 hon)
  clear hb9 L6 hth hon ht9
  clear x0 x1 x2 x3 x4 x5 x6 x7 x8 x9 x10 x11 x12 x13 x14 xl
  go_upto_region 9 with fail
  obtain ⟨W7, hW9⟩ : ∃ W9, W9 = w7.alloc (.cells #[.bool t5.lv, .int .i64 (t5.r 0), .int .i64 (t5.r 1), .int .i64 (t5.r 2), .int .i64 (t5.r 3), .slice (t5.u 0).a (t5.u 0).n (t5.u 0).c, .slice (t5.u 1).a (t5.u 1).n (t5.u 1).c, .slice (t5.u 2).a (t5.u 2).n (t5.u 2).c, .int .i64 t5.ep, .int .i64 t5.sg, .int .i64 t5.rt, .slice t5.o.a t5.o.n t5.o.c, .int .i64 t5.pc, .int .i64 t5.x, .int .i64 t5.y] 34) := ⟨_, rfl⟩
  obtain ⟨b5, hb9⟩ : ∃ b9, b9 = w7.heap.size := ⟨_, rfl⟩
  have L9 := L7a.out.lay (tv t5) 34
  rw [← show (W7 : World) = w7.alloc (.cells (tv t5).toArray 34) from hW9] at L9
  rw [← hb9] at L9
  have L7 := Lib.hid L9
  rw [← hW9, ← hb9]
  clear hW9 hb9 L9 L7a
  have x0 := (L7.out.lt.bx (w.heap.size + 1 + 1) (tv t) (by simp)).cel 0 (.bool t.lv) rfl
  have x1 := (L7.out.lt.bx (w.heap.size + 1 + 1) (tv t) (by simp)).cel 1 (.int .i64 (t.r 0)) rfl
  have x2 := (L7.out.lt.bx (w.heap.size + 1 + 1) (tv t) (by simp)).cel 2 (.int .i64 (t.r 1)) rfl
  have x3 := (L7.out.lt.bx (w.heap.size + 1 + 1) (tv t) (by simp)).cel 3 (.int .i64 (t.r 2)) rfl
  have x4 := (L7.out.lt.bx (w.heap.size + 1 + 1) (tv t) (by simp)).cel 4 (.int .i64 (t.r 3)) rfl
  have x5 := (L7.out.lt.bx (w.heap.size + 1 + 1) (tv t) (by simp)).cel 5 (.slice (t.u 0).a (t.u 0).n (t.u 0).c) rfl
  have x6 := (L7.out.lt.bx (w.heap.size + 1 + 1) (tv t) (by simp)).cel 6 (.slice (t.u 1).a (t.u 1).n (t.u 1).c) rfl
  have x7 := (L7.out.lt.bx (w.heap.size + 1 + 1) (tv t) (by simp)).cel 7 (.slice (t.u 2).a (t.u 2).n (t.u 2).c) rfl
  have x8 := (L7.out.lt.bx (w.heap.size + 1 + 1) (tv t) (by simp)).cel 8 (.int .i64 t.ep) rfl
  have x9 := (L7.out.lt.bx (w.heap.size + 1 + 1) (tv t) (by simp)).cel 9 (.int .i64 t.sg) rfl
  have x10 := (L7.out.lt.bx (w.heap.size + 1 + 1) (tv t) (by simp)).cel 10 (.int .i64 t.rt) rfl
  have x11 := (L7.out.lt.bx (w.heap.size + 1 + 1) (tv t) (by simp)).cel 11 (.slice t.o.a t.o.n t.o.c) rfl
  have x12 := (L7.out.lt.bx (w.heap.size + 1 + 1) (tv t) (by simp)).cel 12 (.int .i64 t.pc) rfl
  have x13 := (L7.out.lt.bx (w.heap.size + 1 + 1) (tv t) (by simp)).cel 13 (.int .i64 t.x) rfl
  have x14 := (L7.out.lt.bx (w.heap.size + 1 + 1) (tv t) (by simp)).cel 14 (.int .i64 t.y) rfl
  have xl := (L7.out.lt.bx (w.heap.size + 1 + 1) (tv t) (by simp)).lt
  go_wp2_with fail
  refine (CP2.out W7 (L7.out.lt.tt t F g (by simp))).mono ?_
  rintro e9 w8 ⟨u2, o2, hon, he, hth, hb9⟩
  obtain ⟨t6, ht9⟩ : ∃ t9, t9 = tw p u2 o2 := ⟨_, rfl⟩
  rw [← ht9] at he hth
  subst he
  have L8a := Lib.hid ((L7.out.next hb9).thread hth)
  have E6 := Lib.hid (And.intro ht9 hon)
  clear hb9 L7 hth hon ht9
  clear x0 x1 x2 x3 x4 x5 x6 x7 x8 x9 x10 x11 x12 x13 x14 xl
  go_upto_region 10 with fail
  obtain ⟨W8, hW9⟩ : ∃ W9, W9 = w8.alloc (.cells #[.bool t6.lv, .int .i64 (t6.r 0), .int .i64 (t6.r 1), .int .i64 (t6.r 2), .int .i64 (t6.r 3), .slice (t6.u 0).a (t6.u 0).n (t6.u 0).c, .slice (t6.u 1).a (t6.u 1).n (t6.u 1).c, .slice (t6.u 2).a (t6.u 2).n (t6.u 2).c, .int .i64 t6.ep, .int .i64 t6.sg, .int .i64 t6.rt, .slice t6.o.a t6.o.n t6.o.c, .int .i64 t6.pc, .int .i64 t6.x, .int .i64 t6.y] 34) := ⟨_, rfl⟩
  obtain ⟨b6, hb9⟩ : ∃ b9, b9 = w8.heap.size := ⟨_, rfl⟩
  have L9 := L8a.out.lay (tv t6) 34
  rw [← show (W8 : World) = w8.alloc (.cells (tv t6).toArray 34) from hW9] at L9
  rw [← hb9] at L9
  have L8 := Lib.hid L9
  rw [← hW9, ← hb9]
  clear hW9 hb9 L9 L8a
  have x0 := (L8.out.lt.bx (b5) (tv t5) (by simp)).cel 0 (.bool t5.lv) rfl
  have x1 := (L8.out.lt.bx (b5) (tv t5) (by simp)).cel 1 (.int .i64 (t5.r 0)) rfl
  have x2 := (L8.out.lt.bx (b5) (tv t5) (by simp)).cel 2 (.int .i64 (t5.r 1)) rfl
  have x3 := (L8.out.lt.bx (b5) (tv t5) (by simp)).cel 3 (.int .i64 (t5.r 2)) rfl
  have x4 := (L8.out.lt.bx (b5) (tv t5) (by simp)).cel 4 (.int .i64 (t5.r 3)) rfl
  have x5 := (L8.out.lt.bx (b5) (tv t5) (by simp)).cel 5 (.slice (t5.u 0).a (t5.u 0).n (t5.u 0).c) rfl
  have x6 := (L8.out.lt.bx (b5) (tv t5) (by simp)).cel 6 (.slice (t5.u 1).a (t5.u 1).n (t5.u 1).c) rfl
  have x7 := (L8.out.lt.bx (b5) (tv t5) (by simp)).cel 7 (.slice (t5.u 2).a (t5.u 2).n (t5.u 2).c) rfl
  have x8 := (L8.out.lt.bx (b5) (tv t5) (by simp)).cel 8 (.int .i64 t5.ep) rfl
  have x9 := (L8.out.lt.bx (b5) (tv t5) (by simp)).cel 9 (.int .i64 t5.sg) rfl
  have x10 := (L8.out.lt.bx (b5) (tv t5) (by simp)).cel 10 (.int .i64 t5.rt) rfl
  have x11 := (L8.out.lt.bx (b5) (tv t5) (by simp)).cel 11 (.slice t5.o.a t5.o.n t5.o.c) rfl
  have x12 := (L8.out.lt.bx (b5) (tv t5) (by simp)).cel 12 (.int .i64 t5.pc) rfl
  have x13 := (L8.out.lt.bx (b5) (tv t5) (by simp)).cel 13 (.int .i64 t5.x) rfl
  have x14 := (L8.out.lt.bx (b5) (tv t5) (by simp)).cel 14 (.int .i64 t5.y) rfl
  have xl := (L8.out.lt.bx (b5) (tv t5) (by simp)).lt
  have y0 := (L8.out.lt.bx (b6) (tv t6) (by simp)).cel 0 (.bool t6.lv) rfl
  have y1 := (L8.out.lt.bx (b6) (tv t6) (by simp)).cel 1 (.int .i64 (t6.r 0)) rfl
  have y2 := (L8.out.lt.bx (b6) (tv t6) (by simp)).cel 2 (.int .i64 (t6.r 1)) rfl
  have y3 := (L8.out.lt.bx (b6) (tv t6) (by simp)).cel 3 (.int .i64 (t6.r 2)) rfl
  have y4 := (L8.out.lt.bx (b6) (tv t6) (by simp)).cel 4 (.int .i64 (t6.r 3)) rfl
  have y5 := (L8.out.lt.bx (b6) (tv t6) (by simp)).cel 5 (.slice (t6.u 0).a (t6.u 0).n (t6.u 0).c) rfl
  have y6 := (L8.out.lt.bx (b6) (tv t6) (by simp)).cel 6 (.slice (t6.u 1).a (t6.u 1).n (t6.u 1).c) rfl
  have y7 := (L8.out.lt.bx (b6) (tv t6) (by simp)).cel 7 (.slice (t6.u 2).a (t6.u 2).n (t6.u 2).c) rfl
  have y8 := (L8.out.lt.bx (b6) (tv t6) (by simp)).cel 8 (.int .i64 t6.ep) rfl
  have y9 := (L8.out.lt.bx (b6) (tv t6) (by simp)).cel 9 (.int .i64 t6.sg) rfl
  have y10 := (L8.out.lt.bx (b6) (tv t6) (by simp)).cel 10 (.int .i64 t6.rt) rfl
  have y11 := (L8.out.lt.bx (b6) (tv t6) (by simp)).cel 11 (.slice t6.o.a t6.o.n t6.o.c) rfl
  have y12 := (L8.out.lt.bx (b6) (tv t6) (by simp)).cel 12 (.int .i64 t6.pc) rfl
  have y13 := (L8.out.lt.bx (b6) (tv t6) (by simp)).cel 13 (.int .i64 t6.x) rfl
  have y14 := (L8.out.lt.bx (b6) (tv t6) (by simp)).cel 14 (.int .i64 t6.y) rfl
  have yl := (L8.out.lt.bx (b6) (tv t6) (by simp)).lt
  rename_i K9 hK
  have hT : ∀ (x : Act) (y : World), Code.wp Tryz.prog tailC11 (bodyPost Tryz.prog Tryz.f3 (fun e w' => e = .returned (.bool true) ∧ Below w.heap.size w w')) x y → K9 x y := hK
  clear hK
  go_wp2_with fail
  refine (rsame_yes p t5 t6 F5 g W8 (by rw [E5.out.1]; rfl) (by rw [E6.out.1]; rfl) (by rw [E5.out.1, E6.out.1]; exact E6.out.2.trans E5.out.2.symm) (L8.out.lt.tt t5 F5 g (by simp)) (L8.out.lt.tt t6 F5 g (by simp)) FL.out.1 (by rw [E5.out.1]; have := FL.out.2; have := E5.out.2; show o1.n ≤ _; omega)).mono ?_
  rintro e9 w9 ⟨rfl, hb9⟩
  have L9 := Lib.hid ((L8.out.next hb9).less)
  clear hb9 L8
  clear x0 x1 x2 x3 x4 x5 x6 x7 x8 x9 x10 x11 x12 x13 x14 xl
  clear y0 y1 y2 y3 y4 y5 y6 y7 y8 y9 y10 y11 y12 y13 y14 yl
  go_wp2
  exact tail11 w _ s d k t F g v e1 x1 x2 x3 m1 m2 m3 CM CM2 CA CA2 CB CB2 hs hx6 CI CI2 r CO CO2 L9 _ _ _ _ _ _ _ _ _ _ _ _ _ _ _ _ _ _ _ _ _ _ _ _ _ _ _ _ _ _ _ _ _ _ _ _ _ _ _ _ _ _ _ _ _ _ _ _ _ _ _ _ _ _ _ _ _ _ _ _ _ _ _ _ _ _ _ _ _ _ _ _ _ _ _ _ _ _ _ _ _ _ _ _ _ _ _ _ _ _ _ _ _ _ _ _ _ _ _ _ _ _ _ _ _ _ _ _ _ _ _ _ _ _ _ _ _ _ _ _ _ _ _ _ _ _ _ _ _ _ _ _ _ _ _ _ _ _ _ _ _ _ _ _ _ _

end Go.Proofs.YtjppimabhefeeaaGreatDoor.RegsTells
