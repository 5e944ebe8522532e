/-
  RegsTells: any thread may be, or not; any register is told, set, and has the object, that the document says, or it is told why not; so is all that a thread holds, and whether it is armed, and makes what is black: for every heap of at most 9 pages and 130 words, every collector, and every thread of at most 220 operations; the table of sizes is tied to the program's text by the card.
-/
import Derived.Test.YtjppimabhefeeaaGreatDoorORtTell2
import Derived.Test.YtjppimabhefeeaaGreatDoorHpOJ
import Derived.Deep.RegionHeld3
import Derived.Deep.Cut
import Derived.Deep.CutRange
namespace Go.Proofs.YtjppimabhefeeaaGreatDoor.RegsTells
open Go.Proofs.YtjppimabhefeeaaGreatDoor Go.Proofs.YtjppimabhefeeaaGreatDoor.Rt
open Go.ChangeShapes Go.WideShapes Go.ChangeAt Go.RowKit
set_option maxRecDepth 100000

section
variable (s : Hs) (d : Hd_) (k : Sh.Ks) (t : Ts) (F : Nat → List Int) (g : Nat → O4) (r a : Int)
set_option maxHeartbeats 4000000 in
theorem walk_fewff (hfh : fewH s = false) (hft : fewT t = false) (w : World) (hz : Cl.Sz w) (hp : Hp w w.heap.size s d) (h : Th w w.heap.size t F g) : Calls Tryz.prog 3 #[(.agg #[.slice s.w.a s.w.n s.w.c, .slice s.p.a s.p.n s.p.c, .slice (s.u 0).a (s.u 0).n (s.u 0).c, .slice (s.u 1).a (s.u 1).n (s.u 1).c, .slice (s.u 2).a (s.u 2).n (s.u 2).c, .slice s.c.a s.c.n s.c.c]), (.agg #[.int .i64 k.ph, .int .i64 k.ep, .bool k.mj, .slice k.wk.a k.wk.n k.wk.c, .bool k.ov, .int .i64 k.pa, .int .i64 k.pf, .int .i64 k.ps, .int .i64 k.pc, .bool k.me]), (.agg #[.bool t.lv, .int .i64 (t.r 0), .int .i64 (t.r 1), .int .i64 (t.r 2), .int .i64 (t.r 3), .slice (t.u 0).a (t.u 0).n (t.u 0).c, .slice (t.u 1).a (t.u 1).n (t.u 1).c, .slice (t.u 2).a (t.u 2).n (t.u 2).c, .int .i64 t.ep, .int .i64 t.sg, .int .i64 t.rt, .slice t.o.a t.o.n t.o.c, .int .i64 t.pc, .int .i64 t.x, .int .i64 t.y]), .int .i64 r, .int .i64 a] w fun e w' => e = .returned (.bool true) ∧ Below w.heap.size w w' := by
  have HZ := Lib.hid hz
  have hz0 := hz.pos
  have HP := Lib.hid hp
  have HT := Lib.hid h
  have CH := Lib.hid (fun W => Go.Proofs.YtjppimabhefeeaaGreatDoor.rfew_any s W)
  have CF := Lib.hid (fun W => Rt.rfew_any t W)
  rw [hfh] at CH
  rw [hft] at CF
  clear hz hp h hfh hft
  go_enter Tryz.func3, Tryz.ntmps3
  go_wp2_with fail
  obtain ⟨W1, hW1⟩ : ∃ W1, W1 = ((w.alloc (.cells #[.slice s.w.a s.w.n s.w.c, .slice s.p.a s.p.n s.p.c, .slice (s.u 0).a (s.u 0).n (s.u 0).c, .slice (s.u 1).a (s.u 1).n (s.u 1).c, .slice (s.u 2).a (s.u 2).n (s.u 2).c, .slice s.c.a s.c.n s.c.c] 28)).alloc (.cells #[.int .i64 k.ph, .int .i64 k.ep, .bool k.mj, .slice k.wk.a k.wk.n k.wk.c, .bool k.ov, .int .i64 k.pa, .int .i64 k.pf, .int .i64 k.ps, .int .i64 k.pc, .bool k.me] 30)).alloc (.cells #[.bool t.lv, .int .i64 (t.r 0), .int .i64 (t.r 1), .int .i64 (t.r 2), .int .i64 (t.r 3), .slice (t.u 0).a (t.u 0).n (t.u 0).c, .slice (t.u 1).a (t.u 1).n (t.u 1).c, .slice (t.u 2).a (t.u 2).n (t.u 2).c, .int .i64 t.ep, .int .i64 t.sg, .int .i64 t.rt, .slice t.o.a t.o.n t.o.c, .int .i64 t.pc, .int .i64 t.x, .int .i64 t.y] 34) := ⟨_, rfl⟩
  have L1 := Lib.hid (lq_start HP.out HT.out hW1)
  rw [← hW1]
  clear hW1
  refine (Rt.awake_any W1).mono ?_
  rintro e9 w1 ⟨rfl, hb9⟩
  have L2 := Lib.hid (L1.out.next hb9)
  clear hb9 L1
  have q0 := (L2.out.lt.bx (w.heap.size) (hv s) (by simp)).cel 0 (.slice s.w.a s.w.n s.w.c) rfl
  have q1 := (L2.out.lt.bx (w.heap.size) (hv s) (by simp)).cel 1 (.slice s.p.a s.p.n s.p.c) rfl
  have q2 := (L2.out.lt.bx (w.heap.size) (hv s) (by simp)).cel 2 (.slice (s.u 0).a (s.u 0).n (s.u 0).c) rfl
  have q3 := (L2.out.lt.bx (w.heap.size) (hv s) (by simp)).cel 3 (.slice (s.u 1).a (s.u 1).n (s.u 1).c) rfl
  have q4 := (L2.out.lt.bx (w.heap.size) (hv s) (by simp)).cel 4 (.slice (s.u 2).a (s.u 2).n (s.u 2).c) rfl
  have q5 := (L2.out.lt.bx (w.heap.size) (hv s) (by simp)).cel 5 (.slice s.c.a s.c.n s.c.c) rfl
  have ql := (L2.out.lt.bx (w.heap.size) (hv s) (by simp)).lt
  go_wp2_with fail
  refine (CH.out w1).mono ?_
  rintro e9 w2 ⟨rfl, hb9⟩
  have L3 := Lib.hid (L2.out.next hb9)
  clear hb9 L2
  clear q0 q1 q2 q3 q4 q5 ql
  have x0 := (L3.out.lt.bx (w.heap.size + 1 + 1) (tv t) (by simp)).cel 0 (.bool t.lv) rfl
  have x1 := (L3.out.lt.bx (w.heap.size + 1 + 1) (tv t) (by simp)).cel 1 (.int .i64 (t.r 0)) rfl
  have x2 := (L3.out.lt.bx (w.heap.size + 1 + 1) (tv t) (by simp)).cel 2 (.int .i64 (t.r 1)) rfl
  have x3 := (L3.out.lt.bx (w.heap.size + 1 + 1) (tv t) (by simp)).cel 3 (.int .i64 (t.r 2)) rfl
  have x4 := (L3.out.lt.bx (w.heap.size + 1 + 1) (tv t) (by simp)).cel 4 (.int .i64 (t.r 3)) rfl
  have x5 := (L3.out.lt.bx (w.heap.size + 1 + 1) (tv t) (by simp)).cel 5 (.slice (t.u 0).a (t.u 0).n (t.u 0).c) rfl
  have x6 := (L3.out.lt.bx (w.heap.size + 1 + 1) (tv t) (by simp)).cel 6 (.slice (t.u 1).a (t.u 1).n (t.u 1).c) rfl
  have x7 := (L3.out.lt.bx (w.heap.size + 1 + 1) (tv t) (by simp)).cel 7 (.slice (t.u 2).a (t.u 2).n (t.u 2).c) rfl
  have x8 := (L3.out.lt.bx (w.heap.size + 1 + 1) (tv t) (by simp)).cel 8 (.int .i64 t.ep) rfl
  have x9 := (L3.out.lt.bx (w.heap.size + 1 + 1) (tv t) (by simp)).cel 9 (.int .i64 t.sg) rfl
  have x10 := (L3.out.lt.bx (w.heap.size + 1 + 1) (tv t) (by simp)).cel 10 (.int .i64 t.rt) rfl
  have x11 := (L3.out.lt.bx (w.heap.size + 1 + 1) (tv t) (by simp)).cel 11 (.slice t.o.a t.o.n t.o.c) rfl
  have x12 := (L3.out.lt.bx (w.heap.size + 1 + 1) (tv t) (by simp)).cel 12 (.int .i64 t.pc) rfl
  have x13 := (L3.out.lt.bx (w.heap.size + 1 + 1) (tv t) (by simp)).cel 13 (.int .i64 t.x) rfl
  have x14 := (L3.out.lt.bx (w.heap.size + 1 + 1) (tv t) (by simp)).cel 14 (.int .i64 t.y) rfl
  have xl := (L3.out.lt.bx (w.heap.size + 1 + 1) (tv t) (by simp)).lt
  go_wp2_with fail
  refine (CF.out w2).mono ?_
  rintro e9 w3 ⟨rfl, hb9⟩
  have L4 := Lib.hid (L3.out.next hb9)
  clear hb9 L3
  clear x0 x1 x2 x3 x4 x5 x6 x7 x8 x9 x10 x11 x12 x13 x14 xl
  have x0 := (L4.out.lt.bx (w.heap.size + 1 + 1) (tv t) (by simp)).cel 0 (.bool t.lv) rfl
  have x1 := (L4.out.lt.bx (w.heap.size + 1 + 1) (tv t) (by simp)).cel 1 (.int .i64 (t.r 0)) rfl
  have x2 := (L4.out.lt.bx (w.heap.size + 1 + 1) (tv t) (by simp)).cel 2 (.int .i64 (t.r 1)) rfl
  have x3 := (L4.out.lt.bx (w.heap.size + 1 + 1) (tv t) (by simp)).cel 3 (.int .i64 (t.r 2)) rfl
  have x4 := (L4.out.lt.bx (w.heap.size + 1 + 1) (tv t) (by simp)).cel 4 (.int .i64 (t.r 3)) rfl
  have x5 := (L4.out.lt.bx (w.heap.size + 1 + 1) (tv t) (by simp)).cel 5 (.slice (t.u 0).a (t.u 0).n (t.u 0).c) rfl
  have x6 := (L4.out.lt.bx (w.heap.size + 1 + 1) (tv t) (by simp)).cel 6 (.slice (t.u 1).a (t.u 1).n (t.u 1).c) rfl
  have x7 := (L4.out.lt.bx (w.heap.size + 1 + 1) (tv t) (by simp)).cel 7 (.slice (t.u 2).a (t.u 2).n (t.u 2).c) rfl
  have x8 := (L4.out.lt.bx (w.heap.size + 1 + 1) (tv t) (by simp)).cel 8 (.int .i64 t.ep) rfl
  have x9 := (L4.out.lt.bx (w.heap.size + 1 + 1) (tv t) (by simp)).cel 9 (.int .i64 t.sg) rfl
  have x10 := (L4.out.lt.bx (w.heap.size + 1 + 1) (tv t) (by simp)).cel 10 (.int .i64 t.rt) rfl
  have x11 := (L4.out.lt.bx (w.heap.size + 1 + 1) (tv t) (by simp)).cel 11 (.slice t.o.a t.o.n t.o.c) rfl
  have x12 := (L4.out.lt.bx (w.heap.size + 1 + 1) (tv t) (by simp)).cel 12 (.int .i64 t.pc) rfl
  have x13 := (L4.out.lt.bx (w.heap.size + 1 + 1) (tv t) (by simp)).cel 13 (.int .i64 t.x) rfl
  have x14 := (L4.out.lt.bx (w.heap.size + 1 + 1) (tv t) (by simp)).cel 14 (.int .i64 t.y) rfl
  have xl := (L4.out.lt.bx (w.heap.size + 1 + 1) (tv t) (by simp)).lt
  go_wp2
  go_ret
  exact ⟨rfl, L4.out.bel⟩
set_option maxHeartbeats 4000000 in
theorem walk_fewft (hfh : fewH s = false) (hft : fewT t = true) (w : World) (hz : Cl.Sz w) (hp : Hp w w.heap.size s d) (h : Th w w.heap.size t F g) : Calls Tryz.prog 3 #[(.agg #[.slice s.w.a s.w.n s.w.c, .slice s.p.a s.p.n s.p.c, .slice (s.u 0).a (s.u 0).n (s.u 0).c, .slice (s.u 1).a (s.u 1).n (s.u 1).c, .slice (s.u 2).a (s.u 2).n (s.u 2).c, .slice s.c.a s.c.n s.c.c]), (.agg #[.int .i64 k.ph, .int .i64 k.ep, .bool k.mj, .slice k.wk.a k.wk.n k.wk.c, .bool k.ov, .int .i64 k.pa, .int .i64 k.pf, .int .i64 k.ps, .int .i64 k.pc, .bool k.me]), (.agg #[.bool t.lv, .int .i64 (t.r 0), .int .i64 (t.r 1), .int .i64 (t.r 2), .int .i64 (t.r 3), .slice (t.u 0).a (t.u 0).n (t.u 0).c, .slice (t.u 1).a (t.u 1).n (t.u 1).c, .slice (t.u 2).a (t.u 2).n (t.u 2).c, .int .i64 t.ep, .int .i64 t.sg, .int .i64 t.rt, .slice t.o.a t.o.n t.o.c, .int .i64 t.pc, .int .i64 t.x, .int .i64 t.y]), .int .i64 r, .int .i64 a] w fun e w' => e = .returned (.bool true) ∧ Below w.heap.size w w' := by
  have HZ := Lib.hid hz
  have hz0 := hz.pos
  have HP := Lib.hid hp
  have HT := Lib.hid h
  have CH := Lib.hid (fun W => Go.Proofs.YtjppimabhefeeaaGreatDoor.rfew_any s W)
  have CF := Lib.hid (fun W => Rt.rfew_any t W)
  rw [hfh] at CH
  rw [hft] at CF
  clear hz hp h hfh hft
  go_enter Tryz.func3, Tryz.ntmps3
  go_wp2_with fail
  obtain ⟨W1, hW1⟩ : ∃ W1, W1 = ((w.alloc (.cells #[.slice s.w.a s.w.n s.w.c, .slice s.p.a s.p.n s.p.c, .slice (s.u 0).a (s.u 0).n (s.u 0).c, .slice (s.u 1).a (s.u 1).n (s.u 1).c, .slice (s.u 2).a (s.u 2).n (s.u 2).c, .slice s.c.a s.c.n s.c.c] 28)).alloc (.cells #[.int .i64 k.ph, .int .i64 k.ep, .bool k.mj, .slice k.wk.a k.wk.n k.wk.c, .bool k.ov, .int .i64 k.pa, .int .i64 k.pf, .int .i64 k.ps, .int .i64 k.pc, .bool k.me] 30)).alloc (.cells #[.bool t.lv, .int .i64 (t.r 0), .int .i64 (t.r 1), .int .i64 (t.r 2), .int .i64 (t.r 3), .slice (t.u 0).a (t.u 0).n (t.u 0).c, .slice (t.u 1).a (t.u 1).n (t.u 1).c, .slice (t.u 2).a (t.u 2).n (t.u 2).c, .int .i64 t.ep, .int .i64 t.sg, .int .i64 t.rt, .slice t.o.a t.o.n t.o.c, .int .i64 t.pc, .int .i64 t.x, .int .i64 t.y] 34) := ⟨_, rfl⟩
  have L1 := Lib.hid (lq_start HP.out HT.out hW1)
  rw [← hW1]
  clear hW1
  refine (Rt.awake_any W1).mono ?_
  rintro e9 w1 ⟨rfl, hb9⟩
  have L2 := Lib.hid (L1.out.next hb9)
  clear hb9 L1
  have q0 := (L2.out.lt.bx (w.heap.size) (hv s) (by simp)).cel 0 (.slice s.w.a s.w.n s.w.c) rfl
  have q1 := (L2.out.lt.bx (w.heap.size) (hv s) (by simp)).cel 1 (.slice s.p.a s.p.n s.p.c) rfl
  have q2 := (L2.out.lt.bx (w.heap.size) (hv s) (by simp)).cel 2 (.slice (s.u 0).a (s.u 0).n (s.u 0).c) rfl
  have q3 := (L2.out.lt.bx (w.heap.size) (hv s) (by simp)).cel 3 (.slice (s.u 1).a (s.u 1).n (s.u 1).c) rfl
  have q4 := (L2.out.lt.bx (w.heap.size) (hv s) (by simp)).cel 4 (.slice (s.u 2).a (s.u 2).n (s.u 2).c) rfl
  have q5 := (L2.out.lt.bx (w.heap.size) (hv s) (by simp)).cel 5 (.slice s.c.a s.c.n s.c.c) rfl
  have ql := (L2.out.lt.bx (w.heap.size) (hv s) (by simp)).lt
  go_wp2_with fail
  refine (CH.out w1).mono ?_
  rintro e9 w2 ⟨rfl, hb9⟩
  have L3 := Lib.hid (L2.out.next hb9)
  clear hb9 L2
  clear q0 q1 q2 q3 q4 q5 ql
  have x0 := (L3.out.lt.bx (w.heap.size + 1 + 1) (tv t) (by simp)).cel 0 (.bool t.lv) rfl
  have x1 := (L3.out.lt.bx (w.heap.size + 1 + 1) (tv t) (by simp)).cel 1 (.int .i64 (t.r 0)) rfl
  have x2 := (L3.out.lt.bx (w.heap.size + 1 + 1) (tv t) (by simp)).cel 2 (.int .i64 (t.r 1)) rfl
  have x3 := (L3.out.lt.bx (w.heap.size + 1 + 1) (tv t) (by simp)).cel 3 (.int .i64 (t.r 2)) rfl
  have x4 := (L3.out.lt.bx (w.heap.size + 1 + 1) (tv t) (by simp)).cel 4 (.int .i64 (t.r 3)) rfl
  have x5 := (L3.out.lt.bx (w.heap.size + 1 + 1) (tv t) (by simp)).cel 5 (.slice (t.u 0).a (t.u 0).n (t.u 0).c) rfl
  have x6 := (L3.out.lt.bx (w.heap.size + 1 + 1) (tv t) (by simp)).cel 6 (.slice (t.u 1).a (t.u 1).n (t.u 1).c) rfl
  have x7 := (L3.out.lt.bx (w.heap.size + 1 + 1) (tv t) (by simp)).cel 7 (.slice (t.u 2).a (t.u 2).n (t.u 2).c) rfl
  have x8 := (L3.out.lt.bx (w.heap.size + 1 + 1) (tv t) (by simp)).cel 8 (.int .i64 t.ep) rfl
  have x9 := (L3.out.lt.bx (w.heap.size + 1 + 1) (tv t) (by simp)).cel 9 (.int .i64 t.sg) rfl
  have x10 := (L3.out.lt.bx (w.heap.size + 1 + 1) (tv t) (by simp)).cel 10 (.int .i64 t.rt) rfl
  have x11 := (L3.out.lt.bx (w.heap.size + 1 + 1) (tv t) (by simp)).cel 11 (.slice t.o.a t.o.n t.o.c) rfl
  have x12 := (L3.out.lt.bx (w.heap.size + 1 + 1) (tv t) (by simp)).cel 12 (.int .i64 t.pc) rfl
  have x13 := (L3.out.lt.bx (w.heap.size + 1 + 1) (tv t) (by simp)).cel 13 (.int .i64 t.x) rfl
  have x14 := (L3.out.lt.bx (w.heap.size + 1 + 1) (tv t) (by simp)).cel 14 (.int .i64 t.y) rfl
  have xl := (L3.out.lt.bx (w.heap.size + 1 + 1) (tv t) (by simp)).lt
  go_wp2_with fail
  refine (CF.out w2).mono ?_
  rintro e9 w3 ⟨rfl, hb9⟩
  have L4 := Lib.hid (L3.out.next hb9)
  clear hb9 L3
  clear x0 x1 x2 x3 x4 x5 x6 x7 x8 x9 x10 x11 x12 x13 x14 xl
  have x0 := (L4.out.lt.bx (w.heap.size + 1 + 1) (tv t) (by simp)).cel 0 (.bool t.lv) rfl
  have x1 := (L4.out.lt.bx (w.heap.size + 1 + 1) (tv t) (by simp)).cel 1 (.int .i64 (t.r 0)) rfl
  have x2 := (L4.out.lt.bx (w.heap.size + 1 + 1) (tv t) (by simp)).cel 2 (.int .i64 (t.r 1)) rfl
  have x3 := (L4.out.lt.bx (w.heap.size + 1 + 1) (tv t) (by simp)).cel 3 (.int .i64 (t.r 2)) rfl
  have x4 := (L4.out.lt.bx (w.heap.size + 1 + 1) (tv t) (by simp)).cel 4 (.int .i64 (t.r 3)) rfl
  have x5 := (L4.out.lt.bx (w.heap.size + 1 + 1) (tv t) (by simp)).cel 5 (.slice (t.u 0).a (t.u 0).n (t.u 0).c) rfl
  have x6 := (L4.out.lt.bx (w.heap.size + 1 + 1) (tv t) (by simp)).cel 6 (.slice (t.u 1).a (t.u 1).n (t.u 1).c) rfl
  have x7 := (L4.out.lt.bx (w.heap.size + 1 + 1) (tv t) (by simp)).cel 7 (.slice (t.u 2).a (t.u 2).n (t.u 2).c) rfl
  have x8 := (L4.out.lt.bx (w.heap.size + 1 + 1) (tv t) (by simp)).cel 8 (.int .i64 t.ep) rfl
  have x9 := (L4.out.lt.bx (w.heap.size + 1 + 1) (tv t) (by simp)).cel 9 (.int .i64 t.sg) rfl
  have x10 := (L4.out.lt.bx (w.heap.size + 1 + 1) (tv t) (by simp)).cel 10 (.int .i64 t.rt) rfl
  have x11 := (L4.out.lt.bx (w.heap.size + 1 + 1) (tv t) (by simp)).cel 11 (.slice t.o.a t.o.n t.o.c) rfl
  have x12 := (L4.out.lt.bx (w.heap.size + 1 + 1) (tv t) (by simp)).cel 12 (.int .i64 t.pc) rfl
  have x13 := (L4.out.lt.bx (w.heap.size + 1 + 1) (tv t) (by simp)).cel 13 (.int .i64 t.x) rfl
  have x14 := (L4.out.lt.bx (w.heap.size + 1 + 1) (tv t) (by simp)).cel 14 (.int .i64 t.y) rfl
  have xl := (L4.out.lt.bx (w.heap.size + 1 + 1) (tv t) (by simp)).lt
  go_wp2
  go_ret
  exact ⟨rfl, L4.out.bel⟩
set_option maxHeartbeats 4000000 in
theorem walk_fewtf (hfh : fewH s = true) (hft : fewT t = false) (w : World) (hz : Cl.Sz w) (hp : Hp w w.heap.size s d) (h : Th w w.heap.size t F g) : Calls Tryz.prog 3 #[(.agg #[.slice s.w.a s.w.n s.w.c, .slice s.p.a s.p.n s.p.c, .slice (s.u 0).a (s.u 0).n (s.u 0).c, .slice (s.u 1).a (s.u 1).n (s.u 1).c, .slice (s.u 2).a (s.u 2).n (s.u 2).c, .slice s.c.a s.c.n s.c.c]), (.agg #[.int .i64 k.ph, .int .i64 k.ep, .bool k.mj, .slice k.wk.a k.wk.n k.wk.c, .bool k.ov, .int .i64 k.pa, .int .i64 k.pf, .int .i64 k.ps, .int .i64 k.pc, .bool k.me]), (.agg #[.bool t.lv, .int .i64 (t.r 0), .int .i64 (t.r 1), .int .i64 (t.r 2), .int .i64 (t.r 3), .slice (t.u 0).a (t.u 0).n (t.u 0).c, .slice (t.u 1).a (t.u 1).n (t.u 1).c, .slice (t.u 2).a (t.u 2).n (t.u 2).c, .int .i64 t.ep, .int .i64 t.sg, .int .i64 t.rt, .slice t.o.a t.o.n t.o.c, .int .i64 t.pc, .int .i64 t.x, .int .i64 t.y]), .int .i64 r, .int .i64 a] w fun e w' => e = .returned (.bool true) ∧ Below w.heap.size w w' := by
  have HZ := Lib.hid hz
  have hz0 := hz.pos
  have HP := Lib.hid hp
  have HT := Lib.hid h
  have CH := Lib.hid (fun W => Go.Proofs.YtjppimabhefeeaaGreatDoor.rfew_any s W)
  have CF := Lib.hid (fun W => Rt.rfew_any t W)
  rw [hfh] at CH
  rw [hft] at CF
  clear hz hp h hfh hft
  go_enter Tryz.func3, Tryz.ntmps3
  go_wp2_with fail
  obtain ⟨W1, hW1⟩ : ∃ W1, W1 = ((w.alloc (.cells #[.slice s.w.a s.w.n s.w.c, .slice s.p.a s.p.n s.p.c, .slice (s.u 0).a (s.u 0).n (s.u 0).c, .slice (s.u 1).a (s.u 1).n (s.u 1).c, .slice (s.u 2).a (s.u 2).n (s.u 2).c, .slice s.c.a s.c.n s.c.c] 28)).alloc (.cells #[.int .i64 k.ph, .int .i64 k.ep, .bool k.mj, .slice k.wk.a k.wk.n k.wk.c, .bool k.ov, .int .i64 k.pa, .int .i64 k.pf, .int .i64 k.ps, .int .i64 k.pc, .bool k.me] 30)).alloc (.cells #[.bool t.lv, .int .i64 (t.r 0), .int .i64 (t.r 1), .int .i64 (t.r 2), .int .i64 (t.r 3), .slice (t.u 0).a (t.u 0).n (t.u 0).c, .slice (t.u 1).a (t.u 1).n (t.u 1).c, .slice (t.u 2).a (t.u 2).n (t.u 2).c, .int .i64 t.ep, .int .i64 t.sg, .int .i64 t.rt, .slice t.o.a t.o.n t.o.c, .int .i64 t.pc, .int .i64 t.x, .int .i64 t.y] 34) := ⟨_, rfl⟩
  have L1 := Lib.hid (lq_start HP.out HT.out hW1)
  rw [← hW1]
  clear hW1
  refine (Rt.awake_any W1).mono ?_
  rintro e9 w1 ⟨rfl, hb9⟩
  have L2 := Lib.hid (L1.out.next hb9)
  clear hb9 L1
  have q0 := (L2.out.lt.bx (w.heap.size) (hv s) (by simp)).cel 0 (.slice s.w.a s.w.n s.w.c) rfl
  have q1 := (L2.out.lt.bx (w.heap.size) (hv s) (by simp)).cel 1 (.slice s.p.a s.p.n s.p.c) rfl
  have q2 := (L2.out.lt.bx (w.heap.size) (hv s) (by simp)).cel 2 (.slice (s.u 0).a (s.u 0).n (s.u 0).c) rfl
  have q3 := (L2.out.lt.bx (w.heap.size) (hv s) (by simp)).cel 3 (.slice (s.u 1).a (s.u 1).n (s.u 1).c) rfl
  have q4 := (L2.out.lt.bx (w.heap.size) (hv s) (by simp)).cel 4 (.slice (s.u 2).a (s.u 2).n (s.u 2).c) rfl
  have q5 := (L2.out.lt.bx (w.heap.size) (hv s) (by simp)).cel 5 (.slice s.c.a s.c.n s.c.c) rfl
  have ql := (L2.out.lt.bx (w.heap.size) (hv s) (by simp)).lt
  go_wp2_with fail
  refine (CH.out w1).mono ?_
  rintro e9 w2 ⟨rfl, hb9⟩
  have L3 := Lib.hid (L2.out.next hb9)
  clear hb9 L2
  clear q0 q1 q2 q3 q4 q5 ql
  have x0 := (L3.out.lt.bx (w.heap.size + 1 + 1) (tv t) (by simp)).cel 0 (.bool t.lv) rfl
  have x1 := (L3.out.lt.bx (w.heap.size + 1 + 1) (tv t) (by simp)).cel 1 (.int .i64 (t.r 0)) rfl
  have x2 := (L3.out.lt.bx (w.heap.size + 1 + 1) (tv t) (by simp)).cel 2 (.int .i64 (t.r 1)) rfl
  have x3 := (L3.out.lt.bx (w.heap.size + 1 + 1) (tv t) (by simp)).cel 3 (.int .i64 (t.r 2)) rfl
  have x4 := (L3.out.lt.bx (w.heap.size + 1 + 1) (tv t) (by simp)).cel 4 (.int .i64 (t.r 3)) rfl
  have x5 := (L3.out.lt.bx (w.heap.size + 1 + 1) (tv t) (by simp)).cel 5 (.slice (t.u 0).a (t.u 0).n (t.u 0).c) rfl
  have x6 := (L3.out.lt.bx (w.heap.size + 1 + 1) (tv t) (by simp)).cel 6 (.slice (t.u 1).a (t.u 1).n (t.u 1).c) rfl
  have x7 := (L3.out.lt.bx (w.heap.size + 1 + 1) (tv t) (by simp)).cel 7 (.slice (t.u 2).a (t.u 2).n (t.u 2).c) rfl
  have x8 := (L3.out.lt.bx (w.heap.size + 1 + 1) (tv t) (by simp)).cel 8 (.int .i64 t.ep) rfl
  have x9 := (L3.out.lt.bx (w.heap.size + 1 + 1) (tv t) (by simp)).cel 9 (.int .i64 t.sg) rfl
  have x10 := (L3.out.lt.bx (w.heap.size + 1 + 1) (tv t) (by simp)).cel 10 (.int .i64 t.rt) rfl
  have x11 := (L3.out.lt.bx (w.heap.size + 1 + 1) (tv t) (by simp)).cel 11 (.slice t.o.a t.o.n t.o.c) rfl
  have x12 := (L3.out.lt.bx (w.heap.size + 1 + 1) (tv t) (by simp)).cel 12 (.int .i64 t.pc) rfl
  have x13 := (L3.out.lt.bx (w.heap.size + 1 + 1) (tv t) (by simp)).cel 13 (.int .i64 t.x) rfl
  have x14 := (L3.out.lt.bx (w.heap.size + 1 + 1) (tv t) (by simp)).cel 14 (.int .i64 t.y) rfl
  have xl := (L3.out.lt.bx (w.heap.size + 1 + 1) (tv t) (by simp)).lt
  go_wp2_with fail
  refine (CF.out w2).mono ?_
  rintro e9 w3 ⟨rfl, hb9⟩
  have L4 := Lib.hid (L3.out.next hb9)
  clear hb9 L3
  clear x0 x1 x2 x3 x4 x5 x6 x7 x8 x9 x10 x11 x12 x13 x14 xl
  have x0 := (L4.out.lt.bx (w.heap.size + 1 + 1) (tv t) (by simp)).cel 0 (.bool t.lv) rfl
  have x1 := (L4.out.lt.bx (w.heap.size + 1 + 1) (tv t) (by simp)).cel 1 (.int .i64 (t.r 0)) rfl
  have x2 := (L4.out.lt.bx (w.heap.size + 1 + 1) (tv t) (by simp)).cel 2 (.int .i64 (t.r 1)) rfl
  have x3 := (L4.out.lt.bx (w.heap.size + 1 + 1) (tv t) (by simp)).cel 3 (.int .i64 (t.r 2)) rfl
  have x4 := (L4.out.lt.bx (w.heap.size + 1 + 1) (tv t) (by simp)).cel 4 (.int .i64 (t.r 3)) rfl
  have x5 := (L4.out.lt.bx (w.heap.size + 1 + 1) (tv t) (by simp)).cel 5 (.slice (t.u 0).a (t.u 0).n (t.u 0).c) rfl
  have x6 := (L4.out.lt.bx (w.heap.size + 1 + 1) (tv t) (by simp)).cel 6 (.slice (t.u 1).a (t.u 1).n (t.u 1).c) rfl
  have x7 := (L4.out.lt.bx (w.heap.size + 1 + 1) (tv t) (by simp)).cel 7 (.slice (t.u 2).a (t.u 2).n (t.u 2).c) rfl
  have x8 := (L4.out.lt.bx (w.heap.size + 1 + 1) (tv t) (by simp)).cel 8 (.int .i64 t.ep) rfl
  have x9 := (L4.out.lt.bx (w.heap.size + 1 + 1) (tv t) (by simp)).cel 9 (.int .i64 t.sg) rfl
  have x10 := (L4.out.lt.bx (w.heap.size + 1 + 1) (tv t) (by simp)).cel 10 (.int .i64 t.rt) rfl
  have x11 := (L4.out.lt.bx (w.heap.size + 1 + 1) (tv t) (by simp)).cel 11 (.slice t.o.a t.o.n t.o.c) rfl
  have x12 := (L4.out.lt.bx (w.heap.size + 1 + 1) (tv t) (by simp)).cel 12 (.int .i64 t.pc) rfl
  have x13 := (L4.out.lt.bx (w.heap.size + 1 + 1) (tv t) (by simp)).cel 13 (.int .i64 t.x) rfl
  have x14 := (L4.out.lt.bx (w.heap.size + 1 + 1) (tv t) (by simp)).cel 14 (.int .i64 t.y) rfl
  have xl := (L4.out.lt.bx (w.heap.size + 1 + 1) (tv t) (by simp)).lt
  go_wp2
  go_ret
  exact ⟨rfl, L4.out.bel⟩
set_option maxHeartbeats 8000000 in
theorem walk_main (hfh : fewH s = true) (hft : fewT t = true) (hfi : Fine s d) (w : World) (hz : Cl.Sz w) (hp : Hp w w.heap.size s d) (h : Th w w.heap.size t F g) : Calls Tryz.prog 3 #[(.agg #[.slice s.w.a s.w.n s.w.c, .slice s.p.a s.p.n s.p.c, .slice (s.u 0).a (s.u 0).n (s.u 0).c, .slice (s.u 1).a (s.u 1).n (s.u 1).c, .slice (s.u 2).a (s.u 2).n (s.u 2).c, .slice s.c.a s.c.n s.c.c]), (.agg #[.int .i64 k.ph, .int .i64 k.ep, .bool k.mj, .slice k.wk.a k.wk.n k.wk.c, .bool k.ov, .int .i64 k.pa, .int .i64 k.pf, .int .i64 k.ps, .int .i64 k.pc, .bool k.me]), (.agg #[.bool t.lv, .int .i64 (t.r 0), .int .i64 (t.r 1), .int .i64 (t.r 2), .int .i64 (t.r 3), .slice (t.u 0).a (t.u 0).n (t.u 0).c, .slice (t.u 1).a (t.u 1).n (t.u 1).c, .slice (t.u 2).a (t.u 2).n (t.u 2).c, .int .i64 t.ep, .int .i64 t.sg, .int .i64 t.rt, .slice t.o.a t.o.n t.o.c, .int .i64 t.pc, .int .i64 t.x, .int .i64 t.y]), .int .i64 r, .int .i64 a] w fun e w' => e = .returned (.bool true) ∧ Below w.heap.size w w' := by
  have HZ := Lib.hid hz
  have hz0 := hz.pos
  have HP := Lib.hid hp
  have HT := Lib.hid h
  have CH := Lib.hid (fun W => Go.Proofs.YtjppimabhefeeaaGreatDoor.rfew_any s W)
  have CF := Lib.hid (fun W => Rt.rfew_any t W)
  rw [hfh] at CH
  rw [hft] at CF
  have hl := fewT_len hft
  have CG := Lib.hid (fun W => get_any t r W)
  have CG2 := Lib.hid (fun W => rget_any t r W)
  have CP := Lib.hid (fun W (hT : Th W W.heap.size t F g) => put_any t F g r a W hT (fun j hj => by have := hl.2 j hj; omega) (by have := hl.1; omega))
  have CP2 := Lib.hid (fun W (hT : Th W W.heap.size t F g) => rput_any t F g r a W hT (fun j hj => by have := hl.2 j hj; omega) (by have := hl.1; omega))
  have FL := Lib.hid (And.intro (putF_len (th_len h hl.2) r) (putT_len hl.1 r a))
  have CO := Lib.hid (fun W (hb : Below w.heap.size w W) (hq : Hp W W.heap.size s d) => pobj_any s d t r W hq (HZ.out.over hb hz0) hfi)
  have CO2 := Lib.hid (fun W (hq : Hp W W.heap.size s d) => robj_any s d t r W hq hfi)
  have CI := Lib.hid (fun W => holds_any t W)
  have CI2 := Lib.hid (fun W => rholds_any t W)
  have CM := Lib.hid (fun W => may_any t W)
  have CM2 := Lib.hid (fun W => rmay_any t W)
  have CA := Lib.hid (fun W => parmed_any k t W)
  have CA2 := Lib.hid (fun W => rarmed_any k t W)
  have CB := Lib.hid (fun W => pblack_any k t W)
  have CB2 := Lib.hid (fun W => rblack_any k t W)
  obtain ⟨v, hv⟩ : ∃ v, v = getV t r := ⟨_, rfl⟩
  obtain ⟨e1, he1⟩ : ∃ e1, e1 = getE r := ⟨_, rfl⟩
  obtain ⟨p, hp1⟩ : ∃ p, p = putT t r a := ⟨_, rfl⟩
  obtain ⟨F5, hF5⟩ : ∃ F5, F5 = putF F r := ⟨_, rfl⟩
  obtain ⟨x1, hx1⟩ : ∃ x1, x1 = ofA s d t r := ⟨_, rfl⟩
  obtain ⟨x2, hx2⟩ : ∃ x2, x2 = ofN s d t r := ⟨_, rfl⟩
  obtain ⟨x3, hx3⟩ : ∃ x3, x3 = ofE s d t r := ⟨_, rfl⟩
  obtain ⟨m1, hm1⟩ : ∃ m1, m1 = mayT t := ⟨_, rfl⟩
  obtain ⟨m2, hm2⟩ : ∃ m2, m2 = armB k.ph k.ep t := ⟨_, rfl⟩
  obtain ⟨m3, hm3⟩ : ∃ m3, m3 = blackB k.ph k.ep t := ⟨_, rfl⟩
  rw [← hv, ← he1] at CG CG2
  unfold PutOut at CP CP2
  rw [← he1, ← hp1, ← hF5] at CP CP2
  rw [← hp1, ← hF5] at FL
  rw [← hx1, ← hx2, ← hx3] at CO CO2
  rw [← hm1] at CM CM2
  rw [← hm2] at CA CA2
  rw [← hm3] at CB CB2
  have hx6 : (holdL t).length ≤ 6 := hold_six t
  obtain ⟨hs, hhs⟩ : ∃ hs, hs = holdL t := ⟨_, rfl⟩
  rw [← hhs] at CI CI2 hx6
  clear hz hp h hfh hft hl hfi hv he1 hp1 hF5 hx1 hx2 hx3 hm1 hm2 hm3 hhs
  go_enter Tryz.func3, Tryz.ntmps3
  go_wp2_with fail
  obtain ⟨W1, hW1⟩ : ∃ W1, W1 = ((w.alloc (.cells #[.slice s.w.a s.w.n s.w.c, .slice s.p.a s.p.n s.p.c, .slice (s.u 0).a (s.u 0).n (s.u 0).c, .slice (s.u 1).a (s.u 1).n (s.u 1).c, .slice (s.u 2).a (s.u 2).n (s.u 2).c, .slice s.c.a s.c.n s.c.c] 28)).alloc (.cells #[.int .i64 k.ph, .int .i64 k.ep, .bool k.mj, .slice k.wk.a k.wk.n k.wk.c, .bool k.ov, .int .i64 k.pa, .int .i64 k.pf, .int .i64 k.ps, .int .i64 k.pc, .bool k.me] 30)).alloc (.cells #[.bool t.lv, .int .i64 (t.r 0), .int .i64 (t.r 1), .int .i64 (t.r 2), .int .i64 (t.r 3), .slice (t.u 0).a (t.u 0).n (t.u 0).c, .slice (t.u 1).a (t.u 1).n (t.u 1).c, .slice (t.u 2).a (t.u 2).n (t.u 2).c, .int .i64 t.ep, .int .i64 t.sg, .int .i64 t.rt, .slice t.o.a t.o.n t.o.c, .int .i64 t.pc, .int .i64 t.x, .int .i64 t.y] 34) := ⟨_, rfl⟩
  have L1 := Lib.hid (lq_start HP.out HT.out hW1)
  rw [← hW1]
  clear hW1
  refine (Rt.awake_any W1).mono ?_
  rintro e9 w1 ⟨rfl, hb9⟩
  have L2 := Lib.hid (L1.out.next hb9)
  clear hb9 L1
  have q0 := (L2.out.lt.bx (w.heap.size) (hv s) (by simp)).cel 0 (.slice s.w.a s.w.n s.w.c) rfl
  have q1 := (L2.out.lt.bx (w.heap.size) (hv s) (by simp)).cel 1 (.slice s.p.a s.p.n s.p.c) rfl
  have q2 := (L2.out.lt.bx (w.heap.size) (hv s) (by simp)).cel 2 (.slice (s.u 0).a (s.u 0).n (s.u 0).c) rfl
  have q3 := (L2.out.lt.bx (w.heap.size) (hv s) (by simp)).cel 3 (.slice (s.u 1).a (s.u 1).n (s.u 1).c) rfl
  have q4 := (L2.out.lt.bx (w.heap.size) (hv s) (by simp)).cel 4 (.slice (s.u 2).a (s.u 2).n (s.u 2).c) rfl
  have q5 := (L2.out.lt.bx (w.heap.size) (hv s) (by simp)).cel 5 (.slice s.c.a s.c.n s.c.c) rfl
  have ql := (L2.out.lt.bx (w.heap.size) (hv s) (by simp)).lt
  go_wp2_with fail
  refine (CH.out w1).mono ?_
  rintro e9 w2 ⟨rfl, hb9⟩
  have L3 := Lib.hid (L2.out.next hb9)
  clear hb9 L2
  clear q0 q1 q2 q3 q4 q5 ql
  have x0 := (L3.out.lt.bx (w.heap.size + 1 + 1) (tv t) (by simp)).cel 0 (.bool t.lv) rfl
  have x1 := (L3.out.lt.bx (w.heap.size + 1 + 1) (tv t) (by simp)).cel 1 (.int .i64 (t.r 0)) rfl
  have x2 := (L3.out.lt.bx (w.heap.size + 1 + 1) (tv t) (by simp)).cel 2 (.int .i64 (t.r 1)) rfl
  have x3 := (L3.out.lt.bx (w.heap.size + 1 + 1) (tv t) (by simp)).cel 3 (.int .i64 (t.r 2)) rfl
  have x4 := (L3.out.lt.bx (w.heap.size + 1 + 1) (tv t) (by simp)).cel 4 (.int .i64 (t.r 3)) rfl
  have x5 := (L3.out.lt.bx (w.heap.size + 1 + 1) (tv t) (by simp)).cel 5 (.slice (t.u 0).a (t.u 0).n (t.u 0).c) rfl
  have x6 := (L3.out.lt.bx (w.heap.size + 1 + 1) (tv t) (by simp)).cel 6 (.slice (t.u 1).a (t.u 1).n (t.u 1).c) rfl
  have x7 := (L3.out.lt.bx (w.heap.size + 1 + 1) (tv t) (by simp)).cel 7 (.slice (t.u 2).a (t.u 2).n (t.u 2).c) rfl
  have x8 := (L3.out.lt.bx (w.heap.size + 1 + 1) (tv t) (by simp)).cel 8 (.int .i64 t.ep) rfl
  have x9 := (L3.out.lt.bx (w.heap.size + 1 + 1) (tv t) (by simp)).cel 9 (.int .i64 t.sg) rfl
  have x10 := (L3.out.lt.bx (w.heap.size + 1 + 1) (tv t) (by simp)).cel 10 (.int .i64 t.rt) rfl
  have x11 := (L3.out.lt.bx (w.heap.size + 1 + 1) (tv t) (by simp)).cel 11 (.slice t.o.a t.o.n t.o.c) rfl
  have x12 := (L3.out.lt.bx (w.heap.size + 1 + 1) (tv t) (by simp)).cel 12 (.int .i64 t.pc) rfl
  have x13 := (L3.out.lt.bx (w.heap.size + 1 + 1) (tv t) (by simp)).cel 13 (.int .i64 t.x) rfl
  have x14 := (L3.out.lt.bx (w.heap.size + 1 + 1) (tv t) (by simp)).cel 14 (.int .i64 t.y) rfl
  have xl := (L3.out.lt.bx (w.heap.size + 1 + 1) (tv t) (by simp)).lt
  go_wp2_with fail
  refine (CF.out w2).mono ?_
  rintro e9 w3 ⟨rfl, hb9⟩
  have L4 := Lib.hid (L3.out.next hb9)
  clear hb9 L3
  clear x0 x1 x2 x3 x4 x5 x6 x7 x8 x9 x10 x11 x12 x13 x14 xl
  have x0 := (L4.out.lt.bx (w.heap.size + 1 + 1) (tv t) (by simp)).cel 0 (.bool t.lv) rfl
  have x1 := (L4.out.lt.bx (w.heap.size + 1 + 1) (tv t) (by simp)).cel 1 (.int .i64 (t.r 0)) rfl
  have x2 := (L4.out.lt.bx (w.heap.size + 1 + 1) (tv t) (by simp)).cel 2 (.int .i64 (t.r 1)) rfl
  have x3 := (L4.out.lt.bx (w.heap.size + 1 + 1) (tv t) (by simp)).cel 3 (.int .i64 (t.r 2)) rfl
  have x4 := (L4.out.lt.bx (w.heap.size + 1 + 1) (tv t) (by simp)).cel 4 (.int .i64 (t.r 3)) rfl
  have x5 := (L4.out.lt.bx (w.heap.size + 1 + 1) (tv t) (by simp)).cel 5 (.slice (t.u 0).a (t.u 0).n (t.u 0).c) rfl
  have x6 := (L4.out.lt.bx (w.heap.size + 1 + 1) (tv t) (by simp)).cel 6 (.slice (t.u 1).a (t.u 1).n (t.u 1).c) rfl
  have x7 := (L4.out.lt.bx (w.heap.size + 1 + 1) (tv t) (by simp)).cel 7 (.slice (t.u 2).a (t.u 2).n (t.u 2).c) rfl
  have x8 := (L4.out.lt.bx (w.heap.size + 1 + 1) (tv t) (by simp)).cel 8 (.int .i64 t.ep) rfl
  have x9 := (L4.out.lt.bx (w.heap.size + 1 + 1) (tv t) (by simp)).cel 9 (.int .i64 t.sg) rfl
  have x10 := (L4.out.lt.bx (w.heap.size + 1 + 1) (tv t) (by simp)).cel 10 (.int .i64 t.rt) rfl
  have x11 := (L4.out.lt.bx (w.heap.size + 1 + 1) (tv t) (by simp)).cel 11 (.slice t.o.a t.o.n t.o.c) rfl
  have x12 := (L4.out.lt.bx (w.heap.size + 1 + 1) (tv t) (by simp)).cel 12 (.int .i64 t.pc) rfl
  have x13 := (L4.out.lt.bx (w.heap.size + 1 + 1) (tv t) (by simp)).cel 13 (.int .i64 t.x) rfl
  have x14 := (L4.out.lt.bx (w.heap.size + 1 + 1) (tv t) (by simp)).cel 14 (.int .i64 t.y) rfl
  have xl := (L4.out.lt.bx (w.heap.size + 1 + 1) (tv t) (by simp)).lt
  go_wp2_with fail
  refine (CG.out w3).mono ?_
  rintro e9 w4 ⟨rfl, hb9⟩
  have L5 := Lib.hid (L4.out.next hb9)
  clear hb9 L4
  clear x0 x1 x2 x3 x4 x5 x6 x7 x8 x9 x10 x11 x12 x13 x14 xl
  have x0 := (L5.out.lt.bx (w.heap.size + 1 + 1) (tv t) (by simp)).cel 0 (.bool t.lv) rfl
  have x1 := (L5.out.lt.bx (w.heap.size + 1 + 1) (tv t) (by simp)).cel 1 (.int .i64 (t.r 0)) rfl
  have x2 := (L5.out.lt.bx (w.heap.size + 1 + 1) (tv t) (by simp)).cel 2 (.int .i64 (t.r 1)) rfl
  have x3 := (L5.out.lt.bx (w.heap.size + 1 + 1) (tv t) (by simp)).cel 3 (.int .i64 (t.r 2)) rfl
  have x4 := (L5.out.lt.bx (w.heap.size + 1 + 1) (tv t) (by simp)).cel 4 (.int .i64 (t.r 3)) rfl
  have x5 := (L5.out.lt.bx (w.heap.size + 1 + 1) (tv t) (by simp)).cel 5 (.slice (t.u 0).a (t.u 0).n (t.u 0).c) rfl
  have x6 := (L5.out.lt.bx (w.heap.size + 1 + 1) (tv t) (by simp)).cel 6 (.slice (t.u 1).a (t.u 1).n (t.u 1).c) rfl
  have x7 := (L5.out.lt.bx (w.heap.size + 1 + 1) (tv t) (by simp)).cel 7 (.slice (t.u 2).a (t.u 2).n (t.u 2).c) rfl
  have x8 := (L5.out.lt.bx (w.heap.size + 1 + 1) (tv t) (by simp)).cel 8 (.int .i64 t.ep) rfl
  have x9 := (L5.out.lt.bx (w.heap.size + 1 + 1) (tv t) (by simp)).cel 9 (.int .i64 t.sg) rfl
  have x10 := (L5.out.lt.bx (w.heap.size + 1 + 1) (tv t) (by simp)).cel 10 (.int .i64 t.rt) rfl
  have x11 := (L5.out.lt.bx (w.heap.size + 1 + 1) (tv t) (by simp)).cel 11 (.slice t.o.a t.o.n t.o.c) rfl
  have x12 := (L5.out.lt.bx (w.heap.size + 1 + 1) (tv t) (by simp)).cel 12 (.int .i64 t.pc) rfl
  have x13 := (L5.out.lt.bx (w.heap.size + 1 + 1) (tv t) (by simp)).cel 13 (.int .i64 t.x) rfl
  have x14 := (L5.out.lt.bx (w.heap.size + 1 + 1) (tv t) (by simp)).cel 14 (.int .i64 t.y) rfl
  have xl := (L5.out.lt.bx (w.heap.size + 1 + 1) (tv t) (by simp)).lt
  go_upto_region 7 with fail
  rename_i K9 hK
  have hT : ∀ (x : Act) (y : World), Code.wp Tryz.prog tailC8 (bodyPost Tryz.prog Tryz.f3 (fun e w' => e = .returned (.bool true) ∧ Below w.heap.size w w')) x y → K9 x y := hK
  clear hK
  go_wp2_with fail
  refine (CG2.out w4).mono ?_
  rintro e9 w5 ⟨rfl, hb9⟩
  have L6 := Lib.hid (L5.out.next hb9)
  clear hb9 L5
  clear x0 x1 x2 x3 x4 x5 x6 x7 x8 x9 x10 x11 x12 x13 x14 xl
  go_wp2
  exact tail8 w _ s d k t F g v e1 x1 x2 x3 a p F5 m1 m2 m3 CM CM2 CA CA2 CB CB2 hs hx6 CI CI2 r CO CO2 CP CP2 FL L6 _ _ _ _ _ _ _ _ _ _ _ _ _ _ _ _ _ _ _ _ _ _ _ _ _ _ _ _ _ _ _ _ _ _ _ _ _ _ _ _ _ _ _ _ _ _ _ _ _ _ _ _ _ _ _ _ _ _ _ _ _ _ _ _ _ _ _ _ _ _ _ _ _ _ _ _ _ _ _ _ _ _ _ _ _ _ _ _ _ _ _ _ _ _ _ _ _ _ _ _ _ _ _ _ _ _ _ _ _ _ _ _ _ _ _ _ _ _ _ _ _ _ _ _ _ _ _ _ _ _ _ _ _ _ _ _ _ _ _ _ _ _ _ _ _ _ _ _
end
theorem walk (s : Hs) (d : Hd_) (k : Sh.Ks) (t : Ts) (F : Nat → List Int) (g : Nat → O4) (r a : Int) (w : World) (hz : Cl.Sz w) (hp : Hp w w.heap.size s d) (hv : Fit64 d.ws) (_ : s.p.n ≤ s.p.c) (h : Th w w.heap.size t F g) (_ : (Lit.int .i64 r).wf = true) (_ : (Lit.int .i64 a).wf = true) : Calls Tryz.prog 3 #[(.agg #[.slice s.w.a s.w.n s.w.c, .slice s.p.a s.p.n s.p.c, .slice (s.u 0).a (s.u 0).n (s.u 0).c, .slice (s.u 1).a (s.u 1).n (s.u 1).c, .slice (s.u 2).a (s.u 2).n (s.u 2).c, .slice s.c.a s.c.n s.c.c]), (.agg #[.int .i64 k.ph, .int .i64 k.ep, .bool k.mj, .slice k.wk.a k.wk.n k.wk.c, .bool k.ov, .int .i64 k.pa, .int .i64 k.pf, .int .i64 k.ps, .int .i64 k.pc, .bool k.me]), (.agg #[.bool t.lv, .int .i64 (t.r 0), .int .i64 (t.r 1), .int .i64 (t.r 2), .int .i64 (t.r 3), .slice (t.u 0).a (t.u 0).n (t.u 0).c, .slice (t.u 1).a (t.u 1).n (t.u 1).c, .slice (t.u 2).a (t.u 2).n (t.u 2).c, .int .i64 t.ep, .int .i64 t.sg, .int .i64 t.rt, .slice t.o.a t.o.n t.o.c, .int .i64 t.pc, .int .i64 t.x, .int .i64 t.y]), .int .i64 r, .int .i64 a] w fun e w' => e = .returned (.bool true) ∧ Below w.heap.size w w' := by
  cases hfh : fewH s with
  | false =>
    cases hft : fewT t with
    | false => exact walk_fewff s d k t F g r a hfh hft w hz hp h
    | true => exact walk_fewft s d k t F g r a hfh hft w hz hp h
  | true =>
    cases hft : fewT t with
    | false => exact walk_fewtf s d k t F g r a hfh hft w hz hp h
    | true => exact walk_main s d k t F g r a hfh hft (fine_few hfh hp hv) w hz hp h

-- the frame (hp12frame.py)
set_option maxRecDepth 100000 in
theorem lifted (os : Os) (started : os.Started) (H : Type) (enc : TypeId × Value → H) :
    ReturnsInHanded {} Tryz.checked os 3 .any (fun w args => (Rows.regsTellsSpec.pre enc Tryz.prog Tryz.f3 [] false w args ∧ laidMetH Tryz.prog laidSizes w) ∧ sizedMet enc Tryz.prog Tryz.f3 (OpenSpec.ofChange Rows.regsTellsSpec) false w args)
      (Rows.regsTellsSpec.post enc Tryz.prog Tryz.f3 false true false false) := by
  refine returnsInHanded_of_change_and (C := Tryz.checked) (X := fun w _ => laidMetH Tryz.prog laidSizes w) (fun _ _ _ hh h => h.of_heap hh) own started (by kernel_rfl) Tryz.func3
    (ChangeSpec.witness_shaped (enc := enc) (C := Tryz.checked) (os := os) (X := fun w _ => laidMetH Tryz.prog laidSizes w) false (World.doorLaid Tryz.prog 400 os) #[.agg #[.slice none 0 0, .slice none 0 0, .slice none 0 0, .slice none 0 0, .slice none 0 0, .slice none 0 0], .agg #[.int .i64 0, .int .i64 0, .bool false, .slice none 0 0, .bool false, .int .i64 0, .int .i64 0, .int .i64 0, .int .i64 0, .bool false], .agg #[.bool false, .int .i64 0, .int .i64 0, .int .i64 0, .int .i64 0, .slice none 0 0, .slice none 0 0, .slice none 0 0, .int .i64 0, .int .i64 0, .int .i64 0, .slice none 0 0, .int .i64 0, .int .i64 0, .int .i64 0], .int .i64 0, .int .i64 0] 8 rfl (World.shaped_of_RefB (by kernel_rfl) (by kernel_rfl)) (by kernel_rfl) (by kernel_rfl) (by kernel_rfl) (door_met os _)) ?_
  intro W base args ds gs before hval0 hW _ _ hL _
  have hval : ∀ (j : Nat) t v, Tryz.f3.params[j]? = some t → args[j]? = some v → Value.okWide Tryz.prog W .any base t v := hval0
  have hW' := hW
  obtain ⟨p, q, hA0, hV, rfl, hfz, hnd⟩ := hW
  have hA : DataW.TrodAll enc Tryz.prog W 0 (fun _ => true) true Tryz.f3.params.toList args.toList ds p := hA0
  rw [Tryz.params3] at hA hval
  obtain ⟨v0, vs0, d0, ds0, p0, q0, hargs, rfl, rfl, h0, r0⟩ := trodAll_cons hA
  obtain ⟨v1, vs1, d1, ds1, p1, q1, rfl, rfl, rfl, h1, r1⟩ := trodAll_cons r0
  obtain ⟨v2, vs2, d2, ds2, p2, q2, rfl, rfl, rfl, h2, r2⟩ := trodAll_cons r1
  obtain ⟨v3, vs3, d3, ds3, p3, q3, rfl, rfl, rfl, h3, r3⟩ := trodAll_cons r2
  obtain ⟨v4, vs4, d4, ds4, p4, q4, rfl, rfl, rfl, h4, r4⟩ := trodAll_cons r3
  obtain ⟨rfl, rfl, rfl⟩ := trodAll_nil r4
  obtain rfl : args = #[v0, v1, v2, v3, v4] := by cases args; simp_all
  obtain ⟨rfl, rfl⟩ := trodVars_none hV
  have k0 := h0
  have lt0 : ∀ x ∈ p0, x.block < W.heap.size := by obtain ⟨m, hm⟩ := k0; exact DataW.trod_lt m _ _ _ hm
  obtain ⟨s0, z0, rfl, w0, f0, b0⟩ := heap_of8 (hval 0 28 v0 rfl rfl) h0
  have k1 := h1
  have lt1 : ∀ x ∈ p1, x.block < W.heap.size := by obtain ⟨m, hm⟩ := k1; exact DataW.trod_lt m _ _ _ hm
  obtain ⟨k1', rfl⟩ := Rt.col_in (hval 1 30 v1 rfl rfl) h1
  have k2 := h2
  have lt2 : ∀ x ∈ p2, x.block < W.heap.size := by obtain ⟨m, hm⟩ := k2; exact DataW.trod_lt m _ _ _ hm
  obtain ⟨t2, z2, g2, rfl, w2⟩ := Rt.th_of (hval 2 34 v2 rfl rfl) h2
  obtain ⟨a3, rfl, rfl, rfl, w3⟩ := open_int Tryz.underlying3 (hval 3 3 v3 rfl rfl) h3
  obtain ⟨a4, rfl, rfl, rfl, w4⟩ := open_int Tryz.underlying3 (hval 4 3 v4 rfl rfl) h4
  clear hA0 hval0
  refine (walk s0 z0 k1' t2 z2 g2 a3 a4 W (of_laid hL) w0 f0 b0 w2 w3 w4).mono fun e W' ⟨he, bel⟩ => ?_
  subst he
  exact ⟨_, rfl, _, _, _, [], _, [], hW', trodAll_mk1 (shut_bool Tryz.underlying4 _), (trodAll_cons_mk (Below.trod laidOut (by kernel_rfl) (of_decide_eq_true (by kernel_rfl)) k0 bel lt0) (trodAll_cons_mk (Below.trod laidOut (by kernel_rfl) (of_decide_eq_true (by kernel_rfl)) k1 bel lt1) (trodAll_cons_mk (Below.trod laidOut (by kernel_rfl) (of_decide_eq_true (by kernel_rfl)) k2 bel lt2) (trodAll_cons_mk (shut_int Tryz.underlying3 w3) (trodAll_cons_mk (shut_int Tryz.underlying3 w4) trodAll_mk0))))), rfl, bel.frame _, fun h => by cases h⟩

theorem over : Rows.RegsTellsSaid :=
  OpenClaim.holds_of_wide 3 Tryz.f3 rfl rfl rfl rfl rfl rfl rfl ⟨rfl, rfl, rfl, rfl, rfl⟩ rfl rfl rfl rfl rfl (by kernel_rfl) Tryz.func3 (by kernel_rfl)
    (of_decide_eq_true (by kernel_rfl)) (by unfold Func.isWrapper; first | (rw [if_pos (by decide +kernel)]; kernel_rfl) | (rw [if_neg (by decide +kernel)]; exact ⟨rfl, rfl⟩))
    (fun os started H enc _ => lifted os started H enc)

/-- The statement: the card. -/
theorem proved : Rows.RegsTellsCardSaid :=
  Claim7.holds_tied_plain_at .later [] [.data] true Rows.regsTellsCard.stood.harness false
    over (fun _ h => by cases h) (by kernel_rfl) (fun _ h => by cases h) regsTells_row_tie rfl ⟨rfl, rfl⟩ (by kernel_rfl) rfl
    (fun f fn hf hfn => by
      obtain rfl : f = 3 := Option.some.inj ((show Tryz.prog.funcNamed "ragpicker/ragpickerlaw12.RegsTells" = some 3 by kernel_rfl).symm.trans hf) |>.symm
      obtain rfl : fn = Tryz.f3 := (Option.some.inj (Tryz.func3.symm.trans hfn)).symm
      exact ⟨by kernel_rfl, fun j t ht => by
        rw [Tryz.params3] at ht
        have hm : t ∈ [28, 30, 34, 3, 3] := by simpa using Array.mem_of_getElem? ht
        have hall : ([28, 30, 34, 3, 3].all fun u => !Tryz.prog.wantsStandIn u) = true := by kernel_rfl
        exact (show Tryz.prog.wantsStandIn t = false by simpa using List.all_eq_true.1 hall t hm)⟩)
    (by kernel_rfl)
#print axioms proved
end Go.Proofs.YtjppimabhefeeaaGreatDoor.RegsTells
