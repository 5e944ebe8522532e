/-
  RegsObject: a register has an object just where one begins at what it has, and as many fields as its head tells: for every heap of at most 9 pages and 130 words, and every thread of at most 220 operations; the table of sizes is tied to the program's text by the card.
-/
import Derived.Test.YtjppimabhefeeaaDoorHpOH
import Derived.Deep.QuietTactic
import Derived.BigQuiet
namespace Go.Proofs.YtjppimabhefeeaaDoor.RegsObject
open Go.Proofs.YtjppimabhefeeaaDoor Go.Proofs.YtjppimabhefeeaaDoor.Rt
open Go.ChangeShapes Go.WideShapes Go.ChangeAt Go.RowKit
set_option maxRecDepth 100000

section
variable (s : Hs) (d : Hd_) (t : Ts) (F : Nat → List Int) (g : Nat → O4)
set_option maxHeartbeats 4000000 in
theorem walk_fewff (r : Int) (hfh : fewH s = false) (hft : fewT t = false) (w : World) (hz : Cl.Sz w) (hp : Hp w w.heap.size s d) (h : Th w w.heap.size t F g) : Calls Tryd.prog 3 #[(.agg #[.slice s.w.a s.w.n s.w.c, .slice s.p.a s.p.n s.p.c, .slice (s.u 0).a (s.u 0).n (s.u 0).c, .slice (s.u 1).a (s.u 1).n (s.u 1).c, .slice (s.u 2).a (s.u 2).n (s.u 2).c, .slice s.c.a s.c.n s.c.c]), (.agg #[.bool t.lv, .int .i64 (t.r 0), .int .i64 (t.r 1), .int .i64 (t.r 2), .int .i64 (t.r 3), .slice (t.u 0).a (t.u 0).n (t.u 0).c, .slice (t.u 1).a (t.u 1).n (t.u 1).c, .slice (t.u 2).a (t.u 2).n (t.u 2).c, .int .i64 t.ep, .int .i64 t.sg, .int .i64 t.rt, .slice t.o.a t.o.n t.o.c, .int .i64 t.pc, .int .i64 t.x, .int .i64 t.y]), .int .i64 r] w fun e w' => e = .returned (.bool true) ∧ Below w.heap.size w w' := by
  have HZ := Lib.hid hz
  have hz0 := hz.pos
  have HP := Lib.hid hp
  have HT := Lib.hid h
  have CH := Lib.hid (fun W => Go.Proofs.YtjppimabhefeeaaDoor.rfew_any s W)
  have CF := Lib.hid (fun W => Rt.rfew_any t W)
  rw [hfh] at CH
  rw [hft] at CF
  clear hz hp h hfh hft
  go_enter Tryd.func3, Tryd.ntmps3
  go_wp2_with fail
  obtain ⟨W1, hW1⟩ : ∃ W1, W1 = (w.alloc (.cells #[.slice s.w.a s.w.n s.w.c, .slice s.p.a s.p.n s.p.c, .slice (s.u 0).a (s.u 0).n (s.u 0).c, .slice (s.u 1).a (s.u 1).n (s.u 1).c, .slice (s.u 2).a (s.u 2).n (s.u 2).c, .slice s.c.a s.c.n s.c.c] 28)).alloc (.cells #[.bool t.lv, .int .i64 (t.r 0), .int .i64 (t.r 1), .int .i64 (t.r 2), .int .i64 (t.r 3), .slice (t.u 0).a (t.u 0).n (t.u 0).c, .slice (t.u 1).a (t.u 1).n (t.u 1).c, .slice (t.u 2).a (t.u 2).n (t.u 2).c, .int .i64 t.ep, .int .i64 t.sg, .int .i64 t.rt, .slice t.o.a t.o.n t.o.c, .int .i64 t.pc, .int .i64 t.x, .int .i64 t.y] 32) := ⟨_, rfl⟩
  have L1 := Lib.hid (lo_start HP.out HT.out hW1)
  rw [← hW1]
  clear hW1
  refine (Rt.awake_any W1).mono ?_
  rintro e9 w1 ⟨rfl, hb9⟩
  have L2 := Lib.hid (L1.out.next hb9)
  clear hb9 L1
  have q0 := (L2.out.hb).c0
  have q1 := (L2.out.hb).c1
  have q2 := (L2.out.hb).c2
  have q3 := (L2.out.hb).c3
  have q4 := (L2.out.hb).c4
  have q5 := (L2.out.hb).c5
  have ql := (L2.out.hb).lt
  go_wp2_with fail
  refine (CH.out w1).mono ?_
  rintro e9 w2 ⟨rfl, hb9⟩
  have L3 := Lib.hid (L2.out.next hb9)
  clear hb9 L2
  clear q0 q1 q2 q3 q4 q5 ql
  have x0 := (L3.out.tb).cel 0 (.bool t.lv) rfl
  have x1 := (L3.out.tb).cel 1 (.int .i64 (t.r 0)) rfl
  have x2 := (L3.out.tb).cel 2 (.int .i64 (t.r 1)) rfl
  have x3 := (L3.out.tb).cel 3 (.int .i64 (t.r 2)) rfl
  have x4 := (L3.out.tb).cel 4 (.int .i64 (t.r 3)) rfl
  have x5 := (L3.out.tb).cel 5 (.slice (t.u 0).a (t.u 0).n (t.u 0).c) rfl
  have x6 := (L3.out.tb).cel 6 (.slice (t.u 1).a (t.u 1).n (t.u 1).c) rfl
  have x7 := (L3.out.tb).cel 7 (.slice (t.u 2).a (t.u 2).n (t.u 2).c) rfl
  have x8 := (L3.out.tb).cel 8 (.int .i64 t.ep) rfl
  have x9 := (L3.out.tb).cel 9 (.int .i64 t.sg) rfl
  have x10 := (L3.out.tb).cel 10 (.int .i64 t.rt) rfl
  have x11 := (L3.out.tb).cel 11 (.slice t.o.a t.o.n t.o.c) rfl
  have x12 := (L3.out.tb).cel 12 (.int .i64 t.pc) rfl
  have x13 := (L3.out.tb).cel 13 (.int .i64 t.x) rfl
  have x14 := (L3.out.tb).cel 14 (.int .i64 t.y) rfl
  have xl := (L3.out.tb).lt
  go_wp2_with fail
  refine (CF.out w2).mono ?_
  rintro e9 w3 ⟨rfl, hb9⟩
  have L4 := Lib.hid (L3.out.next hb9)
  clear hb9 L3
  clear x0 x1 x2 x3 x4 x5 x6 x7 x8 x9 x10 x11 x12 x13 x14 xl
  have q0 := (L4.out.hb).c0
  have q1 := (L4.out.hb).c1
  have q2 := (L4.out.hb).c2
  have q3 := (L4.out.hb).c3
  have q4 := (L4.out.hb).c4
  have q5 := (L4.out.hb).c5
  have ql := (L4.out.hb).lt
  have x0 := (L4.out.tb).cel 0 (.bool t.lv) rfl
  have x1 := (L4.out.tb).cel 1 (.int .i64 (t.r 0)) rfl
  have x2 := (L4.out.tb).cel 2 (.int .i64 (t.r 1)) rfl
  have x3 := (L4.out.tb).cel 3 (.int .i64 (t.r 2)) rfl
  have x4 := (L4.out.tb).cel 4 (.int .i64 (t.r 3)) rfl
  have x5 := (L4.out.tb).cel 5 (.slice (t.u 0).a (t.u 0).n (t.u 0).c) rfl
  have x6 := (L4.out.tb).cel 6 (.slice (t.u 1).a (t.u 1).n (t.u 1).c) rfl
  have x7 := (L4.out.tb).cel 7 (.slice (t.u 2).a (t.u 2).n (t.u 2).c) rfl
  have x8 := (L4.out.tb).cel 8 (.int .i64 t.ep) rfl
  have x9 := (L4.out.tb).cel 9 (.int .i64 t.sg) rfl
  have x10 := (L4.out.tb).cel 10 (.int .i64 t.rt) rfl
  have x11 := (L4.out.tb).cel 11 (.slice t.o.a t.o.n t.o.c) rfl
  have x12 := (L4.out.tb).cel 12 (.int .i64 t.pc) rfl
  have x13 := (L4.out.tb).cel 13 (.int .i64 t.x) rfl
  have x14 := (L4.out.tb).cel 14 (.int .i64 t.y) rfl
  have xl := (L4.out.tb).lt
  go_wp2
  go_ret
  exact ⟨rfl, L4.out.bel⟩
set_option maxHeartbeats 4000000 in
theorem walk_fewft (r : Int) (hfh : fewH s = false) (hft : fewT t = true) (w : World) (hz : Cl.Sz w) (hp : Hp w w.heap.size s d) (h : Th w w.heap.size t F g) : Calls Tryd.prog 3 #[(.agg #[.slice s.w.a s.w.n s.w.c, .slice s.p.a s.p.n s.p.c, .slice (s.u 0).a (s.u 0).n (s.u 0).c, .slice (s.u 1).a (s.u 1).n (s.u 1).c, .slice (s.u 2).a (s.u 2).n (s.u 2).c, .slice s.c.a s.c.n s.c.c]), (.agg #[.bool t.lv, .int .i64 (t.r 0), .int .i64 (t.r 1), .int .i64 (t.r 2), .int .i64 (t.r 3), .slice (t.u 0).a (t.u 0).n (t.u 0).c, .slice (t.u 1).a (t.u 1).n (t.u 1).c, .slice (t.u 2).a (t.u 2).n (t.u 2).c, .int .i64 t.ep, .int .i64 t.sg, .int .i64 t.rt, .slice t.o.a t.o.n t.o.c, .int .i64 t.pc, .int .i64 t.x, .int .i64 t.y]), .int .i64 r] w fun e w' => e = .returned (.bool true) ∧ Below w.heap.size w w' := by
  have HZ := Lib.hid hz
  have hz0 := hz.pos
  have HP := Lib.hid hp
  have HT := Lib.hid h
  have CH := Lib.hid (fun W => Go.Proofs.YtjppimabhefeeaaDoor.rfew_any s W)
  have CF := Lib.hid (fun W => Rt.rfew_any t W)
  rw [hfh] at CH
  rw [hft] at CF
  clear hz hp h hfh hft
  go_enter Tryd.func3, Tryd.ntmps3
  go_wp2_with fail
  obtain ⟨W1, hW1⟩ : ∃ W1, W1 = (w.alloc (.cells #[.slice s.w.a s.w.n s.w.c, .slice s.p.a s.p.n s.p.c, .slice (s.u 0).a (s.u 0).n (s.u 0).c, .slice (s.u 1).a (s.u 1).n (s.u 1).c, .slice (s.u 2).a (s.u 2).n (s.u 2).c, .slice s.c.a s.c.n s.c.c] 28)).alloc (.cells #[.bool t.lv, .int .i64 (t.r 0), .int .i64 (t.r 1), .int .i64 (t.r 2), .int .i64 (t.r 3), .slice (t.u 0).a (t.u 0).n (t.u 0).c, .slice (t.u 1).a (t.u 1).n (t.u 1).c, .slice (t.u 2).a (t.u 2).n (t.u 2).c, .int .i64 t.ep, .int .i64 t.sg, .int .i64 t.rt, .slice t.o.a t.o.n t.o.c, .int .i64 t.pc, .int .i64 t.x, .int .i64 t.y] 32) := ⟨_, rfl⟩
  have L1 := Lib.hid (lo_start HP.out HT.out hW1)
  rw [← hW1]
  clear hW1
  refine (Rt.awake_any W1).mono ?_
  rintro e9 w1 ⟨rfl, hb9⟩
  have L2 := Lib.hid (L1.out.next hb9)
  clear hb9 L1
  have q0 := (L2.out.hb).c0
  have q1 := (L2.out.hb).c1
  have q2 := (L2.out.hb).c2
  have q3 := (L2.out.hb).c3
  have q4 := (L2.out.hb).c4
  have q5 := (L2.out.hb).c5
  have ql := (L2.out.hb).lt
  go_wp2_with fail
  refine (CH.out w1).mono ?_
  rintro e9 w2 ⟨rfl, hb9⟩
  have L3 := Lib.hid (L2.out.next hb9)
  clear hb9 L2
  clear q0 q1 q2 q3 q4 q5 ql
  have x0 := (L3.out.tb).cel 0 (.bool t.lv) rfl
  have x1 := (L3.out.tb).cel 1 (.int .i64 (t.r 0)) rfl
  have x2 := (L3.out.tb).cel 2 (.int .i64 (t.r 1)) rfl
  have x3 := (L3.out.tb).cel 3 (.int .i64 (t.r 2)) rfl
  have x4 := (L3.out.tb).cel 4 (.int .i64 (t.r 3)) rfl
  have x5 := (L3.out.tb).cel 5 (.slice (t.u 0).a (t.u 0).n (t.u 0).c) rfl
  have x6 := (L3.out.tb).cel 6 (.slice (t.u 1).a (t.u 1).n (t.u 1).c) rfl
  have x7 := (L3.out.tb).cel 7 (.slice (t.u 2).a (t.u 2).n (t.u 2).c) rfl
  have x8 := (L3.out.tb).cel 8 (.int .i64 t.ep) rfl
  have x9 := (L3.out.tb).cel 9 (.int .i64 t.sg) rfl
  have x10 := (L3.out.tb).cel 10 (.int .i64 t.rt) rfl
  have x11 := (L3.out.tb).cel 11 (.slice t.o.a t.o.n t.o.c) rfl
  have x12 := (L3.out.tb).cel 12 (.int .i64 t.pc) rfl
  have x13 := (L3.out.tb).cel 13 (.int .i64 t.x) rfl
  have x14 := (L3.out.tb).cel 14 (.int .i64 t.y) rfl
  have xl := (L3.out.tb).lt
  go_wp2_with fail
  refine (CF.out w2).mono ?_
  rintro e9 w3 ⟨rfl, hb9⟩
  have L4 := Lib.hid (L3.out.next hb9)
  clear hb9 L3
  clear x0 x1 x2 x3 x4 x5 x6 x7 x8 x9 x10 x11 x12 x13 x14 xl
  have q0 := (L4.out.hb).c0
  have q1 := (L4.out.hb).c1
  have q2 := (L4.out.hb).c2
  have q3 := (L4.out.hb).c3
  have q4 := (L4.out.hb).c4
  have q5 := (L4.out.hb).c5
  have ql := (L4.out.hb).lt
  have x0 := (L4.out.tb).cel 0 (.bool t.lv) rfl
  have x1 := (L4.out.tb).cel 1 (.int .i64 (t.r 0)) rfl
  have x2 := (L4.out.tb).cel 2 (.int .i64 (t.r 1)) rfl
  have x3 := (L4.out.tb).cel 3 (.int .i64 (t.r 2)) rfl
  have x4 := (L4.out.tb).cel 4 (.int .i64 (t.r 3)) rfl
  have x5 := (L4.out.tb).cel 5 (.slice (t.u 0).a (t.u 0).n (t.u 0).c) rfl
  have x6 := (L4.out.tb).cel 6 (.slice (t.u 1).a (t.u 1).n (t.u 1).c) rfl
  have x7 := (L4.out.tb).cel 7 (.slice (t.u 2).a (t.u 2).n (t.u 2).c) rfl
  have x8 := (L4.out.tb).cel 8 (.int .i64 t.ep) rfl
  have x9 := (L4.out.tb).cel 9 (.int .i64 t.sg) rfl
  have x10 := (L4.out.tb).cel 10 (.int .i64 t.rt) rfl
  have x11 := (L4.out.tb).cel 11 (.slice t.o.a t.o.n t.o.c) rfl
  have x12 := (L4.out.tb).cel 12 (.int .i64 t.pc) rfl
  have x13 := (L4.out.tb).cel 13 (.int .i64 t.x) rfl
  have x14 := (L4.out.tb).cel 14 (.int .i64 t.y) rfl
  have xl := (L4.out.tb).lt
  go_wp2
  go_ret
  exact ⟨rfl, L4.out.bel⟩
set_option maxHeartbeats 4000000 in
theorem walk_fewtf (r : Int) (hfh : fewH s = true) (hft : fewT t = false) (w : World) (hz : Cl.Sz w) (hp : Hp w w.heap.size s d) (h : Th w w.heap.size t F g) : Calls Tryd.prog 3 #[(.agg #[.slice s.w.a s.w.n s.w.c, .slice s.p.a s.p.n s.p.c, .slice (s.u 0).a (s.u 0).n (s.u 0).c, .slice (s.u 1).a (s.u 1).n (s.u 1).c, .slice (s.u 2).a (s.u 2).n (s.u 2).c, .slice s.c.a s.c.n s.c.c]), (.agg #[.bool t.lv, .int .i64 (t.r 0), .int .i64 (t.r 1), .int .i64 (t.r 2), .int .i64 (t.r 3), .slice (t.u 0).a (t.u 0).n (t.u 0).c, .slice (t.u 1).a (t.u 1).n (t.u 1).c, .slice (t.u 2).a (t.u 2).n (t.u 2).c, .int .i64 t.ep, .int .i64 t.sg, .int .i64 t.rt, .slice t.o.a t.o.n t.o.c, .int .i64 t.pc, .int .i64 t.x, .int .i64 t.y]), .int .i64 r] w fun e w' => e = .returned (.bool true) ∧ Below w.heap.size w w' := by
  have HZ := Lib.hid hz
  have hz0 := hz.pos
  have HP := Lib.hid hp
  have HT := Lib.hid h
  have CH := Lib.hid (fun W => Go.Proofs.YtjppimabhefeeaaDoor.rfew_any s W)
  have CF := Lib.hid (fun W => Rt.rfew_any t W)
  rw [hfh] at CH
  rw [hft] at CF
  clear hz hp h hfh hft
  go_enter Tryd.func3, Tryd.ntmps3
  go_wp2_with fail
  obtain ⟨W1, hW1⟩ : ∃ W1, W1 = (w.alloc (.cells #[.slice s.w.a s.w.n s.w.c, .slice s.p.a s.p.n s.p.c, .slice (s.u 0).a (s.u 0).n (s.u 0).c, .slice (s.u 1).a (s.u 1).n (s.u 1).c, .slice (s.u 2).a (s.u 2).n (s.u 2).c, .slice s.c.a s.c.n s.c.c] 28)).alloc (.cells #[.bool t.lv, .int .i64 (t.r 0), .int .i64 (t.r 1), .int .i64 (t.r 2), .int .i64 (t.r 3), .slice (t.u 0).a (t.u 0).n (t.u 0).c, .slice (t.u 1).a (t.u 1).n (t.u 1).c, .slice (t.u 2).a (t.u 2).n (t.u 2).c, .int .i64 t.ep, .int .i64 t.sg, .int .i64 t.rt, .slice t.o.a t.o.n t.o.c, .int .i64 t.pc, .int .i64 t.x, .int .i64 t.y] 32) := ⟨_, rfl⟩
  have L1 := Lib.hid (lo_start HP.out HT.out hW1)
  rw [← hW1]
  clear hW1
  refine (Rt.awake_any W1).mono ?_
  rintro e9 w1 ⟨rfl, hb9⟩
  have L2 := Lib.hid (L1.out.next hb9)
  clear hb9 L1
  have q0 := (L2.out.hb).c0
  have q1 := (L2.out.hb).c1
  have q2 := (L2.out.hb).c2
  have q3 := (L2.out.hb).c3
  have q4 := (L2.out.hb).c4
  have q5 := (L2.out.hb).c5
  have ql := (L2.out.hb).lt
  go_wp2_with fail
  refine (CH.out w1).mono ?_
  rintro e9 w2 ⟨rfl, hb9⟩
  have L3 := Lib.hid (L2.out.next hb9)
  clear hb9 L2
  clear q0 q1 q2 q3 q4 q5 ql
  have x0 := (L3.out.tb).cel 0 (.bool t.lv) rfl
  have x1 := (L3.out.tb).cel 1 (.int .i64 (t.r 0)) rfl
  have x2 := (L3.out.tb).cel 2 (.int .i64 (t.r 1)) rfl
  have x3 := (L3.out.tb).cel 3 (.int .i64 (t.r 2)) rfl
  have x4 := (L3.out.tb).cel 4 (.int .i64 (t.r 3)) rfl
  have x5 := (L3.out.tb).cel 5 (.slice (t.u 0).a (t.u 0).n (t.u 0).c) rfl
  have x6 := (L3.out.tb).cel 6 (.slice (t.u 1).a (t.u 1).n (t.u 1).c) rfl
  have x7 := (L3.out.tb).cel 7 (.slice (t.u 2).a (t.u 2).n (t.u 2).c) rfl
  have x8 := (L3.out.tb).cel 8 (.int .i64 t.ep) rfl
  have x9 := (L3.out.tb).cel 9 (.int .i64 t.sg) rfl
  have x10 := (L3.out.tb).cel 10 (.int .i64 t.rt) rfl
  have x11 := (L3.out.tb).cel 11 (.slice t.o.a t.o.n t.o.c) rfl
  have x12 := (L3.out.tb).cel 12 (.int .i64 t.pc) rfl
  have x13 := (L3.out.tb).cel 13 (.int .i64 t.x) rfl
  have x14 := (L3.out.tb).cel 14 (.int .i64 t.y) rfl
  have xl := (L3.out.tb).lt
  go_wp2_with fail
  refine (CF.out w2).mono ?_
  rintro e9 w3 ⟨rfl, hb9⟩
  have L4 := Lib.hid (L3.out.next hb9)
  clear hb9 L3
  clear x0 x1 x2 x3 x4 x5 x6 x7 x8 x9 x10 x11 x12 x13 x14 xl
  have q0 := (L4.out.hb).c0
  have q1 := (L4.out.hb).c1
  have q2 := (L4.out.hb).c2
  have q3 := (L4.out.hb).c3
  have q4 := (L4.out.hb).c4
  have q5 := (L4.out.hb).c5
  have ql := (L4.out.hb).lt
  have x0 := (L4.out.tb).cel 0 (.bool t.lv) rfl
  have x1 := (L4.out.tb).cel 1 (.int .i64 (t.r 0)) rfl
  have x2 := (L4.out.tb).cel 2 (.int .i64 (t.r 1)) rfl
  have x3 := (L4.out.tb).cel 3 (.int .i64 (t.r 2)) rfl
  have x4 := (L4.out.tb).cel 4 (.int .i64 (t.r 3)) rfl
  have x5 := (L4.out.tb).cel 5 (.slice (t.u 0).a (t.u 0).n (t.u 0).c) rfl
  have x6 := (L4.out.tb).cel 6 (.slice (t.u 1).a (t.u 1).n (t.u 1).c) rfl
  have x7 := (L4.out.tb).cel 7 (.slice (t.u 2).a (t.u 2).n (t.u 2).c) rfl
  have x8 := (L4.out.tb).cel 8 (.int .i64 t.ep) rfl
  have x9 := (L4.out.tb).cel 9 (.int .i64 t.sg) rfl
  have x10 := (L4.out.tb).cel 10 (.int .i64 t.rt) rfl
  have x11 := (L4.out.tb).cel 11 (.slice t.o.a t.o.n t.o.c) rfl
  have x12 := (L4.out.tb).cel 12 (.int .i64 t.pc) rfl
  have x13 := (L4.out.tb).cel 13 (.int .i64 t.x) rfl
  have x14 := (L4.out.tb).cel 14 (.int .i64 t.y) rfl
  have xl := (L4.out.tb).lt
  go_wp2
  go_ret
  exact ⟨rfl, L4.out.bel⟩
set_option maxHeartbeats 4000000 in
theorem walk_no (r : Int) (hr : inReg r = false) (hfh : fewH s = true) (hft : fewT t = true) (hfi : Fine s d) (w : World) (hz : Cl.Sz w) (hp : Hp w w.heap.size s d) (h : Th w w.heap.size t F g) : Calls Tryd.prog 3 #[(.agg #[.slice s.w.a s.w.n s.w.c, .slice s.p.a s.p.n s.p.c, .slice (s.u 0).a (s.u 0).n (s.u 0).c, .slice (s.u 1).a (s.u 1).n (s.u 1).c, .slice (s.u 2).a (s.u 2).n (s.u 2).c, .slice s.c.a s.c.n s.c.c]), (.agg #[.bool t.lv, .int .i64 (t.r 0), .int .i64 (t.r 1), .int .i64 (t.r 2), .int .i64 (t.r 3), .slice (t.u 0).a (t.u 0).n (t.u 0).c, .slice (t.u 1).a (t.u 1).n (t.u 1).c, .slice (t.u 2).a (t.u 2).n (t.u 2).c, .int .i64 t.ep, .int .i64 t.sg, .int .i64 t.rt, .slice t.o.a t.o.n t.o.c, .int .i64 t.pc, .int .i64 t.x, .int .i64 t.y]), .int .i64 r] w fun e w' => e = .returned (.bool true) ∧ Below w.heap.size w w' := by
  have HZ := Lib.hid hz
  have hz0 := hz.pos
  have HP := Lib.hid hp
  have HT := Lib.hid h
  have CH := Lib.hid (fun W => Go.Proofs.YtjppimabhefeeaaDoor.rfew_any s W)
  have CF := Lib.hid (fun W => Rt.rfew_any t W)
  rw [hfh] at CH
  rw [hft] at CF
  have CO := Lib.hid (fun W (hL : Lo w W w.heap.size (w.heap.size + 1) s d t F g) => pobj_any s d t r W hL.hp (hz.over hL.bel hz0) hfi)
  have CG := Lib.hid (fun W => get_any t r W)
  rw [show ofA s d t r = 0 from if_neg (by rw [hr]; decide), show ofN s d t r = 0 from if_neg (by rw [hr]; decide), show ofE s d t r = 1 from if_neg (by rw [hr]; decide)] at CO
  rw [show getV t r = 0 from if_neg (by rw [hr]; decide), show getE r = 1 from if_neg (by rw [hr]; decide)] at CG
  clear hz hp h hfh hft hr hfi
  go_enter Tryd.func3, Tryd.ntmps3
  go_wp2_with fail
  obtain ⟨W1, hW1⟩ : ∃ W1, W1 = (w.alloc (.cells #[.slice s.w.a s.w.n s.w.c, .slice s.p.a s.p.n s.p.c, .slice (s.u 0).a (s.u 0).n (s.u 0).c, .slice (s.u 1).a (s.u 1).n (s.u 1).c, .slice (s.u 2).a (s.u 2).n (s.u 2).c, .slice s.c.a s.c.n s.c.c] 28)).alloc (.cells #[.bool t.lv, .int .i64 (t.r 0), .int .i64 (t.r 1), .int .i64 (t.r 2), .int .i64 (t.r 3), .slice (t.u 0).a (t.u 0).n (t.u 0).c, .slice (t.u 1).a (t.u 1).n (t.u 1).c, .slice (t.u 2).a (t.u 2).n (t.u 2).c, .int .i64 t.ep, .int .i64 t.sg, .int .i64 t.rt, .slice t.o.a t.o.n t.o.c, .int .i64 t.pc, .int .i64 t.x, .int .i64 t.y] 32) := ⟨_, rfl⟩
  have L1 := Lib.hid (lo_start HP.out HT.out hW1)
  rw [← hW1]
  clear hW1
  refine (Rt.awake_any W1).mono ?_
  rintro e9 w1 ⟨rfl, hb9⟩
  have L2 := Lib.hid (L1.out.next hb9)
  clear hb9 L1
  have q0 := (L2.out.hb).c0
  have q1 := (L2.out.hb).c1
  have q2 := (L2.out.hb).c2
  have q3 := (L2.out.hb).c3
  have q4 := (L2.out.hb).c4
  have q5 := (L2.out.hb).c5
  have ql := (L2.out.hb).lt
  go_wp2_with fail
  refine (CH.out w1).mono ?_
  rintro e9 w2 ⟨rfl, hb9⟩
  have L3 := Lib.hid (L2.out.next hb9)
  clear hb9 L2
  clear q0 q1 q2 q3 q4 q5 ql
  have x0 := (L3.out.tb).cel 0 (.bool t.lv) rfl
  have x1 := (L3.out.tb).cel 1 (.int .i64 (t.r 0)) rfl
  have x2 := (L3.out.tb).cel 2 (.int .i64 (t.r 1)) rfl
  have x3 := (L3.out.tb).cel 3 (.int .i64 (t.r 2)) rfl
  have x4 := (L3.out.tb).cel 4 (.int .i64 (t.r 3)) rfl
  have x5 := (L3.out.tb).cel 5 (.slice (t.u 0).a (t.u 0).n (t.u 0).c) rfl
  have x6 := (L3.out.tb).cel 6 (.slice (t.u 1).a (t.u 1).n (t.u 1).c) rfl
  have x7 := (L3.out.tb).cel 7 (.slice (t.u 2).a (t.u 2).n (t.u 2).c) rfl
  have x8 := (L3.out.tb).cel 8 (.int .i64 t.ep) rfl
  have x9 := (L3.out.tb).cel 9 (.int .i64 t.sg) rfl
  have x10 := (L3.out.tb).cel 10 (.int .i64 t.rt) rfl
  have x11 := (L3.out.tb).cel 11 (.slice t.o.a t.o.n t.o.c) rfl
  have x12 := (L3.out.tb).cel 12 (.int .i64 t.pc) rfl
  have x13 := (L3.out.tb).cel 13 (.int .i64 t.x) rfl
  have x14 := (L3.out.tb).cel 14 (.int .i64 t.y) rfl
  have xl := (L3.out.tb).lt
  go_wp2_with fail
  refine (CF.out w2).mono ?_
  rintro e9 w3 ⟨rfl, hb9⟩
  have L4 := Lib.hid (L3.out.next hb9)
  clear hb9 L3
  clear x0 x1 x2 x3 x4 x5 x6 x7 x8 x9 x10 x11 x12 x13 x14 xl
  have q0 := (L4.out.hb).c0
  have q1 := (L4.out.hb).c1
  have q2 := (L4.out.hb).c2
  have q3 := (L4.out.hb).c3
  have q4 := (L4.out.hb).c4
  have q5 := (L4.out.hb).c5
  have ql := (L4.out.hb).lt
  have x0 := (L4.out.tb).cel 0 (.bool t.lv) rfl
  have x1 := (L4.out.tb).cel 1 (.int .i64 (t.r 0)) rfl
  have x2 := (L4.out.tb).cel 2 (.int .i64 (t.r 1)) rfl
  have x3 := (L4.out.tb).cel 3 (.int .i64 (t.r 2)) rfl
  have x4 := (L4.out.tb).cel 4 (.int .i64 (t.r 3)) rfl
  have x5 := (L4.out.tb).cel 5 (.slice (t.u 0).a (t.u 0).n (t.u 0).c) rfl
  have x6 := (L4.out.tb).cel 6 (.slice (t.u 1).a (t.u 1).n (t.u 1).c) rfl
  have x7 := (L4.out.tb).cel 7 (.slice (t.u 2).a (t.u 2).n (t.u 2).c) rfl
  have x8 := (L4.out.tb).cel 8 (.int .i64 t.ep) rfl
  have x9 := (L4.out.tb).cel 9 (.int .i64 t.sg) rfl
  have x10 := (L4.out.tb).cel 10 (.int .i64 t.rt) rfl
  have x11 := (L4.out.tb).cel 11 (.slice t.o.a t.o.n t.o.c) rfl
  have x12 := (L4.out.tb).cel 12 (.int .i64 t.pc) rfl
  have x13 := (L4.out.tb).cel 13 (.int .i64 t.x) rfl
  have x14 := (L4.out.tb).cel 14 (.int .i64 t.y) rfl
  have xl := (L4.out.tb).lt
  go_wp2_with fail
  refine (CO.out w3 L4.out).mono ?_
  rintro e9 w4 ⟨rfl, hb9⟩
  have L5 := Lib.hid (L4.out.next hb9)
  clear hb9 L4
  clear q0 q1 q2 q3 q4 q5 ql
  clear x0 x1 x2 x3 x4 x5 x6 x7 x8 x9 x10 x11 x12 x13 x14 xl
  have x0 := (L5.out.tb).cel 0 (.bool t.lv) rfl
  have x1 := (L5.out.tb).cel 1 (.int .i64 (t.r 0)) rfl
  have x2 := (L5.out.tb).cel 2 (.int .i64 (t.r 1)) rfl
  have x3 := (L5.out.tb).cel 3 (.int .i64 (t.r 2)) rfl
  have x4 := (L5.out.tb).cel 4 (.int .i64 (t.r 3)) rfl
  have x5 := (L5.out.tb).cel 5 (.slice (t.u 0).a (t.u 0).n (t.u 0).c) rfl
  have x6 := (L5.out.tb).cel 6 (.slice (t.u 1).a (t.u 1).n (t.u 1).c) rfl
  have x7 := (L5.out.tb).cel 7 (.slice (t.u 2).a (t.u 2).n (t.u 2).c) rfl
  have x8 := (L5.out.tb).cel 8 (.int .i64 t.ep) rfl
  have x9 := (L5.out.tb).cel 9 (.int .i64 t.sg) rfl
  have x10 := (L5.out.tb).cel 10 (.int .i64 t.rt) rfl
  have x11 := (L5.out.tb).cel 11 (.slice t.o.a t.o.n t.o.c) rfl
  have x12 := (L5.out.tb).cel 12 (.int .i64 t.pc) rfl
  have x13 := (L5.out.tb).cel 13 (.int .i64 t.x) rfl
  have x14 := (L5.out.tb).cel 14 (.int .i64 t.y) rfl
  have xl := (L5.out.tb).lt
  go_wp2_with fail
  refine (CG.out w4).mono ?_
  rintro e9 w5 ⟨rfl, hb9⟩
  have L6 := Lib.hid (L5.out.next hb9)
  clear hb9 L5
  clear x0 x1 x2 x3 x4 x5 x6 x7 x8 x9 x10 x11 x12 x13 x14 xl
  go_wp2
  go_ret
  exact ⟨rfl, L6.out.bel⟩
set_option maxHeartbeats 4000000 in
theorem walk_yes (r a x n : Int) (u o e' : Bool) (b m : Int) (hr : inReg r = true) (ha : getV t r = a) (hx : headE s d a = x) (hV : headV s d a = .agg #[.bool u, .bool o, .bool e', .int .i64 n, .int .i64 b, .int .i64 m]) (hfh : fewH s = true) (hft : fewT t = true) (hfi : Fine s d) (w : World) (hz : Cl.Sz w) (hp : Hp w w.heap.size s d) (h : Th w w.heap.size t F g) : Calls Tryd.prog 3 #[(.agg #[.slice s.w.a s.w.n s.w.c, .slice s.p.a s.p.n s.p.c, .slice (s.u 0).a (s.u 0).n (s.u 0).c, .slice (s.u 1).a (s.u 1).n (s.u 1).c, .slice (s.u 2).a (s.u 2).n (s.u 2).c, .slice s.c.a s.c.n s.c.c]), (.agg #[.bool t.lv, .int .i64 (t.r 0), .int .i64 (t.r 1), .int .i64 (t.r 2), .int .i64 (t.r 3), .slice (t.u 0).a (t.u 0).n (t.u 0).c, .slice (t.u 1).a (t.u 1).n (t.u 1).c, .slice (t.u 2).a (t.u 2).n (t.u 2).c, .int .i64 t.ep, .int .i64 t.sg, .int .i64 t.rt, .slice t.o.a t.o.n t.o.c, .int .i64 t.pc, .int .i64 t.x, .int .i64 t.y]), .int .i64 r] w fun e w' => e = .returned (.bool true) ∧ Below w.heap.size w w' := by
  have HZ := Lib.hid hz
  have hz0 := hz.pos
  have HP := Lib.hid hp
  have HT := Lib.hid h
  have CH := Lib.hid (fun W => Go.Proofs.YtjppimabhefeeaaDoor.rfew_any s W)
  have CF := Lib.hid (fun W => Rt.rfew_any t W)
  rw [hfh] at CH
  rw [hft] at CF
  have CO := Lib.hid (fun W (hL : Lo w W w.heap.size (w.heap.size + 1) s d t F g) => pobj_any s d t r W hL.hp (hz.over hL.bel hz0) hfi)
  have CG := Lib.hid (fun W => get_any t r W)
  have CK := Lib.hid (fun W (hL : Lo w W w.heap.size (w.heap.size + 1) s d t F g) => rhead_any s d a W hL.hp hfi)
  have hN : cellN (headV s d a) = n := by rw [hV]; rfl
  rw [show ofA s d t r = objA s d (getV t r) from if_pos hr, show ofN s d t r = objN s d (getV t r) from if_pos hr, show ofE s d t r = objE s d (getV t r) from if_pos hr, ha] at CO
  rw [ha, show getE r = 0 from if_pos hr] at CG
  rw [hV, hx] at CK
  by_cases h0 : x = 0
  · rw [show objA s d a = a from if_pos (hx.trans h0), show objN s d a = n from (if_pos (hx.trans h0)).trans hN, show objE s d a = 0 from if_pos (hx.trans h0)] at CO
    clear hz hp h hfh hft hr hfi hV hN ha hx
    subst h0
    go_enter Tryd.func3, Tryd.ntmps3
    go_wp2_with fail
    obtain ⟨W1, hW1⟩ : ∃ W1, W1 = (w.alloc (.cells #[.slice s.w.a s.w.n s.w.c, .slice s.p.a s.p.n s.p.c, .slice (s.u 0).a (s.u 0).n (s.u 0).c, .slice (s.u 1).a (s.u 1).n (s.u 1).c, .slice (s.u 2).a (s.u 2).n (s.u 2).c, .slice s.c.a s.c.n s.c.c] 28)).alloc (.cells #[.bool t.lv, .int .i64 (t.r 0), .int .i64 (t.r 1), .int .i64 (t.r 2), .int .i64 (t.r 3), .slice (t.u 0).a (t.u 0).n (t.u 0).c, .slice (t.u 1).a (t.u 1).n (t.u 1).c, .slice (t.u 2).a (t.u 2).n (t.u 2).c, .int .i64 t.ep, .int .i64 t.sg, .int .i64 t.rt, .slice t.o.a t.o.n t.o.c, .int .i64 t.pc, .int .i64 t.x, .int .i64 t.y] 32) := ⟨_, rfl⟩
    have L1 := Lib.hid (lo_start HP.out HT.out hW1)
    rw [← hW1]
    clear hW1
    refine (Rt.awake_any W1).mono ?_
    rintro e9 w1 ⟨rfl, hb9⟩
    have L2 := Lib.hid (L1.out.next hb9)
    clear hb9 L1
    have q0 := (L2.out.hb).c0
    have q1 := (L2.out.hb).c1
    have q2 := (L2.out.hb).c2
    have q3 := (L2.out.hb).c3
    have q4 := (L2.out.hb).c4
    have q5 := (L2.out.hb).c5
    have ql := (L2.out.hb).lt
    go_wp2_with fail
    refine (CH.out w1).mono ?_
    rintro e9 w2 ⟨rfl, hb9⟩
    have L3 := Lib.hid (L2.out.next hb9)
    clear hb9 L2
    clear q0 q1 q2 q3 q4 q5 ql
    have x0 := (L3.out.tb).cel 0 (.bool t.lv) rfl
    have x1 := (L3.out.tb).cel 1 (.int .i64 (t.r 0)) rfl
    have x2 := (L3.out.tb).cel 2 (.int .i64 (t.r 1)) rfl
    have x3 := (L3.out.tb).cel 3 (.int .i64 (t.r 2)) rfl
    have x4 := (L3.out.tb).cel 4 (.int .i64 (t.r 3)) rfl
    have x5 := (L3.out.tb).cel 5 (.slice (t.u 0).a (t.u 0).n (t.u 0).c) rfl
    have x6 := (L3.out.tb).cel 6 (.slice (t.u 1).a (t.u 1).n (t.u 1).c) rfl
    have x7 := (L3.out.tb).cel 7 (.slice (t.u 2).a (t.u 2).n (t.u 2).c) rfl
    have x8 := (L3.out.tb).cel 8 (.int .i64 t.ep) rfl
    have x9 := (L3.out.tb).cel 9 (.int .i64 t.sg) rfl
    have x10 := (L3.out.tb).cel 10 (.int .i64 t.rt) rfl
    have x11 := (L3.out.tb).cel 11 (.slice t.o.a t.o.n t.o.c) rfl
    have x12 := (L3.out.tb).cel 12 (.int .i64 t.pc) rfl
    have x13 := (L3.out.tb).cel 13 (.int .i64 t.x) rfl
    have x14 := (L3.out.tb).cel 14 (.int .i64 t.y) rfl
    have xl := (L3.out.tb).lt
    go_wp2_with fail
    refine (CF.out w2).mono ?_
    rintro e9 w3 ⟨rfl, hb9⟩
    have L4 := Lib.hid (L3.out.next hb9)
    clear hb9 L3
    clear x0 x1 x2 x3 x4 x5 x6 x7 x8 x9 x10 x11 x12 x13 x14 xl
    have q0 := (L4.out.hb).c0
    have q1 := (L4.out.hb).c1
    have q2 := (L4.out.hb).c2
    have q3 := (L4.out.hb).c3
    have q4 := (L4.out.hb).c4
    have q5 := (L4.out.hb).c5
    have ql := (L4.out.hb).lt
    have x0 := (L4.out.tb).cel 0 (.bool t.lv) rfl
    have x1 := (L4.out.tb).cel 1 (.int .i64 (t.r 0)) rfl
    have x2 := (L4.out.tb).cel 2 (.int .i64 (t.r 1)) rfl
    have x3 := (L4.out.tb).cel 3 (.int .i64 (t.r 2)) rfl
    have x4 := (L4.out.tb).cel 4 (.int .i64 (t.r 3)) rfl
    have x5 := (L4.out.tb).cel 5 (.slice (t.u 0).a (t.u 0).n (t.u 0).c) rfl
    have x6 := (L4.out.tb).cel 6 (.slice (t.u 1).a (t.u 1).n (t.u 1).c) rfl
    have x7 := (L4.out.tb).cel 7 (.slice (t.u 2).a (t.u 2).n (t.u 2).c) rfl
    have x8 := (L4.out.tb).cel 8 (.int .i64 t.ep) rfl
    have x9 := (L4.out.tb).cel 9 (.int .i64 t.sg) rfl
    have x10 := (L4.out.tb).cel 10 (.int .i64 t.rt) rfl
    have x11 := (L4.out.tb).cel 11 (.slice t.o.a t.o.n t.o.c) rfl
    have x12 := (L4.out.tb).cel 12 (.int .i64 t.pc) rfl
    have x13 := (L4.out.tb).cel 13 (.int .i64 t.x) rfl
    have x14 := (L4.out.tb).cel 14 (.int .i64 t.y) rfl
    have xl := (L4.out.tb).lt
    go_wp2_with fail
    refine (CO.out w3 L4.out).mono ?_
    rintro e9 w4 ⟨rfl, hb9⟩
    have L5 := Lib.hid (L4.out.next hb9)
    clear hb9 L4
    clear q0 q1 q2 q3 q4 q5 ql
    clear x0 x1 x2 x3 x4 x5 x6 x7 x8 x9 x10 x11 x12 x13 x14 xl
    have x0 := (L5.out.tb).cel 0 (.bool t.lv) rfl
    have x1 := (L5.out.tb).cel 1 (.int .i64 (t.r 0)) rfl
    have x2 := (L5.out.tb).cel 2 (.int .i64 (t.r 1)) rfl
    have x3 := (L5.out.tb).cel 3 (.int .i64 (t.r 2)) rfl
    have x4 := (L5.out.tb).cel 4 (.int .i64 (t.r 3)) rfl
    have x5 := (L5.out.tb).cel 5 (.slice (t.u 0).a (t.u 0).n (t.u 0).c) rfl
    have x6 := (L5.out.tb).cel 6 (.slice (t.u 1).a (t.u 1).n (t.u 1).c) rfl
    have x7 := (L5.out.tb).cel 7 (.slice (t.u 2).a (t.u 2).n (t.u 2).c) rfl
    have x8 := (L5.out.tb).cel 8 (.int .i64 t.ep) rfl
    have x9 := (L5.out.tb).cel 9 (.int .i64 t.sg) rfl
    have x10 := (L5.out.tb).cel 10 (.int .i64 t.rt) rfl
    have x11 := (L5.out.tb).cel 11 (.slice t.o.a t.o.n t.o.c) rfl
    have x12 := (L5.out.tb).cel 12 (.int .i64 t.pc) rfl
    have x13 := (L5.out.tb).cel 13 (.int .i64 t.x) rfl
    have x14 := (L5.out.tb).cel 14 (.int .i64 t.y) rfl
    have xl := (L5.out.tb).lt
    go_wp2_with fail
    refine (CG.out w4).mono ?_
    rintro e9 w5 ⟨rfl, hb9⟩
    have L6 := Lib.hid (L5.out.next hb9)
    clear hb9 L5
    clear x0 x1 x2 x3 x4 x5 x6 x7 x8 x9 x10 x11 x12 x13 x14 xl
    have q0 := (L6.out.hb).c0
    have q1 := (L6.out.hb).c1
    have q2 := (L6.out.hb).c2
    have q3 := (L6.out.hb).c3
    have q4 := (L6.out.hb).c4
    have q5 := (L6.out.hb).c5
    have ql := (L6.out.hb).lt
    go_wp2_with fail
    refine (CK.out w5 L6.out).mono ?_
    rintro e9 w6 ⟨rfl, hb9⟩
    have B7 := Lib.hid ((L6.out.next hb9).bel)
    clear hb9 L6
    clear q0 q1 q2 q3 q4 q5 ql
    go_wp2
    go_ret
    exact ⟨rfl, B7.out.alloc B7.out.size _⟩
  · rw [show objA s d a = 0 from if_neg (fun e => h0 (hx.symm.trans e)), show objN s d a = 0 from if_neg (fun e => h0 (hx.symm.trans e)), show objE s d a = 5 from if_neg (fun e => h0 (hx.symm.trans e))] at CO
    have hd : (x != 0) = true := by simpa using h0
    clear hz hp h hfh hft hr hfi hV hN ha hx h0
    go_enter Tryd.func3, Tryd.ntmps3
    go_wp2_with fail
    obtain ⟨W1, hW1⟩ : ∃ W1, W1 = (w.alloc (.cells #[.slice s.w.a s.w.n s.w.c, .slice s.p.a s.p.n s.p.c, .slice (s.u 0).a (s.u 0).n (s.u 0).c, .slice (s.u 1).a (s.u 1).n (s.u 1).c, .slice (s.u 2).a (s.u 2).n (s.u 2).c, .slice s.c.a s.c.n s.c.c] 28)).alloc (.cells #[.bool t.lv, .int .i64 (t.r 0), .int .i64 (t.r 1), .int .i64 (t.r 2), .int .i64 (t.r 3), .slice (t.u 0).a (t.u 0).n (t.u 0).c, .slice (t.u 1).a (t.u 1).n (t.u 1).c, .slice (t.u 2).a (t.u 2).n (t.u 2).c, .int .i64 t.ep, .int .i64 t.sg, .int .i64 t.rt, .slice t.o.a t.o.n t.o.c, .int .i64 t.pc, .int .i64 t.x, .int .i64 t.y] 32) := ⟨_, rfl⟩
    have L1 := Lib.hid (lo_start HP.out HT.out hW1)
    rw [← hW1]
    clear hW1
    refine (Rt.awake_any W1).mono ?_
    rintro e9 w1 ⟨rfl, hb9⟩
    have L2 := Lib.hid (L1.out.next hb9)
    clear hb9 L1
    have q0 := (L2.out.hb).c0
    have q1 := (L2.out.hb).c1
    have q2 := (L2.out.hb).c2
    have q3 := (L2.out.hb).c3
    have q4 := (L2.out.hb).c4
    have q5 := (L2.out.hb).c5
    have ql := (L2.out.hb).lt
    go_wp2_with fail
    refine (CH.out w1).mono ?_
    rintro e9 w2 ⟨rfl, hb9⟩
    have L3 := Lib.hid (L2.out.next hb9)
    clear hb9 L2
    clear q0 q1 q2 q3 q4 q5 ql
    have x0 := (L3.out.tb).cel 0 (.bool t.lv) rfl
    have x1 := (L3.out.tb).cel 1 (.int .i64 (t.r 0)) rfl
    have x2 := (L3.out.tb).cel 2 (.int .i64 (t.r 1)) rfl
    have x3 := (L3.out.tb).cel 3 (.int .i64 (t.r 2)) rfl
    have x4 := (L3.out.tb).cel 4 (.int .i64 (t.r 3)) rfl
    have x5 := (L3.out.tb).cel 5 (.slice (t.u 0).a (t.u 0).n (t.u 0).c) rfl
    have x6 := (L3.out.tb).cel 6 (.slice (t.u 1).a (t.u 1).n (t.u 1).c) rfl
    have x7 := (L3.out.tb).cel 7 (.slice (t.u 2).a (t.u 2).n (t.u 2).c) rfl
    have x8 := (L3.out.tb).cel 8 (.int .i64 t.ep) rfl
    have x9 := (L3.out.tb).cel 9 (.int .i64 t.sg) rfl
    have x10 := (L3.out.tb).cel 10 (.int .i64 t.rt) rfl
    have x11 := (L3.out.tb).cel 11 (.slice t.o.a t.o.n t.o.c) rfl
    have x12 := (L3.out.tb).cel 12 (.int .i64 t.pc) rfl
    have x13 := (L3.out.tb).cel 13 (.int .i64 t.x) rfl
    have x14 := (L3.out.tb).cel 14 (.int .i64 t.y) rfl
    have xl := (L3.out.tb).lt
    go_wp2_with fail
    refine (CF.out w2).mono ?_
    rintro e9 w3 ⟨rfl, hb9⟩
    have L4 := Lib.hid (L3.out.next hb9)
    clear hb9 L3
    clear x0 x1 x2 x3 x4 x5 x6 x7 x8 x9 x10 x11 x12 x13 x14 xl
    have q0 := (L4.out.hb).c0
    have q1 := (L4.out.hb).c1
    have q2 := (L4.out.hb).c2
    have q3 := (L4.out.hb).c3
    have q4 := (L4.out.hb).c4
    have q5 := (L4.out.hb).c5
    have ql := (L4.out.hb).lt
    have x0 := (L4.out.tb).cel 0 (.bool t.lv) rfl
    have x1 := (L4.out.tb).cel 1 (.int .i64 (t.r 0)) rfl
    have x2 := (L4.out.tb).cel 2 (.int .i64 (t.r 1)) rfl
    have x3 := (L4.out.tb).cel 3 (.int .i64 (t.r 2)) rfl
    have x4 := (L4.out.tb).cel 4 (.int .i64 (t.r 3)) rfl
    have x5 := (L4.out.tb).cel 5 (.slice (t.u 0).a (t.u 0).n (t.u 0).c) rfl
    have x6 := (L4.out.tb).cel 6 (.slice (t.u 1).a (t.u 1).n (t.u 1).c) rfl
    have x7 := (L4.out.tb).cel 7 (.slice (t.u 2).a (t.u 2).n (t.u 2).c) rfl
    have x8 := (L4.out.tb).cel 8 (.int .i64 t.ep) rfl
    have x9 := (L4.out.tb).cel 9 (.int .i64 t.sg) rfl
    have x10 := (L4.out.tb).cel 10 (.int .i64 t.rt) rfl
    have x11 := (L4.out.tb).cel 11 (.slice t.o.a t.o.n t.o.c) rfl
    have x12 := (L4.out.tb).cel 12 (.int .i64 t.pc) rfl
    have x13 := (L4.out.tb).cel 13 (.int .i64 t.x) rfl
    have x14 := (L4.out.tb).cel 14 (.int .i64 t.y) rfl
    have xl := (L4.out.tb).lt
    go_wp2_with fail
    refine (CO.out w3 L4.out).mono ?_
    rintro e9 w4 ⟨rfl, hb9⟩
    have L5 := Lib.hid (L4.out.next hb9)
    clear hb9 L4
    clear q0 q1 q2 q3 q4 q5 ql
    clear x0 x1 x2 x3 x4 x5 x6 x7 x8 x9 x10 x11 x12 x13 x14 xl
    have x0 := (L5.out.tb).cel 0 (.bool t.lv) rfl
    have x1 := (L5.out.tb).cel 1 (.int .i64 (t.r 0)) rfl
    have x2 := (L5.out.tb).cel 2 (.int .i64 (t.r 1)) rfl
    have x3 := (L5.out.tb).cel 3 (.int .i64 (t.r 2)) rfl
    have x4 := (L5.out.tb).cel 4 (.int .i64 (t.r 3)) rfl
    have x5 := (L5.out.tb).cel 5 (.slice (t.u 0).a (t.u 0).n (t.u 0).c) rfl
    have x6 := (L5.out.tb).cel 6 (.slice (t.u 1).a (t.u 1).n (t.u 1).c) rfl
    have x7 := (L5.out.tb).cel 7 (.slice (t.u 2).a (t.u 2).n (t.u 2).c) rfl
    have x8 := (L5.out.tb).cel 8 (.int .i64 t.ep) rfl
    have x9 := (L5.out.tb).cel 9 (.int .i64 t.sg) rfl
    have x10 := (L5.out.tb).cel 10 (.int .i64 t.rt) rfl
    have x11 := (L5.out.tb).cel 11 (.slice t.o.a t.o.n t.o.c) rfl
    have x12 := (L5.out.tb).cel 12 (.int .i64 t.pc) rfl
    have x13 := (L5.out.tb).cel 13 (.int .i64 t.x) rfl
    have x14 := (L5.out.tb).cel 14 (.int .i64 t.y) rfl
    have xl := (L5.out.tb).lt
    go_wp2_with fail
    refine (CG.out w4).mono ?_
    rintro e9 w5 ⟨rfl, hb9⟩
    have L6 := Lib.hid (L5.out.next hb9)
    clear hb9 L5
    clear x0 x1 x2 x3 x4 x5 x6 x7 x8 x9 x10 x11 x12 x13 x14 xl
    have q0 := (L6.out.hb).c0
    have q1 := (L6.out.hb).c1
    have q2 := (L6.out.hb).c2
    have q3 := (L6.out.hb).c3
    have q4 := (L6.out.hb).c4
    have q5 := (L6.out.hb).c5
    have ql := (L6.out.hb).lt
    go_wp2_with fail
    refine (CK.out w5 L6.out).mono ?_
    rintro e9 w6 ⟨rfl, hb9⟩
    have B7 := Lib.hid ((L6.out.next hb9).bel)
    clear hb9 L6
    clear q0 q1 q2 q3 q4 q5 ql
    go_wp2
    go_ret
    exact ⟨rfl, B7.out.alloc B7.out.size _⟩
end
theorem walk (s : Hs) (d : Hd_) (t : Ts) (F : Nat → List Int) (g : Nat → O4) (r : Int) (w : World) (hz : Cl.Sz w) (hp : Hp w w.heap.size s d) (hv : Fit64 d.ws) (_ : s.p.n ≤ s.p.c) (h : Th w w.heap.size t F g) (_ : (Lit.int .i64 r).wf = true) : Calls Tryd.prog 3 #[(.agg #[.slice s.w.a s.w.n s.w.c, .slice s.p.a s.p.n s.p.c, .slice (s.u 0).a (s.u 0).n (s.u 0).c, .slice (s.u 1).a (s.u 1).n (s.u 1).c, .slice (s.u 2).a (s.u 2).n (s.u 2).c, .slice s.c.a s.c.n s.c.c]), (.agg #[.bool t.lv, .int .i64 (t.r 0), .int .i64 (t.r 1), .int .i64 (t.r 2), .int .i64 (t.r 3), .slice (t.u 0).a (t.u 0).n (t.u 0).c, .slice (t.u 1).a (t.u 1).n (t.u 1).c, .slice (t.u 2).a (t.u 2).n (t.u 2).c, .int .i64 t.ep, .int .i64 t.sg, .int .i64 t.rt, .slice t.o.a t.o.n t.o.c, .int .i64 t.pc, .int .i64 t.x, .int .i64 t.y]), .int .i64 r] w fun e w' => e = .returned (.bool true) ∧ Below w.heap.size w w' := by
  cases hfh : fewH s with
  | false =>
    cases hft : fewT t with
    | false => exact walk_fewff s d t F g r hfh hft w hz hp h
    | true => exact walk_fewft s d t F g r hfh hft w hz hp h
  | true =>
    cases hft : fewT t with
    | false => exact walk_fewtf s d t F g r hfh hft w hz hp h
    | true =>
      have hfi := fine_few hfh hp hv
      cases hr : inReg r with
      | false => exact walk_no s d t F g r hr hfh hft hfi w hz hp h
      | true =>
        obtain ⟨u, o, e', n, b, m, hV⟩ := head_form s d (getV t r)
        exact walk_yes s d t F g r _ _ n u o e' b m hr rfl rfl hV hfh hft hfi w hz hp h

-- the frame (hp12frame.py)
set_option maxRecDepth 100000 in
theorem lifted (os : Os) (started : os.Started) (H : Type) (enc : TypeId × Value → H) :
    ReturnsInHanded {} Tryd.checked os 3 .any (fun w args => (Rows.regsObjectSpec.pre enc Tryd.prog Tryd.f3 [] false w args ∧ laidMetH Tryd.prog laidSizes w) ∧ sizedMet enc Tryd.prog Tryd.f3 (OpenSpec.ofChange Rows.regsObjectSpec) false w args)
      (Rows.regsObjectSpec.post enc Tryd.prog Tryd.f3 false true false false) := by
  refine returnsInHanded_of_change_and (C := Tryd.checked) (X := fun w _ => laidMetH Tryd.prog laidSizes w) (fun _ _ _ hh h => h.of_heap hh) own started (by kernel_rfl) Tryd.func3
    (ChangeSpec.witness_shaped (enc := enc) (C := Tryd.checked) (os := os) (X := fun w _ => laidMetH Tryd.prog laidSizes w) false (World.doorLaid Tryd.prog 400 os) #[.agg #[.slice none 0 0, .slice none 0 0, .slice none 0 0, .slice none 0 0, .slice none 0 0, .slice none 0 0], .agg #[.bool false, .int .i64 0, .int .i64 0, .int .i64 0, .int .i64 0, .slice none 0 0, .slice none 0 0, .slice none 0 0, .int .i64 0, .int .i64 0, .int .i64 0, .slice none 0 0, .int .i64 0, .int .i64 0, .int .i64 0], .int .i64 0] 8 rfl (World.shaped_of_RefB (by kernel_rfl) (by kernel_rfl)) (by kernel_rfl) (by kernel_rfl) (by kernel_rfl) (door_met os _)) ?_
  intro W base args ds gs before hval0 hW _ _ hL _
  have hval : ∀ (j : Nat) t v, Tryd.f3.params[j]? = some t → args[j]? = some v → Value.okWide Tryd.prog W .any base t v := hval0
  have hW' := hW
  obtain ⟨p, q, hA0, hV, rfl, hfz, hnd⟩ := hW
  have hA : DataW.TrodAll enc Tryd.prog W 0 (fun _ => true) true Tryd.f3.params.toList args.toList ds p := hA0
  rw [Tryd.params3] at hA hval
  obtain ⟨v0, vs0, d0, ds0, p0, q0, hargs, rfl, rfl, h0, r0⟩ := trodAll_cons hA
  obtain ⟨v1, vs1, d1, ds1, p1, q1, rfl, rfl, rfl, h1, r1⟩ := trodAll_cons r0
  obtain ⟨v2, vs2, d2, ds2, p2, q2, rfl, rfl, rfl, h2, r2⟩ := trodAll_cons r1
  obtain ⟨rfl, rfl, rfl⟩ := trodAll_nil r2
  obtain rfl : args = #[v0, v1, v2] := by cases args; simp_all
  obtain ⟨rfl, rfl⟩ := trodVars_none hV
  have k0 := h0
  have lt0 : ∀ x ∈ p0, x.block < W.heap.size := by obtain ⟨m, hm⟩ := k0; exact DataW.trod_lt m _ _ _ hm
  obtain ⟨s0, z0, rfl, w0, f0, b0⟩ := heap_of8 (hval 0 28 v0 rfl rfl) h0
  have k1 := h1
  have lt1 : ∀ x ∈ p1, x.block < W.heap.size := by obtain ⟨m, hm⟩ := k1; exact DataW.trod_lt m _ _ _ hm
  obtain ⟨t1, z1, g1, rfl, w1⟩ := Rt.th_of (hval 1 32 v1 rfl rfl) h1
  obtain ⟨a2, rfl, rfl, rfl, w2⟩ := open_int Tryd.underlying3 (hval 2 3 v2 rfl rfl) h2
  clear hA0 hval0
  refine (walk s0 z0 t1 z1 g1 a2 W (of_laid hL) w0 f0 b0 w1 w2).mono fun e W' ⟨he, bel⟩ => ?_
  subst he
  exact ⟨_, rfl, _, _, _, [], _, [], hW', trodAll_mk1 (shut_bool Tryd.underlying4 _), (trodAll_cons_mk (Below.trod laidOut (by kernel_rfl) (of_decide_eq_true (by kernel_rfl)) k0 bel lt0) (trodAll_cons_mk (Below.trod laidOut (by kernel_rfl) (of_decide_eq_true (by kernel_rfl)) k1 bel lt1) (trodAll_cons_mk (shut_int Tryd.underlying3 w2) trodAll_mk0))), rfl, bel.frame _, fun h => by cases h⟩

theorem over : Rows.RegsObjectSaid :=
  OpenClaim.holds_of_wide 3 Tryd.f3 rfl rfl rfl rfl rfl rfl rfl ⟨rfl, rfl, rfl, rfl, rfl⟩ rfl rfl rfl rfl rfl (by kernel_rfl) Tryd.func3 (by kernel_rfl)
    (of_decide_eq_true (by kernel_rfl)) (by unfold Func.isWrapper; first | (rw [if_pos (by decide +kernel)]; kernel_rfl) | (rw [if_neg (by decide +kernel)]; exact ⟨rfl, rfl⟩))
    (fun os started H enc _ => lifted os started H enc)

/-- The statement: the card. -/
theorem proved : Rows.RegsObjectCardSaid :=
  Claim7.holds_tied_plain_at .later [] [.data] true Rows.regsObjectCard.stood.harness false
    over (fun _ h => by cases h) (by kernel_rfl) (fun _ h => by cases h) regsObject_row_tie rfl ⟨rfl, rfl⟩ (by kernel_rfl) rfl
    (fun f fn hf hfn => by
      obtain rfl : f = 3 := Option.some.inj ((show Tryd.prog.funcNamed "ragpicker/ragpickerlaw12.RegsObject" = some 3 by kernel_rfl).symm.trans hf) |>.symm
      obtain rfl : fn = Tryd.f3 := (Option.some.inj (Tryd.func3.symm.trans hfn)).symm
      exact ⟨by kernel_rfl, fun j t ht => by
        rw [Tryd.params3] at ht
        have hm : t ∈ [28, 32, 3] := by simpa using Array.mem_of_getElem? ht
        have hall : ([28, 32, 3].all fun u => !Tryd.prog.wantsStandIn u) = true := by kernel_rfl
        exact (show Tryd.prog.wantsStandIn t = false by simpa using List.all_eq_true.1 hall t hm)⟩)
    (by kernel_rfl)
#print axioms proved
end Go.Proofs.YtjppimabhefeeaaDoor.RegsObject
