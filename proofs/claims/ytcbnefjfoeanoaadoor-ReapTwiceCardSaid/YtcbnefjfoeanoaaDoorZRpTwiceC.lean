/-
  ReapTwice: ReapTwice's walks.
-/
import Derived.Test.YtcbnefjfoeanoaaDoorHpZM
namespace Go.Proofs.YtcbnefjfoeanoaaDoor.ReapTwice
open Go.Proofs.YtcbnefjfoeanoaaDoor Go.Proofs.YtcbnefjfoeanoaaDoor.Rp
open Go.ChangeShapes Go.WideShapes Go.ChangeAt Go.RowKit
set_option maxRecDepth 100000

section
variable (s : Hs) (d : Hd_) (A : Option Addr) (n c : Nat) (U : Nat → Nat → Ls.Sl) (F : Nat → Nat → List Int) (a b : Int) (w : World)
set_option maxHeartbeats 1000000 in
theorem walk_few (hf : fewL s U n = false) (hn : n ≤ 9223372036854775807) (hz : Cl.Sz w) (hp : Hp w w.heap.size s d) (hl : Ls.LRow w w.heap.size A n U F) : Calls Tryd.prog 5 #[(.agg #[.slice s.w.a s.w.n s.w.c, .slice s.p.a s.p.n s.p.c, .slice (s.u 0).a (s.u 0).n (s.u 0).c, .slice (s.u 1).a (s.u 1).n (s.u 1).c, .slice (s.u 2).a (s.u 2).n (s.u 2).c, .slice s.c.a s.c.n s.c.c]), .slice A n c, .int .i64 a, .int .i64 b] w fun e w' => e = .returned (.bool true) ∧ Below w.heap.size w w' := by
  have HZ := Lib.hid hz
  have hz0 := hz.pos
  have HP := Lib.hid hp
  have HL := Lib.hid hl
  have HF := Lib.hid hf
  clear hz hp hl hf
  go_enter Tryd.func5, Tryd.ntmps5
  go_wp2_with fail
  obtain ⟨W1, hW1⟩ : ∃ W1, W1 = w.alloc (.cells #[.slice s.w.a s.w.n s.w.c, .slice s.p.a s.p.n s.p.c, .slice (s.u 0).a (s.u 0).n (s.u 0).c, .slice (s.u 1).a (s.u 1).n (s.u 1).c, .slice (s.u 2).a (s.u 2).n (s.u 2).c, .slice s.c.a s.c.n s.c.c] 28) := ⟨_, rfl⟩
  have L1 := Lib.hid (lx_start HP.out HL.out hW1)
  rw [← hW1]
  clear hW1
  refine (Rp.awake_any W1 (HZ.out.over L1.out.bel hz0)).mono ?_
  rintro e9 w1 ⟨rfl, hb1⟩
  have L2 := Lib.hid (L1.out.next hb1)
  clear hb1 L1
  have q0 := (L2.out.at (w.heap.size) (s) (d) (by simp)).c0
  have q1 := (L2.out.at (w.heap.size) (s) (d) (by simp)).c1
  have q2 := (L2.out.at (w.heap.size) (s) (d) (by simp)).c2
  have q3 := (L2.out.at (w.heap.size) (s) (d) (by simp)).c3
  have q4 := (L2.out.at (w.heap.size) (s) (d) (by simp)).c4
  have q5 := (L2.out.at (w.heap.size) (s) (d) (by simp)).c5
  have ql := (L2.out.at (w.heap.size) (s) (d) (by simp)).lt
  go_wp2_with fail
  refine (few9_any s A _ c U F w1 hn L2.out.lr).mono ?_
  rw [HF.out]
  rintro e9 w2 ⟨rfl, hb2⟩
  have L3 := Lib.hid (L2.out.next hb2)
  clear hb2 L2
  clear q0 q1 q2 q3 q4 q5 ql
  go_wp2
  go_ret
  exact ⟨rfl, L3.out.bel⟩
set_option maxHeartbeats 1000000 in
theorem walk_eq (hf : fewL s U n = true) (hab : a = b) (hn : n ≤ 9223372036854775807) (hz : Cl.Sz w) (hp : Hp w w.heap.size s d) (hl : Ls.LRow w w.heap.size A n U F) : Calls Tryd.prog 5 #[(.agg #[.slice s.w.a s.w.n s.w.c, .slice s.p.a s.p.n s.p.c, .slice (s.u 0).a (s.u 0).n (s.u 0).c, .slice (s.u 1).a (s.u 1).n (s.u 1).c, .slice (s.u 2).a (s.u 2).n (s.u 2).c, .slice s.c.a s.c.n s.c.c]), .slice A n c, .int .i64 a, .int .i64 b] w fun e w' => e = .returned (.bool true) ∧ Below w.heap.size w w' := by
  have HZ := Lib.hid hz
  have hz0 := hz.pos
  have HP := Lib.hid hp
  have HL := Lib.hid hl
  have HF := Lib.hid hf
  have d1 : (a == b) = true := by simp [hab]
  clear hz hp hl hf hab
  go_enter Tryd.func5, Tryd.ntmps5
  go_wp2_with fail
  obtain ⟨W1, hW1⟩ : ∃ W1, W1 = w.alloc (.cells #[.slice s.w.a s.w.n s.w.c, .slice s.p.a s.p.n s.p.c, .slice (s.u 0).a (s.u 0).n (s.u 0).c, .slice (s.u 1).a (s.u 1).n (s.u 1).c, .slice (s.u 2).a (s.u 2).n (s.u 2).c, .slice s.c.a s.c.n s.c.c] 28) := ⟨_, rfl⟩
  have L1 := Lib.hid (lx_start HP.out HL.out hW1)
  rw [← hW1]
  clear hW1
  refine (Rp.awake_any W1 (HZ.out.over L1.out.bel hz0)).mono ?_
  rintro e9 w1 ⟨rfl, hb1⟩
  have L2 := Lib.hid (L1.out.next hb1)
  clear hb1 L1
  have q0 := (L2.out.at (w.heap.size) (s) (d) (by simp)).c0
  have q1 := (L2.out.at (w.heap.size) (s) (d) (by simp)).c1
  have q2 := (L2.out.at (w.heap.size) (s) (d) (by simp)).c2
  have q3 := (L2.out.at (w.heap.size) (s) (d) (by simp)).c3
  have q4 := (L2.out.at (w.heap.size) (s) (d) (by simp)).c4
  have q5 := (L2.out.at (w.heap.size) (s) (d) (by simp)).c5
  have ql := (L2.out.at (w.heap.size) (s) (d) (by simp)).lt
  go_wp2_with fail
  refine (few9_any s A _ c U F w1 hn L2.out.lr).mono ?_
  rw [HF.out]
  rintro e9 w2 ⟨rfl, hb2⟩
  have L3 := Lib.hid (L2.out.next hb2)
  clear hb2 L2
  clear q0 q1 q2 q3 q4 q5 ql
  go_wp2
  go_ret
  exact ⟨rfl, L3.out.bel⟩
set_option maxHeartbeats 1000000 in
theorem walk_whole (hf : fewL s U n = true) (hab : ¬ a = b) (hwh : ∀ W, Lx w W A n U F [(w.heap.size, s, d)] → Calls Tryd.prog 9 #[(.agg #[.slice s.w.a s.w.n s.w.c, .slice s.p.a s.p.n s.p.c, .slice (s.u 0).a (s.u 0).n (s.u 0).c, .slice (s.u 1).a (s.u 1).n (s.u 1).c, .slice (s.u 2).a (s.u 2).n (s.u 2).c, .slice s.c.a s.c.n s.c.c]), .slice A n c] W fun e w' => e = .returned (.bool false) ∧ Below W.heap.size W w') (hn : n ≤ 9223372036854775807) (hz : Cl.Sz w) (hp : Hp w w.heap.size s d) (hl : Ls.LRow w w.heap.size A n U F) : Calls Tryd.prog 5 #[(.agg #[.slice s.w.a s.w.n s.w.c, .slice s.p.a s.p.n s.p.c, .slice (s.u 0).a (s.u 0).n (s.u 0).c, .slice (s.u 1).a (s.u 1).n (s.u 1).c, .slice (s.u 2).a (s.u 2).n (s.u 2).c, .slice s.c.a s.c.n s.c.c]), .slice A n c, .int .i64 a, .int .i64 b] w fun e w' => e = .returned (.bool true) ∧ Below w.heap.size w w' := by
  have HZ := Lib.hid hz
  have hz0 := hz.pos
  have HP := Lib.hid hp
  have HL := Lib.hid hl
  have HF := Lib.hid hf
  have d1 : (a == b) = false := by simp [hab]
  have HWH := Lib.hid hwh
  clear hz hp hl hf hwh hab
  go_enter Tryd.func5, Tryd.ntmps5
  go_wp2_with fail
  obtain ⟨W1, hW1⟩ : ∃ W1, W1 = w.alloc (.cells #[.slice s.w.a s.w.n s.w.c, .slice s.p.a s.p.n s.p.c, .slice (s.u 0).a (s.u 0).n (s.u 0).c, .slice (s.u 1).a (s.u 1).n (s.u 1).c, .slice (s.u 2).a (s.u 2).n (s.u 2).c, .slice s.c.a s.c.n s.c.c] 28) := ⟨_, rfl⟩
  have L1 := Lib.hid (lx_start HP.out HL.out hW1)
  rw [← hW1]
  clear hW1
  refine (Rp.awake_any W1 (HZ.out.over L1.out.bel hz0)).mono ?_
  rintro e9 w1 ⟨rfl, hb1⟩
  have L2 := Lib.hid (L1.out.next hb1)
  clear hb1 L1
  have q0 := (L2.out.at (w.heap.size) (s) (d) (by simp)).c0
  have q1 := (L2.out.at (w.heap.size) (s) (d) (by simp)).c1
  have q2 := (L2.out.at (w.heap.size) (s) (d) (by simp)).c2
  have q3 := (L2.out.at (w.heap.size) (s) (d) (by simp)).c3
  have q4 := (L2.out.at (w.heap.size) (s) (d) (by simp)).c4
  have q5 := (L2.out.at (w.heap.size) (s) (d) (by simp)).c5
  have ql := (L2.out.at (w.heap.size) (s) (d) (by simp)).lt
  go_wp2_with fail
  refine (few9_any s A _ c U F w1 hn L2.out.lr).mono ?_
  rw [HF.out]
  rintro e9 w2 ⟨rfl, hb2⟩
  have L3 := Lib.hid (L2.out.next hb2)
  clear hb2 L2
  clear q0 q1 q2 q3 q4 q5 ql
  have q0 := (L3.out.at (w.heap.size) (s) (d) (by simp)).c0
  have q1 := (L3.out.at (w.heap.size) (s) (d) (by simp)).c1
  have q2 := (L3.out.at (w.heap.size) (s) (d) (by simp)).c2
  have q3 := (L3.out.at (w.heap.size) (s) (d) (by simp)).c3
  have q4 := (L3.out.at (w.heap.size) (s) (d) (by simp)).c4
  have q5 := (L3.out.at (w.heap.size) (s) (d) (by simp)).c5
  have ql := (L3.out.at (w.heap.size) (s) (d) (by simp)).lt
  go_wp2_with fail
  refine (HWH.out w2 L3.out).mono ?_
  rintro e9 w3 ⟨rfl, hb9⟩
  have L4 := Lib.hid (L3.out.next hb9)
  clear hb9 L3
  go_wp2
  go_ret
  exact ⟨rfl, L4.out.bel⟩
set_option maxHeartbeats 4000000 in
theorem core_no (e1 e2 : Int) (d1 d2 : Hd_) (he : ¬ e1 = 0 ∨ (e1 = 0 ∧ ¬ e2 = 0)) (hf : fewL s U n = true) (hab : ¬ a = b) (hwh : ∀ W, Lx w W A n U F [(w.heap.size, s, d)] → Calls Tryd.prog 9 #[(.agg #[.slice s.w.a s.w.n s.w.c, .slice s.p.a s.p.n s.p.c, .slice (s.u 0).a (s.u 0).n (s.u 0).c, .slice (s.u 1).a (s.u 1).n (s.u 1).c, .slice (s.u 2).a (s.u 2).n (s.u 2).c, .slice s.c.a s.c.n s.c.c]), .slice A n c] W fun e w' => e = .returned (.bool true) ∧ Below W.heap.size W w') (hF1 : ∀ W, Lx w W A n U F [(w.heap.size, s, d)] → Calls Tryd.prog 10 #[(.agg #[.slice s.w.a s.w.n s.w.c, .slice s.p.a s.p.n s.p.c, .slice (s.u 0).a (s.u 0).n (s.u 0).c, .slice (s.u 1).a (s.u 1).n (s.u 1).c, .slice (s.u 2).a (s.u 2).n (s.u 2).c, .slice s.c.a s.c.n s.c.c]), .int .i64 a] W fun e w' => ∃ t : Hs, e = .returned (.tuple #[(.agg #[.slice t.w.a t.w.n t.w.c, .slice t.p.a t.p.n t.p.c, .slice (t.u 0).a (t.u 0).n (t.u 0).c, .slice (t.u 1).a (t.u 1).n (t.u 1).c, .slice (t.u 2).a (t.u 2).n (t.u 2).c, .slice t.c.a t.c.n t.c.c]), .int .i64 e1]) ∧ Hp w' w'.heap.size t d1 ∧ True ∧ Below W.heap.size W w') (hF2 : ∀ W b1 t1, Lx w W A n U F [(b1, t1, d1), (w.heap.size, s, d)] → Calls Tryd.prog 10 #[(.agg #[.slice s.w.a s.w.n s.w.c, .slice s.p.a s.p.n s.p.c, .slice (s.u 0).a (s.u 0).n (s.u 0).c, .slice (s.u 1).a (s.u 1).n (s.u 1).c, .slice (s.u 2).a (s.u 2).n (s.u 2).c, .slice s.c.a s.c.n s.c.c]), .int .i64 b] W fun e w' => ∃ t : Hs, e = .returned (.tuple #[(.agg #[.slice t.w.a t.w.n t.w.c, .slice t.p.a t.p.n t.p.c, .slice (t.u 0).a (t.u 0).n (t.u 0).c, .slice (t.u 1).a (t.u 1).n (t.u 1).c, .slice (t.u 2).a (t.u 2).n (t.u 2).c, .slice t.c.a t.c.n t.c.c]), .int .i64 e2]) ∧ Hp w' w'.heap.size t d2 ∧ True ∧ Below W.heap.size W w') (hn : n ≤ 9223372036854775807) (hz : Cl.Sz w) (hp : Hp w w.heap.size s d) (hl : Ls.LRow w w.heap.size A n U F) : Calls Tryd.prog 5 #[(.agg #[.slice s.w.a s.w.n s.w.c, .slice s.p.a s.p.n s.p.c, .slice (s.u 0).a (s.u 0).n (s.u 0).c, .slice (s.u 1).a (s.u 1).n (s.u 1).c, .slice (s.u 2).a (s.u 2).n (s.u 2).c, .slice s.c.a s.c.n s.c.c]), .slice A n c, .int .i64 a, .int .i64 b] w fun e w' => e = .returned (.bool true) ∧ Below w.heap.size w w' := by
  have HZ := Lib.hid hz
  have hz0 := hz.pos
  have HP := Lib.hid hp
  have HL := Lib.hid hl
  have HF := Lib.hid hf
  have dab : (a == b) = false := by simp [hab]
  have HWH := Lib.hid hwh
  have F1 := Lib.hid hF1
  have F2 := Lib.hid hF2
  clear hz hp hl hf hwh hab hF1 hF2
  go_enter Tryd.func5, Tryd.ntmps5
  go_wp2_with fail
  obtain ⟨W1, hW1⟩ : ∃ W1, W1 = w.alloc (.cells #[.slice s.w.a s.w.n s.w.c, .slice s.p.a s.p.n s.p.c, .slice (s.u 0).a (s.u 0).n (s.u 0).c, .slice (s.u 1).a (s.u 1).n (s.u 1).c, .slice (s.u 2).a (s.u 2).n (s.u 2).c, .slice s.c.a s.c.n s.c.c] 28) := ⟨_, rfl⟩
  have L1 := Lib.hid (lx_start HP.out HL.out hW1)
  rw [← hW1]
  clear hW1
  refine (Rp.awake_any W1 (HZ.out.over L1.out.bel hz0)).mono ?_
  rintro e9 w1 ⟨rfl, hb1⟩
  have L2 := Lib.hid (L1.out.next hb1)
  clear hb1 L1
  have q0 := (L2.out.at (w.heap.size) (s) (d) (by simp)).c0
  have q1 := (L2.out.at (w.heap.size) (s) (d) (by simp)).c1
  have q2 := (L2.out.at (w.heap.size) (s) (d) (by simp)).c2
  have q3 := (L2.out.at (w.heap.size) (s) (d) (by simp)).c3
  have q4 := (L2.out.at (w.heap.size) (s) (d) (by simp)).c4
  have q5 := (L2.out.at (w.heap.size) (s) (d) (by simp)).c5
  have ql := (L2.out.at (w.heap.size) (s) (d) (by simp)).lt
  go_wp2_with fail
  refine (few9_any s A _ c U F w1 hn L2.out.lr).mono ?_
  rw [HF.out]
  rintro e9 w2 ⟨rfl, hb2⟩
  have L3 := Lib.hid (L2.out.next hb2)
  clear hb2 L2
  clear q0 q1 q2 q3 q4 q5 ql
  have q0 := (L3.out.at (w.heap.size) (s) (d) (by simp)).c0
  have q1 := (L3.out.at (w.heap.size) (s) (d) (by simp)).c1
  have q2 := (L3.out.at (w.heap.size) (s) (d) (by simp)).c2
  have q3 := (L3.out.at (w.heap.size) (s) (d) (by simp)).c3
  have q4 := (L3.out.at (w.heap.size) (s) (d) (by simp)).c4
  have q5 := (L3.out.at (w.heap.size) (s) (d) (by simp)).c5
  have ql := (L3.out.at (w.heap.size) (s) (d) (by simp)).lt
  go_wp2_with fail
  refine (HWH.out w2 L3.out).mono ?_
  rintro e9 w3 ⟨rfl, hb9⟩
  have L4 := Lib.hid (L3.out.next hb9)
  clear hb9 L3
  clear q0 q1 q2 q3 q4 q5 ql
  have q0 := (L4.out.at (w.heap.size) (s) (d) (by simp)).c0
  have q1 := (L4.out.at (w.heap.size) (s) (d) (by simp)).c1
  have q2 := (L4.out.at (w.heap.size) (s) (d) (by simp)).c2
  have q3 := (L4.out.at (w.heap.size) (s) (d) (by simp)).c3
  have q4 := (L4.out.at (w.heap.size) (s) (d) (by simp)).c4
  have q5 := (L4.out.at (w.heap.size) (s) (d) (by simp)).c5
  have ql := (L4.out.at (w.heap.size) (s) (d) (by simp)).lt
  go_wp2_with fail
  refine (F1.out w3 L4.out).mono ?_
  rintro e9 w9 ⟨t1, rfl, hp9, hl9, hb9⟩
  have L5 := Lib.hid (L4.out.add (nw_new (ty := 28) hb9 hp9))
  have N1 := Lib.hid hl9
  clear hp9 hb9 hl9 L4
  clear q0 q1 q2 q3 q4 q5 ql
  go_upto_region 6 with fail
  obtain ⟨v1, h0⟩ : ∃ W, W = w9.alloc (.cells #[.slice t1.w.a t1.w.n t1.w.c, .slice t1.p.a t1.p.n t1.p.c, .slice (t1.u 0).a (t1.u 0).n (t1.u 0).c, .slice (t1.u 1).a (t1.u 1).n (t1.u 1).c, .slice (t1.u 2).a (t1.u 2).n (t1.u 2).c, .slice t1.c.a t1.c.n t1.c.c] 28) := ⟨_, rfl⟩
  obtain ⟨b1, h1⟩ : ∃ b, b = w9.heap.size := ⟨_, rfl⟩
  rw [← h0, ← h1] at L5 ⊢
  clear h0 h1
  have q0 := (L5.out.at (w.heap.size) (s) (d) (by simp)).c0
  have q1 := (L5.out.at (w.heap.size) (s) (d) (by simp)).c1
  have q2 := (L5.out.at (w.heap.size) (s) (d) (by simp)).c2
  have q3 := (L5.out.at (w.heap.size) (s) (d) (by simp)).c3
  have q4 := (L5.out.at (w.heap.size) (s) (d) (by simp)).c4
  have q5 := (L5.out.at (w.heap.size) (s) (d) (by simp)).c5
  have ql := (L5.out.at (w.heap.size) (s) (d) (by simp)).lt
  go_wp2_with fail
  refine (F2.out v1 b1 t1 L5.out).mono ?_
  rintro e9 w9 ⟨t2, rfl, hp9, hl9, hb9⟩
  have L6 := Lib.hid (L5.out.add (nw_new (ty := 28) hb9 hp9))
  have N2 := Lib.hid hl9
  clear hp9 hb9 hl9 L5
  clear q0 q1 q2 q3 q4 q5 ql
  go_upto_region 7 with fail
  obtain ⟨v2, h0⟩ : ∃ W, W = w9.alloc (.cells #[.slice t2.w.a t2.w.n t2.w.c, .slice t2.p.a t2.p.n t2.p.c, .slice (t2.u 0).a (t2.u 0).n (t2.u 0).c, .slice (t2.u 1).a (t2.u 1).n (t2.u 1).c, .slice (t2.u 2).a (t2.u 2).n (t2.u 2).c, .slice t2.c.a t2.c.n t2.c.c] 28) := ⟨_, rfl⟩
  obtain ⟨b2, h1⟩ : ∃ b, b = w9.heap.size := ⟨_, rfl⟩
  rw [← h0, ← h1] at L6 ⊢
  clear h0 h1
  rcases he with he | ⟨rfl, he⟩
  · have d1' : (e1 != 0) = true := by simp [he]
    clear he
    go_wp2
    go_ret
    exact ⟨rfl, L6.out.bel⟩
  · have d2' : (e2 != 0) = true := by simp [he]
    clear he
    go_wp2
    go_ret
    exact ⟨rfl, L6.out.bel⟩
set_option maxHeartbeats 8000000 in
theorem core_ok (d1 d2 d3 d4 : Hd_) (z : Int) (K : Nat) (hf : fewL s U n = true) (hab : ¬ a = b) (hwh : ∀ W, Lx w W A n U F [(w.heap.size, s, d)] → Calls Tryd.prog 9 #[(.agg #[.slice s.w.a s.w.n s.w.c, .slice s.p.a s.p.n s.p.c, .slice (s.u 0).a (s.u 0).n (s.u 0).c, .slice (s.u 1).a (s.u 1).n (s.u 1).c, .slice (s.u 2).a (s.u 2).n (s.u 2).c, .slice s.c.a s.c.n s.c.c]), .slice A n c] W fun e w' => e = .returned (.bool true) ∧ Below W.heap.size W w') (hF1 : ∀ W, Lx w W A n U F [(w.heap.size, s, d)] → Calls Tryd.prog 10 #[(.agg #[.slice s.w.a s.w.n s.w.c, .slice s.p.a s.p.n s.p.c, .slice (s.u 0).a (s.u 0).n (s.u 0).c, .slice (s.u 1).a (s.u 1).n (s.u 1).c, .slice (s.u 2).a (s.u 2).n (s.u 2).c, .slice s.c.a s.c.n s.c.c]), .int .i64 a] W fun e w' => ∃ t : Hs, e = .returned (.tuple #[(.agg #[.slice t.w.a t.w.n t.w.c, .slice t.p.a t.p.n t.p.c, .slice (t.u 0).a (t.u 0).n (t.u 0).c, .slice (t.u 1).a (t.u 1).n (t.u 1).c, .slice (t.u 2).a (t.u 2).n (t.u 2).c, .slice t.c.a t.c.n t.c.c]), .int .i64 0]) ∧ Hp w' w'.heap.size t d1 ∧ (t.w.n = s.w.n ∧ t.p.n = s.p.n ∧ t.c.n = s.c.n) ∧ Below W.heap.size W w') (hF2 : ∀ W b1 t1, Lx w W A n U F [(b1, t1, d1), (w.heap.size, s, d)] → Calls Tryd.prog 10 #[(.agg #[.slice s.w.a s.w.n s.w.c, .slice s.p.a s.p.n s.p.c, .slice (s.u 0).a (s.u 0).n (s.u 0).c, .slice (s.u 1).a (s.u 1).n (s.u 1).c, .slice (s.u 2).a (s.u 2).n (s.u 2).c, .slice s.c.a s.c.n s.c.c]), .int .i64 b] W fun e w' => ∃ t : Hs, e = .returned (.tuple #[(.agg #[.slice t.w.a t.w.n t.w.c, .slice t.p.a t.p.n t.p.c, .slice (t.u 0).a (t.u 0).n (t.u 0).c, .slice (t.u 1).a (t.u 1).n (t.u 1).c, .slice (t.u 2).a (t.u 2).n (t.u 2).c, .slice t.c.a t.c.n t.c.c]), .int .i64 0]) ∧ Hp w' w'.heap.size t d2 ∧ (t.w.n = s.w.n ∧ t.p.n = s.p.n ∧ t.c.n = s.c.n) ∧ Below W.heap.size W w') (hF3 : ∀ W b1 t1 b2 t2, (t1.w.n = s.w.n ∧ t1.p.n = s.p.n ∧ t1.c.n = s.c.n) → Lx w W A n U F [(b2, t2, d2), (b1, t1, d1), (w.heap.size, s, d)] → Calls Tryd.prog 10 #[(.agg #[.slice t1.w.a t1.w.n t1.w.c, .slice t1.p.a t1.p.n t1.p.c, .slice (t1.u 0).a (t1.u 0).n (t1.u 0).c, .slice (t1.u 1).a (t1.u 1).n (t1.u 1).c, .slice (t1.u 2).a (t1.u 2).n (t1.u 2).c, .slice t1.c.a t1.c.n t1.c.c]), .int .i64 b] W fun e w' => ∃ t : Hs, e = .returned (.tuple #[(.agg #[.slice t.w.a t.w.n t.w.c, .slice t.p.a t.p.n t.p.c, .slice (t.u 0).a (t.u 0).n (t.u 0).c, .slice (t.u 1).a (t.u 1).n (t.u 1).c, .slice (t.u 2).a (t.u 2).n (t.u 2).c, .slice t.c.a t.c.n t.c.c]), .int .i64 0]) ∧ Hp w' w'.heap.size t d3 ∧ (t.w.n = s.w.n ∧ t.p.n = s.p.n ∧ t.c.n = s.c.n) ∧ Below W.heap.size W w') (hF4 : ∀ W b1 t1 b2 t2 b3 t3, (t2.w.n = s.w.n ∧ t2.p.n = s.p.n ∧ t2.c.n = s.c.n) → Lx w W A n U F [(b3, t3, d3), (b2, t2, d2), (b1, t1, d1), (w.heap.size, s, d)] → Calls Tryd.prog 10 #[(.agg #[.slice t2.w.a t2.w.n t2.w.c, .slice t2.p.a t2.p.n t2.p.c, .slice (t2.u 0).a (t2.u 0).n (t2.u 0).c, .slice (t2.u 1).a (t2.u 1).n (t2.u 1).c, .slice (t2.u 2).a (t2.u 2).n (t2.u 2).c, .slice t2.c.a t2.c.n t2.c.c]), .int .i64 a] W fun e w' => ∃ t : Hs, e = .returned (.tuple #[(.agg #[.slice t.w.a t.w.n t.w.c, .slice t.p.a t.p.n t.p.c, .slice (t.u 0).a (t.u 0).n (t.u 0).c, .slice (t.u 1).a (t.u 1).n (t.u 1).c, .slice (t.u 2).a (t.u 2).n (t.u 2).c, .slice t.c.a t.c.n t.c.c]), .int .i64 0]) ∧ Hp w' w'.heap.size t d4 ∧ (t.w.n = s.w.n ∧ t.p.n = s.p.n ∧ t.c.n = s.c.n) ∧ Below W.heap.size W w') (hH1 : ∀ W b1 t1 b2 t2 b3 t3 b4 t4, (t3.w.n = s.w.n ∧ t3.p.n = s.p.n ∧ t3.c.n = s.c.n) → (t4.w.n = s.w.n ∧ t4.p.n = s.p.n ∧ t4.c.n = s.c.n) → Lx w W A n U F [(b4, t4, d4), (b3, t3, d3), (b2, t2, d2), (b1, t1, d1), (w.heap.size, s, d)] → Calls Tryd.prog 18 #[(.agg #[.slice t3.w.a t3.w.n t3.w.c, .slice t3.p.a t3.p.n t3.p.c, .slice (t3.u 0).a (t3.u 0).n (t3.u 0).c, .slice (t3.u 1).a (t3.u 1).n (t3.u 1).c, .slice (t3.u 2).a (t3.u 2).n (t3.u 2).c, .slice t3.c.a t3.c.n t3.c.c]), .int .i64 a] W (HeadOut W (.agg #[.bool false, .bool false, .bool false, .int .i64 0, .int .i64 0, .int .i64 0]) 3)) (hH2 : ∀ W b1 t1 b2 t2 b3 t3 b4 t4, (t3.w.n = s.w.n ∧ t3.p.n = s.p.n ∧ t3.c.n = s.c.n) → (t4.w.n = s.w.n ∧ t4.p.n = s.p.n ∧ t4.c.n = s.c.n) → Lx w W A n U F [(b4, t4, d4), (b3, t3, d3), (b2, t2, d2), (b1, t1, d1), (w.heap.size, s, d)] → Calls Tryd.prog 18 #[(.agg #[.slice t3.w.a t3.w.n t3.w.c, .slice t3.p.a t3.p.n t3.p.c, .slice (t3.u 0).a (t3.u 0).n (t3.u 0).c, .slice (t3.u 1).a (t3.u 1).n (t3.u 1).c, .slice (t3.u 2).a (t3.u 2).n (t3.u 2).c, .slice t3.c.a t3.c.n t3.c.c]), .int .i64 b] W (HeadOut W (.agg #[.bool false, .bool false, .bool false, .int .i64 0, .int .i64 0, .int .i64 0]) 3)) (hC : ∀ W b1 t1 b2 t2 b3 t3 b4 t4, (t3.w.n = s.w.n ∧ t3.p.n = s.p.n ∧ t3.c.n = s.c.n) → (t4.w.n = s.w.n ∧ t4.p.n = s.p.n ∧ t4.c.n = s.c.n) → Lx w W A n U F [(b4, t4, d4), (b3, t3, d3), (b2, t2, d2), (b1, t1, d1), (w.heap.size, s, d)] → ∀ t, t = t3 ∨ t = t4 → Calls Tryd.prog 17 #[.slice t.p.a t.p.n t.p.c, .int .i64 0] W fun e w' => e = .returned (.int .i64 z) ∧ Below W.heap.size W w') (hU : ∀ W b1 t1 b2 t2 b3 t3 b4 t4, (t3.w.n = s.w.n ∧ t3.p.n = s.p.n ∧ t3.c.n = s.c.n) → (t4.w.n = s.w.n ∧ t4.p.n = s.p.n ∧ t4.c.n = s.c.n) → Lx w W A n U F [(b4, t4, d4), (b3, t3, d3), (b2, t2, d2), (b1, t1, d1), (w.heap.size, s, d)] → ∀ t, t = t3 ∨ t = t4 → Calls Tryd.prog 12 #[(.agg #[.slice t.w.a t.w.n t.w.c, .slice t.p.a t.p.n t.p.c, .slice (t.u 0).a (t.u 0).n (t.u 0).c, .slice (t.u 1).a (t.u 1).n (t.u 1).c, .slice (t.u 2).a (t.u 2).n (t.u 2).c, .slice t.c.a t.c.n t.c.c])] W fun e w' => ∃ A' C', e = .returned (.slice A' K C') ∧ Below W.heap.size W w') (hK : ∀ W b1 t1 b2 t2 b3 t3 b4 t4, (t3.w.n = s.w.n ∧ t3.p.n = s.p.n ∧ t3.c.n = s.c.n) → (t4.w.n = s.w.n ∧ t4.p.n = s.p.n ∧ t4.c.n = s.c.n) → Lx w W A n U F [(b4, t4, d4), (b3, t3, d3), (b2, t2, d2), (b1, t1, d1), (w.heap.size, s, d)] → Calls Tryd.prog 11 #[(.agg #[.slice t3.w.a t3.w.n t3.w.c, .slice t3.p.a t3.p.n t3.p.c, .slice (t3.u 0).a (t3.u 0).n (t3.u 0).c, .slice (t3.u 1).a (t3.u 1).n (t3.u 1).c, .slice (t3.u 2).a (t3.u 2).n (t3.u 2).c, .slice t3.c.a t3.c.n t3.c.c]), (.agg #[.slice t4.w.a t4.w.n t4.w.c, .slice t4.p.a t4.p.n t4.p.c, .slice (t4.u 0).a (t4.u 0).n (t4.u 0).c, .slice (t4.u 1).a (t4.u 1).n (t4.u 1).c, .slice (t4.u 2).a (t4.u 2).n (t4.u 2).c, .slice t4.c.a t4.c.n t4.c.c]), .int .i64 0] W fun e w' => e = .returned (.bool true) ∧ Below W.heap.size W w') (hn : n ≤ 9223372036854775807) (hz : Cl.Sz w) (hp : Hp w w.heap.size s d) (hl : Ls.LRow w w.heap.size A n U F) : Calls Tryd.prog 5 #[(.agg #[.slice s.w.a s.w.n s.w.c, .slice s.p.a s.p.n s.p.c, .slice (s.u 0).a (s.u 0).n (s.u 0).c, .slice (s.u 1).a (s.u 1).n (s.u 1).c, .slice (s.u 2).a (s.u 2).n (s.u 2).c, .slice s.c.a s.c.n s.c.c]), .slice A n c, .int .i64 a, .int .i64 b] w fun e w' => e = .returned (.bool true) ∧ Below w.heap.size w w' := by
  have HZ := Lib.hid hz
  have hz0 := hz.pos
  have HP := Lib.hid hp
  have HL := Lib.hid hl
  have HF := Lib.hid hf
  have dab : (a == b) = false := by simp [hab]
  have HWH := Lib.hid hwh
  have F1 := Lib.hid hF1
  have F2 := Lib.hid hF2
  have F3 := Lib.hid hF3
  have F4 := Lib.hid hF4
  have H1 := Lib.hid hH1
  have H2 := Lib.hid hH2
  have CC := Lib.hid hC
  have UU := Lib.hid hU
  have KK := Lib.hid hK
  clear hF3 hF4 hH1 hH2 hC hU hK
  clear hz hp hl hf hwh hab hF1 hF2
  go_enter Tryd.func5, Tryd.ntmps5
  go_wp2_with fail
  obtain ⟨W1, hW1⟩ : ∃ W1, W1 = w.alloc (.cells #[.slice s.w.a s.w.n s.w.c, .slice s.p.a s.p.n s.p.c, .slice (s.u 0).a (s.u 0).n (s.u 0).c, .slice (s.u 1).a (s.u 1).n (s.u 1).c, .slice (s.u 2).a (s.u 2).n (s.u 2).c, .slice s.c.a s.c.n s.c.c] 28) := ⟨_, rfl⟩
  have L1 := Lib.hid (lx_start HP.out HL.out hW1)
  rw [← hW1]
  clear hW1
  refine (Rp.awake_any W1 (HZ.out.over L1.out.bel hz0)).mono ?_
  rintro e9 w1 ⟨rfl, hb1⟩
  have L2 := Lib.hid (L1.out.next hb1)
  clear hb1 L1
  have q0 := (L2.out.at (w.heap.size) (s) (d) (by simp)).c0
  have q1 := (L2.out.at (w.heap.size) (s) (d) (by simp)).c1
  have q2 := (L2.out.at (w.heap.size) (s) (d) (by simp)).c2
  have q3 := (L2.out.at (w.heap.size) (s) (d) (by simp)).c3
  have q4 := (L2.out.at (w.heap.size) (s) (d) (by simp)).c4
  have q5 := (L2.out.at (w.heap.size) (s) (d) (by simp)).c5
  have ql := (L2.out.at (w.heap.size) (s) (d) (by simp)).lt
  go_wp2_with fail
  refine (few9_any s A _ c U F w1 hn L2.out.lr).mono ?_
  rw [HF.out]
  rintro e9 w2 ⟨rfl, hb2⟩
  have L3 := Lib.hid (L2.out.next hb2)
  clear hb2 L2
  clear q0 q1 q2 q3 q4 q5 ql
  have q0 := (L3.out.at (w.heap.size) (s) (d) (by simp)).c0
  have q1 := (L3.out.at (w.heap.size) (s) (d) (by simp)).c1
  have q2 := (L3.out.at (w.heap.size) (s) (d) (by simp)).c2
  have q3 := (L3.out.at (w.heap.size) (s) (d) (by simp)).c3
  have q4 := (L3.out.at (w.heap.size) (s) (d) (by simp)).c4
  have q5 := (L3.out.at (w.heap.size) (s) (d) (by simp)).c5
  have ql := (L3.out.at (w.heap.size) (s) (d) (by simp)).lt
  go_wp2_with fail
  refine (HWH.out w2 L3.out).mono ?_
  rintro e9 w3 ⟨rfl, hb9⟩
  have L4 := Lib.hid (L3.out.next hb9)
  clear hb9 L3
  clear q0 q1 q2 q3 q4 q5 ql
  have q0 := (L4.out.at (w.heap.size) (s) (d) (by simp)).c0
  have q1 := (L4.out.at (w.heap.size) (s) (d) (by simp)).c1
  have q2 := (L4.out.at (w.heap.size) (s) (d) (by simp)).c2
  have q3 := (L4.out.at (w.heap.size) (s) (d) (by simp)).c3
  have q4 := (L4.out.at (w.heap.size) (s) (d) (by simp)).c4
  have q5 := (L4.out.at (w.heap.size) (s) (d) (by simp)).c5
  have ql := (L4.out.at (w.heap.size) (s) (d) (by simp)).lt
  go_wp2_with fail
  refine (F1.out w3 L4.out).mono ?_
  rintro e9 w9 ⟨t1, rfl, hp9, hl9, hb9⟩
  have L5 := Lib.hid (L4.out.add (nw_new (ty := 28) hb9 hp9))
  have N1 := Lib.hid hl9
  clear hp9 hb9 hl9 L4
  clear q0 q1 q2 q3 q4 q5 ql
  go_upto_region 6 with fail
  obtain ⟨v1, h0⟩ : ∃ W, W = w9.alloc (.cells #[.slice t1.w.a t1.w.n t1.w.c, .slice t1.p.a t1.p.n t1.p.c, .slice (t1.u 0).a (t1.u 0).n (t1.u 0).c, .slice (t1.u 1).a (t1.u 1).n (t1.u 1).c, .slice (t1.u 2).a (t1.u 2).n (t1.u 2).c, .slice t1.c.a t1.c.n t1.c.c] 28) := ⟨_, rfl⟩
  obtain ⟨b1, h1⟩ : ∃ b, b = w9.heap.size := ⟨_, rfl⟩
  rw [← h0, ← h1] at L5 ⊢
  clear h0 h1
  have q0 := (L5.out.at (w.heap.size) (s) (d) (by simp)).c0
  have q1 := (L5.out.at (w.heap.size) (s) (d) (by simp)).c1
  have q2 := (L5.out.at (w.heap.size) (s) (d) (by simp)).c2
  have q3 := (L5.out.at (w.heap.size) (s) (d) (by simp)).c3
  have q4 := (L5.out.at (w.heap.size) (s) (d) (by simp)).c4
  have q5 := (L5.out.at (w.heap.size) (s) (d) (by simp)).c5
  have ql := (L5.out.at (w.heap.size) (s) (d) (by simp)).lt
  go_wp2_with fail
  refine (F2.out v1 b1 t1 L5.out).mono ?_
  rintro e9 w9 ⟨t2, rfl, hp9, hl9, hb9⟩
  have L6 := Lib.hid (L5.out.add (nw_new (ty := 28) hb9 hp9))
  have N2 := Lib.hid hl9
  clear hp9 hb9 hl9 L5
  clear q0 q1 q2 q3 q4 q5 ql
  go_upto_region 7 with fail
  obtain ⟨v2, h0⟩ : ∃ W, W = w9.alloc (.cells #[.slice t2.w.a t2.w.n t2.w.c, .slice t2.p.a t2.p.n t2.p.c, .slice (t2.u 0).a (t2.u 0).n (t2.u 0).c, .slice (t2.u 1).a (t2.u 1).n (t2.u 1).c, .slice (t2.u 2).a (t2.u 2).n (t2.u 2).c, .slice t2.c.a t2.c.n t2.c.c] 28) := ⟨_, rfl⟩
  obtain ⟨b2, h1⟩ : ∃ b, b = w9.heap.size := ⟨_, rfl⟩
  rw [← h0, ← h1] at L6 ⊢
  clear h0 h1
  go_upto_region 9 with fail
  have q0 := (L6.out.at (b1) (t1) (d1) (by simp)).c0
  have q1 := (L6.out.at (b1) (t1) (d1) (by simp)).c1
  have q2 := (L6.out.at (b1) (t1) (d1) (by simp)).c2
  have q3 := (L6.out.at (b1) (t1) (d1) (by simp)).c3
  have q4 := (L6.out.at (b1) (t1) (d1) (by simp)).c4
  have q5 := (L6.out.at (b1) (t1) (d1) (by simp)).c5
  have ql := (L6.out.at (b1) (t1) (d1) (by simp)).lt
  go_wp2_with fail
  refine (F3.out v2 b1 t1 b2 t2 N1.out L6.out).mono ?_
  rintro e9 w9 ⟨t3, rfl, hp9, hl9, hb9⟩
  have L7 := Lib.hid (L6.out.add (nw_new (ty := 28) hb9 hp9))
  have N3 := Lib.hid hl9
  clear hp9 hb9 hl9 L6
  clear q0 q1 q2 q3 q4 q5 ql
  go_upto_region 10 with fail
  obtain ⟨v3, h0⟩ : ∃ W, W = w9.alloc (.cells #[.slice t3.w.a t3.w.n t3.w.c, .slice t3.p.a t3.p.n t3.p.c, .slice (t3.u 0).a (t3.u 0).n (t3.u 0).c, .slice (t3.u 1).a (t3.u 1).n (t3.u 1).c, .slice (t3.u 2).a (t3.u 2).n (t3.u 2).c, .slice t3.c.a t3.c.n t3.c.c] 28) := ⟨_, rfl⟩
  obtain ⟨b3, h1⟩ : ∃ b, b = w9.heap.size := ⟨_, rfl⟩
  rw [← h0, ← h1] at L7 ⊢
  clear h0 h1
  have q0 := (L7.out.at (b2) (t2) (d2) (by simp)).c0
  have q1 := (L7.out.at (b2) (t2) (d2) (by simp)).c1
  have q2 := (L7.out.at (b2) (t2) (d2) (by simp)).c2
  have q3 := (L7.out.at (b2) (t2) (d2) (by simp)).c3
  have q4 := (L7.out.at (b2) (t2) (d2) (by simp)).c4
  have q5 := (L7.out.at (b2) (t2) (d2) (by simp)).c5
  have ql := (L7.out.at (b2) (t2) (d2) (by simp)).lt
  go_wp2_with fail
  refine (F4.out v3 b1 t1 b2 t2 b3 t3 N2.out L7.out).mono ?_
  rintro e9 w9 ⟨t4, rfl, hp9, hl9, hb9⟩
  have L8 := Lib.hid (L7.out.add (nw_new (ty := 28) hb9 hp9))
  have N4 := Lib.hid hl9
  clear hp9 hb9 hl9 L7
  clear q0 q1 q2 q3 q4 q5 ql
  go_upto_region 11 with fail
  obtain ⟨v4, h0⟩ : ∃ W, W = w9.alloc (.cells #[.slice t4.w.a t4.w.n t4.w.c, .slice t4.p.a t4.p.n t4.p.c, .slice (t4.u 0).a (t4.u 0).n (t4.u 0).c, .slice (t4.u 1).a (t4.u 1).n (t4.u 1).c, .slice (t4.u 2).a (t4.u 2).n (t4.u 2).c, .slice t4.c.a t4.c.n t4.c.c] 28) := ⟨_, rfl⟩
  obtain ⟨b4, h1⟩ : ∃ b, b = w9.heap.size := ⟨_, rfl⟩
  rw [← h0, ← h1] at L8 ⊢
  clear h0 h1
  go_upto_region 13 with fail
  have q0 := (L8.out.at (b3) (t3) (d3) (by simp)).c0
  have q1 := (L8.out.at (b3) (t3) (d3) (by simp)).c1
  have q2 := (L8.out.at (b3) (t3) (d3) (by simp)).c2
  have q3 := (L8.out.at (b3) (t3) (d3) (by simp)).c3
  have q4 := (L8.out.at (b3) (t3) (d3) (by simp)).c4
  have q5 := (L8.out.at (b3) (t3) (d3) (by simp)).c5
  have ql := (L8.out.at (b3) (t3) (d3) (by simp)).lt
  go_wp2_with fail
  refine (H1.out _ b1 t1 b2 t2 b3 t3 b4 t4 N3.out N4.out L8.out).mono ?_
  rintro e9 w9 ⟨rfl, hb9⟩
  have LX := L8.out.next hb9
  clear hb9 L8
  clear q0 q1 q2 q3 q4 q5 ql
  go_upto_region 14 with fail
  obtain ⟨v5, h0⟩ : ∃ W, W = w9.alloc (.cells #[.bool false, .bool false, .bool false, .int .i64 0, .int .i64 0, .int .i64 0] 48) := ⟨_, rfl⟩
  have L9 := Lib.hid (LX.next (show Below w9.heap.size w9 v5 by rw [h0]; exact (Below.refl _ _).alloc (Nat.le_refl _) _))
  rw [← h0]
  clear h0 LX
  have q0 := (L9.out.at (b3) (t3) (d3) (by simp)).c0
  have q1 := (L9.out.at (b3) (t3) (d3) (by simp)).c1
  have q2 := (L9.out.at (b3) (t3) (d3) (by simp)).c2
  have q3 := (L9.out.at (b3) (t3) (d3) (by simp)).c3
  have q4 := (L9.out.at (b3) (t3) (d3) (by simp)).c4
  have q5 := (L9.out.at (b3) (t3) (d3) (by simp)).c5
  have ql := (L9.out.at (b3) (t3) (d3) (by simp)).lt
  go_wp2_with fail
  refine (H2.out _ b1 t1 b2 t2 b3 t3 b4 t4 N3.out N4.out L9.out).mono ?_
  rintro e9 w9 ⟨rfl, hb9⟩
  have LX := L9.out.next hb9
  clear hb9 L9
  clear q0 q1 q2 q3 q4 q5 ql
  go_upto_region 15 with fail
  obtain ⟨v6, h0⟩ : ∃ W, W = w9.alloc (.cells #[.bool false, .bool false, .bool false, .int .i64 0, .int .i64 0, .int .i64 0] 48) := ⟨_, rfl⟩
  have LA := Lib.hid (LX.next (show Below w9.heap.size w9 v6 by rw [h0]; exact (Below.refl _ _).alloc (Nat.le_refl _) _))
  rw [← h0]
  clear h0 LX
  have HST : Hid (Lx w v6 A n U F [(b4, t4, d4), (b3, t3, d3), (b2, t2, d2), (b1, t1, d1), (w.heap.size, s, d)] ∧ True) := Lib.hid ⟨LA.out, trivial⟩
  have dz : (z == z) = true := by simp
  clear LA
  go_region_held3 (fun W => (Lx w W A n U F [(b4, t4, d4), (b3, t3, d3), (b2, t2, d2), (b1, t1, d1), (w.heap.size, s, d)] ∧ True) ∧ (b3 < W.heap.size ∧ W.cell? ⟨b3, 0, none⟩ = some (.slice t3.w.a t3.w.n t3.w.c) ∧ W.cell? ⟨b3, 1, none⟩ = some (.slice t3.p.a t3.p.n t3.p.c) ∧ W.cell? ⟨b3, 2, none⟩ = some (.slice (t3.u 0).a (t3.u 0).n (t3.u 0).c) ∧ W.cell? ⟨b3, 3, none⟩ = some (.slice (t3.u 1).a (t3.u 1).n (t3.u 1).c) ∧ W.cell? ⟨b3, 4, none⟩ = some (.slice (t3.u 2).a (t3.u 2).n (t3.u 2).c) ∧ W.cell? ⟨b3, 5, none⟩ = some (.slice t3.c.a t3.c.n t3.c.c)) ∧ b4 < W.heap.size ∧ W.cell? ⟨b4, 0, none⟩ = some (.slice t4.w.a t4.w.n t4.w.c) ∧ W.cell? ⟨b4, 1, none⟩ = some (.slice t4.p.a t4.p.n t4.p.c) ∧ W.cell? ⟨b4, 2, none⟩ = some (.slice (t4.u 0).a (t4.u 0).n (t4.u 0).c) ∧ W.cell? ⟨b4, 3, none⟩ = some (.slice (t4.u 1).a (t4.u 1).n (t4.u 1).c) ∧ W.cell? ⟨b4, 4, none⟩ = some (.slice (t4.u 2).a (t4.u 2).n (t4.u 2).c) ∧ W.cell? ⟨b4, 5, none⟩ = some (.slice t4.c.a t4.c.n t4.c.c)) (first
    | exact lx_keep2 (d1 := d3) (d2 := d4) (by simp) (by simp) HST.out (below_drawn' (Below.refl _ _) 1)
    | exact lx_keep2 (d1 := d3) (d2 := d4) (by simp) (by simp) (‹(Lx w _ A n U F [(b4, t4, d4), (b3, t3, d3), (b2, t2, d2), (b1, t1, d1), (w.heap.size, s, d)] ∧ True) ∧ _›).1 ‹Below _ _ _›) (first
    | ((go_at_call 17; (with_reducible refine (CC.out _ b1 t1 b2 t2 b3 t3 b4 t4 N3.out N4.out (‹(Lx w _ A n U F [(b4, t4, d4), (b3, t3, d3), (b2, t2, d2), (b1, t1, d1), (w.heap.size, s, d)] ∧ True) ∧ _›).1.1 t3 (.inl rfl)).mono ?_); rintro e9 w8 ⟨rfl, hb8⟩))
    | ((go_at_call 17; (with_reducible refine (CC.out _ b1 t1 b2 t2 b3 t3 b4 t4 N3.out N4.out (‹(Lx w _ A n U F [(b4, t4, d4), (b3, t3, d3), (b2, t2, d2), (b1, t1, d1), (w.heap.size, s, d)] ∧ True) ∧ _›).1.1 t4 (.inr rfl)).mono ?_); rintro e9 w8 ⟨rfl, hb8⟩)))
  have HST : Hid (Lx w w8 A n U F [(b4, t4, d4), (b3, t3, d3), (b2, t2, d2), (b1, t1, d1), (w.heap.size, s, d)] ∧ True) := Lib.hid (‹(Lx w _ A n U F [(b4, t4, d4), (b3, t3, d3), (b2, t2, d2), (b1, t1, d1), (w.heap.size, s, d)] ∧ True) ∧ _›).1
  go_wp2_with fail
  go_region_held3 (fun W => (Lx w W A n U F [(b4, t4, d4), (b3, t3, d3), (b2, t2, d2), (b1, t1, d1), (w.heap.size, s, d)] ∧ True) ∧ (b3 < W.heap.size ∧ W.cell? ⟨b3, 0, none⟩ = some (.slice t3.w.a t3.w.n t3.w.c) ∧ W.cell? ⟨b3, 1, none⟩ = some (.slice t3.p.a t3.p.n t3.p.c) ∧ W.cell? ⟨b3, 2, none⟩ = some (.slice (t3.u 0).a (t3.u 0).n (t3.u 0).c) ∧ W.cell? ⟨b3, 3, none⟩ = some (.slice (t3.u 1).a (t3.u 1).n (t3.u 1).c) ∧ W.cell? ⟨b3, 4, none⟩ = some (.slice (t3.u 2).a (t3.u 2).n (t3.u 2).c) ∧ W.cell? ⟨b3, 5, none⟩ = some (.slice t3.c.a t3.c.n t3.c.c)) ∧ b4 < W.heap.size ∧ W.cell? ⟨b4, 0, none⟩ = some (.slice t4.w.a t4.w.n t4.w.c) ∧ W.cell? ⟨b4, 1, none⟩ = some (.slice t4.p.a t4.p.n t4.p.c) ∧ W.cell? ⟨b4, 2, none⟩ = some (.slice (t4.u 0).a (t4.u 0).n (t4.u 0).c) ∧ W.cell? ⟨b4, 3, none⟩ = some (.slice (t4.u 1).a (t4.u 1).n (t4.u 1).c) ∧ W.cell? ⟨b4, 4, none⟩ = some (.slice (t4.u 2).a (t4.u 2).n (t4.u 2).c) ∧ W.cell? ⟨b4, 5, none⟩ = some (.slice t4.c.a t4.c.n t4.c.c)) (first
    | exact lx_keep2 (d1 := d3) (d2 := d4) (by simp) (by simp) HST.out (below_drawn' (Below.refl _ _) 1)
    | exact lx_keep2 (d1 := d3) (d2 := d4) (by simp) (by simp) (‹(Lx w _ A n U F [(b4, t4, d4), (b3, t3, d3), (b2, t2, d2), (b1, t1, d1), (w.heap.size, s, d)] ∧ True) ∧ _›).1 ‹Below _ _ _›) (first
    | ((go_at_call 12; (with_reducible refine (UU.out _ b1 t1 b2 t2 b3 t3 b4 t4 N3.out N4.out (‹(Lx w _ A n U F [(b4, t4, d4), (b3, t3, d3), (b2, t2, d2), (b1, t1, d1), (w.heap.size, s, d)] ∧ True) ∧ _›).1.1 t3 (.inl rfl)).mono ?_); rintro e9 w8 ⟨A8, C8, rfl, hb8⟩))
    | ((go_at_call 12; (with_reducible refine (UU.out _ b1 t1 b2 t2 b3 t3 b4 t4 N3.out N4.out (‹(Lx w _ A n U F [(b4, t4, d4), (b3, t3, d3), (b2, t2, d2), (b1, t1, d1), (w.heap.size, s, d)] ∧ True) ∧ _›).1.1 t4 (.inr rfl)).mono ?_); rintro e9 w8 ⟨A8, C8, rfl, hb8⟩))
    | ((go_at_call 11; (with_reducible refine (KK.out _ b1 t1 b2 t2 b3 t3 b4 t4 N3.out N4.out (‹(Lx w _ A n U F [(b4, t4, d4), (b3, t3, d3), (b2, t2, d2), (b1, t1, d1), (w.heap.size, s, d)] ∧ True) ∧ _›).1.1).mono ?_); rintro e9 w8 ⟨rfl, hb8⟩)))
  have HE := Lib.hid (‹(Lx w _ A n U F [(b4, t4, d4), (b3, t3, d3), (b2, t2, d2), (b1, t1, d1), (w.heap.size, s, d)] ∧ True) ∧ _›).1.1
  clear HST
  go_wp2
  go_ret
  exact ⟨rfl, HE.out.bel⟩
end
end Go.Proofs.YtcbnefjfoeanoaaDoor.ReapTwice
