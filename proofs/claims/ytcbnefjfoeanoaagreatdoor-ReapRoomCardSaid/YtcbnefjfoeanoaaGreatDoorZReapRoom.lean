/-
  ReapRoom: behind an object that is given back there is room for as many fields, for any thread whose cache is empty: for every heap of at most 9 pages and 130 words, and at most four caches of at most 70 cells of each class; the table of sizes is tied to the program's text by the card.
-/
import Derived.Test.YtcbnefjfoeanoaaGreatDoorHpZO
import Derived.Test.YtcbnefjfoeanoaaGreatDoorHpZS
import Derived.Test.YtcbnefjfoeanoaaGreatDoorHpZJ
namespace Go.Proofs.YtcbnefjfoeanoaaGreatDoor.ReapRoom
open Go.Proofs.YtcbnefjfoeanoaaGreatDoor Go.Proofs.YtcbnefjfoeanoaaGreatDoor.Rp
open Go.ChangeShapes Go.WideShapes Go.ChangeAt Go.RowKit
set_option maxRecDepth 100000

section
variable (s : Hs) (d : Hd_) (A : Option Addr) (n c : Nat) (U : Nat → Nat → Ls.Sl) (F : Nat → Nat → List Int) (a : Int) (w : World)
set_option maxHeartbeats 1000000 in
theorem walk_few (hf : Rp.fewL s U n = false) (hn : n ≤ 9223372036854775807) (hz : Cl.Sz w) (hp : Hp w w.heap.size s d) (hl : Ls.LRow w w.heap.size A n U F) : Calls Tryz.prog 7 #[(.agg #[.slice s.w.a s.w.n s.w.c, .slice s.p.a s.p.n s.p.c, .slice (s.u 0).a (s.u 0).n (s.u 0).c, .slice (s.u 1).a (s.u 1).n (s.u 1).c, .slice (s.u 2).a (s.u 2).n (s.u 2).c, .slice s.c.a s.c.n s.c.c]), .slice A n c, .int .i64 a] w fun e w' => e = .returned (.bool true) ∧ Below w.heap.size w w' := by
  have HZ := Lib.hid hz
  have hz0 := hz.pos
  have HP := Lib.hid hp
  have HL := Lib.hid hl
  have HF := Lib.hid hf
  clear hz hp hl hf
  go_enter Tryz.func7, Tryz.ntmps7
  go_wp2_with fail
  obtain ⟨W1, hW1⟩ : ∃ W1, W1 = w.alloc (.cells #[.slice s.w.a s.w.n s.w.c, .slice s.p.a s.p.n s.p.c, .slice (s.u 0).a (s.u 0).n (s.u 0).c, .slice (s.u 1).a (s.u 1).n (s.u 1).c, .slice (s.u 2).a (s.u 2).n (s.u 2).c, .slice s.c.a s.c.n s.c.c] 28) := ⟨_, rfl⟩
  have L1 := Lib.hid (lx_start HP.out HL.out hW1)
  rw [← hW1]
  clear hW1
  refine (Rp.awake_any W1 (HZ.out.over L1.out.bel hz0)).mono ?_
  rintro e9 w1 ⟨rfl, hb1⟩
  have L2 := Lib.hid (L1.out.next hb1)
  clear hb1 L1
  have q0 := (L2.out.at (w.heap.size) (s) (d) (by simp)).c0
  have q1 := (L2.out.at (w.heap.size) (s) (d) (by simp)).c1
  have q2 := (L2.out.at (w.heap.size) (s) (d) (by simp)).c2
  have q3 := (L2.out.at (w.heap.size) (s) (d) (by simp)).c3
  have q4 := (L2.out.at (w.heap.size) (s) (d) (by simp)).c4
  have q5 := (L2.out.at (w.heap.size) (s) (d) (by simp)).c5
  have ql := (L2.out.at (w.heap.size) (s) (d) (by simp)).lt
  go_wp2_with fail
  refine (few9_any s A _ c U F w1 hn L2.out.lr).mono ?_
  rw [HF.out]
  rintro e9 w2 ⟨rfl, hb2⟩
  have L3 := Lib.hid (L2.out.next hb2)
  clear hb2 L2
  clear q0 q1 q2 q3 q4 q5 ql
  go_wp2
  go_ret
  exact ⟨rfl, L3.out.bel⟩
set_option maxHeartbeats 1000000 in
theorem walk_whole (hf : Rp.fewL s U n = true) (hwh : ∀ W, Lx w W A n U F [(w.heap.size, s, d)] → Calls Tryz.prog 16 #[(.agg #[.slice s.w.a s.w.n s.w.c, .slice s.p.a s.p.n s.p.c, .slice (s.u 0).a (s.u 0).n (s.u 0).c, .slice (s.u 1).a (s.u 1).n (s.u 1).c, .slice (s.u 2).a (s.u 2).n (s.u 2).c, .slice s.c.a s.c.n s.c.c]), .slice A n c] W fun e w' => e = .returned (.bool false) ∧ Below W.heap.size W w') (hn : n ≤ 9223372036854775807) (hz : Cl.Sz w) (hp : Hp w w.heap.size s d) (hl : Ls.LRow w w.heap.size A n U F) : Calls Tryz.prog 7 #[(.agg #[.slice s.w.a s.w.n s.w.c, .slice s.p.a s.p.n s.p.c, .slice (s.u 0).a (s.u 0).n (s.u 0).c, .slice (s.u 1).a (s.u 1).n (s.u 1).c, .slice (s.u 2).a (s.u 2).n (s.u 2).c, .slice s.c.a s.c.n s.c.c]), .slice A n c, .int .i64 a] w fun e w' => e = .returned (.bool true) ∧ Below w.heap.size w w' := by
  have HZ := Lib.hid hz
  have hz0 := hz.pos
  have HP := Lib.hid hp
  have HL := Lib.hid hl
  have HF := Lib.hid hf
  have HWH := Lib.hid hwh
  clear hz hp hl hf hwh
  go_enter Tryz.func7, Tryz.ntmps7
  go_wp2_with fail
  obtain ⟨W1, hW1⟩ : ∃ W1, W1 = w.alloc (.cells #[.slice s.w.a s.w.n s.w.c, .slice s.p.a s.p.n s.p.c, .slice (s.u 0).a (s.u 0).n (s.u 0).c, .slice (s.u 1).a (s.u 1).n (s.u 1).c, .slice (s.u 2).a (s.u 2).n (s.u 2).c, .slice s.c.a s.c.n s.c.c] 28) := ⟨_, rfl⟩
  have L1 := Lib.hid (lx_start HP.out HL.out hW1)
  rw [← hW1]
  clear hW1
  refine (Rp.awake_any W1 (HZ.out.over L1.out.bel hz0)).mono ?_
  rintro e9 w1 ⟨rfl, hb1⟩
  have L2 := Lib.hid (L1.out.next hb1)
  clear hb1 L1
  have q0 := (L2.out.at (w.heap.size) (s) (d) (by simp)).c0
  have q1 := (L2.out.at (w.heap.size) (s) (d) (by simp)).c1
  have q2 := (L2.out.at (w.heap.size) (s) (d) (by simp)).c2
  have q3 := (L2.out.at (w.heap.size) (s) (d) (by simp)).c3
  have q4 := (L2.out.at (w.heap.size) (s) (d) (by simp)).c4
  have q5 := (L2.out.at (w.heap.size) (s) (d) (by simp)).c5
  have ql := (L2.out.at (w.heap.size) (s) (d) (by simp)).lt
  go_wp2_with fail
  refine (few9_any s A _ c U F w1 hn L2.out.lr).mono ?_
  rw [HF.out]
  rintro e9 w2 ⟨rfl, hb2⟩
  have L3 := Lib.hid (L2.out.next hb2)
  clear hb2 L2
  clear q0 q1 q2 q3 q4 q5 ql
  have q0 := (L3.out.at (w.heap.size) (s) (d) (by simp)).c0
  have q1 := (L3.out.at (w.heap.size) (s) (d) (by simp)).c1
  have q2 := (L3.out.at (w.heap.size) (s) (d) (by simp)).c2
  have q3 := (L3.out.at (w.heap.size) (s) (d) (by simp)).c3
  have q4 := (L3.out.at (w.heap.size) (s) (d) (by simp)).c4
  have q5 := (L3.out.at (w.heap.size) (s) (d) (by simp)).c5
  have ql := (L3.out.at (w.heap.size) (s) (d) (by simp)).lt
  go_wp2_with fail
  refine (HWH.out w2 L3.out).mono ?_
  rintro e9 w3 ⟨rfl, hb9⟩
  have L4 := Lib.hid (L3.out.next hb9)
  clear hb9 L3
  go_wp2
  go_ret
  exact ⟨rfl, L4.out.bel⟩
set_option maxHeartbeats 4000000 in
theorem core_no (er : Int) (her : ¬ er = 0) (hf : Rp.fewL s U n = true) (hwh : ∀ W, Lx w W A n U F [(w.heap.size, s, d)] → Calls Tryz.prog 16 #[(.agg #[.slice s.w.a s.w.n s.w.c, .slice s.p.a s.p.n s.p.c, .slice (s.u 0).a (s.u 0).n (s.u 0).c, .slice (s.u 1).a (s.u 1).n (s.u 1).c, .slice (s.u 2).a (s.u 2).n (s.u 2).c, .slice s.c.a s.c.n s.c.c]), .slice A n c] W fun e w' => e = .returned (.bool true) ∧ Below W.heap.size W w') (hH : ∀ W, Lx w W A n U F [(w.heap.size, s, d)] → Calls Tryz.prog 19 #[(.agg #[.slice s.w.a s.w.n s.w.c, .slice s.p.a s.p.n s.p.c, .slice (s.u 0).a (s.u 0).n (s.u 0).c, .slice (s.u 1).a (s.u 1).n (s.u 1).c, .slice (s.u 2).a (s.u 2).n (s.u 2).c, .slice s.c.a s.c.n s.c.c]), .int .i64 a] W (HeadOut W (.agg #[.bool false, .bool false, .bool false, .int .i64 0, .int .i64 0, .int .i64 0]) er)) (hn : n ≤ 9223372036854775807) (hz : Cl.Sz w) (hp : Hp w w.heap.size s d) (hl : Ls.LRow w w.heap.size A n U F) : Calls Tryz.prog 7 #[(.agg #[.slice s.w.a s.w.n s.w.c, .slice s.p.a s.p.n s.p.c, .slice (s.u 0).a (s.u 0).n (s.u 0).c, .slice (s.u 1).a (s.u 1).n (s.u 1).c, .slice (s.u 2).a (s.u 2).n (s.u 2).c, .slice s.c.a s.c.n s.c.c]), .slice A n c, .int .i64 a] w fun e w' => e = .returned (.bool true) ∧ Below w.heap.size w w' := by
  have HZ := Lib.hid hz
  have hz0 := hz.pos
  have HP := Lib.hid hp
  have HL := Lib.hid hl
  have HF := Lib.hid hf
  have d0 : (er != 0) = true := by simp [her]
  have HWH := Lib.hid hwh
  have H1 := Lib.hid hH
  clear hz hp hl hf hwh hH
  go_enter Tryz.func7, Tryz.ntmps7
  go_wp2_with fail
  obtain ⟨W1, hW1⟩ : ∃ W1, W1 = w.alloc (.cells #[.slice s.w.a s.w.n s.w.c, .slice s.p.a s.p.n s.p.c, .slice (s.u 0).a (s.u 0).n (s.u 0).c, .slice (s.u 1).a (s.u 1).n (s.u 1).c, .slice (s.u 2).a (s.u 2).n (s.u 2).c, .slice s.c.a s.c.n s.c.c] 28) := ⟨_, rfl⟩
  have L1 := Lib.hid (lx_start HP.out HL.out hW1)
  rw [← hW1]
  clear hW1
  refine (Rp.awake_any W1 (HZ.out.over L1.out.bel hz0)).mono ?_
  rintro e9 w1 ⟨rfl, hb1⟩
  have L2 := Lib.hid (L1.out.next hb1)
  clear hb1 L1
  have q0 := (L2.out.at (w.heap.size) (s) (d) (by simp)).c0
  have q1 := (L2.out.at (w.heap.size) (s) (d) (by simp)).c1
  have q2 := (L2.out.at (w.heap.size) (s) (d) (by simp)).c2
  have q3 := (L2.out.at (w.heap.size) (s) (d) (by simp)).c3
  have q4 := (L2.out.at (w.heap.size) (s) (d) (by simp)).c4
  have q5 := (L2.out.at (w.heap.size) (s) (d) (by simp)).c5
  have ql := (L2.out.at (w.heap.size) (s) (d) (by simp)).lt
  go_wp2_with fail
  refine (few9_any s A _ c U F w1 hn L2.out.lr).mono ?_
  rw [HF.out]
  rintro e9 w2 ⟨rfl, hb2⟩
  have L3 := Lib.hid (L2.out.next hb2)
  clear hb2 L2
  clear q0 q1 q2 q3 q4 q5 ql
  have q0 := (L3.out.at (w.heap.size) (s) (d) (by simp)).c0
  have q1 := (L3.out.at (w.heap.size) (s) (d) (by simp)).c1
  have q2 := (L3.out.at (w.heap.size) (s) (d) (by simp)).c2
  have q3 := (L3.out.at (w.heap.size) (s) (d) (by simp)).c3
  have q4 := (L3.out.at (w.heap.size) (s) (d) (by simp)).c4
  have q5 := (L3.out.at (w.heap.size) (s) (d) (by simp)).c5
  have ql := (L3.out.at (w.heap.size) (s) (d) (by simp)).lt
  go_wp2_with fail
  refine (HWH.out w2 L3.out).mono ?_
  rintro e9 w3 ⟨rfl, hb9⟩
  have L4 := Lib.hid (L3.out.next hb9)
  clear hb9 L3
  clear q0 q1 q2 q3 q4 q5 ql
  have q0 := (L4.out.at (w.heap.size) (s) (d) (by simp)).c0
  have q1 := (L4.out.at (w.heap.size) (s) (d) (by simp)).c1
  have q2 := (L4.out.at (w.heap.size) (s) (d) (by simp)).c2
  have q3 := (L4.out.at (w.heap.size) (s) (d) (by simp)).c3
  have q4 := (L4.out.at (w.heap.size) (s) (d) (by simp)).c4
  have q5 := (L4.out.at (w.heap.size) (s) (d) (by simp)).c5
  have ql := (L4.out.at (w.heap.size) (s) (d) (by simp)).lt
  go_wp2_with fail
  refine (H1.out w3 L4.out).mono ?_
  rintro e9 w9 ⟨rfl, hb9⟩
  have LX := L4.out.next hb9
  clear hb9 L4
  clear q0 q1 q2 q3 q4 q5 ql
  go_upto_region 6 with fail
  obtain ⟨v1, h0⟩ : ∃ W, W = w9.alloc (.cells #[.bool false, .bool false, .bool false, .int .i64 0, .int .i64 0, .int .i64 0] 30) := ⟨_, rfl⟩
  obtain ⟨bx, h1⟩ : ∃ b, b = w9.heap.size := ⟨_, rfl⟩
  have L5 := Lib.hid (LX.next (show Below w9.heap.size w9 v1 by rw [h0]; exact (Below.refl _ _).alloc (Nat.le_refl _) _))
  rw [← h0, ← h1]
  clear h0 h1 LX
  go_wp2
  go_ret
  exact ⟨rfl, L5.out.bel⟩
set_option maxHeartbeats 4000000 in
theorem core_ok (us ho he : Bool) (N bo ma : Int) (d1 : Hd_) (hf : Rp.fewL s U n = true) (hwh : ∀ W, Lx w W A n U F [(w.heap.size, s, d)] → Calls Tryz.prog 16 #[(.agg #[.slice s.w.a s.w.n s.w.c, .slice s.p.a s.p.n s.p.c, .slice (s.u 0).a (s.u 0).n (s.u 0).c, .slice (s.u 1).a (s.u 1).n (s.u 1).c, .slice (s.u 2).a (s.u 2).n (s.u 2).c, .slice s.c.a s.c.n s.c.c]), .slice A n c] W fun e w' => e = .returned (.bool true) ∧ Below W.heap.size W w') (hH : ∀ W, Lx w W A n U F [(w.heap.size, s, d)] → Calls Tryz.prog 19 #[(.agg #[.slice s.w.a s.w.n s.w.c, .slice s.p.a s.p.n s.p.c, .slice (s.u 0).a (s.u 0).n (s.u 0).c, .slice (s.u 1).a (s.u 1).n (s.u 1).c, .slice (s.u 2).a (s.u 2).n (s.u 2).c, .slice s.c.a s.c.n s.c.c]), .int .i64 a] W (HeadOut W (.agg #[.bool us, .bool ho, .bool he, .int .i64 N, .int .i64 bo, .int .i64 ma]) 0)) (hF1 : ∀ W, Lx w W A n U F [(w.heap.size, s, d)] → Calls Tryz.prog 22 #[(.agg #[.slice s.w.a s.w.n s.w.c, .slice s.p.a s.p.n s.p.c, .slice (s.u 0).a (s.u 0).n (s.u 0).c, .slice (s.u 1).a (s.u 1).n (s.u 1).c, .slice (s.u 2).a (s.u 2).n (s.u 2).c, .slice s.c.a s.c.n s.c.c]), .int .i64 a] W fun e w' => ∃ t : Hs, e = .returned (.tuple #[(.agg #[.slice t.w.a t.w.n t.w.c, .slice t.p.a t.p.n t.p.c, .slice (t.u 0).a (t.u 0).n (t.u 0).c, .slice (t.u 1).a (t.u 1).n (t.u 1).c, .slice (t.u 2).a (t.u 2).n (t.u 2).c, .slice t.c.a t.c.n t.c.c]), .int .i64 0]) ∧ Hp w' w'.heap.size t d1 ∧ (t.w.n = s.w.n ∧ t.p.n = s.p.n ∧ t.c.n = s.c.n) ∧ Below W.heap.size W w') (hR : ∀ W b1 t1, (t1.w.n = s.w.n ∧ t1.p.n = s.p.n ∧ t1.c.n = s.c.n) → Lx w W A n U F [(b1, t1, d1), (w.heap.size, s, d)] → Calls Tryz.prog 15 #[(.agg #[.slice t1.w.a t1.w.n t1.w.c, .slice t1.p.a t1.p.n t1.p.c, .slice (t1.u 0).a (t1.u 0).n (t1.u 0).c, .slice (t1.u 1).a (t1.u 1).n (t1.u 1).c, .slice (t1.u 2).a (t1.u 2).n (t1.u 2).c, .slice t1.c.a t1.c.n t1.c.c]), (.agg #[.slice (Ls.noSl 0).a (Ls.noSl 0).n (Ls.noSl 0).c, .slice (Ls.noSl 1).a (Ls.noSl 1).n (Ls.noSl 1).c, .slice (Ls.noSl 2).a (Ls.noSl 2).n (Ls.noSl 2).c]), .int .i64 N] W fun e w' => e = .returned (.bool true) ∧ Below W.heap.size W w') (hn : n ≤ 9223372036854775807) (hz : Cl.Sz w) (hp : Hp w w.heap.size s d) (hl : Ls.LRow w w.heap.size A n U F) : Calls Tryz.prog 7 #[(.agg #[.slice s.w.a s.w.n s.w.c, .slice s.p.a s.p.n s.p.c, .slice (s.u 0).a (s.u 0).n (s.u 0).c, .slice (s.u 1).a (s.u 1).n (s.u 1).c, .slice (s.u 2).a (s.u 2).n (s.u 2).c, .slice s.c.a s.c.n s.c.c]), .slice A n c, .int .i64 a] w fun e w' => e = .returned (.bool true) ∧ Below w.heap.size w w' := by
  have HZ := Lib.hid hz
  have hz0 := hz.pos
  have HP := Lib.hid hp
  have HL := Lib.hid hl
  have HF := Lib.hid hf
  have F1 := Lib.hid hF1
  have RM := Lib.hid hR
  clear hF1 hR
  have HWH := Lib.hid hwh
  have H1 := Lib.hid hH
  clear hz hp hl hf hwh hH
  go_enter Tryz.func7, Tryz.ntmps7
  go_wp2_with fail
  obtain ⟨W1, hW1⟩ : ∃ W1, W1 = w.alloc (.cells #[.slice s.w.a s.w.n s.w.c, .slice s.p.a s.p.n s.p.c, .slice (s.u 0).a (s.u 0).n (s.u 0).c, .slice (s.u 1).a (s.u 1).n (s.u 1).c, .slice (s.u 2).a (s.u 2).n (s.u 2).c, .slice s.c.a s.c.n s.c.c] 28) := ⟨_, rfl⟩
  have L1 := Lib.hid (lx_start HP.out HL.out hW1)
  rw [← hW1]
  clear hW1
  refine (Rp.awake_any W1 (HZ.out.over L1.out.bel hz0)).mono ?_
  rintro e9 w1 ⟨rfl, hb1⟩
  have L2 := Lib.hid (L1.out.next hb1)
  clear hb1 L1
  have q0 := (L2.out.at (w.heap.size) (s) (d) (by simp)).c0
  have q1 := (L2.out.at (w.heap.size) (s) (d) (by simp)).c1
  have q2 := (L2.out.at (w.heap.size) (s) (d) (by simp)).c2
  have q3 := (L2.out.at (w.heap.size) (s) (d) (by simp)).c3
  have q4 := (L2.out.at (w.heap.size) (s) (d) (by simp)).c4
  have q5 := (L2.out.at (w.heap.size) (s) (d) (by simp)).c5
  have ql := (L2.out.at (w.heap.size) (s) (d) (by simp)).lt
  go_wp2_with fail
  refine (few9_any s A _ c U F w1 hn L2.out.lr).mono ?_
  rw [HF.out]
  rintro e9 w2 ⟨rfl, hb2⟩
  have L3 := Lib.hid (L2.out.next hb2)
  clear hb2 L2
  clear q0 q1 q2 q3 q4 q5 ql
  have q0 := (L3.out.at (w.heap.size) (s) (d) (by simp)).c0
  have q1 := (L3.out.at (w.heap.size) (s) (d) (by simp)).c1
  have q2 := (L3.out.at (w.heap.size) (s) (d) (by simp)).c2
  have q3 := (L3.out.at (w.heap.size) (s) (d) (by simp)).c3
  have q4 := (L3.out.at (w.heap.size) (s) (d) (by simp)).c4
  have q5 := (L3.out.at (w.heap.size) (s) (d) (by simp)).c5
  have ql := (L3.out.at (w.heap.size) (s) (d) (by simp)).lt
  go_wp2_with fail
  refine (HWH.out w2 L3.out).mono ?_
  rintro e9 w3 ⟨rfl, hb9⟩
  have L4 := Lib.hid (L3.out.next hb9)
  clear hb9 L3
  clear q0 q1 q2 q3 q4 q5 ql
  have q0 := (L4.out.at (w.heap.size) (s) (d) (by simp)).c0
  have q1 := (L4.out.at (w.heap.size) (s) (d) (by simp)).c1
  have q2 := (L4.out.at (w.heap.size) (s) (d) (by simp)).c2
  have q3 := (L4.out.at (w.heap.size) (s) (d) (by simp)).c3
  have q4 := (L4.out.at (w.heap.size) (s) (d) (by simp)).c4
  have q5 := (L4.out.at (w.heap.size) (s) (d) (by simp)).c5
  have ql := (L4.out.at (w.heap.size) (s) (d) (by simp)).lt
  go_wp2_with fail
  refine (H1.out w3 L4.out).mono ?_
  rintro e9 w9 ⟨rfl, hb9⟩
  have LX := L4.out.next hb9
  clear hb9 L4
  clear q0 q1 q2 q3 q4 q5 ql
  go_upto_region 6 with fail
  obtain ⟨v1, h0⟩ : ∃ W, W = w9.alloc (.cells #[.bool us, .bool ho, .bool he, .int .i64 N, .int .i64 bo, .int .i64 ma] 30) := ⟨_, rfl⟩
  obtain ⟨bx, h1⟩ : ∃ b, b = w9.heap.size := ⟨_, rfl⟩
  have L5 := Lib.hid (LX.next (show Below w9.heap.size w9 v1 by rw [h0]; exact (Below.refl _ _).alloc (Nat.le_refl _) _))
  have HX : Hid (X6 v1 bx us ho he N bo ma) := Lib.hid (by rw [h0, h1]; exact X6.new w9 us ho he N bo ma _)
  rw [← h0, ← h1]
  clear h0 h1 LX
  go_upto_region 8 with fail
  have q0 := (L5.out.at (w.heap.size) (s) (d) (by simp)).c0
  have q1 := (L5.out.at (w.heap.size) (s) (d) (by simp)).c1
  have q2 := (L5.out.at (w.heap.size) (s) (d) (by simp)).c2
  have q3 := (L5.out.at (w.heap.size) (s) (d) (by simp)).c3
  have q4 := (L5.out.at (w.heap.size) (s) (d) (by simp)).c4
  have q5 := (L5.out.at (w.heap.size) (s) (d) (by simp)).c5
  have ql := (L5.out.at (w.heap.size) (s) (d) (by simp)).lt
  go_wp2_with fail
  refine (F1.out v1 L5.out).mono ?_
  rintro e9 w9 ⟨t1, rfl, hp9, hl9, hb9⟩
  have L6 := Lib.hid (L5.out.add (nw_new (ty := 28) hb9 hp9))
  have N1 := Lib.hid hl9
  have HY := Lib.hid ((HX.out.next hb9).next ((Below.refl w9.heap.size w9).alloc (Nat.le_refl _) (.cells #[.slice t1.w.a t1.w.n t1.w.c, .slice t1.p.a t1.p.n t1.p.c, .slice (t1.u 0).a (t1.u 0).n (t1.u 0).c, .slice (t1.u 1).a (t1.u 1).n (t1.u 1).c, .slice (t1.u 2).a (t1.u 2).n (t1.u 2).c, .slice t1.c.a t1.c.n t1.c.c] 28)))
  clear hp9 hb9 hl9 L5 HX
  clear q0 q1 q2 q3 q4 q5 ql
  go_upto_region 9 with fail
  obtain ⟨v2, h0⟩ : ∃ W, W = w9.alloc (.cells #[.slice t1.w.a t1.w.n t1.w.c, .slice t1.p.a t1.p.n t1.p.c, .slice (t1.u 0).a (t1.u 0).n (t1.u 0).c, .slice (t1.u 1).a (t1.u 1).n (t1.u 1).c, .slice (t1.u 2).a (t1.u 2).n (t1.u 2).c, .slice t1.c.a t1.c.n t1.c.c] 28) := ⟨_, rfl⟩
  obtain ⟨b1, h1⟩ : ∃ b, b = w9.heap.size := ⟨_, rfl⟩
  rw [← h0, ← h1] at L6
  rw [← h0] at HY
  rw [← h0, ← h1]
  clear h0 h1
  have q0 := (L6.out.at (b1) (t1) (d1) (by simp)).c0
  have q1 := (L6.out.at (b1) (t1) (d1) (by simp)).c1
  have q2 := (L6.out.at (b1) (t1) (d1) (by simp)).c2
  have q3 := (L6.out.at (b1) (t1) (d1) (by simp)).c3
  have q4 := (L6.out.at (b1) (t1) (d1) (by simp)).c4
  have q5 := (L6.out.at (b1) (t1) (d1) (by simp)).c5
  have ql := (L6.out.at (b1) (t1) (d1) (by simp)).lt
  have x3 := HY.out.c3
  have xl := HY.out.lt
  go_wp2_with fail
  refine (RM.out v2 b1 t1 N1.out L6.out).mono ?_
  rintro e9 w8 ⟨rfl, hb9⟩
  have L7 := Lib.hid (L6.out.next hb9)
  clear hb9 L6
  go_wp2
  go_ret
  exact ⟨rfl, L7.out.bel⟩
end
theorem walk (s : Hs) (d : Hd_) (A : Option Addr) (n c : Nat) (U : Nat → Nat → Ls.Sl) (F : Nat → Nat → List Int) (a : Int) (w : World) (hz : Cl.Sz w) (hp : Hp w w.heap.size s d) (hv : Fit64 d.ws) (_ : s.p.n ≤ s.p.c) (hl : Ls.LRow w w.heap.size A n U F) (hmx : n ≤ maxLen) (_ : n ≤ c) (_ : c ≤ maxLen) (_ : (Lit.int .i64 a).wf = true) :
    Calls Tryz.prog 7 #[(.agg #[.slice s.w.a s.w.n s.w.c, .slice s.p.a s.p.n s.p.c, .slice (s.u 0).a (s.u 0).n (s.u 0).c, .slice (s.u 1).a (s.u 1).n (s.u 1).c, .slice (s.u 2).a (s.u 2).n (s.u 2).c, .slice s.c.a s.c.n s.c.c]), .slice A n c, .int .i64 a] w fun e w' => e = .returned (.bool true) ∧ Below w.heap.size w w' := by
  have hn : n ≤ 9223372036854775807 := by unfold maxLen at hmx; omega
  cases hf : Rp.fewL s U n
  · exact walk_few s d A n c U F a w hf hn hz hp hl
  have hli := lite9_few hf hp hl hv
  have hz0 := hz.pos
  have hn4 := hli.n4
  have hwh := fun (W : World) (h : Lx w W A n U F [(w.heap.size, s, d)]) => pwhole_any s d A n c U F W (h.hp w.heap.size s d (by simp)) h.lr (by omega) (hz.over h.bel hz0) (hli.fine (by decide)) (hli.all (by decide))
  cases hW : wholeH s d n F
  · rw [hW] at hwh
    exact walk_whole s d A n c U F a w hf hwh hn hz hp hl
  rw [hW] at hwh
  have hm := whole_may hW
  have hok : Okl s d := ⟨hli.fine (by decide), may_none hm, hp.words.1⟩
  have hus := lens_of hp hli (by decide)
  have hH := fun (W : World) (h : Lx w W A n U F [(w.heap.size, s, d)]) => phead_any s d a W (h.hp w.heap.size s d (by simp)) (hz.over h.bel hz0) hok.fine
  by_cases hE : headE s d a = 0
  · rw [hE, head_val hE] at hH
    refine core_ok s d A n c U F a w _ _ _ (nOf (wd d a)) _ _ (freedD d s.p.n a) hf hwh hH
      (fun W h => free_okc a W hok hus (h.hp w.heap.size s d (by simp)) (hz.over h.bel hz0) hE) (fun W b1 t1 hl3 h => ?_) hn hz hp hl
    have hp1 := h.hp b1 t1 (freedD d s.p.n a) (by simp)
    have L1 := hli.freed (t := t1) a hl3
    have := room_any t1 Ls.noSl (freedD d s.p.n a) Ls.noLists (nOf (wd d a)) W hp1 (Ls.L3.none_ _ _) (hz.over h.bel hz0) (L1.fineT (by decide) hp1.free.len Ls.noSl Ls.noLists (fun j _ => Nat.zero_le _) (fun j _ => rfl))
    rw [room_back hok.ws hE hl3] at this
    exact this
  · rw [show headV s d a = noHead by unfold headV; rw [if_neg hE]] at hH
    exact core_no s d A n c U F a w (headE s d a) hE hf hwh hH hn hz hp hl
-- the frame (hp9frame.py)
set_option maxRecDepth 100000 in
theorem lifted (os : Os) (started : os.Started) (H : Type) (enc : TypeId × Value → H) :
    ReturnsInHanded {} Tryz.checked os 7 .any (fun w args => (Rows.reapRoomSpec.pre enc Tryz.prog Tryz.f7 [] false w args ∧ laidMetH Tryz.prog laidSizes w) ∧ sizedMet enc Tryz.prog Tryz.f7 (OpenSpec.ofChange Rows.reapRoomSpec) false w args)
      (Rows.reapRoomSpec.post enc Tryz.prog Tryz.f7 false true false false) := by
  refine returnsInHanded_of_change_and (C := Tryz.checked) (X := fun w _ => laidMetH Tryz.prog laidSizes w) (fun _ _ _ hh h => h.of_heap hh) own started (by kernel_rfl) Tryz.func7
    (ChangeSpec.witness_shaped (enc := enc) (C := Tryz.checked) (os := os) (X := fun w _ => laidMetH Tryz.prog laidSizes w) false (World.doorLaid Tryz.prog 400 os) #[.agg #[.slice none 0 0, .slice none 0 0, .slice none 0 0, .slice none 0 0, .slice none 0 0, .slice none 0 0], .slice none 0 0, .int .i64 0] 8 rfl (World.shaped_of_RefB (by kernel_rfl) (by kernel_rfl)) (by kernel_rfl) (by kernel_rfl) (by kernel_rfl) (door_met os _)) ?_
  intro W base args ds gs before hval0 hW _ _ hL _
  have hval : ∀ (j : Nat) t v, Tryz.f7.params[j]? = some t → args[j]? = some v → Value.okWide Tryz.prog W .any base t v := hval0
  have hW' := hW
  obtain ⟨p, q, hA0, hV, rfl, hfz, hnd⟩ := hW
  have hA : DataW.TrodAll enc Tryz.prog W 0 (fun _ => true) true Tryz.f7.params.toList args.toList ds p := hA0
  rw [Tryz.params7] at hA hval
  obtain ⟨v0, vs0, d0, ds0, p0, q0, hargs, rfl, rfl, h0, r0⟩ := trodAll_cons hA
  obtain ⟨v1, vs1, d1, ds1, p1, q1, rfl, rfl, rfl, h1, r1⟩ := trodAll_cons r0
  obtain ⟨v2, vs2, d2, ds2, p2, q2, rfl, rfl, rfl, h2, r2⟩ := trodAll_cons r1
  obtain ⟨rfl, rfl, rfl⟩ := trodAll_nil r2
  obtain rfl : args = #[v0, v1, v2] := by cases args; simp_all
  obtain ⟨rfl, rfl⟩ := trodVars_none hV
  have k0 := h0
  have lt0 : ∀ x ∈ p0, x.block < W.heap.size := by obtain ⟨m, hm⟩ := k0; exact DataW.trod_lt m _ _ _ hm
  obtain ⟨s0, z0, rfl, w0, f0, b0⟩ := heap_of8 (hval 0 28 v0 rfl rfl) h0
  have k1 := h1
  have lt1 : ∀ x ∈ p1, x.block < W.heap.size := by obtain ⟨m, hm⟩ := k1; exact DataW.trod_lt m _ _ _ hm
  obtain ⟨a1, len1, cap1, rfl⟩ := okWide_slice Tryz.underlying33 (hval 1 33 v1 rfl rfl)
  obtain ⟨u1, z1, w1, m1, b1⟩ := rows_of h1
  have c1 := cap_of h1
  obtain ⟨a2, rfl, rfl, rfl, w2⟩ := open_int Tryz.underlying3 (hval 2 3 v2 rfl rfl) h2
  clear hA0 hval0
  refine (walk s0 z0 a1 len1 cap1 u1 z1 a2 W (of_laid hL) w0 f0 b0 w1 m1 c1.1 c1.2 w2).mono fun e W' ⟨he, bel⟩ => ?_
  subst he
  exact ⟨_, rfl, _, _, _, [], _, [], hW', trodAll_mk1 (shut_bool Tryz.underlying4 _), (trodAll_cons_mk (Below.trod laidOut (by kernel_rfl) (of_decide_eq_true (by kernel_rfl)) k0 bel lt0) (trodAll_cons_mk (Below.trod laidOut (by kernel_rfl) (of_decide_eq_true (by kernel_rfl)) k1 bel lt1) (trodAll_cons_mk (shut_int Tryz.underlying3 w2) trodAll_mk0))), rfl, bel.frame _, fun h => by cases h⟩

theorem over : Rows.ReapRoomSaid :=
  OpenClaim.holds_of_wide 7 Tryz.f7 rfl rfl rfl rfl rfl rfl rfl ⟨rfl, rfl, rfl, rfl, rfl⟩ rfl rfl rfl rfl rfl (by kernel_rfl) Tryz.func7 (by kernel_rfl)
    (of_decide_eq_true (by kernel_rfl)) (by unfold Func.isWrapper; first | (rw [if_pos (by decide +kernel)]; kernel_rfl) | (rw [if_neg (by decide +kernel)]; exact ⟨rfl, rfl⟩))
    (fun os started H enc _ => lifted os started H enc)

/-- The statement: the card. -/
theorem proved : Rows.ReapRoomCardSaid :=
  Claim7.holds_tied_plain_at .later [] [.data] true Rows.reapRoomCard.stood.harness false
    over (fun _ h => by cases h) (by kernel_rfl) (fun _ h => by cases h) reapRoom_row_tie rfl ⟨rfl, rfl⟩ (by kernel_rfl) rfl
    (fun f fn hf hfn => by
      obtain rfl : f = 7 := Option.some.inj ((show Tryz.prog.funcNamed "ragpicker/ragpickerlaw09.ReapRoom" = some 7 by kernel_rfl).symm.trans hf) |>.symm
      obtain rfl : fn = Tryz.f7 := (Option.some.inj (Tryz.func7.symm.trans hfn)).symm
      exact ⟨by kernel_rfl, fun j t ht => by
        rw [Tryz.params7] at ht
        have hm : t ∈ [28, 33, 3] := by simpa using Array.mem_of_getElem? ht
        have hall : ([28, 33, 3].all fun u => !Tryz.prog.wantsStandIn u) = true := by kernel_rfl
        exact (show Tryz.prog.wantsStandIn t = false by simpa using List.all_eq_true.1 hall t hm)⟩)
    (by kernel_rfl)
#print axioms proved
end Go.Proofs.YtcbnefjfoeanoaaGreatDoor.ReapRoom
