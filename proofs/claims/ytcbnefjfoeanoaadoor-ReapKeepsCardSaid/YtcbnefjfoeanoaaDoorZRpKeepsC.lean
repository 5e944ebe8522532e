/-
  ReapKeeps: what was whole is whole without an object, or without the first cache; every other object's words are as they were: for every heap of at most 9 pages and 130 words, and every one to four caches of at most 70 cells of each class; the table of sizes is tied to the program's text by the card.
-/
import Derived.Test.YtcbnefjfoeanoaaDoorHpZM
namespace Go.Proofs.YtcbnefjfoeanoaaDoor.ReapKeeps
open Go.Proofs.YtcbnefjfoeanoaaDoor Go.Proofs.YtcbnefjfoeanoaaDoor.Rp
open Go.ChangeShapes Go.WideShapes Go.ChangeAt Go.RowKit
set_option maxRecDepth 100000

section
variable (s : Hs) (d : Hd_) (A : Option Addr) (n c : Nat) (U : Nat → Nat → Ls.Sl) (F : Nat → Nat → List Int) (a : Int) (w : World)
set_option maxHeartbeats 1000000 in
theorem walk_few (hf : fewL s U n = false) (hn : n ≤ 9223372036854775807) (hz : Cl.Sz w) (hp : Hp w w.heap.size s d) (hl : Ls.LRow w w.heap.size A n U F) : Calls Tryd.prog 3 #[(.agg #[.slice s.w.a s.w.n s.w.c, .slice s.p.a s.p.n s.p.c, .slice (s.u 0).a (s.u 0).n (s.u 0).c, .slice (s.u 1).a (s.u 1).n (s.u 1).c, .slice (s.u 2).a (s.u 2).n (s.u 2).c, .slice s.c.a s.c.n s.c.c]), .slice A n c, .int .i64 a] w fun e w' => e = .returned (.bool true) ∧ Below w.heap.size w w' := by
  have HZ := Lib.hid hz
  have hz0 := hz.pos
  have HP := Lib.hid hp
  have HL := Lib.hid hl
  have HF := Lib.hid hf
  clear hz hp hl hf
  go_enter Tryd.func3, Tryd.ntmps3
  go_wp2_with fail
  obtain ⟨W1, hW1⟩ : ∃ W1, W1 = w.alloc (.cells #[.slice s.w.a s.w.n s.w.c, .slice s.p.a s.p.n s.p.c, .slice (s.u 0).a (s.u 0).n (s.u 0).c, .slice (s.u 1).a (s.u 1).n (s.u 1).c, .slice (s.u 2).a (s.u 2).n (s.u 2).c, .slice s.c.a s.c.n s.c.c] 28) := ⟨_, rfl⟩
  have L1 := Lib.hid (lx_start HP.out HL.out hW1)
  rw [← hW1]
  clear hW1
  refine (Rp.awake_any W1 (HZ.out.over L1.out.bel hz0)).mono ?_
  rintro e9 w1 ⟨rfl, hb1⟩
  have L2 := Lib.hid (L1.out.next hb1)
  clear hb1 L1
  have q0 := (L2.out.at (w.heap.size) (s) (d) (by simp)).c0
  have q1 := (L2.out.at (w.heap.size) (s) (d) (by simp)).c1
  have q2 := (L2.out.at (w.heap.size) (s) (d) (by simp)).c2
  have q3 := (L2.out.at (w.heap.size) (s) (d) (by simp)).c3
  have q4 := (L2.out.at (w.heap.size) (s) (d) (by simp)).c4
  have q5 := (L2.out.at (w.heap.size) (s) (d) (by simp)).c5
  have ql := (L2.out.at (w.heap.size) (s) (d) (by simp)).lt
  go_wp2_with fail
  refine (few9_any s A _ c U F w1 hn L2.out.lr).mono ?_
  rw [HF.out]
  rintro e9 w2 ⟨rfl, hb2⟩
  have L3 := Lib.hid (L2.out.next hb2)
  clear hb2 L2
  clear q0 q1 q2 q3 q4 q5 ql
  go_wp2
  go_ret
  exact ⟨rfl, L3.out.bel⟩
set_option maxHeartbeats 1000000 in
theorem walk_none (hf : fewL s U n = true) (h0 : n = 0) (hn : n ≤ 9223372036854775807) (hz : Cl.Sz w) (hp : Hp w w.heap.size s d) (hl : Ls.LRow w w.heap.size A n U F) : Calls Tryd.prog 3 #[(.agg #[.slice s.w.a s.w.n s.w.c, .slice s.p.a s.p.n s.p.c, .slice (s.u 0).a (s.u 0).n (s.u 0).c, .slice (s.u 1).a (s.u 1).n (s.u 1).c, .slice (s.u 2).a (s.u 2).n (s.u 2).c, .slice s.c.a s.c.n s.c.c]), .slice A n c, .int .i64 a] w fun e w' => e = .returned (.bool true) ∧ Below w.heap.size w w' := by
  subst h0
  have HZ := Lib.hid hz
  have hz0 := hz.pos
  have HP := Lib.hid hp
  have HL := Lib.hid hl
  have HF := Lib.hid hf
  clear hz hp hl hf
  go_enter Tryd.func3, Tryd.ntmps3
  go_wp2_with fail
  obtain ⟨W1, hW1⟩ : ∃ W1, W1 = w.alloc (.cells #[.slice s.w.a s.w.n s.w.c, .slice s.p.a s.p.n s.p.c, .slice (s.u 0).a (s.u 0).n (s.u 0).c, .slice (s.u 1).a (s.u 1).n (s.u 1).c, .slice (s.u 2).a (s.u 2).n (s.u 2).c, .slice s.c.a s.c.n s.c.c] 28) := ⟨_, rfl⟩
  have L1 := Lib.hid (lx_start HP.out HL.out hW1)
  rw [← hW1]
  clear hW1
  refine (Rp.awake_any W1 (HZ.out.over L1.out.bel hz0)).mono ?_
  rintro e9 w1 ⟨rfl, hb1⟩
  have L2 := Lib.hid (L1.out.next hb1)
  clear hb1 L1
  have q0 := (L2.out.at (w.heap.size) (s) (d) (by simp)).c0
  have q1 := (L2.out.at (w.heap.size) (s) (d) (by simp)).c1
  have q2 := (L2.out.at (w.heap.size) (s) (d) (by simp)).c2
  have q3 := (L2.out.at (w.heap.size) (s) (d) (by simp)).c3
  have q4 := (L2.out.at (w.heap.size) (s) (d) (by simp)).c4
  have q5 := (L2.out.at (w.heap.size) (s) (d) (by simp)).c5
  have ql := (L2.out.at (w.heap.size) (s) (d) (by simp)).lt
  go_wp2_with fail
  refine (few9_any s A _ c U F w1 hn L2.out.lr).mono ?_
  rw [HF.out]
  rintro e9 w2 ⟨rfl, hb2⟩
  have L3 := Lib.hid (L2.out.next hb2)
  clear hb2 L2
  clear q0 q1 q2 q3 q4 q5 ql
  go_wp2
  go_ret
  exact ⟨rfl, L3.out.bel⟩
set_option maxHeartbeats 1000000 in
theorem walk_whole (hf : fewL s U n = true) (hn1 : 0 < n) (hwh : ∀ W, Lx w W A n U F [(w.heap.size, s, d)] → Calls Tryd.prog 9 #[(.agg #[.slice s.w.a s.w.n s.w.c, .slice s.p.a s.p.n s.p.c, .slice (s.u 0).a (s.u 0).n (s.u 0).c, .slice (s.u 1).a (s.u 1).n (s.u 1).c, .slice (s.u 2).a (s.u 2).n (s.u 2).c, .slice s.c.a s.c.n s.c.c]), .slice A n c] W fun e w' => e = .returned (.bool false) ∧ Below W.heap.size W w') (hn : n ≤ 9223372036854775807) (hz : Cl.Sz w) (hp : Hp w w.heap.size s d) (hl : Ls.LRow w w.heap.size A n U F) : Calls Tryd.prog 3 #[(.agg #[.slice s.w.a s.w.n s.w.c, .slice s.p.a s.p.n s.p.c, .slice (s.u 0).a (s.u 0).n (s.u 0).c, .slice (s.u 1).a (s.u 1).n (s.u 1).c, .slice (s.u 2).a (s.u 2).n (s.u 2).c, .slice s.c.a s.c.n s.c.c]), .slice A n c, .int .i64 a] w fun e w' => e = .returned (.bool true) ∧ Below w.heap.size w w' := by
  have HZ := Lib.hid hz
  have hz0 := hz.pos
  have HP := Lib.hid hp
  have HL := Lib.hid hl
  have HF := Lib.hid hf
  have HWH := Lib.hid hwh
  clear hz hp hl hf hwh
  go_enter Tryd.func3, Tryd.ntmps3
  go_wp2_with fail
  obtain ⟨W1, hW1⟩ : ∃ W1, W1 = w.alloc (.cells #[.slice s.w.a s.w.n s.w.c, .slice s.p.a s.p.n s.p.c, .slice (s.u 0).a (s.u 0).n (s.u 0).c, .slice (s.u 1).a (s.u 1).n (s.u 1).c, .slice (s.u 2).a (s.u 2).n (s.u 2).c, .slice s.c.a s.c.n s.c.c] 28) := ⟨_, rfl⟩
  have L1 := Lib.hid (lx_start HP.out HL.out hW1)
  rw [← hW1]
  clear hW1
  refine (Rp.awake_any W1 (HZ.out.over L1.out.bel hz0)).mono ?_
  rintro e9 w1 ⟨rfl, hb1⟩
  have L2 := Lib.hid (L1.out.next hb1)
  clear hb1 L1
  have q0 := (L2.out.at (w.heap.size) (s) (d) (by simp)).c0
  have q1 := (L2.out.at (w.heap.size) (s) (d) (by simp)).c1
  have q2 := (L2.out.at (w.heap.size) (s) (d) (by simp)).c2
  have q3 := (L2.out.at (w.heap.size) (s) (d) (by simp)).c3
  have q4 := (L2.out.at (w.heap.size) (s) (d) (by simp)).c4
  have q5 := (L2.out.at (w.heap.size) (s) (d) (by simp)).c5
  have ql := (L2.out.at (w.heap.size) (s) (d) (by simp)).lt
  go_wp2_with fail
  refine (few9_any s A _ c U F w1 hn L2.out.lr).mono ?_
  rw [HF.out]
  rintro e9 w2 ⟨rfl, hb2⟩
  have L3 := Lib.hid (L2.out.next hb2)
  clear hb2 L2
  clear q0 q1 q2 q3 q4 q5 ql
  have d1 : decide ((n : Int) < 1) = false := by simp; omega
  have q0 := (L3.out.at (w.heap.size) (s) (d) (by simp)).c0
  have q1 := (L3.out.at (w.heap.size) (s) (d) (by simp)).c1
  have q2 := (L3.out.at (w.heap.size) (s) (d) (by simp)).c2
  have q3 := (L3.out.at (w.heap.size) (s) (d) (by simp)).c3
  have q4 := (L3.out.at (w.heap.size) (s) (d) (by simp)).c4
  have q5 := (L3.out.at (w.heap.size) (s) (d) (by simp)).c5
  have ql := (L3.out.at (w.heap.size) (s) (d) (by simp)).lt
  go_wp2_with fail
  refine (HWH.out w2 L3.out).mono ?_
  rintro e9 w3 ⟨rfl, hb9⟩
  have L4 := Lib.hid (L3.out.next hb9)
  clear hb9 L3
  go_wp2
  go_ret
  exact ⟨rfl, L4.out.bel⟩
set_option maxHeartbeats 8000000 in
theorem core_no (er : Int) (her : ¬ er = 0) (dN dF : Hd_) (K : Nat) (u : Nat → Ls.Sl) (hu : U 0 = u) (hnc : n ≤ c) (hf : fewL s U n = true) (hn1 : 0 < n) (hwh : ∀ W, Lx w W A n U F [(w.heap.size, s, d)] → Calls Tryd.prog 9 #[(.agg #[.slice s.w.a s.w.n s.w.c, .slice s.p.a s.p.n s.p.c, .slice (s.u 0).a (s.u 0).n (s.u 0).c, .slice (s.u 1).a (s.u 1).n (s.u 1).c, .slice (s.u 2).a (s.u 2).n (s.u 2).c, .slice s.c.a s.c.n s.c.c]), .slice A n c] W fun e w' => e = .returned (.bool true) ∧ Below W.heap.size W w') (hfr : ∀ W, Lx w W A n U F [(w.heap.size, s, d)] → Calls Tryd.prog 10 #[(.agg #[.slice s.w.a s.w.n s.w.c, .slice s.p.a s.p.n s.p.c, .slice (s.u 0).a (s.u 0).n (s.u 0).c, .slice (s.u 1).a (s.u 1).n (s.u 1).c, .slice (s.u 2).a (s.u 2).n (s.u 2).c, .slice s.c.a s.c.n s.c.c]), .int .i64 a] W fun e w' => ∃ t : Hs, e = .returned (.tuple #[(.agg #[.slice t.w.a t.w.n t.w.c, .slice t.p.a t.p.n t.p.c, .slice (t.u 0).a (t.u 0).n (t.u 0).c, .slice (t.u 1).a (t.u 1).n (t.u 1).c, .slice (t.u 2).a (t.u 2).n (t.u 2).c, .slice t.c.a t.c.n t.c.c]), .int .i64 er]) ∧ Hp w' w'.heap.size t dN ∧ Below W.heap.size W w') (hfl : ∀ W, Below w.heap.size w W → Lx w W A n U F [(w.heap.size, s, d)] → Calls Tryd.prog 13 #[(.agg #[.slice s.w.a s.w.n s.w.c, .slice s.p.a s.p.n s.p.c, .slice (s.u 0).a (s.u 0).n (s.u 0).c, .slice (s.u 1).a (s.u 1).n (s.u 1).c, .slice (s.u 2).a (s.u 2).n (s.u 2).c, .slice s.c.a s.c.n s.c.c]), (.agg #[.slice (u 0).a (u 0).n (u 0).c, .slice (u 1).a (u 1).n (u 1).c, .slice (u 2).a (u 2).n (u 2).c])] W fun e w' => ∃ t : Hs, e = .returned (.tuple #[(.agg #[.slice t.w.a t.w.n t.w.c, .slice t.p.a t.p.n t.p.c, .slice (t.u 0).a (t.u 0).n (t.u 0).c, .slice (t.u 1).a (t.u 1).n (t.u 1).c, .slice (t.u 2).a (t.u 2).n (t.u 2).c, .slice t.c.a t.c.n t.c.c]), .int .i64 0]) ∧ Hp w' w'.heap.size t dF ∧ (t.w.n = s.w.n ∧ t.p.n = s.p.n ∧ t.c.n = s.c.n) ∧ Below W.heap.size W w') (hwf : ∀ W bc t bb off, A = some ⟨bb, off, none⟩ → (t.w.n = s.w.n ∧ t.p.n = s.p.n ∧ t.c.n = s.c.n) → Lx w W A n U F [(bc, t, dF), (w.heap.size, s, d)] → ∀ A' m c', m = n - 1 → (0 < m → A' = some ⟨bb, off + 3, none⟩) → Calls Tryd.prog 9 #[(.agg #[.slice t.w.a t.w.n t.w.c, .slice t.p.a t.p.n t.p.c, .slice (t.u 0).a (t.u 0).n (t.u 0).c, .slice (t.u 1).a (t.u 1).n (t.u 1).c, .slice (t.u 2).a (t.u 2).n (t.u 2).c, .slice t.c.a t.c.n t.c.c]), .slice A' m c'] W fun e w' => e = .returned (.bool true) ∧ Below W.heap.size W w') (hkf : ∀ W bc t, (t.w.n = s.w.n ∧ t.p.n = s.p.n ∧ t.c.n = s.c.n) → Lx w W A n U F [(bc, t, dF), (w.heap.size, s, d)] → Calls Tryd.prog 11 #[(.agg #[.slice s.w.a s.w.n s.w.c, .slice s.p.a s.p.n s.p.c, .slice (s.u 0).a (s.u 0).n (s.u 0).c, .slice (s.u 1).a (s.u 1).n (s.u 1).c, .slice (s.u 2).a (s.u 2).n (s.u 2).c, .slice s.c.a s.c.n s.c.c]), (.agg #[.slice t.w.a t.w.n t.w.c, .slice t.p.a t.p.n t.p.c, .slice (t.u 0).a (t.u 0).n (t.u 0).c, .slice (t.u 1).a (t.u 1).n (t.u 1).c, .slice (t.u 2).a (t.u 2).n (t.u 2).c, .slice t.c.a t.c.n t.c.c]), .int .i64 0] W fun e w' => e = .returned (.bool true) ∧ Below W.heap.size W w') (huf : ∀ W bc t, (t.w.n = s.w.n ∧ t.p.n = s.p.n ∧ t.c.n = s.c.n) → Lx w W A n U F [(bc, t, dF), (w.heap.size, s, d)] → (Calls Tryd.prog 12 #[(.agg #[.slice t.w.a t.w.n t.w.c, .slice t.p.a t.p.n t.p.c, .slice (t.u 0).a (t.u 0).n (t.u 0).c, .slice (t.u 1).a (t.u 1).n (t.u 1).c, .slice (t.u 2).a (t.u 2).n (t.u 2).c, .slice t.c.a t.c.n t.c.c])] W fun e w' => ∃ A' C', e = .returned (.slice A' K C') ∧ Below W.heap.size W w') ∧ Calls Tryd.prog 12 #[(.agg #[.slice s.w.a s.w.n s.w.c, .slice s.p.a s.p.n s.p.c, .slice (s.u 0).a (s.u 0).n (s.u 0).c, .slice (s.u 1).a (s.u 1).n (s.u 1).c, .slice (s.u 2).a (s.u 2).n (s.u 2).c, .slice s.c.a s.c.n s.c.c])] W fun e w' => ∃ A' C', e = .returned (.slice A' K C') ∧ Below W.heap.size W w') (hn : n ≤ 9223372036854775807) (hz : Cl.Sz w) (hp : Hp w w.heap.size s d) (hl : Ls.LRow w w.heap.size A n U F) : Calls Tryd.prog 3 #[(.agg #[.slice s.w.a s.w.n s.w.c, .slice s.p.a s.p.n s.p.c, .slice (s.u 0).a (s.u 0).n (s.u 0).c, .slice (s.u 1).a (s.u 1).n (s.u 1).c, .slice (s.u 2).a (s.u 2).n (s.u 2).c, .slice s.c.a s.c.n s.c.c]), .slice A n c, .int .i64 a] w fun e w' => e = .returned (.bool true) ∧ Below w.heap.size w w' := by
  have HZ := Lib.hid hz
  have hz0 := hz.pos
  have HP := Lib.hid hp
  have HL := Lib.hid hl
  have HF := Lib.hid hf
  have d0 : (er == 0) = false := by simp [her]
  have HWH := Lib.hid hwh
  have FR := Lib.hid hfr
  have FL := Lib.hid hfl
  have HWF := Lib.hid hwf
  have HKF := Lib.hid hkf
  have HUF := Lib.hid huf
  clear hz hp hl hf hwh hfr hfl hkf huf
  go_enter Tryd.func3, Tryd.ntmps3
  go_wp2_with fail
  obtain ⟨W1, hW1⟩ : ∃ W1, W1 = w.alloc (.cells #[.slice s.w.a s.w.n s.w.c, .slice s.p.a s.p.n s.p.c, .slice (s.u 0).a (s.u 0).n (s.u 0).c, .slice (s.u 1).a (s.u 1).n (s.u 1).c, .slice (s.u 2).a (s.u 2).n (s.u 2).c, .slice s.c.a s.c.n s.c.c] 28) := ⟨_, rfl⟩
  have L1 := Lib.hid (lx_start HP.out HL.out hW1)
  rw [← hW1]
  clear hW1
  refine (Rp.awake_any W1 (HZ.out.over L1.out.bel hz0)).mono ?_
  rintro e9 w1 ⟨rfl, hb1⟩
  have L2 := Lib.hid (L1.out.next hb1)
  clear hb1 L1
  have q0 := (L2.out.at (w.heap.size) (s) (d) (by simp)).c0
  have q1 := (L2.out.at (w.heap.size) (s) (d) (by simp)).c1
  have q2 := (L2.out.at (w.heap.size) (s) (d) (by simp)).c2
  have q3 := (L2.out.at (w.heap.size) (s) (d) (by simp)).c3
  have q4 := (L2.out.at (w.heap.size) (s) (d) (by simp)).c4
  have q5 := (L2.out.at (w.heap.size) (s) (d) (by simp)).c5
  have ql := (L2.out.at (w.heap.size) (s) (d) (by simp)).lt
  go_wp2_with fail
  refine (few9_any s A _ c U F w1 hn L2.out.lr).mono ?_
  rw [HF.out]
  rintro e9 w2 ⟨rfl, hb2⟩
  have L3 := Lib.hid (L2.out.next hb2)
  clear hb2 L2
  clear q0 q1 q2 q3 q4 q5 ql
  have d1 : decide ((n : Int) < 1) = false := by simp; omega
  have q0 := (L3.out.at (w.heap.size) (s) (d) (by simp)).c0
  have q1 := (L3.out.at (w.heap.size) (s) (d) (by simp)).c1
  have q2 := (L3.out.at (w.heap.size) (s) (d) (by simp)).c2
  have q3 := (L3.out.at (w.heap.size) (s) (d) (by simp)).c3
  have q4 := (L3.out.at (w.heap.size) (s) (d) (by simp)).c4
  have q5 := (L3.out.at (w.heap.size) (s) (d) (by simp)).c5
  have ql := (L3.out.at (w.heap.size) (s) (d) (by simp)).lt
  go_wp2_with fail
  refine (HWH.out w2 L3.out).mono ?_
  rintro e9 w3 ⟨rfl, hb9⟩
  have L4 := Lib.hid (L3.out.next hb9)
  clear hb9 L3
  clear q0 q1 q2 q3 q4 q5 ql
  have q0 := (L4.out.at (w.heap.size) (s) (d) (by simp)).c0
  have q1 := (L4.out.at (w.heap.size) (s) (d) (by simp)).c1
  have q2 := (L4.out.at (w.heap.size) (s) (d) (by simp)).c2
  have q3 := (L4.out.at (w.heap.size) (s) (d) (by simp)).c3
  have q4 := (L4.out.at (w.heap.size) (s) (d) (by simp)).c4
  have q5 := (L4.out.at (w.heap.size) (s) (d) (by simp)).c5
  have ql := (L4.out.at (w.heap.size) (s) (d) (by simp)).lt
  go_wp2_with fail
  refine (FR.out w3 L4.out).mono ?_
  rintro e9 w9 ⟨t0, rfl, hp9, hb9⟩
  have L5 := Lib.hid (L4.out.add (nw_new (ty := 28) hb9 hp9))
  clear hp9 hb9 L4 FR
  clear q0 q1 q2 q3 q4 q5 ql
  go_upto_region 6 with fail
  obtain ⟨wd, hwf0⟩ : ∃ W, W = w9.alloc (.cells #[.slice t0.w.a t0.w.n t0.w.c, .slice t0.p.a t0.p.n t0.p.c, .slice (t0.u 0).a (t0.u 0).n (t0.u 0).c, .slice (t0.u 1).a (t0.u 1).n (t0.u 1).c, .slice (t0.u 2).a (t0.u 2).n (t0.u 2).c, .slice t0.c.a t0.c.n t0.c.c] 28) := ⟨_, rfl⟩
  obtain ⟨b0, hb0⟩ : ∃ b, b = w9.heap.size := ⟨_, rfl⟩
  rw [← hwf0, ← hb0] at L5 ⊢
  clear hwf0 hb0
  have LL := Lib.hid (show Lx w wd A n U F [(w.heap.size, s, d)] from ⟨L5.out.bel, L5.out.lr, fun x hx => L5.out.h x (List.mem_cons_of_mem _ hx)⟩)
  clear L5
  go_quiet (fail)
  have LM := Lib.hid (LL.out.next (below_drawn' (Below.refl _ _) nq))
  clear LL
  obtain ⟨wf, hwf0⟩ : ∃ W, W = wd.drewN nq := ⟨_, rfl⟩
  rw [← hwf0] at LM ⊢
  clear hwf0
  have hlb : Hid (Ls.LRow wf wf.heap.size A n U F) := Lib.hid LM.out.lr
  obtain ⟨bb, off, hA, hbl, hcl⟩ := hlb.out hn1
  subst hA
  clear hcl hbl hlb
  have i0 : (0 : Int) < n := by omega
  have HU := Lib.hid hu
  clear hu
  go_upto_region 8 with fail
  go_cut [11, 12] from 11 to 73 (fun p ee wx => ee = .int .i64 0 ∧ ∃ bc t, p = .pointer (some ⟨bc, 0, none⟩) ∧ Hid ((t.w.n = s.w.n ∧ t.p.n = s.p.n ∧ t.c.n = s.c.n) ∧ Lx w wx (some ⟨bb, off, none⟩) n U F [(bc, t, dF), (w.heap.size, s, d)]))
  case first =>
    go_region_held3 (fun W => (Below wf.heap.size wf W ∧ True) ∧ (w.heap.size < W.heap.size ∧ W.cell? ⟨w.heap.size, 0, none⟩ = some (.slice s.w.a s.w.n s.w.c) ∧ W.cell? ⟨w.heap.size, 1, none⟩ = some (.slice s.p.a s.p.n s.p.c) ∧ W.cell? ⟨w.heap.size, 2, none⟩ = some (.slice (s.u 0).a (s.u 0).n (s.u 0).c) ∧ W.cell? ⟨w.heap.size, 3, none⟩ = some (.slice (s.u 1).a (s.u 1).n (s.u 1).c) ∧ W.cell? ⟨w.heap.size, 4, none⟩ = some (.slice (s.u 2).a (s.u 2).n (s.u 2).c) ∧ W.cell? ⟨w.heap.size, 5, none⟩ = some (.slice s.c.a s.c.n s.c.c)) ∧ bb < W.heap.size ∧ W.cell? ⟨bb, off, none⟩ = some (.slice (u 0).a (u 0).n (u 0).c) ∧ W.cell? ⟨bb, off + 1, none⟩ = some (.slice (u 1).a (u 1).n (u 1).c) ∧ W.cell? ⟨bb, off + 2, none⟩ = some (.slice (u 2).a (u 2).n (u 2).c)) (((with_reducible refine lx_keepF (b1 := w.heap.size) (t1 := s) (d1 := d) u (by simp) LM.out hn1 HU.out ?_); repeat' (first | with_reducible exact H4.out | with_reducible exact Below.refl _ _ | with_reducible refine bl_set ?_ ?_ _ | with_reducible refine bl_alloc ?_ _ | with_reducible refine bl_drew ?_ | with_reducible exact Nat.le_refl _ | with_reducible exact Nat.le_succ _ | omega))) (first
      | ((go_at_call 13; (with_reducible refine (FL.out (World.drew wf) (LM.out.next (bl_drew (Below.refl _ _))).bel (LM.out.next (bl_drew (Below.refl _ _)))).mono ?_); rintro e9 w4 ⟨⟨⟨A1, m1, D1⟩, ⟨A2, m2, D2⟩, t4, ⟨A3, m3, D3⟩⟩, rfl, ht, hnn, hb4⟩; dsimp only; have H4 := Lib.hid (bl_call (bl_drew (Below.refl _ _)) hb4); have T4 := Lib.hid ht; have N4 := Lib.hid hnn; clear ht hb4 hnn))
      | ((go_at_call 13; (with_reducible refine (FL.out (World.drew (World.alloc wf (.cells #[.slice none 0 0, .slice none 0 0, .slice none 0 0, .slice none 0 0, .slice none 0 0, .slice none 0 0] 28))) (LM.out.next (bl_drew (bl_alloc (Below.refl _ _) _))).bel (LM.out.next (bl_drew (bl_alloc (Below.refl _ _) _)))).mono ?_); rintro e9 w4 ⟨⟨⟨A1, m1, D1⟩, ⟨A2, m2, D2⟩, t4, ⟨A3, m3, D3⟩⟩, rfl, ht, hnn, hb4⟩; dsimp only; have H4 := Lib.hid (bl_call (bl_drew (bl_alloc (Below.refl _ _) _)) hb4); have T4 := Lib.hid ht; have N4 := Lib.hid hnn; have O6 := Lib.hid (old_rm hb4); obtain ⟨z, ⟨xa0, xa1, xa2, xa3, xa4, xa5⟩, ya0, ya1, ya2, ya3, ya4, ya5⟩ := old_cells O6.out; clear ht hb4 hnn)))
    all_goals go_wp2_with fail
    all_goals go_meet
    all_goals first
      | with_reducible exact ⟨rfl, _, ⟨⟨A1, m1, D1⟩, ⟨A2, m2, D2⟩, t4, ⟨A3, m3, D3⟩⟩, rfl, Lib.hid ⟨N4.out, LM.out.add (nw_new (t := ⟨⟨A1, m1, D1⟩, ⟨A2, m2, D2⟩, t4, ⟨A3, m3, D3⟩⟩) H4.out T4.out)⟩⟩
      | with_reducible exact ⟨rfl, _, ⟨⟨A1, m1, D1⟩, ⟨A2, m2, D2⟩, t4, ⟨A3, m3, D3⟩⟩, rfl, Lib.hid ⟨N4.out, LM.out.add (nw_put (t := ⟨⟨A1, m1, D1⟩, ⟨A2, m2, D2⟩, t4, ⟨A3, m3, D3⟩⟩) H4.out T4.out O6.out)⟩⟩
  case rest =>
    obtain ⟨rfl, bc, t, rfl, HT⟩ := hcut
    clear LM FL
    have i1 : (1 : Int) ≤ n := by omega
    have HST : Hid (Lx w wc (some ⟨bb, off, none⟩) n U F [(bc, t, dF), (w.heap.size, s, d)] ∧ True) := Lib.hid ⟨HT.out.2, trivial⟩
    have HTL := Lib.hid HT.out.1
    clear HT
    go_wp2_with fail
    generalize wc = wg at HST ⊢
    rcases (show c = 1 ∨ ¬ c = 1 by omega) with hc1 | hc1
    · subst hc1
      go_region_held3 (fun W => (Lx w W (some ⟨bb, off, none⟩) n U F [(bc, t, dF), (w.heap.size, s, d)] ∧ True) ∧ (bc < W.heap.size ∧ W.cell? ⟨bc, 0, none⟩ = some (.slice t.w.a t.w.n t.w.c) ∧ W.cell? ⟨bc, 1, none⟩ = some (.slice t.p.a t.p.n t.p.c) ∧ W.cell? ⟨bc, 2, none⟩ = some (.slice (t.u 0).a (t.u 0).n (t.u 0).c) ∧ W.cell? ⟨bc, 3, none⟩ = some (.slice (t.u 1).a (t.u 1).n (t.u 1).c) ∧ W.cell? ⟨bc, 4, none⟩ = some (.slice (t.u 2).a (t.u 2).n (t.u 2).c) ∧ W.cell? ⟨bc, 5, none⟩ = some (.slice t.c.a t.c.n t.c.c)) ∧ w.heap.size < W.heap.size ∧ W.cell? ⟨w.heap.size, 0, none⟩ = some (.slice s.w.a s.w.n s.w.c) ∧ W.cell? ⟨w.heap.size, 1, none⟩ = some (.slice s.p.a s.p.n s.p.c) ∧ W.cell? ⟨w.heap.size, 2, none⟩ = some (.slice (s.u 0).a (s.u 0).n (s.u 0).c) ∧ W.cell? ⟨w.heap.size, 3, none⟩ = some (.slice (s.u 1).a (s.u 1).n (s.u 1).c) ∧ W.cell? ⟨w.heap.size, 4, none⟩ = some (.slice (s.u 2).a (s.u 2).n (s.u 2).c) ∧ W.cell? ⟨w.heap.size, 5, none⟩ = some (.slice s.c.a s.c.n s.c.c)) (first
        | exact lx_keep2 (d1 := dF) (d2 := d) (by simp) (by simp) HST.out (below_drawn' (Below.refl _ _) 1)
        | exact lx_keep2 (d1 := dF) (d2 := d) (by simp) (by simp) (‹(Lx w _ _ n U F [(bc, t, dF), (w.heap.size, s, d)] ∧ True) ∧ _›).1 ‹Below _ _ _›) (first
        | ((go_at_call 9; (with_reducible refine (HWF.out _ bc t bb off rfl HTL.out (‹(Lx w _ _ n U F [(bc, t, dF), (w.heap.size, s, d)] ∧ True) ∧ _›).1.1 _ _ _ ?_ ?_).mono ?_); (first | rfl | omega); (first | exact fun _ => rfl | (intro h0; exact absurd h0 (by omega))); rintro e9 w8 ⟨rfl, hb8⟩))
        | ((go_at_call 11; (with_reducible refine (HKF.out _ bc t HTL.out (‹(Lx w _ _ n U F [(bc, t, dF), (w.heap.size, s, d)] ∧ True) ∧ _›).1.1).mono ?_); rintro e9 w8 ⟨rfl, hb8⟩))
        | ((go_at_call 12; (with_reducible refine ((HUF.out _ bc t HTL.out (‹(Lx w _ _ n U F [(bc, t, dF), (w.heap.size, s, d)] ∧ True) ∧ _›).1.1).1).mono ?_); rintro e9 w8 ⟨A8, C8, rfl, hb8⟩))
        | ((go_at_call 12; (with_reducible refine ((HUF.out _ bc t HTL.out (‹(Lx w _ _ n U F [(bc, t, dF), (w.heap.size, s, d)] ∧ True) ∧ _›).1.1).2).mono ?_); rintro e9 w8 ⟨A8, C8, rfl, hb8⟩)))
      have HE := Lib.hid (‹(Lx w w8 _ n U F [(bc, t, dF), (w.heap.size, s, d)] ∧ True) ∧ _›).1.1
      clear HST
      go_wp2
      go_ret
      exact ⟨rfl, HE.out.bel⟩
    · go_region_held3 (fun W => (Lx w W (some ⟨bb, off, none⟩) n U F [(bc, t, dF), (w.heap.size, s, d)] ∧ True) ∧ (bc < W.heap.size ∧ W.cell? ⟨bc, 0, none⟩ = some (.slice t.w.a t.w.n t.w.c) ∧ W.cell? ⟨bc, 1, none⟩ = some (.slice t.p.a t.p.n t.p.c) ∧ W.cell? ⟨bc, 2, none⟩ = some (.slice (t.u 0).a (t.u 0).n (t.u 0).c) ∧ W.cell? ⟨bc, 3, none⟩ = some (.slice (t.u 1).a (t.u 1).n (t.u 1).c) ∧ W.cell? ⟨bc, 4, none⟩ = some (.slice (t.u 2).a (t.u 2).n (t.u 2).c) ∧ W.cell? ⟨bc, 5, none⟩ = some (.slice t.c.a t.c.n t.c.c)) ∧ w.heap.size < W.heap.size ∧ W.cell? ⟨w.heap.size, 0, none⟩ = some (.slice s.w.a s.w.n s.w.c) ∧ W.cell? ⟨w.heap.size, 1, none⟩ = some (.slice s.p.a s.p.n s.p.c) ∧ W.cell? ⟨w.heap.size, 2, none⟩ = some (.slice (s.u 0).a (s.u 0).n (s.u 0).c) ∧ W.cell? ⟨w.heap.size, 3, none⟩ = some (.slice (s.u 1).a (s.u 1).n (s.u 1).c) ∧ W.cell? ⟨w.heap.size, 4, none⟩ = some (.slice (s.u 2).a (s.u 2).n (s.u 2).c) ∧ W.cell? ⟨w.heap.size, 5, none⟩ = some (.slice s.c.a s.c.n s.c.c)) (first
        | exact lx_keep2 (d1 := dF) (d2 := d) (by simp) (by simp) HST.out (below_drawn' (Below.refl _ _) 1)
        | exact lx_keep2 (d1 := dF) (d2 := d) (by simp) (by simp) (‹(Lx w _ _ n U F [(bc, t, dF), (w.heap.size, s, d)] ∧ True) ∧ _›).1 ‹Below _ _ _›) (first
        | ((go_at_call 9; (with_reducible refine (HWF.out _ bc t bb off rfl HTL.out (‹(Lx w _ _ n U F [(bc, t, dF), (w.heap.size, s, d)] ∧ True) ∧ _›).1.1 _ _ _ ?_ ?_).mono ?_); (first | rfl | omega); (first | exact fun _ => rfl | (intro h0; exact absurd h0 (by omega))); rintro e9 w8 ⟨rfl, hb8⟩))
        | ((go_at_call 11; (with_reducible refine (HKF.out _ bc t HTL.out (‹(Lx w _ _ n U F [(bc, t, dF), (w.heap.size, s, d)] ∧ True) ∧ _›).1.1).mono ?_); rintro e9 w8 ⟨rfl, hb8⟩))
        | ((go_at_call 12; (with_reducible refine ((HUF.out _ bc t HTL.out (‹(Lx w _ _ n U F [(bc, t, dF), (w.heap.size, s, d)] ∧ True) ∧ _›).1.1).1).mono ?_); rintro e9 w8 ⟨A8, C8, rfl, hb8⟩))
        | ((go_at_call 12; (with_reducible refine ((HUF.out _ bc t HTL.out (‹(Lx w _ _ n U F [(bc, t, dF), (w.heap.size, s, d)] ∧ True) ∧ _›).1.1).2).mono ?_); rintro e9 w8 ⟨A8, C8, rfl, hb8⟩)))
      have HE := Lib.hid (‹(Lx w w8 _ n U F [(bc, t, dF), (w.heap.size, s, d)] ∧ True) ∧ _›).1.1
      clear HST
      go_wp2
      go_ret
      exact ⟨rfl, HE.out.bel⟩
set_option maxHeartbeats 8000000 in
theorem core_ok (dB dF : Hd_) (K : Nat) (hK : K ≤ 512) (u : Nat → Ls.Sl) (hu : U 0 = u) (hnc : n ≤ c) (hf : fewL s U n = true) (hn1 : 0 < n) (hwh : ∀ W, Lx w W A n U F [(w.heap.size, s, d)] → Calls Tryd.prog 9 #[(.agg #[.slice s.w.a s.w.n s.w.c, .slice s.p.a s.p.n s.p.c, .slice (s.u 0).a (s.u 0).n (s.u 0).c, .slice (s.u 1).a (s.u 1).n (s.u 1).c, .slice (s.u 2).a (s.u 2).n (s.u 2).c, .slice s.c.a s.c.n s.c.c]), .slice A n c] W fun e w' => e = .returned (.bool true) ∧ Below W.heap.size W w') (hfr : ∀ W, Lx w W A n U F [(w.heap.size, s, d)] → Calls Tryd.prog 10 #[(.agg #[.slice s.w.a s.w.n s.w.c, .slice s.p.a s.p.n s.p.c, .slice (s.u 0).a (s.u 0).n (s.u 0).c, .slice (s.u 1).a (s.u 1).n (s.u 1).c, .slice (s.u 2).a (s.u 2).n (s.u 2).c, .slice s.c.a s.c.n s.c.c]), .int .i64 a] W fun e w' => ∃ t : Hs, e = .returned (.tuple #[(.agg #[.slice t.w.a t.w.n t.w.c, .slice t.p.a t.p.n t.p.c, .slice (t.u 0).a (t.u 0).n (t.u 0).c, .slice (t.u 1).a (t.u 1).n (t.u 1).c, .slice (t.u 2).a (t.u 2).n (t.u 2).c, .slice t.c.a t.c.n t.c.c]), .int .i64 0]) ∧ Hp w' w'.heap.size t dB ∧ (t.w.n = s.w.n ∧ t.p.n = s.p.n ∧ t.c.n = s.c.n) ∧ Below W.heap.size W w') (hwb : ∀ W b0 t0, (t0.w.n = s.w.n ∧ t0.p.n = s.p.n ∧ t0.c.n = s.c.n) → Lx w W A n U F [(b0, t0, dB), (w.heap.size, s, d)] → Calls Tryd.prog 9 #[(.agg #[.slice t0.w.a t0.w.n t0.w.c, .slice t0.p.a t0.p.n t0.p.c, .slice (t0.u 0).a (t0.u 0).n (t0.u 0).c, .slice (t0.u 1).a (t0.u 1).n (t0.u 1).c, .slice (t0.u 2).a (t0.u 2).n (t0.u 2).c, .slice t0.c.a t0.c.n t0.c.c]), .slice A n c] W fun e w' => e = .returned (.bool true) ∧ Below W.heap.size W w') (hkb : ∀ W b0 t0, (t0.w.n = s.w.n ∧ t0.p.n = s.p.n ∧ t0.c.n = s.c.n) → Lx w W A n U F [(b0, t0, dB), (w.heap.size, s, d)] → Calls Tryd.prog 11 #[(.agg #[.slice s.w.a s.w.n s.w.c, .slice s.p.a s.p.n s.p.c, .slice (s.u 0).a (s.u 0).n (s.u 0).c, .slice (s.u 1).a (s.u 1).n (s.u 1).c, .slice (s.u 2).a (s.u 2).n (s.u 2).c, .slice s.c.a s.c.n s.c.c]), (.agg #[.slice t0.w.a t0.w.n t0.w.c, .slice t0.p.a t0.p.n t0.p.c, .slice (t0.u 0).a (t0.u 0).n (t0.u 0).c, .slice (t0.u 1).a (t0.u 1).n (t0.u 1).c, .slice (t0.u 2).a (t0.u 2).n (t0.u 2).c, .slice t0.c.a t0.c.n t0.c.c]), .int .i64 a] W fun e w' => e = .returned (.bool true) ∧ Below W.heap.size W w') (hub : ∀ W b0 t0, (t0.w.n = s.w.n ∧ t0.p.n = s.p.n ∧ t0.c.n = s.c.n) → Lx w W A n U F [(b0, t0, dB), (w.heap.size, s, d)] → (Calls Tryd.prog 12 #[(.agg #[.slice t0.w.a t0.w.n t0.w.c, .slice t0.p.a t0.p.n t0.p.c, .slice (t0.u 0).a (t0.u 0).n (t0.u 0).c, .slice (t0.u 1).a (t0.u 1).n (t0.u 1).c, .slice (t0.u 2).a (t0.u 2).n (t0.u 2).c, .slice t0.c.a t0.c.n t0.c.c])] W fun e w' => ∃ A' C', e = .returned (.slice A' K C') ∧ Below W.heap.size W w') ∧ Calls Tryd.prog 12 #[(.agg #[.slice s.w.a s.w.n s.w.c, .slice s.p.a s.p.n s.p.c, .slice (s.u 0).a (s.u 0).n (s.u 0).c, .slice (s.u 1).a (s.u 1).n (s.u 1).c, .slice (s.u 2).a (s.u 2).n (s.u 2).c, .slice s.c.a s.c.n s.c.c])] W fun e w' => ∃ A' C', e = .returned (.slice A' (K + 1) C') ∧ Below W.heap.size W w') (hfl : ∀ W, Below w.heap.size w W → Lx w W A n U F [(w.heap.size, s, d)] → Calls Tryd.prog 13 #[(.agg #[.slice s.w.a s.w.n s.w.c, .slice s.p.a s.p.n s.p.c, .slice (s.u 0).a (s.u 0).n (s.u 0).c, .slice (s.u 1).a (s.u 1).n (s.u 1).c, .slice (s.u 2).a (s.u 2).n (s.u 2).c, .slice s.c.a s.c.n s.c.c]), (.agg #[.slice (u 0).a (u 0).n (u 0).c, .slice (u 1).a (u 1).n (u 1).c, .slice (u 2).a (u 2).n (u 2).c])] W fun e w' => ∃ t : Hs, e = .returned (.tuple #[(.agg #[.slice t.w.a t.w.n t.w.c, .slice t.p.a t.p.n t.p.c, .slice (t.u 0).a (t.u 0).n (t.u 0).c, .slice (t.u 1).a (t.u 1).n (t.u 1).c, .slice (t.u 2).a (t.u 2).n (t.u 2).c, .slice t.c.a t.c.n t.c.c]), .int .i64 0]) ∧ Hp w' w'.heap.size t dF ∧ (t.w.n = s.w.n ∧ t.p.n = s.p.n ∧ t.c.n = s.c.n) ∧ Below W.heap.size W w') (hwf : ∀ W bc t bb off, A = some ⟨bb, off, none⟩ → (t.w.n = s.w.n ∧ t.p.n = s.p.n ∧ t.c.n = s.c.n) → Lx w W A n U F [(bc, t, dF), (w.heap.size, s, d)] → ∀ A' m c', m = n - 1 → (0 < m → A' = some ⟨bb, off + 3, none⟩) → Calls Tryd.prog 9 #[(.agg #[.slice t.w.a t.w.n t.w.c, .slice t.p.a t.p.n t.p.c, .slice (t.u 0).a (t.u 0).n (t.u 0).c, .slice (t.u 1).a (t.u 1).n (t.u 1).c, .slice (t.u 2).a (t.u 2).n (t.u 2).c, .slice t.c.a t.c.n t.c.c]), .slice A' m c'] W fun e w' => e = .returned (.bool true) ∧ Below W.heap.size W w') (hkf : ∀ W bc t, (t.w.n = s.w.n ∧ t.p.n = s.p.n ∧ t.c.n = s.c.n) → Lx w W A n U F [(bc, t, dF), (w.heap.size, s, d)] → Calls Tryd.prog 11 #[(.agg #[.slice s.w.a s.w.n s.w.c, .slice s.p.a s.p.n s.p.c, .slice (s.u 0).a (s.u 0).n (s.u 0).c, .slice (s.u 1).a (s.u 1).n (s.u 1).c, .slice (s.u 2).a (s.u 2).n (s.u 2).c, .slice s.c.a s.c.n s.c.c]), (.agg #[.slice t.w.a t.w.n t.w.c, .slice t.p.a t.p.n t.p.c, .slice (t.u 0).a (t.u 0).n (t.u 0).c, .slice (t.u 1).a (t.u 1).n (t.u 1).c, .slice (t.u 2).a (t.u 2).n (t.u 2).c, .slice t.c.a t.c.n t.c.c]), .int .i64 0] W fun e w' => e = .returned (.bool true) ∧ Below W.heap.size W w') (huf : ∀ W bc t, (t.w.n = s.w.n ∧ t.p.n = s.p.n ∧ t.c.n = s.c.n) → Lx w W A n U F [(bc, t, dF), (w.heap.size, s, d)] → (Calls Tryd.prog 12 #[(.agg #[.slice t.w.a t.w.n t.w.c, .slice t.p.a t.p.n t.p.c, .slice (t.u 0).a (t.u 0).n (t.u 0).c, .slice (t.u 1).a (t.u 1).n (t.u 1).c, .slice (t.u 2).a (t.u 2).n (t.u 2).c, .slice t.c.a t.c.n t.c.c])] W fun e w' => ∃ A' C', e = .returned (.slice A' (K + 1) C') ∧ Below W.heap.size W w') ∧ Calls Tryd.prog 12 #[(.agg #[.slice s.w.a s.w.n s.w.c, .slice s.p.a s.p.n s.p.c, .slice (s.u 0).a (s.u 0).n (s.u 0).c, .slice (s.u 1).a (s.u 1).n (s.u 1).c, .slice (s.u 2).a (s.u 2).n (s.u 2).c, .slice s.c.a s.c.n s.c.c])] W fun e w' => ∃ A' C', e = .returned (.slice A' (K + 1) C') ∧ Below W.heap.size W w') (hn : n ≤ 9223372036854775807) (hz : Cl.Sz w) (hp : Hp w w.heap.size s d) (hl : Ls.LRow w w.heap.size A n U F) : Calls Tryd.prog 3 #[(.agg #[.slice s.w.a s.w.n s.w.c, .slice s.p.a s.p.n s.p.c, .slice (s.u 0).a (s.u 0).n (s.u 0).c, .slice (s.u 1).a (s.u 1).n (s.u 1).c, .slice (s.u 2).a (s.u 2).n (s.u 2).c, .slice s.c.a s.c.n s.c.c]), .slice A n c, .int .i64 a] w fun e w' => e = .returned (.bool true) ∧ Below w.heap.size w w' := by
  have HZ := Lib.hid hz
  have hz0 := hz.pos
  have HP := Lib.hid hp
  have HL := Lib.hid hl
  have HF := Lib.hid hf
  have HWH := Lib.hid hwh
  have FR := Lib.hid hfr
  have FL := Lib.hid hfl
  have HWF := Lib.hid hwf
  have HKF := Lib.hid hkf
  have HUF := Lib.hid huf
  have HWB := Lib.hid hwb
  have HKB := Lib.hid hkb
  have HUB := Lib.hid hub
  clear hwb hkb hub
  clear hz hp hl hf hwh hfr hfl hkf huf
  go_enter Tryd.func3, Tryd.ntmps3
  go_wp2_with fail
  obtain ⟨W1, hW1⟩ : ∃ W1, W1 = w.alloc (.cells #[.slice s.w.a s.w.n s.w.c, .slice s.p.a s.p.n s.p.c, .slice (s.u 0).a (s.u 0).n (s.u 0).c, .slice (s.u 1).a (s.u 1).n (s.u 1).c, .slice (s.u 2).a (s.u 2).n (s.u 2).c, .slice s.c.a s.c.n s.c.c] 28) := ⟨_, rfl⟩
  have L1 := Lib.hid (lx_start HP.out HL.out hW1)
  rw [← hW1]
  clear hW1
  refine (Rp.awake_any W1 (HZ.out.over L1.out.bel hz0)).mono ?_
  rintro e9 w1 ⟨rfl, hb1⟩
  have L2 := Lib.hid (L1.out.next hb1)
  clear hb1 L1
  have q0 := (L2.out.at (w.heap.size) (s) (d) (by simp)).c0
  have q1 := (L2.out.at (w.heap.size) (s) (d) (by simp)).c1
  have q2 := (L2.out.at (w.heap.size) (s) (d) (by simp)).c2
  have q3 := (L2.out.at (w.heap.size) (s) (d) (by simp)).c3
  have q4 := (L2.out.at (w.heap.size) (s) (d) (by simp)).c4
  have q5 := (L2.out.at (w.heap.size) (s) (d) (by simp)).c5
  have ql := (L2.out.at (w.heap.size) (s) (d) (by simp)).lt
  go_wp2_with fail
  refine (few9_any s A _ c U F w1 hn L2.out.lr).mono ?_
  rw [HF.out]
  rintro e9 w2 ⟨rfl, hb2⟩
  have L3 := Lib.hid (L2.out.next hb2)
  clear hb2 L2
  clear q0 q1 q2 q3 q4 q5 ql
  have d1 : decide ((n : Int) < 1) = false := by simp; omega
  have q0 := (L3.out.at (w.heap.size) (s) (d) (by simp)).c0
  have q1 := (L3.out.at (w.heap.size) (s) (d) (by simp)).c1
  have q2 := (L3.out.at (w.heap.size) (s) (d) (by simp)).c2
  have q3 := (L3.out.at (w.heap.size) (s) (d) (by simp)).c3
  have q4 := (L3.out.at (w.heap.size) (s) (d) (by simp)).c4
  have q5 := (L3.out.at (w.heap.size) (s) (d) (by simp)).c5
  have ql := (L3.out.at (w.heap.size) (s) (d) (by simp)).lt
  go_wp2_with fail
  refine (HWH.out w2 L3.out).mono ?_
  rintro e9 w3 ⟨rfl, hb9⟩
  have L4 := Lib.hid (L3.out.next hb9)
  clear hb9 L3
  clear q0 q1 q2 q3 q4 q5 ql
  have q0 := (L4.out.at (w.heap.size) (s) (d) (by simp)).c0
  have q1 := (L4.out.at (w.heap.size) (s) (d) (by simp)).c1
  have q2 := (L4.out.at (w.heap.size) (s) (d) (by simp)).c2
  have q3 := (L4.out.at (w.heap.size) (s) (d) (by simp)).c3
  have q4 := (L4.out.at (w.heap.size) (s) (d) (by simp)).c4
  have q5 := (L4.out.at (w.heap.size) (s) (d) (by simp)).c5
  have ql := (L4.out.at (w.heap.size) (s) (d) (by simp)).lt
  go_wp2_with fail
  refine (FR.out w3 L4.out).mono ?_
  rintro e9 w9 ⟨t0, rfl, hp9, hl9, hb9⟩
  have L5 := Lib.hid (L4.out.add (nw_new (ty := 28) hb9 hp9))
  have HTL := Lib.hid hl9
  clear hl9 hp9 hb9 L4 FR
  clear q0 q1 q2 q3 q4 q5 ql
  go_upto_region 6 with fail
  obtain ⟨wd, hwf0⟩ : ∃ W, W = w9.alloc (.cells #[.slice t0.w.a t0.w.n t0.w.c, .slice t0.p.a t0.p.n t0.p.c, .slice (t0.u 0).a (t0.u 0).n (t0.u 0).c, .slice (t0.u 1).a (t0.u 1).n (t0.u 1).c, .slice (t0.u 2).a (t0.u 2).n (t0.u 2).c, .slice t0.c.a t0.c.n t0.c.c] 28) := ⟨_, rfl⟩
  obtain ⟨b0, hb0⟩ : ∃ b, b = w9.heap.size := ⟨_, rfl⟩
  rw [← hwf0, ← hb0] at L5 ⊢
  clear hwf0 hb0
  have HST : Hid (Lx w wd A n U F [(b0, t0, dB), (w.heap.size, s, d)] ∧ True) := Lib.hid ⟨L5.out, trivial⟩
  have wK : IntKind.i64.wrap (K : Int) = K := by simp [IntKind.wrap, IntKind.signed, IntKind.bits]; omega
  have dK : ((K : Int) != K) = false := by simp
  clear L5
  go_region_held3 (fun W => (Lx w W A n U F [(b0, t0, dB), (w.heap.size, s, d)] ∧ True) ∧ (b0 < W.heap.size ∧ W.cell? ⟨b0, 0, none⟩ = some (.slice t0.w.a t0.w.n t0.w.c) ∧ W.cell? ⟨b0, 1, none⟩ = some (.slice t0.p.a t0.p.n t0.p.c) ∧ W.cell? ⟨b0, 2, none⟩ = some (.slice (t0.u 0).a (t0.u 0).n (t0.u 0).c) ∧ W.cell? ⟨b0, 3, none⟩ = some (.slice (t0.u 1).a (t0.u 1).n (t0.u 1).c) ∧ W.cell? ⟨b0, 4, none⟩ = some (.slice (t0.u 2).a (t0.u 2).n (t0.u 2).c) ∧ W.cell? ⟨b0, 5, none⟩ = some (.slice t0.c.a t0.c.n t0.c.c)) ∧ w.heap.size < W.heap.size ∧ W.cell? ⟨w.heap.size, 0, none⟩ = some (.slice s.w.a s.w.n s.w.c) ∧ W.cell? ⟨w.heap.size, 1, none⟩ = some (.slice s.p.a s.p.n s.p.c) ∧ W.cell? ⟨w.heap.size, 2, none⟩ = some (.slice (s.u 0).a (s.u 0).n (s.u 0).c) ∧ W.cell? ⟨w.heap.size, 3, none⟩ = some (.slice (s.u 1).a (s.u 1).n (s.u 1).c) ∧ W.cell? ⟨w.heap.size, 4, none⟩ = some (.slice (s.u 2).a (s.u 2).n (s.u 2).c) ∧ W.cell? ⟨w.heap.size, 5, none⟩ = some (.slice s.c.a s.c.n s.c.c)) (first
    | exact lx_keep2 (d1 := dB) (d2 := d) (by simp) (by simp) HST.out (below_drawn' (Below.refl _ _) 1)
    | exact lx_keep2 (d1 := dB) (d2 := d) (by simp) (by simp) (‹(Lx w _ A n U F [(b0, t0, dB), (w.heap.size, s, d)] ∧ True) ∧ _›).1 ‹Below _ _ _›) (first
    | ((go_at_call 9; (with_reducible refine (HWB.out _ b0 t0 HTL.out (‹(Lx w _ A n U F [(b0, t0, dB), (w.heap.size, s, d)] ∧ True) ∧ _›).1.1).mono ?_); rintro e9 w8 ⟨rfl, hb8⟩))
    | ((go_at_call 11; (with_reducible refine (HKB.out _ b0 t0 HTL.out (‹(Lx w _ A n U F [(b0, t0, dB), (w.heap.size, s, d)] ∧ True) ∧ _›).1.1).mono ?_); rintro e9 w8 ⟨rfl, hb8⟩))
    | ((go_at_call 12; (with_reducible refine ((HUB.out _ b0 t0 HTL.out (‹(Lx w _ A n U F [(b0, t0, dB), (w.heap.size, s, d)] ∧ True) ∧ _›).1.1).1).mono ?_); rintro e9 w8 ⟨A8, C8, rfl, hb8⟩))
    | ((go_at_call 12; (with_reducible refine ((HUB.out _ b0 t0 HTL.out (‹(Lx w _ A n U F [(b0, t0, dB), (w.heap.size, s, d)] ∧ True) ∧ _›).1.1).2).mono ?_); rintro e9 w8 ⟨A8, C8, rfl, hb8⟩)))
  have L5 := Lib.hid (‹(Lx w w8 A n U F [(b0, t0, dB), (w.heap.size, s, d)] ∧ True) ∧ _›).1.1
  have LL := Lib.hid (show Lx w w8 A n U F [(w.heap.size, s, d)] from ⟨L5.out.bel, L5.out.lr, fun x hx => L5.out.h x (List.mem_cons_of_mem _ hx)⟩)
  clear L5 HST HTL wK dK HWB HKB HUB
  have hlb : Hid (Ls.LRow w8 w8.heap.size A n U F) := Lib.hid LL.out.lr
  obtain ⟨bb, off, hA, hbl, hcl⟩ := hlb.out hn1
  subst hA
  clear hcl hbl hlb
  have i0 : (0 : Int) < n := by omega
  have HU := Lib.hid hu
  clear hu
  go_upto_region 8 with fail
  go_cut [11, 12] from 11 to 73 (fun p ee wx => ee = .int .i64 0 ∧ ∃ bc t, p = .pointer (some ⟨bc, 0, none⟩) ∧ Hid ((t.w.n = s.w.n ∧ t.p.n = s.p.n ∧ t.c.n = s.c.n) ∧ Lx w wx (some ⟨bb, off, none⟩) n U F [(bc, t, dF), (w.heap.size, s, d)]))
  case first =>
    go_region_held3 (fun W => (Below w8.heap.size w8 W ∧ True) ∧ (w.heap.size < W.heap.size ∧ W.cell? ⟨w.heap.size, 0, none⟩ = some (.slice s.w.a s.w.n s.w.c) ∧ W.cell? ⟨w.heap.size, 1, none⟩ = some (.slice s.p.a s.p.n s.p.c) ∧ W.cell? ⟨w.heap.size, 2, none⟩ = some (.slice (s.u 0).a (s.u 0).n (s.u 0).c) ∧ W.cell? ⟨w.heap.size, 3, none⟩ = some (.slice (s.u 1).a (s.u 1).n (s.u 1).c) ∧ W.cell? ⟨w.heap.size, 4, none⟩ = some (.slice (s.u 2).a (s.u 2).n (s.u 2).c) ∧ W.cell? ⟨w.heap.size, 5, none⟩ = some (.slice s.c.a s.c.n s.c.c)) ∧ bb < W.heap.size ∧ W.cell? ⟨bb, off, none⟩ = some (.slice (u 0).a (u 0).n (u 0).c) ∧ W.cell? ⟨bb, off + 1, none⟩ = some (.slice (u 1).a (u 1).n (u 1).c) ∧ W.cell? ⟨bb, off + 2, none⟩ = some (.slice (u 2).a (u 2).n (u 2).c)) (((with_reducible refine lx_keepF (b1 := w.heap.size) (t1 := s) (d1 := d) u (by simp) LL.out hn1 HU.out ?_); repeat' (first | with_reducible exact H4.out | with_reducible exact Below.refl _ _ | with_reducible refine bl_set ?_ ?_ _ | with_reducible refine bl_alloc ?_ _ | with_reducible refine bl_drew ?_ | with_reducible exact Nat.le_refl _ | with_reducible exact Nat.le_succ _ | omega))) (first
      | ((go_at_call 13; (with_reducible refine (FL.out (World.drew w8) (LL.out.next (bl_drew (Below.refl _ _))).bel (LL.out.next (bl_drew (Below.refl _ _)))).mono ?_); rintro e9 w4 ⟨⟨⟨A1, m1, D1⟩, ⟨A2, m2, D2⟩, t4, ⟨A3, m3, D3⟩⟩, rfl, ht, hnn, hb4⟩; dsimp only; have H4 := Lib.hid (bl_call (bl_drew (Below.refl _ _)) hb4); have T4 := Lib.hid ht; have N4 := Lib.hid hnn; clear ht hb4 hnn))
      | ((go_at_call 13; (with_reducible refine (FL.out (World.drew (World.alloc w8 (.cells #[.slice none 0 0, .slice none 0 0, .slice none 0 0, .slice none 0 0, .slice none 0 0, .slice none 0 0] 28))) (LL.out.next (bl_drew (bl_alloc (Below.refl _ _) _))).bel (LL.out.next (bl_drew (bl_alloc (Below.refl _ _) _)))).mono ?_); rintro e9 w4 ⟨⟨⟨A1, m1, D1⟩, ⟨A2, m2, D2⟩, t4, ⟨A3, m3, D3⟩⟩, rfl, ht, hnn, hb4⟩; dsimp only; have H4 := Lib.hid (bl_call (bl_drew (bl_alloc (Below.refl _ _) _)) hb4); have T4 := Lib.hid ht; have N4 := Lib.hid hnn; have O6 := Lib.hid (old_rm hb4); obtain ⟨z, ⟨xa0, xa1, xa2, xa3, xa4, xa5⟩, ya0, ya1, ya2, ya3, ya4, ya5⟩ := old_cells O6.out; clear ht hb4 hnn)))
    all_goals go_wp2_with fail
    all_goals go_meet
    all_goals first
      | with_reducible exact ⟨rfl, _, ⟨⟨A1, m1, D1⟩, ⟨A2, m2, D2⟩, t4, ⟨A3, m3, D3⟩⟩, rfl, Lib.hid ⟨N4.out, LL.out.add (nw_new (t := ⟨⟨A1, m1, D1⟩, ⟨A2, m2, D2⟩, t4, ⟨A3, m3, D3⟩⟩) H4.out T4.out)⟩⟩
      | with_reducible exact ⟨rfl, _, ⟨⟨A1, m1, D1⟩, ⟨A2, m2, D2⟩, t4, ⟨A3, m3, D3⟩⟩, rfl, Lib.hid ⟨N4.out, LL.out.add (nw_put (t := ⟨⟨A1, m1, D1⟩, ⟨A2, m2, D2⟩, t4, ⟨A3, m3, D3⟩⟩) H4.out T4.out O6.out)⟩⟩
  case rest =>
    obtain ⟨rfl, bc, t, rfl, HT⟩ := hcut
    clear LL FL
    have i1 : (1 : Int) ≤ n := by omega
    have HST : Hid (Lx w wc (some ⟨bb, off, none⟩) n U F [(bc, t, dF), (w.heap.size, s, d)] ∧ True) := Lib.hid ⟨HT.out.2, trivial⟩
    have HTL := Lib.hid HT.out.1
    clear HT
    go_wp2_with fail
    generalize wc = wg at HST ⊢
    rcases (show c = 1 ∨ ¬ c = 1 by omega) with hc1 | hc1
    · subst hc1
      go_region_held3 (fun W => (Lx w W (some ⟨bb, off, none⟩) n U F [(bc, t, dF), (w.heap.size, s, d)] ∧ True) ∧ (bc < W.heap.size ∧ W.cell? ⟨bc, 0, none⟩ = some (.slice t.w.a t.w.n t.w.c) ∧ W.cell? ⟨bc, 1, none⟩ = some (.slice t.p.a t.p.n t.p.c) ∧ W.cell? ⟨bc, 2, none⟩ = some (.slice (t.u 0).a (t.u 0).n (t.u 0).c) ∧ W.cell? ⟨bc, 3, none⟩ = some (.slice (t.u 1).a (t.u 1).n (t.u 1).c) ∧ W.cell? ⟨bc, 4, none⟩ = some (.slice (t.u 2).a (t.u 2).n (t.u 2).c) ∧ W.cell? ⟨bc, 5, none⟩ = some (.slice t.c.a t.c.n t.c.c)) ∧ w.heap.size < W.heap.size ∧ W.cell? ⟨w.heap.size, 0, none⟩ = some (.slice s.w.a s.w.n s.w.c) ∧ W.cell? ⟨w.heap.size, 1, none⟩ = some (.slice s.p.a s.p.n s.p.c) ∧ W.cell? ⟨w.heap.size, 2, none⟩ = some (.slice (s.u 0).a (s.u 0).n (s.u 0).c) ∧ W.cell? ⟨w.heap.size, 3, none⟩ = some (.slice (s.u 1).a (s.u 1).n (s.u 1).c) ∧ W.cell? ⟨w.heap.size, 4, none⟩ = some (.slice (s.u 2).a (s.u 2).n (s.u 2).c) ∧ W.cell? ⟨w.heap.size, 5, none⟩ = some (.slice s.c.a s.c.n s.c.c)) (first
        | exact lx_keep2 (d1 := dF) (d2 := d) (by simp) (by simp) HST.out (below_drawn' (Below.refl _ _) 1)
        | exact lx_keep2 (d1 := dF) (d2 := d) (by simp) (by simp) (‹(Lx w _ _ n U F [(bc, t, dF), (w.heap.size, s, d)] ∧ True) ∧ _›).1 ‹Below _ _ _›) (first
        | ((go_at_call 9; (with_reducible refine (HWF.out _ bc t bb off rfl HTL.out (‹(Lx w _ _ n U F [(bc, t, dF), (w.heap.size, s, d)] ∧ True) ∧ _›).1.1 _ _ _ ?_ ?_).mono ?_); (first | rfl | omega); (first | exact fun _ => rfl | (intro h0; exact absurd h0 (by omega))); rintro e9 w8 ⟨rfl, hb8⟩))
        | ((go_at_call 11; (with_reducible refine (HKF.out _ bc t HTL.out (‹(Lx w _ _ n U F [(bc, t, dF), (w.heap.size, s, d)] ∧ True) ∧ _›).1.1).mono ?_); rintro e9 w8 ⟨rfl, hb8⟩))
        | ((go_at_call 12; (with_reducible refine ((HUF.out _ bc t HTL.out (‹(Lx w _ _ n U F [(bc, t, dF), (w.heap.size, s, d)] ∧ True) ∧ _›).1.1).1).mono ?_); rintro e9 w8 ⟨A8, C8, rfl, hb8⟩))
        | ((go_at_call 12; (with_reducible refine ((HUF.out _ bc t HTL.out (‹(Lx w _ _ n U F [(bc, t, dF), (w.heap.size, s, d)] ∧ True) ∧ _›).1.1).2).mono ?_); rintro e9 w8 ⟨A8, C8, rfl, hb8⟩)))
      have HE := Lib.hid (‹(Lx w w8 _ n U F [(bc, t, dF), (w.heap.size, s, d)] ∧ True) ∧ _›).1.1
      clear HST
      go_wp2
      go_ret
      exact ⟨rfl, HE.out.bel⟩
    · go_region_held3 (fun W => (Lx w W (some ⟨bb, off, none⟩) n U F [(bc, t, dF), (w.heap.size, s, d)] ∧ True) ∧ (bc < W.heap.size ∧ W.cell? ⟨bc, 0, none⟩ = some (.slice t.w.a t.w.n t.w.c) ∧ W.cell? ⟨bc, 1, none⟩ = some (.slice t.p.a t.p.n t.p.c) ∧ W.cell? ⟨bc, 2, none⟩ = some (.slice (t.u 0).a (t.u 0).n (t.u 0).c) ∧ W.cell? ⟨bc, 3, none⟩ = some (.slice (t.u 1).a (t.u 1).n (t.u 1).c) ∧ W.cell? ⟨bc, 4, none⟩ = some (.slice (t.u 2).a (t.u 2).n (t.u 2).c) ∧ W.cell? ⟨bc, 5, none⟩ = some (.slice t.c.a t.c.n t.c.c)) ∧ w.heap.size < W.heap.size ∧ W.cell? ⟨w.heap.size, 0, none⟩ = some (.slice s.w.a s.w.n s.w.c) ∧ W.cell? ⟨w.heap.size, 1, none⟩ = some (.slice s.p.a s.p.n s.p.c) ∧ W.cell? ⟨w.heap.size, 2, none⟩ = some (.slice (s.u 0).a (s.u 0).n (s.u 0).c) ∧ W.cell? ⟨w.heap.size, 3, none⟩ = some (.slice (s.u 1).a (s.u 1).n (s.u 1).c) ∧ W.cell? ⟨w.heap.size, 4, none⟩ = some (.slice (s.u 2).a (s.u 2).n (s.u 2).c) ∧ W.cell? ⟨w.heap.size, 5, none⟩ = some (.slice s.c.a s.c.n s.c.c)) (first
        | exact lx_keep2 (d1 := dF) (d2 := d) (by simp) (by simp) HST.out (below_drawn' (Below.refl _ _) 1)
        | exact lx_keep2 (d1 := dF) (d2 := d) (by simp) (by simp) (‹(Lx w _ _ n U F [(bc, t, dF), (w.heap.size, s, d)] ∧ True) ∧ _›).1 ‹Below _ _ _›) (first
        | ((go_at_call 9; (with_reducible refine (HWF.out _ bc t bb off rfl HTL.out (‹(Lx w _ _ n U F [(bc, t, dF), (w.heap.size, s, d)] ∧ True) ∧ _›).1.1 _ _ _ ?_ ?_).mono ?_); (first | rfl | omega); (first | exact fun _ => rfl | (intro h0; exact absurd h0 (by omega))); rintro e9 w8 ⟨rfl, hb8⟩))
        | ((go_at_call 11; (with_reducible refine (HKF.out _ bc t HTL.out (‹(Lx w _ _ n U F [(bc, t, dF), (w.heap.size, s, d)] ∧ True) ∧ _›).1.1).mono ?_); rintro e9 w8 ⟨rfl, hb8⟩))
        | ((go_at_call 12; (with_reducible refine ((HUF.out _ bc t HTL.out (‹(Lx w _ _ n U F [(bc, t, dF), (w.heap.size, s, d)] ∧ True) ∧ _›).1.1).1).mono ?_); rintro e9 w8 ⟨A8, C8, rfl, hb8⟩))
        | ((go_at_call 12; (with_reducible refine ((HUF.out _ bc t HTL.out (‹(Lx w _ _ n U F [(bc, t, dF), (w.heap.size, s, d)] ∧ True) ∧ _›).1.1).2).mono ?_); rintro e9 w8 ⟨A8, C8, rfl, hb8⟩)))
      have HE := Lib.hid (‹(Lx w w8 _ n U F [(bc, t, dF), (w.heap.size, s, d)] ∧ True) ∧ _›).1.1
      clear HST
      go_wp2
      go_ret
      exact ⟨rfl, HE.out.bel⟩
end
end Go.Proofs.YtcbnefjfoeanoaaDoor.ReapKeeps
