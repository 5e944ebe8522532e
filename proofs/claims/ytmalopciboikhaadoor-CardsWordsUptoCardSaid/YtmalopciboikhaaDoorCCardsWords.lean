/-
  CardsWords: what is dirtied, or cleaned, changes no object, no page, and no free cell; a heap that may be stays so, and is whole as it was: for every heap of at most 9 pages and 130 words, and at most four caches; the table of sizes is tied to the program's text by the card.
-/
import Derived.Test.YtmalopciboikhaaDoorHpCG
import Derived.Test.YtmalopciboikhaaDoorHpCH
import Derived.Test.YtmalopciboikhaaDoorHpCE
import Derived.Deep.DeepHandedRow
import Derived.Deep.DeepWitnessRowRef
namespace Go.Proofs.YtmalopciboikhaaDoor.CardsWords
open Go.Proofs.YtmalopciboikhaaDoor Go.Proofs.YtmalopciboikhaaDoor.Ck
open Go.ChangeShapes Go.WideShapes Go.ChangeAt Go.RowKit
set_option maxRecDepth 100000

section
variable (s : Hs) (d : Hd_) (A : Option Addr) (n c : Nat) (U : Nat → Nat → Ls.Sl) (F : Nat → Nat → List Int) (a k : Int) (w : World)
set_option maxHeartbeats 1000000 in
theorem walk_few (hf : fewH s = false) (hz : Cl.Sz w) (hp : Hp w w.heap.size s d) (hl : Ls.LRow w w.heap.size A n U F) : Calls Tryd.prog 6 #[(.agg #[.slice s.w.a s.w.n s.w.c, .slice s.p.a s.p.n s.p.c, .slice (s.u 0).a (s.u 0).n (s.u 0).c, .slice (s.u 1).a (s.u 1).n (s.u 1).c, .slice (s.u 2).a (s.u 2).n (s.u 2).c, .slice s.c.a s.c.n s.c.c]), .slice A n c, .int .i64 a, .int .i64 k] w fun e w' => e = .returned (.bool true) ∧ Below w.heap.size w w' := by
  have HZ := Lib.hid hz
  have hz0 := hz.pos
  have HP := Lib.hid hp
  have HF := Lib.hid hf
  have HL := Lib.hid hl
  clear hz hp hf hl
  go_enter Tryd.func6, Tryd.ntmps6
  go_wp2_with fail
  obtain ⟨W1, hW1⟩ : ∃ W1, W1 = w.alloc (.cells #[.slice s.w.a s.w.n s.w.c, .slice s.p.a s.p.n s.p.c, .slice (s.u 0).a (s.u 0).n (s.u 0).c, .slice (s.u 1).a (s.u 1).n (s.u 1).c, .slice (s.u 2).a (s.u 2).n (s.u 2).c, .slice s.c.a s.c.n s.c.c] 28) := ⟨_, rfl⟩
  have L1 := Lib.hid (lx_start (A := A) (n := n) (U := U) (F := F) HP.out HL.out hW1)
  rw [← hW1]
  clear hW1
  refine (Ck.awake_any W1 (HZ.out.over L1.out.bel hz0)).mono ?_
  rintro e9 w1 ⟨rfl, hb1⟩
  have L2 := Lib.hid (L1.out.next hb1)
  clear hb1 L1
  have q0 := (L2.out.at (w.heap.size) (s) (d) (by simp)).c0
  have q1 := (L2.out.at (w.heap.size) (s) (d) (by simp)).c1
  have q2 := (L2.out.at (w.heap.size) (s) (d) (by simp)).c2
  have q3 := (L2.out.at (w.heap.size) (s) (d) (by simp)).c3
  have q4 := (L2.out.at (w.heap.size) (s) (d) (by simp)).c4
  have q5 := (L2.out.at (w.heap.size) (s) (d) (by simp)).c5
  have ql := (L2.out.at (w.heap.size) (s) (d) (by simp)).lt
  go_wp2_with fail
  refine (rfew_any s w1).mono ?_
  rw [HF.out]
  rintro e9 w2 ⟨rfl, hb2⟩
  have L3 := Lib.hid (L2.out.next hb2)
  clear hb2 L2
  clear q0 q1 q2 q3 q4 q5 ql
  go_wp2
  go_ret
  exact ⟨rfl, L3.out.bel⟩
set_option maxHeartbeats 1000000 in
theorem walk_many (hf : fewH s = true) (h4 : 4 < n) (hn : n ≤ maxLen) (hz : Cl.Sz w) (hp : Hp w w.heap.size s d) (hl : Ls.LRow w w.heap.size A n U F) : Calls Tryd.prog 6 #[(.agg #[.slice s.w.a s.w.n s.w.c, .slice s.p.a s.p.n s.p.c, .slice (s.u 0).a (s.u 0).n (s.u 0).c, .slice (s.u 1).a (s.u 1).n (s.u 1).c, .slice (s.u 2).a (s.u 2).n (s.u 2).c, .slice s.c.a s.c.n s.c.c]), .slice A n c, .int .i64 a, .int .i64 k] w fun e w' => e = .returned (.bool true) ∧ Below w.heap.size w w' := by
  have hn2 : n ≤ 9223372036854775807 := by unfold maxLen at hn; omega
  have g4 : decide (4 < (n : Int)) = true := by simp; omega
  have g5 : decide (4 < n) = true := by simp; omega
  have HZ := Lib.hid hz
  have hz0 := hz.pos
  have HP := Lib.hid hp
  have HF := Lib.hid hf
  have HL := Lib.hid hl
  clear hz hp hf hl hn
  go_enter Tryd.func6, Tryd.ntmps6
  go_wp2_with fail
  obtain ⟨W1, hW1⟩ : ∃ W1, W1 = w.alloc (.cells #[.slice s.w.a s.w.n s.w.c, .slice s.p.a s.p.n s.p.c, .slice (s.u 0).a (s.u 0).n (s.u 0).c, .slice (s.u 1).a (s.u 1).n (s.u 1).c, .slice (s.u 2).a (s.u 2).n (s.u 2).c, .slice s.c.a s.c.n s.c.c] 28) := ⟨_, rfl⟩
  have L1 := Lib.hid (lx_start (A := A) (n := n) (U := U) (F := F) HP.out HL.out hW1)
  rw [← hW1]
  clear hW1
  refine (Ck.awake_any W1 (HZ.out.over L1.out.bel hz0)).mono ?_
  rintro e9 w1 ⟨rfl, hb1⟩
  have L2 := Lib.hid (L1.out.next hb1)
  clear hb1 L1
  have q0 := (L2.out.at (w.heap.size) (s) (d) (by simp)).c0
  have q1 := (L2.out.at (w.heap.size) (s) (d) (by simp)).c1
  have q2 := (L2.out.at (w.heap.size) (s) (d) (by simp)).c2
  have q3 := (L2.out.at (w.heap.size) (s) (d) (by simp)).c3
  have q4 := (L2.out.at (w.heap.size) (s) (d) (by simp)).c4
  have q5 := (L2.out.at (w.heap.size) (s) (d) (by simp)).c5
  have ql := (L2.out.at (w.heap.size) (s) (d) (by simp)).lt
  go_wp2_with fail
  refine (rfew_any s w1).mono ?_
  rw [HF.out]
  rintro e9 w2 ⟨rfl, hb2⟩
  have L3 := Lib.hid (L2.out.next hb2)
  clear hb2 L2
  clear q0 q1 q2 q3 q4 q5 ql
  go_wp2
  go_ret
  exact ⟨rfl, L3.out.bel⟩
set_option maxHeartbeats 8000000 in
theorem core_no_no (d1 d2 : Hd_) (h4 : n ≤ 4) (er : Int) (he : ¬ er = 0) (fr : Int) (hfr : ¬ fr = 0) (hf : fewH s = true) (hD : ∀ W, Lx w W A n U F [(w.heap.size, s, d)] → Calls Tryd.prog 12 #[(.agg #[.slice s.w.a s.w.n s.w.c, .slice s.p.a s.p.n s.p.c, .slice (s.u 0).a (s.u 0).n (s.u 0).c, .slice (s.u 1).a (s.u 1).n (s.u 1).c, .slice (s.u 2).a (s.u 2).n (s.u 2).c, .slice s.c.a s.c.n s.c.c]), .int .i64 a] W fun e w' => ∃ t : Hs, e = .returned (.tuple #[(.agg #[.slice t.w.a t.w.n t.w.c, .slice t.p.a t.p.n t.p.c, .slice (t.u 0).a (t.u 0).n (t.u 0).c, .slice (t.u 1).a (t.u 1).n (t.u 1).c, .slice (t.u 2).a (t.u 2).n (t.u 2).c, .slice t.c.a t.c.n t.c.c]), .int .i64 er]) ∧ Hp w' w'.heap.size t d1 ∧ True ∧ Below W.heap.size W w') (hC : ∀ W b1 t1, Lx w W A n U F [(b1, t1, d1), (w.heap.size, s, d)] → Calls Tryd.prog 13 #[(.agg #[.slice s.w.a s.w.n s.w.c, .slice s.p.a s.p.n s.p.c, .slice (s.u 0).a (s.u 0).n (s.u 0).c, .slice (s.u 1).a (s.u 1).n (s.u 1).c, .slice (s.u 2).a (s.u 2).n (s.u 2).c, .slice s.c.a s.c.n s.c.c]), .int .i64 k] W fun e w' => ∃ t : Hs, e = .returned (.tuple #[(.agg #[.slice t.w.a t.w.n t.w.c, .slice t.p.a t.p.n t.p.c, .slice (t.u 0).a (t.u 0).n (t.u 0).c, .slice (t.u 1).a (t.u 1).n (t.u 1).c, .slice (t.u 2).a (t.u 2).n (t.u 2).c, .slice t.c.a t.c.n t.c.c]), .int .i64 fr]) ∧ Hp w' w'.heap.size t d2 ∧ True ∧ Below W.heap.size W w') (hz : Cl.Sz w) (hp : Hp w w.heap.size s d) (hl : Ls.LRow w w.heap.size A n U F) : Calls Tryd.prog 6 #[(.agg #[.slice s.w.a s.w.n s.w.c, .slice s.p.a s.p.n s.p.c, .slice (s.u 0).a (s.u 0).n (s.u 0).c, .slice (s.u 1).a (s.u 1).n (s.u 1).c, .slice (s.u 2).a (s.u 2).n (s.u 2).c, .slice s.c.a s.c.n s.c.c]), .slice A n c, .int .i64 a, .int .i64 k] w fun e w' => e = .returned (.bool true) ∧ Below w.heap.size w w' := by
  have g4 : decide (4 < (n : Int)) = false := by simp; omega
  have g5 : decide (4 < n) = false := by simp; omega
  have HZ := Lib.hid hz
  have hz0 := hz.pos
  have HP := Lib.hid hp
  have HF := Lib.hid hf
  have HL := Lib.hid hl
  have DX := Lib.hid hD
  have CX := Lib.hid hC
  have e1 : (er != 0) = true := by simp [he]
  have e2 : (fr != 0) = true := by simp [hfr]
  clear hz hp hf hl hD hC he hfr
  go_enter Tryd.func6, Tryd.ntmps6
  go_wp2_with fail
  obtain ⟨W1, hW1⟩ : ∃ W1, W1 = w.alloc (.cells #[.slice s.w.a s.w.n s.w.c, .slice s.p.a s.p.n s.p.c, .slice (s.u 0).a (s.u 0).n (s.u 0).c, .slice (s.u 1).a (s.u 1).n (s.u 1).c, .slice (s.u 2).a (s.u 2).n (s.u 2).c, .slice s.c.a s.c.n s.c.c] 28) := ⟨_, rfl⟩
  have L1 := Lib.hid (lx_start (A := A) (n := n) (U := U) (F := F) HP.out HL.out hW1)
  rw [← hW1]
  clear hW1
  refine (Ck.awake_any W1 (HZ.out.over L1.out.bel hz0)).mono ?_
  rintro e9 w1 ⟨rfl, hb1⟩
  have L2 := Lib.hid (L1.out.next hb1)
  clear hb1 L1
  have q0 := (L2.out.at (w.heap.size) (s) (d) (by simp)).c0
  have q1 := (L2.out.at (w.heap.size) (s) (d) (by simp)).c1
  have q2 := (L2.out.at (w.heap.size) (s) (d) (by simp)).c2
  have q3 := (L2.out.at (w.heap.size) (s) (d) (by simp)).c3
  have q4 := (L2.out.at (w.heap.size) (s) (d) (by simp)).c4
  have q5 := (L2.out.at (w.heap.size) (s) (d) (by simp)).c5
  have ql := (L2.out.at (w.heap.size) (s) (d) (by simp)).lt
  go_wp2_with fail
  refine (rfew_any s w1).mono ?_
  rw [HF.out]
  rintro e9 w2 ⟨rfl, hb2⟩
  have L3 := Lib.hid (L2.out.next hb2)
  clear hb2 L2
  clear q0 q1 q2 q3 q4 q5 ql
  have q0 := (L3.out.at (w.heap.size) (s) (d) (by simp)).c0
  have q1 := (L3.out.at (w.heap.size) (s) (d) (by simp)).c1
  have q2 := (L3.out.at (w.heap.size) (s) (d) (by simp)).c2
  have q3 := (L3.out.at (w.heap.size) (s) (d) (by simp)).c3
  have q4 := (L3.out.at (w.heap.size) (s) (d) (by simp)).c4
  have q5 := (L3.out.at (w.heap.size) (s) (d) (by simp)).c5
  have ql := (L3.out.at (w.heap.size) (s) (d) (by simp)).lt
  go_wp2_with fail
  refine (DX.out w2 L3.out).mono ?_
  rintro e9 w9 ⟨t1, rfl, hp9, hl9, hb9⟩
  have L4 := Lib.hid (L3.out.add (nw_new (ty := 28) hb9 hp9))
  have N1 := Lib.hid hl9
  clear hp9 hb9 hl9 L3
  clear q0 q1 q2 q3 q4 q5 ql
  go_upto_region 6 with fail
  obtain ⟨v4, h0⟩ : ∃ W, W = w9.alloc (.cells #[.slice t1.w.a t1.w.n t1.w.c, .slice t1.p.a t1.p.n t1.p.c, .slice (t1.u 0).a (t1.u 0).n (t1.u 0).c, .slice (t1.u 1).a (t1.u 1).n (t1.u 1).c, .slice (t1.u 2).a (t1.u 2).n (t1.u 2).c, .slice t1.c.a t1.c.n t1.c.c] 28) := ⟨_, rfl⟩
  obtain ⟨b1, h1⟩ : ∃ b, b = w9.heap.size := ⟨_, rfl⟩
  rw [← h0, ← h1] at L4
  rw [← h0, ← h1]
  clear h0 h1
  have q0 := (L4.out.at (w.heap.size) (s) (d) (by simp)).c0
  have q1 := (L4.out.at (w.heap.size) (s) (d) (by simp)).c1
  have q2 := (L4.out.at (w.heap.size) (s) (d) (by simp)).c2
  have q3 := (L4.out.at (w.heap.size) (s) (d) (by simp)).c3
  have q4 := (L4.out.at (w.heap.size) (s) (d) (by simp)).c4
  have q5 := (L4.out.at (w.heap.size) (s) (d) (by simp)).c5
  have ql := (L4.out.at (w.heap.size) (s) (d) (by simp)).lt
  go_wp2_with fail
  refine (CX.out v4 b1 t1 L4.out).mono ?_
  rintro e9 w9 ⟨t2, rfl, hp9, hl9, hb9⟩
  have L5 := Lib.hid (L4.out.add (nw_new (ty := 28) hb9 hp9))
  have N2 := Lib.hid hl9
  clear hp9 hb9 hl9 L4
  clear q0 q1 q2 q3 q4 q5 ql
  go_upto_region 7 with fail
  obtain ⟨v5, h0⟩ : ∃ W, W = w9.alloc (.cells #[.slice t2.w.a t2.w.n t2.w.c, .slice t2.p.a t2.p.n t2.p.c, .slice (t2.u 0).a (t2.u 0).n (t2.u 0).c, .slice (t2.u 1).a (t2.u 1).n (t2.u 1).c, .slice (t2.u 2).a (t2.u 2).n (t2.u 2).c, .slice t2.c.a t2.c.n t2.c.c] 28) := ⟨_, rfl⟩
  obtain ⟨b2, h1⟩ : ∃ b, b = w9.heap.size := ⟨_, rfl⟩
  rw [← h0, ← h1] at L5
  rw [← h0, ← h1]
  clear h0 h1
  have q0 := (L5.out.at (w.heap.size) (s) (d) (by simp)).c0
  have q1 := (L5.out.at (w.heap.size) (s) (d) (by simp)).c1
  have q2 := (L5.out.at (w.heap.size) (s) (d) (by simp)).c2
  have q3 := (L5.out.at (w.heap.size) (s) (d) (by simp)).c3
  have q4 := (L5.out.at (w.heap.size) (s) (d) (by simp)).c4
  have q5 := (L5.out.at (w.heap.size) (s) (d) (by simp)).c5
  have ql := (L5.out.at (w.heap.size) (s) (d) (by simp)).lt
  go_wp2
  go_quiet (fail)
  have L6 := Lib.hid (L5.out.next (below_drawn' (Below.refl _ _) nq))
  clear L5
  clear q0 q1 q2 q3 q4 q5 ql
  generalize v5.drewN nq = v6 at L6 ⊢
  have q0 := (L6.out.at (w.heap.size) (s) (d) (by simp)).c0
  have q1 := (L6.out.at (w.heap.size) (s) (d) (by simp)).c1
  have q2 := (L6.out.at (w.heap.size) (s) (d) (by simp)).c2
  have q3 := (L6.out.at (w.heap.size) (s) (d) (by simp)).c3
  have q4 := (L6.out.at (w.heap.size) (s) (d) (by simp)).c4
  have q5 := (L6.out.at (w.heap.size) (s) (d) (by simp)).c5
  have ql := (L6.out.at (w.heap.size) (s) (d) (by simp)).lt
  go_wp2
  go_quiet (fail)
  have L7 := Lib.hid (L6.out.next (below_drawn' (Below.refl _ _) nq))
  clear L6
  clear q0 q1 q2 q3 q4 q5 ql
  go_wp2
  go_ret
  exact ⟨rfl, L7.out.bel⟩
set_option maxHeartbeats 8000000 in
theorem core_no_ok (d1 d2 : Hd_) (h4 : n ≤ 4) (er : Int) (he : ¬ er = 0) (R : Bool) (hwn : s.w.n ≤ 130) (v2 : d2.ws = d.ws) (hf : fewH s = true) (hD : ∀ W, Lx w W A n U F [(w.heap.size, s, d)] → Calls Tryd.prog 12 #[(.agg #[.slice s.w.a s.w.n s.w.c, .slice s.p.a s.p.n s.p.c, .slice (s.u 0).a (s.u 0).n (s.u 0).c, .slice (s.u 1).a (s.u 1).n (s.u 1).c, .slice (s.u 2).a (s.u 2).n (s.u 2).c, .slice s.c.a s.c.n s.c.c]), .int .i64 a] W fun e w' => ∃ t : Hs, e = .returned (.tuple #[(.agg #[.slice t.w.a t.w.n t.w.c, .slice t.p.a t.p.n t.p.c, .slice (t.u 0).a (t.u 0).n (t.u 0).c, .slice (t.u 1).a (t.u 1).n (t.u 1).c, .slice (t.u 2).a (t.u 2).n (t.u 2).c, .slice t.c.a t.c.n t.c.c]), .int .i64 er]) ∧ Hp w' w'.heap.size t d1 ∧ True ∧ Below W.heap.size W w') (hC : ∀ W b1 t1, Lx w W A n U F [(b1, t1, d1), (w.heap.size, s, d)] → Calls Tryd.prog 13 #[(.agg #[.slice s.w.a s.w.n s.w.c, .slice s.p.a s.p.n s.p.c, .slice (s.u 0).a (s.u 0).n (s.u 0).c, .slice (s.u 1).a (s.u 1).n (s.u 1).c, .slice (s.u 2).a (s.u 2).n (s.u 2).c, .slice s.c.a s.c.n s.c.c]), .int .i64 k] W fun e w' => ∃ t : Hs, e = .returned (.tuple #[(.agg #[.slice t.w.a t.w.n t.w.c, .slice t.p.a t.p.n t.p.c, .slice (t.u 0).a (t.u 0).n (t.u 0).c, .slice (t.u 1).a (t.u 1).n (t.u 1).c, .slice (t.u 2).a (t.u 2).n (t.u 2).c, .slice t.c.a t.c.n t.c.c]), .int .i64 0]) ∧ Hp w' w'.heap.size t d2 ∧ Same3 s t ∧ Below W.heap.size W w') (hWs : ∀ W b1 t1 b2 t2, Lx w W A n U F [(b2, t2, d2), (b1, t1, d1), (w.heap.size, s, d)] → Calls Tryd.prog 21 #[(.agg #[.slice s.w.a s.w.n s.w.c, .slice s.p.a s.p.n s.p.c, .slice (s.u 0).a (s.u 0).n (s.u 0).c, .slice (s.u 1).a (s.u 1).n (s.u 1).c, .slice (s.u 2).a (s.u 2).n (s.u 2).c, .slice s.c.a s.c.n s.c.c]), .slice A n c] W fun e w' => e = .returned (.bool R) ∧ Below W.heap.size W w') (hM2 : ∀ W b1 t1 b2 t2, Same3 s t2 → Lx w W A n U F [(b2, t2, d2), (b1, t1, d1), (w.heap.size, s, d)] → Calls Tryd.prog 15 #[(.agg #[.slice t2.w.a t2.w.n t2.w.c, .slice t2.p.a t2.p.n t2.p.c, .slice (t2.u 0).a (t2.u 0).n (t2.u 0).c, .slice (t2.u 1).a (t2.u 1).n (t2.u 1).c, .slice (t2.u 2).a (t2.u 2).n (t2.u 2).c, .slice t2.c.a t2.c.n t2.c.c]), .slice none 0 0] W fun e w' => e = .returned (.bool true) ∧ Below W.heap.size W w') (hW2 : ∀ W b1 t1 b2 t2, Same3 s t2 → Lx w W A n U F [(b2, t2, d2), (b1, t1, d1), (w.heap.size, s, d)] → Calls Tryd.prog 21 #[(.agg #[.slice t2.w.a t2.w.n t2.w.c, .slice t2.p.a t2.p.n t2.p.c, .slice (t2.u 0).a (t2.u 0).n (t2.u 0).c, .slice (t2.u 1).a (t2.u 1).n (t2.u 1).c, .slice (t2.u 2).a (t2.u 2).n (t2.u 2).c, .slice t2.c.a t2.c.n t2.c.c]), .slice A n c] W fun e w' => e = .returned (.bool R) ∧ Below W.heap.size W w') (hz : Cl.Sz w) (hp : Hp w w.heap.size s d) (hl : Ls.LRow w w.heap.size A n U F) : Calls Tryd.prog 6 #[(.agg #[.slice s.w.a s.w.n s.w.c, .slice s.p.a s.p.n s.p.c, .slice (s.u 0).a (s.u 0).n (s.u 0).c, .slice (s.u 1).a (s.u 1).n (s.u 1).c, .slice (s.u 2).a (s.u 2).n (s.u 2).c, .slice s.c.a s.c.n s.c.c]), .slice A n c, .int .i64 a, .int .i64 k] w fun e w' => e = .returned (.bool true) ∧ Below w.heap.size w w' := by
  have g4 : decide (4 < (n : Int)) = false := by simp; omega
  have g5 : decide (4 < n) = false := by simp; omega
  have HZ := Lib.hid hz
  have hz0 := hz.pos
  have HP := Lib.hid hp
  have HF := Lib.hid hf
  have HL := Lib.hid hl
  have DX := Lib.hid hD
  have CX := Lib.hid hC
  have WSX := Lib.hid hWs
  have M2X := Lib.hid hM2
  have W2X := Lib.hid hW2
  have e1 : (er != 0) = true := by simp [he]
  have e3 : (R == R) = true := by simp
  have V2 := Lib.hid v2
  clear hz hp hf hl hD hC hWs hM2 hW2 he v2
  go_enter Tryd.func6, Tryd.ntmps6
  go_wp2_with fail
  obtain ⟨W1, hW1⟩ : ∃ W1, W1 = w.alloc (.cells #[.slice s.w.a s.w.n s.w.c, .slice s.p.a s.p.n s.p.c, .slice (s.u 0).a (s.u 0).n (s.u 0).c, .slice (s.u 1).a (s.u 1).n (s.u 1).c, .slice (s.u 2).a (s.u 2).n (s.u 2).c, .slice s.c.a s.c.n s.c.c] 28) := ⟨_, rfl⟩
  have L1 := Lib.hid (lx_start (A := A) (n := n) (U := U) (F := F) HP.out HL.out hW1)
  rw [← hW1]
  clear hW1
  refine (Ck.awake_any W1 (HZ.out.over L1.out.bel hz0)).mono ?_
  rintro e9 w1 ⟨rfl, hb1⟩
  have L2 := Lib.hid (L1.out.next hb1)
  clear hb1 L1
  have q0 := (L2.out.at (w.heap.size) (s) (d) (by simp)).c0
  have q1 := (L2.out.at (w.heap.size) (s) (d) (by simp)).c1
  have q2 := (L2.out.at (w.heap.size) (s) (d) (by simp)).c2
  have q3 := (L2.out.at (w.heap.size) (s) (d) (by simp)).c3
  have q4 := (L2.out.at (w.heap.size) (s) (d) (by simp)).c4
  have q5 := (L2.out.at (w.heap.size) (s) (d) (by simp)).c5
  have ql := (L2.out.at (w.heap.size) (s) (d) (by simp)).lt
  go_wp2_with fail
  refine (rfew_any s w1).mono ?_
  rw [HF.out]
  rintro e9 w2 ⟨rfl, hb2⟩
  have L3 := Lib.hid (L2.out.next hb2)
  clear hb2 L2
  clear q0 q1 q2 q3 q4 q5 ql
  have q0 := (L3.out.at (w.heap.size) (s) (d) (by simp)).c0
  have q1 := (L3.out.at (w.heap.size) (s) (d) (by simp)).c1
  have q2 := (L3.out.at (w.heap.size) (s) (d) (by simp)).c2
  have q3 := (L3.out.at (w.heap.size) (s) (d) (by simp)).c3
  have q4 := (L3.out.at (w.heap.size) (s) (d) (by simp)).c4
  have q5 := (L3.out.at (w.heap.size) (s) (d) (by simp)).c5
  have ql := (L3.out.at (w.heap.size) (s) (d) (by simp)).lt
  go_wp2_with fail
  refine (DX.out w2 L3.out).mono ?_
  rintro e9 w9 ⟨t1, rfl, hp9, hl9, hb9⟩
  have L4 := Lib.hid (L3.out.add (nw_new (ty := 28) hb9 hp9))
  have N1 := Lib.hid hl9
  clear hp9 hb9 hl9 L3
  clear q0 q1 q2 q3 q4 q5 ql
  go_upto_region 6 with fail
  obtain ⟨v4, h0⟩ : ∃ W, W = w9.alloc (.cells #[.slice t1.w.a t1.w.n t1.w.c, .slice t1.p.a t1.p.n t1.p.c, .slice (t1.u 0).a (t1.u 0).n (t1.u 0).c, .slice (t1.u 1).a (t1.u 1).n (t1.u 1).c, .slice (t1.u 2).a (t1.u 2).n (t1.u 2).c, .slice t1.c.a t1.c.n t1.c.c] 28) := ⟨_, rfl⟩
  obtain ⟨b1, h1⟩ : ∃ b, b = w9.heap.size := ⟨_, rfl⟩
  rw [← h0, ← h1] at L4
  rw [← h0, ← h1]
  clear h0 h1
  have q0 := (L4.out.at (w.heap.size) (s) (d) (by simp)).c0
  have q1 := (L4.out.at (w.heap.size) (s) (d) (by simp)).c1
  have q2 := (L4.out.at (w.heap.size) (s) (d) (by simp)).c2
  have q3 := (L4.out.at (w.heap.size) (s) (d) (by simp)).c3
  have q4 := (L4.out.at (w.heap.size) (s) (d) (by simp)).c4
  have q5 := (L4.out.at (w.heap.size) (s) (d) (by simp)).c5
  have ql := (L4.out.at (w.heap.size) (s) (d) (by simp)).lt
  go_wp2_with fail
  refine (CX.out v4 b1 t1 L4.out).mono ?_
  rintro e9 w9 ⟨t2, rfl, hp9, hl9, hb9⟩
  have L5 := Lib.hid (L4.out.add (nw_new (ty := 28) hb9 hp9))
  have N2 := Lib.hid hl9
  clear hp9 hb9 hl9 L4
  clear q0 q1 q2 q3 q4 q5 ql
  go_upto_region 7 with fail
  obtain ⟨v5, h0⟩ : ∃ W, W = w9.alloc (.cells #[.slice t2.w.a t2.w.n t2.w.c, .slice t2.p.a t2.p.n t2.p.c, .slice (t2.u 0).a (t2.u 0).n (t2.u 0).c, .slice (t2.u 1).a (t2.u 1).n (t2.u 1).c, .slice (t2.u 2).a (t2.u 2).n (t2.u 2).c, .slice t2.c.a t2.c.n t2.c.c] 28) := ⟨_, rfl⟩
  obtain ⟨b2, h1⟩ : ∃ b, b = w9.heap.size := ⟨_, rfl⟩
  rw [← h0, ← h1] at L5
  rw [← h0, ← h1]
  clear h0 h1
  have q0 := (L5.out.at (w.heap.size) (s) (d) (by simp)).c0
  have q1 := (L5.out.at (w.heap.size) (s) (d) (by simp)).c1
  have q2 := (L5.out.at (w.heap.size) (s) (d) (by simp)).c2
  have q3 := (L5.out.at (w.heap.size) (s) (d) (by simp)).c3
  have q4 := (L5.out.at (w.heap.size) (s) (d) (by simp)).c4
  have q5 := (L5.out.at (w.heap.size) (s) (d) (by simp)).c5
  have ql := (L5.out.at (w.heap.size) (s) (d) (by simp)).lt
  go_wp2
  go_quiet (fail)
  have L6 := Lib.hid (L5.out.next (below_drawn' (Below.refl _ _) nq))
  clear L5
  clear q0 q1 q2 q3 q4 q5 ql
  generalize v5.drewN nq = v6 at L6 ⊢
  have M1 : (b2, t2, d2) ∈ [(b2, t2, d2), (b1, t1, d1), (w.heap.size, s, d)] := by simp
  have M2 : (w.heap.size, s, d) ∈ [(b2, t2, d2), (b1, t1, d1), (w.heap.size, s, d)] := by simp
  have LT := Lib.hid (And.intro L6.out True.intro)
  have hx1 : t2.w.n ≤ 4000000 := by have h1 := N2.out.1; omega
  have q0 := (L6.out.at (w.heap.size) (s) (d) (by simp)).c0
  have q1 := (L6.out.at (w.heap.size) (s) (d) (by simp)).c1
  have q2 := (L6.out.at (w.heap.size) (s) (d) (by simp)).c2
  have q3 := (L6.out.at (w.heap.size) (s) (d) (by simp)).c3
  have q4 := (L6.out.at (w.heap.size) (s) (d) (by simp)).c4
  have q5 := (L6.out.at (w.heap.size) (s) (d) (by simp)).c5
  have ql := (L6.out.at (w.heap.size) (s) (d) (by simp)).lt
  go_wp2_with fail
  go_region_held3 (fun W => (Lx w W A n U F [(b2, t2, d2), (b1, t1, d1), (w.heap.size, s, d)] ∧ True) ∧ (b2 < W.heap.size ∧ W.cell? ⟨b2, 0, none⟩ = some (.slice t2.w.a t2.w.n t2.w.c) ∧ W.cell? ⟨b2, 1, none⟩ = some (.slice t2.p.a t2.p.n t2.p.c) ∧ W.cell? ⟨b2, 2, none⟩ = some (.slice (t2.u 0).a (t2.u 0).n (t2.u 0).c) ∧ W.cell? ⟨b2, 3, none⟩ = some (.slice (t2.u 1).a (t2.u 1).n (t2.u 1).c) ∧ W.cell? ⟨b2, 4, none⟩ = some (.slice (t2.u 2).a (t2.u 2).n (t2.u 2).c) ∧ W.cell? ⟨b2, 5, none⟩ = some (.slice t2.c.a t2.c.n t2.c.c)) ∧ w.heap.size < W.heap.size ∧ W.cell? ⟨w.heap.size, 0, none⟩ = some (.slice s.w.a s.w.n s.w.c) ∧ W.cell? ⟨w.heap.size, 1, none⟩ = some (.slice s.p.a s.p.n s.p.c) ∧ W.cell? ⟨w.heap.size, 2, none⟩ = some (.slice (s.u 0).a (s.u 0).n (s.u 0).c) ∧ W.cell? ⟨w.heap.size, 3, none⟩ = some (.slice (s.u 1).a (s.u 1).n (s.u 1).c) ∧ W.cell? ⟨w.heap.size, 4, none⟩ = some (.slice (s.u 2).a (s.u 2).n (s.u 2).c) ∧ W.cell? ⟨w.heap.size, 5, none⟩ = some (.slice s.c.a s.c.n s.c.c)) (first
    | with_reducible exact lx_keep2 M1 M2 (‹(Lx w _ A n U F _ ∧ True) ∧ _›).1 ‹Below _ _ _›
    | with_reducible exact lx_keep2 M1 M2 LT.out (Below.refl _ _)
    | exact lx_keep2 M1 M2 LT.out (below_drawn' (Below.refl _ _) 1)) (first
    | ((go_at_call 15; refine (M2X.out _ b1 t1 b2 t2 N2.out (‹(Lx w _ A n U F _ ∧ True) ∧ _›).1.1).mono ?_; rintro e x1 ⟨rfl, hb1⟩))
    | ((go_at_call 21; (with_reducible refine (W2X.out _ b1 t1 b2 t2 N2.out (‹(Lx w _ A n U F _ ∧ True) ∧ _›).1.1).mono ?_); rintro e x2 ⟨rfl, hb2⟩))
    | ((go_at_call 21; (with_reducible refine (WSX.out _ b1 t1 b2 t2 (‹(Lx w _ A n U F _ ∧ True) ∧ _›).1.1).mono ?_); rintro e x3 ⟨rfl, hb3⟩))
    | ((go_at_call 14; refine (Ls.ints_any _ _ t2.w.a s.w.a t2.w.n s.w.n t2.w.c s.w.c d2.ws d.ws _ hx1 (by omega) ((‹(Lx w _ A n U F _ ∧ True) ∧ _›).1.1.hp b2 t2 d2 M1).words ((‹(Lx w _ A n U F _ ∧ True) ∧ _›).1.1.hp (w.heap.size) s d M2).words).mono ?_; rw [decide_eq_true V2.out]; rintro e x6 ⟨rfl, dd, hx6⟩; have hb6 : Below x3.heap.size x3 x6 := (by rw [hx6]; exact below_drawn' (Below.refl _ _) dd); clear hx6)))
  have L7 := Lib.hid (‹(Lx w x6 A n U F _ ∧ True) ∧ _›).1.1
  clear L6 LT M1 M2 hb1 hb2 hb3 hb6
  clear q0 q1 q2 q3 q4 q5 ql
  go_wp2
  go_ret
  exact ⟨rfl, L7.out.bel⟩
set_option maxHeartbeats 8000000 in
theorem core_ok_no (d1 d2 : Hd_) (h4 : n ≤ 4) (fr : Int) (hfr : ¬ fr = 0) (R : Bool) (us : List Int) (hul : us.length ≤ 512) (hf : fewH s = true) (hD : ∀ W, Lx w W A n U F [(w.heap.size, s, d)] → Calls Tryd.prog 12 #[(.agg #[.slice s.w.a s.w.n s.w.c, .slice s.p.a s.p.n s.p.c, .slice (s.u 0).a (s.u 0).n (s.u 0).c, .slice (s.u 1).a (s.u 1).n (s.u 1).c, .slice (s.u 2).a (s.u 2).n (s.u 2).c, .slice s.c.a s.c.n s.c.c]), .int .i64 a] W fun e w' => ∃ t : Hs, e = .returned (.tuple #[(.agg #[.slice t.w.a t.w.n t.w.c, .slice t.p.a t.p.n t.p.c, .slice (t.u 0).a (t.u 0).n (t.u 0).c, .slice (t.u 1).a (t.u 1).n (t.u 1).c, .slice (t.u 2).a (t.u 2).n (t.u 2).c, .slice t.c.a t.c.n t.c.c]), .int .i64 0]) ∧ Hp w' w'.heap.size t d1 ∧ Same3 s t ∧ Below W.heap.size W w') (hC : ∀ W b1 t1, Lx w W A n U F [(b1, t1, d1), (w.heap.size, s, d)] → Calls Tryd.prog 13 #[(.agg #[.slice s.w.a s.w.n s.w.c, .slice s.p.a s.p.n s.p.c, .slice (s.u 0).a (s.u 0).n (s.u 0).c, .slice (s.u 1).a (s.u 1).n (s.u 1).c, .slice (s.u 2).a (s.u 2).n (s.u 2).c, .slice s.c.a s.c.n s.c.c]), .int .i64 k] W fun e w' => ∃ t : Hs, e = .returned (.tuple #[(.agg #[.slice t.w.a t.w.n t.w.c, .slice t.p.a t.p.n t.p.c, .slice (t.u 0).a (t.u 0).n (t.u 0).c, .slice (t.u 1).a (t.u 1).n (t.u 1).c, .slice (t.u 2).a (t.u 2).n (t.u 2).c, .slice t.c.a t.c.n t.c.c]), .int .i64 fr]) ∧ Hp w' w'.heap.size t d2 ∧ True ∧ Below W.heap.size W w') (hM1 : ∀ W b1 t1 b2 t2, Same3 s t1 → Lx w W A n U F [(b2, t2, d2), (b1, t1, d1), (w.heap.size, s, d)] → Calls Tryd.prog 15 #[(.agg #[.slice t1.w.a t1.w.n t1.w.c, .slice t1.p.a t1.p.n t1.p.c, .slice (t1.u 0).a (t1.u 0).n (t1.u 0).c, .slice (t1.u 1).a (t1.u 1).n (t1.u 1).c, .slice (t1.u 2).a (t1.u 2).n (t1.u 2).c, .slice t1.c.a t1.c.n t1.c.c]), .slice none 0 0] W fun e w' => e = .returned (.bool true) ∧ Below W.heap.size W w') (hW1 : ∀ W b1 t1 b2 t2, Same3 s t1 → Lx w W A n U F [(b2, t2, d2), (b1, t1, d1), (w.heap.size, s, d)] → Calls Tryd.prog 21 #[(.agg #[.slice t1.w.a t1.w.n t1.w.c, .slice t1.p.a t1.p.n t1.p.c, .slice (t1.u 0).a (t1.u 0).n (t1.u 0).c, .slice (t1.u 1).a (t1.u 1).n (t1.u 1).c, .slice (t1.u 2).a (t1.u 2).n (t1.u 2).c, .slice t1.c.a t1.c.n t1.c.c]), .slice A n c] W fun e w' => e = .returned (.bool R) ∧ Below W.heap.size W w') (hU1 : ∀ W b1 t1 b2 t2, Same3 s t1 → Lx w W A n U F [(b2, t2, d2), (b1, t1, d1), (w.heap.size, s, d)] → Calls Tryd.prog 19 #[(.agg #[.slice t1.w.a t1.w.n t1.w.c, .slice t1.p.a t1.p.n t1.p.c, .slice (t1.u 0).a (t1.u 0).n (t1.u 0).c, .slice (t1.u 1).a (t1.u 1).n (t1.u 1).c, .slice (t1.u 2).a (t1.u 2).n (t1.u 2).c, .slice t1.c.a t1.c.n t1.c.c])] W (Ls.AllOut W us)) (hU2 : ∀ W b1 t1 b2 t2, Lx w W A n U F [(b2, t2, d2), (b1, t1, d1), (w.heap.size, s, d)] → Calls Tryd.prog 19 #[(.agg #[.slice s.w.a s.w.n s.w.c, .slice s.p.a s.p.n s.p.c, .slice (s.u 0).a (s.u 0).n (s.u 0).c, .slice (s.u 1).a (s.u 1).n (s.u 1).c, .slice (s.u 2).a (s.u 2).n (s.u 2).c, .slice s.c.a s.c.n s.c.c])] W (Ls.AllOut W us)) (hWs : ∀ W b1 t1 b2 t2, Lx w W A n U F [(b2, t2, d2), (b1, t1, d1), (w.heap.size, s, d)] → Calls Tryd.prog 21 #[(.agg #[.slice s.w.a s.w.n s.w.c, .slice s.p.a s.p.n s.p.c, .slice (s.u 0).a (s.u 0).n (s.u 0).c, .slice (s.u 1).a (s.u 1).n (s.u 1).c, .slice (s.u 2).a (s.u 2).n (s.u 2).c, .slice s.c.a s.c.n s.c.c]), .slice A n c] W fun e w' => e = .returned (.bool R) ∧ Below W.heap.size W w') (hz : Cl.Sz w) (hp : Hp w w.heap.size s d) (hl : Ls.LRow w w.heap.size A n U F) : Calls Tryd.prog 6 #[(.agg #[.slice s.w.a s.w.n s.w.c, .slice s.p.a s.p.n s.p.c, .slice (s.u 0).a (s.u 0).n (s.u 0).c, .slice (s.u 1).a (s.u 1).n (s.u 1).c, .slice (s.u 2).a (s.u 2).n (s.u 2).c, .slice s.c.a s.c.n s.c.c]), .slice A n c, .int .i64 a, .int .i64 k] w fun e w' => e = .returned (.bool true) ∧ Below w.heap.size w w' := by
  have g4 : decide (4 < (n : Int)) = false := by simp; omega
  have g5 : decide (4 < n) = false := by simp; omega
  have HZ := Lib.hid hz
  have hz0 := hz.pos
  have HP := Lib.hid hp
  have HF := Lib.hid hf
  have HL := Lib.hid hl
  have DX := Lib.hid hD
  have CX := Lib.hid hC
  have M1X := Lib.hid hM1
  have W1X := Lib.hid hW1
  have U1X := Lib.hid hU1
  have U2X := Lib.hid hU2
  have WSX := Lib.hid hWs
  have e2 : (fr != 0) = true := by simp [hfr]
  have e3 : (R == R) = true := by simp
  clear hz hp hf hl hD hC hM1 hW1 hU1 hU2 hWs hfr
  go_enter Tryd.func6, Tryd.ntmps6
  go_wp2_with fail
  obtain ⟨W1, hW1⟩ : ∃ W1, W1 = w.alloc (.cells #[.slice s.w.a s.w.n s.w.c, .slice s.p.a s.p.n s.p.c, .slice (s.u 0).a (s.u 0).n (s.u 0).c, .slice (s.u 1).a (s.u 1).n (s.u 1).c, .slice (s.u 2).a (s.u 2).n (s.u 2).c, .slice s.c.a s.c.n s.c.c] 28) := ⟨_, rfl⟩
  have L1 := Lib.hid (lx_start (A := A) (n := n) (U := U) (F := F) HP.out HL.out hW1)
  rw [← hW1]
  clear hW1
  refine (Ck.awake_any W1 (HZ.out.over L1.out.bel hz0)).mono ?_
  rintro e9 w1 ⟨rfl, hb1⟩
  have L2 := Lib.hid (L1.out.next hb1)
  clear hb1 L1
  have q0 := (L2.out.at (w.heap.size) (s) (d) (by simp)).c0
  have q1 := (L2.out.at (w.heap.size) (s) (d) (by simp)).c1
  have q2 := (L2.out.at (w.heap.size) (s) (d) (by simp)).c2
  have q3 := (L2.out.at (w.heap.size) (s) (d) (by simp)).c3
  have q4 := (L2.out.at (w.heap.size) (s) (d) (by simp)).c4
  have q5 := (L2.out.at (w.heap.size) (s) (d) (by simp)).c5
  have ql := (L2.out.at (w.heap.size) (s) (d) (by simp)).lt
  go_wp2_with fail
  refine (rfew_any s w1).mono ?_
  rw [HF.out]
  rintro e9 w2 ⟨rfl, hb2⟩
  have L3 := Lib.hid (L2.out.next hb2)
  clear hb2 L2
  clear q0 q1 q2 q3 q4 q5 ql
  have q0 := (L3.out.at (w.heap.size) (s) (d) (by simp)).c0
  have q1 := (L3.out.at (w.heap.size) (s) (d) (by simp)).c1
  have q2 := (L3.out.at (w.heap.size) (s) (d) (by simp)).c2
  have q3 := (L3.out.at (w.heap.size) (s) (d) (by simp)).c3
  have q4 := (L3.out.at (w.heap.size) (s) (d) (by simp)).c4
  have q5 := (L3.out.at (w.heap.size) (s) (d) (by simp)).c5
  have ql := (L3.out.at (w.heap.size) (s) (d) (by simp)).lt
  go_wp2_with fail
  refine (DX.out w2 L3.out).mono ?_
  rintro e9 w9 ⟨t1, rfl, hp9, hl9, hb9⟩
  have L4 := Lib.hid (L3.out.add (nw_new (ty := 28) hb9 hp9))
  have N1 := Lib.hid hl9
  clear hp9 hb9 hl9 L3
  clear q0 q1 q2 q3 q4 q5 ql
  go_upto_region 6 with fail
  obtain ⟨v4, h0⟩ : ∃ W, W = w9.alloc (.cells #[.slice t1.w.a t1.w.n t1.w.c, .slice t1.p.a t1.p.n t1.p.c, .slice (t1.u 0).a (t1.u 0).n (t1.u 0).c, .slice (t1.u 1).a (t1.u 1).n (t1.u 1).c, .slice (t1.u 2).a (t1.u 2).n (t1.u 2).c, .slice t1.c.a t1.c.n t1.c.c] 28) := ⟨_, rfl⟩
  obtain ⟨b1, h1⟩ : ∃ b, b = w9.heap.size := ⟨_, rfl⟩
  rw [← h0, ← h1] at L4
  rw [← h0, ← h1]
  clear h0 h1
  have q0 := (L4.out.at (w.heap.size) (s) (d) (by simp)).c0
  have q1 := (L4.out.at (w.heap.size) (s) (d) (by simp)).c1
  have q2 := (L4.out.at (w.heap.size) (s) (d) (by simp)).c2
  have q3 := (L4.out.at (w.heap.size) (s) (d) (by simp)).c3
  have q4 := (L4.out.at (w.heap.size) (s) (d) (by simp)).c4
  have q5 := (L4.out.at (w.heap.size) (s) (d) (by simp)).c5
  have ql := (L4.out.at (w.heap.size) (s) (d) (by simp)).lt
  go_wp2_with fail
  refine (CX.out v4 b1 t1 L4.out).mono ?_
  rintro e9 w9 ⟨t2, rfl, hp9, hl9, hb9⟩
  have L5 := Lib.hid (L4.out.add (nw_new (ty := 28) hb9 hp9))
  have N2 := Lib.hid hl9
  clear hp9 hb9 hl9 L4
  clear q0 q1 q2 q3 q4 q5 ql
  go_upto_region 7 with fail
  obtain ⟨v5, h0⟩ : ∃ W, W = w9.alloc (.cells #[.slice t2.w.a t2.w.n t2.w.c, .slice t2.p.a t2.p.n t2.p.c, .slice (t2.u 0).a (t2.u 0).n (t2.u 0).c, .slice (t2.u 1).a (t2.u 1).n (t2.u 1).c, .slice (t2.u 2).a (t2.u 2).n (t2.u 2).c, .slice t2.c.a t2.c.n t2.c.c] 28) := ⟨_, rfl⟩
  obtain ⟨b2, h1⟩ : ∃ b, b = w9.heap.size := ⟨_, rfl⟩
  rw [← h0, ← h1] at L5
  rw [← h0, ← h1]
  clear h0 h1
  have M1 : (b1, t1, d1) ∈ [(b2, t2, d2), (b1, t1, d1), (w.heap.size, s, d)] := by simp
  have M2 : (w.heap.size, s, d) ∈ [(b2, t2, d2), (b1, t1, d1), (w.heap.size, s, d)] := by simp
  have LT := Lib.hid (And.intro L5.out True.intro)
  have q0 := (L5.out.at (w.heap.size) (s) (d) (by simp)).c0
  have q1 := (L5.out.at (w.heap.size) (s) (d) (by simp)).c1
  have q2 := (L5.out.at (w.heap.size) (s) (d) (by simp)).c2
  have q3 := (L5.out.at (w.heap.size) (s) (d) (by simp)).c3
  have q4 := (L5.out.at (w.heap.size) (s) (d) (by simp)).c4
  have q5 := (L5.out.at (w.heap.size) (s) (d) (by simp)).c5
  have ql := (L5.out.at (w.heap.size) (s) (d) (by simp)).lt
  go_wp2_with fail
  go_region_held3 (fun W => (Lx w W A n U F [(b2, t2, d2), (b1, t1, d1), (w.heap.size, s, d)] ∧ True) ∧ (b1 < W.heap.size ∧ W.cell? ⟨b1, 0, none⟩ = some (.slice t1.w.a t1.w.n t1.w.c) ∧ W.cell? ⟨b1, 1, none⟩ = some (.slice t1.p.a t1.p.n t1.p.c) ∧ W.cell? ⟨b1, 2, none⟩ = some (.slice (t1.u 0).a (t1.u 0).n (t1.u 0).c) ∧ W.cell? ⟨b1, 3, none⟩ = some (.slice (t1.u 1).a (t1.u 1).n (t1.u 1).c) ∧ W.cell? ⟨b1, 4, none⟩ = some (.slice (t1.u 2).a (t1.u 2).n (t1.u 2).c) ∧ W.cell? ⟨b1, 5, none⟩ = some (.slice t1.c.a t1.c.n t1.c.c)) ∧ w.heap.size < W.heap.size ∧ W.cell? ⟨w.heap.size, 0, none⟩ = some (.slice s.w.a s.w.n s.w.c) ∧ W.cell? ⟨w.heap.size, 1, none⟩ = some (.slice s.p.a s.p.n s.p.c) ∧ W.cell? ⟨w.heap.size, 2, none⟩ = some (.slice (s.u 0).a (s.u 0).n (s.u 0).c) ∧ W.cell? ⟨w.heap.size, 3, none⟩ = some (.slice (s.u 1).a (s.u 1).n (s.u 1).c) ∧ W.cell? ⟨w.heap.size, 4, none⟩ = some (.slice (s.u 2).a (s.u 2).n (s.u 2).c) ∧ W.cell? ⟨w.heap.size, 5, none⟩ = some (.slice s.c.a s.c.n s.c.c)) (first
    | with_reducible exact lx_keep2 M1 M2 (‹(Lx w _ A n U F _ ∧ True) ∧ _›).1 ‹Below _ _ _›
    | with_reducible exact lx_keep2 M1 M2 LT.out (Below.refl _ _)
    | exact lx_keep2 M1 M2 LT.out (below_drawn' (Below.refl _ _) 1)) (first
    | ((go_at_call 15; refine (M1X.out _ b1 t1 b2 t2 N1.out (‹(Lx w _ A n U F _ ∧ True) ∧ _›).1.1).mono ?_; rintro e x1 ⟨rfl, hb1⟩))
    | ((go_at_call 21; (with_reducible refine (W1X.out _ b1 t1 b2 t2 N1.out (‹(Lx w _ A n U F _ ∧ True) ∧ _›).1.1).mono ?_); rintro e x2 ⟨rfl, hb2⟩))
    | ((go_at_call 21; (with_reducible refine (WSX.out _ b1 t1 b2 t2 (‹(Lx w _ A n U F _ ∧ True) ∧ _›).1.1).mono ?_); rintro e x3 ⟨rfl, hb3⟩))
    | ((go_at_call 19; (with_reducible refine (U1X.out _ b1 t1 b2 t2 N1.out (‹(Lx w _ A n U F _ ∧ True) ∧ _›).1.1).mono ?_); rintro e x4 ⟨y4, rfl, ho4, hb4⟩; have R4 := Lib.hid (And.intro (row_of ho4) (show y4.n ≤ 4000000 by have h1 := ho4.1; simp only [List.length_map] at h1; omega)); clear ho4))
    | ((go_at_call 19; (with_reducible refine (U2X.out _ b1 t1 b2 t2 (‹(Lx w _ A n U F _ ∧ True) ∧ _›).1.1).mono ?_); rintro e x5 ⟨y5, rfl, ho5, hb5⟩; have R5 := Lib.hid (And.intro ((R4.out.1.below hb5).more hb5.size) (And.intro (row_of ho5) (And.intro R4.out.2 (show y5.n ≤ 4000000 by have h1 := ho5.1; simp only [List.length_map] at h1; omega)))); clear ho5))
    | ((go_at_call 14; refine (Ls.ints_any _ _ y4.a y5.a y4.n y5.n y4.c y5.c us us _ R5.out.2.2.1 R5.out.2.2.2 R5.out.1 R5.out.2.1).mono ?_; rw [decide_eq_true rfl]; rintro e x6 ⟨rfl, dd, hx6⟩; have hb6 : Below x5.heap.size x5 x6 := (by rw [hx6]; exact below_drawn' (Below.refl _ _) dd); clear hx6)))
  have L6 := Lib.hid (‹(Lx w x6 A n U F _ ∧ True) ∧ _›).1.1
  clear L5 LT M1 M2 hb1 hb2 hb3 hb4 hb5 hb6 R4 R5
  clear q0 q1 q2 q3 q4 q5 ql
  have v6e : ∃ v, v = x6 := ⟨_, rfl⟩
  obtain ⟨v6, hv6⟩ := v6e
  rw [← hv6] at L6 ⊢
  clear hv6
  have q0 := (L6.out.at (w.heap.size) (s) (d) (by simp)).c0
  have q1 := (L6.out.at (w.heap.size) (s) (d) (by simp)).c1
  have q2 := (L6.out.at (w.heap.size) (s) (d) (by simp)).c2
  have q3 := (L6.out.at (w.heap.size) (s) (d) (by simp)).c3
  have q4 := (L6.out.at (w.heap.size) (s) (d) (by simp)).c4
  have q5 := (L6.out.at (w.heap.size) (s) (d) (by simp)).c5
  have ql := (L6.out.at (w.heap.size) (s) (d) (by simp)).lt
  go_wp2
  go_quiet (fail)
  have L7 := Lib.hid (L6.out.next (below_drawn' (Below.refl _ _) nq))
  clear L6
  clear q0 q1 q2 q3 q4 q5 ql
  go_wp2
  go_ret
  exact ⟨rfl, L7.out.bel⟩
set_option maxHeartbeats 8000000 in
theorem core_ok_ok (d1 d2 : Hd_) (h4 : n ≤ 4) (R : Bool) (us : List Int) (hul : us.length ≤ 512) (hwn : s.w.n ≤ 130) (v2 : d2.ws = d.ws) (hf : fewH s = true) (hD : ∀ W, Lx w W A n U F [(w.heap.size, s, d)] → Calls Tryd.prog 12 #[(.agg #[.slice s.w.a s.w.n s.w.c, .slice s.p.a s.p.n s.p.c, .slice (s.u 0).a (s.u 0).n (s.u 0).c, .slice (s.u 1).a (s.u 1).n (s.u 1).c, .slice (s.u 2).a (s.u 2).n (s.u 2).c, .slice s.c.a s.c.n s.c.c]), .int .i64 a] W fun e w' => ∃ t : Hs, e = .returned (.tuple #[(.agg #[.slice t.w.a t.w.n t.w.c, .slice t.p.a t.p.n t.p.c, .slice (t.u 0).a (t.u 0).n (t.u 0).c, .slice (t.u 1).a (t.u 1).n (t.u 1).c, .slice (t.u 2).a (t.u 2).n (t.u 2).c, .slice t.c.a t.c.n t.c.c]), .int .i64 0]) ∧ Hp w' w'.heap.size t d1 ∧ Same3 s t ∧ Below W.heap.size W w') (hC : ∀ W b1 t1, Lx w W A n U F [(b1, t1, d1), (w.heap.size, s, d)] → Calls Tryd.prog 13 #[(.agg #[.slice s.w.a s.w.n s.w.c, .slice s.p.a s.p.n s.p.c, .slice (s.u 0).a (s.u 0).n (s.u 0).c, .slice (s.u 1).a (s.u 1).n (s.u 1).c, .slice (s.u 2).a (s.u 2).n (s.u 2).c, .slice s.c.a s.c.n s.c.c]), .int .i64 k] W fun e w' => ∃ t : Hs, e = .returned (.tuple #[(.agg #[.slice t.w.a t.w.n t.w.c, .slice t.p.a t.p.n t.p.c, .slice (t.u 0).a (t.u 0).n (t.u 0).c, .slice (t.u 1).a (t.u 1).n (t.u 1).c, .slice (t.u 2).a (t.u 2).n (t.u 2).c, .slice t.c.a t.c.n t.c.c]), .int .i64 0]) ∧ Hp w' w'.heap.size t d2 ∧ Same3 s t ∧ Below W.heap.size W w') (hM1 : ∀ W b1 t1 b2 t2, Same3 s t1 → Lx w W A n U F [(b2, t2, d2), (b1, t1, d1), (w.heap.size, s, d)] → Calls Tryd.prog 15 #[(.agg #[.slice t1.w.a t1.w.n t1.w.c, .slice t1.p.a t1.p.n t1.p.c, .slice (t1.u 0).a (t1.u 0).n (t1.u 0).c, .slice (t1.u 1).a (t1.u 1).n (t1.u 1).c, .slice (t1.u 2).a (t1.u 2).n (t1.u 2).c, .slice t1.c.a t1.c.n t1.c.c]), .slice none 0 0] W fun e w' => e = .returned (.bool true) ∧ Below W.heap.size W w') (hW1 : ∀ W b1 t1 b2 t2, Same3 s t1 → Lx w W A n U F [(b2, t2, d2), (b1, t1, d1), (w.heap.size, s, d)] → Calls Tryd.prog 21 #[(.agg #[.slice t1.w.a t1.w.n t1.w.c, .slice t1.p.a t1.p.n t1.p.c, .slice (t1.u 0).a (t1.u 0).n (t1.u 0).c, .slice (t1.u 1).a (t1.u 1).n (t1.u 1).c, .slice (t1.u 2).a (t1.u 2).n (t1.u 2).c, .slice t1.c.a t1.c.n t1.c.c]), .slice A n c] W fun e w' => e = .returned (.bool R) ∧ Below W.heap.size W w') (hU1 : ∀ W b1 t1 b2 t2, Same3 s t1 → Lx w W A n U F [(b2, t2, d2), (b1, t1, d1), (w.heap.size, s, d)] → Calls Tryd.prog 19 #[(.agg #[.slice t1.w.a t1.w.n t1.w.c, .slice t1.p.a t1.p.n t1.p.c, .slice (t1.u 0).a (t1.u 0).n (t1.u 0).c, .slice (t1.u 1).a (t1.u 1).n (t1.u 1).c, .slice (t1.u 2).a (t1.u 2).n (t1.u 2).c, .slice t1.c.a t1.c.n t1.c.c])] W (Ls.AllOut W us)) (hU2 : ∀ W b1 t1 b2 t2, Lx w W A n U F [(b2, t2, d2), (b1, t1, d1), (w.heap.size, s, d)] → Calls Tryd.prog 19 #[(.agg #[.slice s.w.a s.w.n s.w.c, .slice s.p.a s.p.n s.p.c, .slice (s.u 0).a (s.u 0).n (s.u 0).c, .slice (s.u 1).a (s.u 1).n (s.u 1).c, .slice (s.u 2).a (s.u 2).n (s.u 2).c, .slice s.c.a s.c.n s.c.c])] W (Ls.AllOut W us)) (hWs : ∀ W b1 t1 b2 t2, Lx w W A n U F [(b2, t2, d2), (b1, t1, d1), (w.heap.size, s, d)] → Calls Tryd.prog 21 #[(.agg #[.slice s.w.a s.w.n s.w.c, .slice s.p.a s.p.n s.p.c, .slice (s.u 0).a (s.u 0).n (s.u 0).c, .slice (s.u 1).a (s.u 1).n (s.u 1).c, .slice (s.u 2).a (s.u 2).n (s.u 2).c, .slice s.c.a s.c.n s.c.c]), .slice A n c] W fun e w' => e = .returned (.bool R) ∧ Below W.heap.size W w') (hM2 : ∀ W b1 t1 b2 t2, Same3 s t2 → Lx w W A n U F [(b2, t2, d2), (b1, t1, d1), (w.heap.size, s, d)] → Calls Tryd.prog 15 #[(.agg #[.slice t2.w.a t2.w.n t2.w.c, .slice t2.p.a t2.p.n t2.p.c, .slice (t2.u 0).a (t2.u 0).n (t2.u 0).c, .slice (t2.u 1).a (t2.u 1).n (t2.u 1).c, .slice (t2.u 2).a (t2.u 2).n (t2.u 2).c, .slice t2.c.a t2.c.n t2.c.c]), .slice none 0 0] W fun e w' => e = .returned (.bool true) ∧ Below W.heap.size W w') (hW2 : ∀ W b1 t1 b2 t2, Same3 s t2 → Lx w W A n U F [(b2, t2, d2), (b1, t1, d1), (w.heap.size, s, d)] → Calls Tryd.prog 21 #[(.agg #[.slice t2.w.a t2.w.n t2.w.c, .slice t2.p.a t2.p.n t2.p.c, .slice (t2.u 0).a (t2.u 0).n (t2.u 0).c, .slice (t2.u 1).a (t2.u 1).n (t2.u 1).c, .slice (t2.u 2).a (t2.u 2).n (t2.u 2).c, .slice t2.c.a t2.c.n t2.c.c]), .slice A n c] W fun e w' => e = .returned (.bool R) ∧ Below W.heap.size W w') (hz : Cl.Sz w) (hp : Hp w w.heap.size s d) (hl : Ls.LRow w w.heap.size A n U F) : Calls Tryd.prog 6 #[(.agg #[.slice s.w.a s.w.n s.w.c, .slice s.p.a s.p.n s.p.c, .slice (s.u 0).a (s.u 0).n (s.u 0).c, .slice (s.u 1).a (s.u 1).n (s.u 1).c, .slice (s.u 2).a (s.u 2).n (s.u 2).c, .slice s.c.a s.c.n s.c.c]), .slice A n c, .int .i64 a, .int .i64 k] w fun e w' => e = .returned (.bool true) ∧ Below w.heap.size w w' := by
  have g4 : decide (4 < (n : Int)) = false := by simp; omega
  have g5 : decide (4 < n) = false := by simp; omega
  have HZ := Lib.hid hz
  have hz0 := hz.pos
  have HP := Lib.hid hp
  have HF := Lib.hid hf
  have HL := Lib.hid hl
  have DX := Lib.hid hD
  have CX := Lib.hid hC
  have M1X := Lib.hid hM1
  have W1X := Lib.hid hW1
  have U1X := Lib.hid hU1
  have U2X := Lib.hid hU2
  have WSX := Lib.hid hWs
  have M2X := Lib.hid hM2
  have W2X := Lib.hid hW2
  have e3 : (R == R) = true := by simp
  have V2 := Lib.hid v2
  clear hz hp hf hl hD hC hM1 hW1 hU1 hU2 hWs hM2 hW2 v2
  go_enter Tryd.func6, Tryd.ntmps6
  go_wp2_with fail
  obtain ⟨W1, hW1⟩ : ∃ W1, W1 = w.alloc (.cells #[.slice s.w.a s.w.n s.w.c, .slice s.p.a s.p.n s.p.c, .slice (s.u 0).a (s.u 0).n (s.u 0).c, .slice (s.u 1).a (s.u 1).n (s.u 1).c, .slice (s.u 2).a (s.u 2).n (s.u 2).c, .slice s.c.a s.c.n s.c.c] 28) := ⟨_, rfl⟩
  have L1 := Lib.hid (lx_start (A := A) (n := n) (U := U) (F := F) HP.out HL.out hW1)
  rw [← hW1]
  clear hW1
  refine (Ck.awake_any W1 (HZ.out.over L1.out.bel hz0)).mono ?_
  rintro e9 w1 ⟨rfl, hb1⟩
  have L2 := Lib.hid (L1.out.next hb1)
  clear hb1 L1
  have q0 := (L2.out.at (w.heap.size) (s) (d) (by simp)).c0
  have q1 := (L2.out.at (w.heap.size) (s) (d) (by simp)).c1
  have q2 := (L2.out.at (w.heap.size) (s) (d) (by simp)).c2
  have q3 := (L2.out.at (w.heap.size) (s) (d) (by simp)).c3
  have q4 := (L2.out.at (w.heap.size) (s) (d) (by simp)).c4
  have q5 := (L2.out.at (w.heap.size) (s) (d) (by simp)).c5
  have ql := (L2.out.at (w.heap.size) (s) (d) (by simp)).lt
  go_wp2_with fail
  refine (rfew_any s w1).mono ?_
  rw [HF.out]
  rintro e9 w2 ⟨rfl, hb2⟩
  have L3 := Lib.hid (L2.out.next hb2)
  clear hb2 L2
  clear q0 q1 q2 q3 q4 q5 ql
  have q0 := (L3.out.at (w.heap.size) (s) (d) (by simp)).c0
  have q1 := (L3.out.at (w.heap.size) (s) (d) (by simp)).c1
  have q2 := (L3.out.at (w.heap.size) (s) (d) (by simp)).c2
  have q3 := (L3.out.at (w.heap.size) (s) (d) (by simp)).c3
  have q4 := (L3.out.at (w.heap.size) (s) (d) (by simp)).c4
  have q5 := (L3.out.at (w.heap.size) (s) (d) (by simp)).c5
  have ql := (L3.out.at (w.heap.size) (s) (d) (by simp)).lt
  go_wp2_with fail
  refine (DX.out w2 L3.out).mono ?_
  rintro e9 w9 ⟨t1, rfl, hp9, hl9, hb9⟩
  have L4 := Lib.hid (L3.out.add (nw_new (ty := 28) hb9 hp9))
  have N1 := Lib.hid hl9
  clear hp9 hb9 hl9 L3
  clear q0 q1 q2 q3 q4 q5 ql
  go_upto_region 6 with fail
  obtain ⟨v4, h0⟩ : ∃ W, W = w9.alloc (.cells #[.slice t1.w.a t1.w.n t1.w.c, .slice t1.p.a t1.p.n t1.p.c, .slice (t1.u 0).a (t1.u 0).n (t1.u 0).c, .slice (t1.u 1).a (t1.u 1).n (t1.u 1).c, .slice (t1.u 2).a (t1.u 2).n (t1.u 2).c, .slice t1.c.a t1.c.n t1.c.c] 28) := ⟨_, rfl⟩
  obtain ⟨b1, h1⟩ : ∃ b, b = w9.heap.size := ⟨_, rfl⟩
  rw [← h0, ← h1] at L4
  rw [← h0, ← h1]
  clear h0 h1
  have q0 := (L4.out.at (w.heap.size) (s) (d) (by simp)).c0
  have q1 := (L4.out.at (w.heap.size) (s) (d) (by simp)).c1
  have q2 := (L4.out.at (w.heap.size) (s) (d) (by simp)).c2
  have q3 := (L4.out.at (w.heap.size) (s) (d) (by simp)).c3
  have q4 := (L4.out.at (w.heap.size) (s) (d) (by simp)).c4
  have q5 := (L4.out.at (w.heap.size) (s) (d) (by simp)).c5
  have ql := (L4.out.at (w.heap.size) (s) (d) (by simp)).lt
  go_wp2_with fail
  refine (CX.out v4 b1 t1 L4.out).mono ?_
  rintro e9 w9 ⟨t2, rfl, hp9, hl9, hb9⟩
  have L5 := Lib.hid (L4.out.add (nw_new (ty := 28) hb9 hp9))
  have N2 := Lib.hid hl9
  clear hp9 hb9 hl9 L4
  clear q0 q1 q2 q3 q4 q5 ql
  go_upto_region 7 with fail
  obtain ⟨v5, h0⟩ : ∃ W, W = w9.alloc (.cells #[.slice t2.w.a t2.w.n t2.w.c, .slice t2.p.a t2.p.n t2.p.c, .slice (t2.u 0).a (t2.u 0).n (t2.u 0).c, .slice (t2.u 1).a (t2.u 1).n (t2.u 1).c, .slice (t2.u 2).a (t2.u 2).n (t2.u 2).c, .slice t2.c.a t2.c.n t2.c.c] 28) := ⟨_, rfl⟩
  obtain ⟨b2, h1⟩ : ∃ b, b = w9.heap.size := ⟨_, rfl⟩
  rw [← h0, ← h1] at L5
  rw [← h0, ← h1]
  clear h0 h1
  have M1 : (b1, t1, d1) ∈ [(b2, t2, d2), (b1, t1, d1), (w.heap.size, s, d)] := by simp
  have M2 : (w.heap.size, s, d) ∈ [(b2, t2, d2), (b1, t1, d1), (w.heap.size, s, d)] := by simp
  have LT := Lib.hid (And.intro L5.out True.intro)
  have q0 := (L5.out.at (w.heap.size) (s) (d) (by simp)).c0
  have q1 := (L5.out.at (w.heap.size) (s) (d) (by simp)).c1
  have q2 := (L5.out.at (w.heap.size) (s) (d) (by simp)).c2
  have q3 := (L5.out.at (w.heap.size) (s) (d) (by simp)).c3
  have q4 := (L5.out.at (w.heap.size) (s) (d) (by simp)).c4
  have q5 := (L5.out.at (w.heap.size) (s) (d) (by simp)).c5
  have ql := (L5.out.at (w.heap.size) (s) (d) (by simp)).lt
  go_wp2_with fail
  go_region_held3 (fun W => (Lx w W A n U F [(b2, t2, d2), (b1, t1, d1), (w.heap.size, s, d)] ∧ True) ∧ (b1 < W.heap.size ∧ W.cell? ⟨b1, 0, none⟩ = some (.slice t1.w.a t1.w.n t1.w.c) ∧ W.cell? ⟨b1, 1, none⟩ = some (.slice t1.p.a t1.p.n t1.p.c) ∧ W.cell? ⟨b1, 2, none⟩ = some (.slice (t1.u 0).a (t1.u 0).n (t1.u 0).c) ∧ W.cell? ⟨b1, 3, none⟩ = some (.slice (t1.u 1).a (t1.u 1).n (t1.u 1).c) ∧ W.cell? ⟨b1, 4, none⟩ = some (.slice (t1.u 2).a (t1.u 2).n (t1.u 2).c) ∧ W.cell? ⟨b1, 5, none⟩ = some (.slice t1.c.a t1.c.n t1.c.c)) ∧ w.heap.size < W.heap.size ∧ W.cell? ⟨w.heap.size, 0, none⟩ = some (.slice s.w.a s.w.n s.w.c) ∧ W.cell? ⟨w.heap.size, 1, none⟩ = some (.slice s.p.a s.p.n s.p.c) ∧ W.cell? ⟨w.heap.size, 2, none⟩ = some (.slice (s.u 0).a (s.u 0).n (s.u 0).c) ∧ W.cell? ⟨w.heap.size, 3, none⟩ = some (.slice (s.u 1).a (s.u 1).n (s.u 1).c) ∧ W.cell? ⟨w.heap.size, 4, none⟩ = some (.slice (s.u 2).a (s.u 2).n (s.u 2).c) ∧ W.cell? ⟨w.heap.size, 5, none⟩ = some (.slice s.c.a s.c.n s.c.c)) (first
    | with_reducible exact lx_keep2 M1 M2 (‹(Lx w _ A n U F _ ∧ True) ∧ _›).1 ‹Below _ _ _›
    | with_reducible exact lx_keep2 M1 M2 LT.out (Below.refl _ _)
    | exact lx_keep2 M1 M2 LT.out (below_drawn' (Below.refl _ _) 1)) (first
    | ((go_at_call 15; refine (M1X.out _ b1 t1 b2 t2 N1.out (‹(Lx w _ A n U F _ ∧ True) ∧ _›).1.1).mono ?_; rintro e x1 ⟨rfl, hb1⟩))
    | ((go_at_call 21; (with_reducible refine (W1X.out _ b1 t1 b2 t2 N1.out (‹(Lx w _ A n U F _ ∧ True) ∧ _›).1.1).mono ?_); rintro e x2 ⟨rfl, hb2⟩))
    | ((go_at_call 21; (with_reducible refine (WSX.out _ b1 t1 b2 t2 (‹(Lx w _ A n U F _ ∧ True) ∧ _›).1.1).mono ?_); rintro e x3 ⟨rfl, hb3⟩))
    | ((go_at_call 19; (with_reducible refine (U1X.out _ b1 t1 b2 t2 N1.out (‹(Lx w _ A n U F _ ∧ True) ∧ _›).1.1).mono ?_); rintro e x4 ⟨y4, rfl, ho4, hb4⟩; have R4 := Lib.hid (And.intro (row_of ho4) (show y4.n ≤ 4000000 by have h1 := ho4.1; simp only [List.length_map] at h1; omega)); clear ho4))
    | ((go_at_call 19; (with_reducible refine (U2X.out _ b1 t1 b2 t2 (‹(Lx w _ A n U F _ ∧ True) ∧ _›).1.1).mono ?_); rintro e x5 ⟨y5, rfl, ho5, hb5⟩; have R5 := Lib.hid (And.intro ((R4.out.1.below hb5).more hb5.size) (And.intro (row_of ho5) (And.intro R4.out.2 (show y5.n ≤ 4000000 by have h1 := ho5.1; simp only [List.length_map] at h1; omega)))); clear ho5))
    | ((go_at_call 14; refine (Ls.ints_any _ _ y4.a y5.a y4.n y5.n y4.c y5.c us us _ R5.out.2.2.1 R5.out.2.2.2 R5.out.1 R5.out.2.1).mono ?_; rw [decide_eq_true rfl]; rintro e x6 ⟨rfl, dd, hx6⟩; have hb6 : Below x5.heap.size x5 x6 := (by rw [hx6]; exact below_drawn' (Below.refl _ _) dd); clear hx6)))
  have L6 := Lib.hid (‹(Lx w x6 A n U F _ ∧ True) ∧ _›).1.1
  clear L5 LT M1 M2 hb1 hb2 hb3 hb4 hb5 hb6 R4 R5
  clear q0 q1 q2 q3 q4 q5 ql
  have v6e : ∃ v, v = x6 := ⟨_, rfl⟩
  obtain ⟨v6, hv6⟩ := v6e
  rw [← hv6] at L6 ⊢
  clear hv6
  have M1 : (b2, t2, d2) ∈ [(b2, t2, d2), (b1, t1, d1), (w.heap.size, s, d)] := by simp
  have M2 : (w.heap.size, s, d) ∈ [(b2, t2, d2), (b1, t1, d1), (w.heap.size, s, d)] := by simp
  have LT := Lib.hid (And.intro L6.out True.intro)
  have hx1 : t2.w.n ≤ 4000000 := by have h1 := N2.out.1; omega
  have q0 := (L6.out.at (w.heap.size) (s) (d) (by simp)).c0
  have q1 := (L6.out.at (w.heap.size) (s) (d) (by simp)).c1
  have q2 := (L6.out.at (w.heap.size) (s) (d) (by simp)).c2
  have q3 := (L6.out.at (w.heap.size) (s) (d) (by simp)).c3
  have q4 := (L6.out.at (w.heap.size) (s) (d) (by simp)).c4
  have q5 := (L6.out.at (w.heap.size) (s) (d) (by simp)).c5
  have ql := (L6.out.at (w.heap.size) (s) (d) (by simp)).lt
  go_wp2_with fail
  go_region_held3 (fun W => (Lx w W A n U F [(b2, t2, d2), (b1, t1, d1), (w.heap.size, s, d)] ∧ True) ∧ (b2 < W.heap.size ∧ W.cell? ⟨b2, 0, none⟩ = some (.slice t2.w.a t2.w.n t2.w.c) ∧ W.cell? ⟨b2, 1, none⟩ = some (.slice t2.p.a t2.p.n t2.p.c) ∧ W.cell? ⟨b2, 2, none⟩ = some (.slice (t2.u 0).a (t2.u 0).n (t2.u 0).c) ∧ W.cell? ⟨b2, 3, none⟩ = some (.slice (t2.u 1).a (t2.u 1).n (t2.u 1).c) ∧ W.cell? ⟨b2, 4, none⟩ = some (.slice (t2.u 2).a (t2.u 2).n (t2.u 2).c) ∧ W.cell? ⟨b2, 5, none⟩ = some (.slice t2.c.a t2.c.n t2.c.c)) ∧ w.heap.size < W.heap.size ∧ W.cell? ⟨w.heap.size, 0, none⟩ = some (.slice s.w.a s.w.n s.w.c) ∧ W.cell? ⟨w.heap.size, 1, none⟩ = some (.slice s.p.a s.p.n s.p.c) ∧ W.cell? ⟨w.heap.size, 2, none⟩ = some (.slice (s.u 0).a (s.u 0).n (s.u 0).c) ∧ W.cell? ⟨w.heap.size, 3, none⟩ = some (.slice (s.u 1).a (s.u 1).n (s.u 1).c) ∧ W.cell? ⟨w.heap.size, 4, none⟩ = some (.slice (s.u 2).a (s.u 2).n (s.u 2).c) ∧ W.cell? ⟨w.heap.size, 5, none⟩ = some (.slice s.c.a s.c.n s.c.c)) (first
    | with_reducible exact lx_keep2 M1 M2 (‹(Lx w _ A n U F _ ∧ True) ∧ _›).1 ‹Below _ _ _›
    | with_reducible exact lx_keep2 M1 M2 LT.out (Below.refl _ _)
    | exact lx_keep2 M1 M2 LT.out (below_drawn' (Below.refl _ _) 1)) (first
    | ((go_at_call 15; refine (M2X.out _ b1 t1 b2 t2 N2.out (‹(Lx w _ A n U F _ ∧ True) ∧ _›).1.1).mono ?_; rintro e x1 ⟨rfl, hb1⟩))
    | ((go_at_call 21; (with_reducible refine (W2X.out _ b1 t1 b2 t2 N2.out (‹(Lx w _ A n U F _ ∧ True) ∧ _›).1.1).mono ?_); rintro e x2 ⟨rfl, hb2⟩))
    | ((go_at_call 21; (with_reducible refine (WSX.out _ b1 t1 b2 t2 (‹(Lx w _ A n U F _ ∧ True) ∧ _›).1.1).mono ?_); rintro e x3 ⟨rfl, hb3⟩))
    | ((go_at_call 14; refine (Ls.ints_any _ _ t2.w.a s.w.a t2.w.n s.w.n t2.w.c s.w.c d2.ws d.ws _ hx1 (by omega) ((‹(Lx w _ A n U F _ ∧ True) ∧ _›).1.1.hp b2 t2 d2 M1).words ((‹(Lx w _ A n U F _ ∧ True) ∧ _›).1.1.hp (w.heap.size) s d M2).words).mono ?_; rw [decide_eq_true V2.out]; rintro e x6 ⟨rfl, dd, hx6⟩; have hb6 : Below x3.heap.size x3 x6 := (by rw [hx6]; exact below_drawn' (Below.refl _ _) dd); clear hx6)))
  have L7 := Lib.hid (‹(Lx w x6 A n U F _ ∧ True) ∧ _›).1.1
  clear L6 LT M1 M2 hb1 hb2 hb3 hb6
  clear q0 q1 q2 q3 q4 q5 ql
  go_wp2
  go_ret
  exact ⟨rfl, L7.out.bel⟩
end
theorem walk (s : Hs) (d : Hd_) (A : Option Addr) (n c : Nat) (U : Nat → Nat → Ls.Sl) (F : Nat → Nat → List Int) (a k : Int) (w : World) (hz : Cl.Sz w) (hp : Hp w w.heap.size s d) (hv : Fit64 d.ws) (_ : s.p.n ≤ s.p.c) (hl : Ls.LRow w w.heap.size A n U F) (hmx : n ≤ maxLen) (_ : n ≤ c) (_ : c ≤ maxLen) (ha : (Lit.int .i64 a).wf = true) (_ : (Lit.int .i64 k).wf = true)
    (hb : (Ls.allOf F n).length ≤ 1048576) :
    Calls Tryd.prog 6 #[(.agg #[.slice s.w.a s.w.n s.w.c, .slice s.p.a s.p.n s.p.c, .slice (s.u 0).a (s.u 0).n (s.u 0).c, .slice (s.u 1).a (s.u 1).n (s.u 1).c, .slice (s.u 2).a (s.u 2).n (s.u 2).c, .slice s.c.a s.c.n s.c.c]), .slice A n c, .int .i64 a, .int .i64 k] w fun e w' => e = .returned (.bool true) ∧ Below w.heap.size w w' := by
  cases hf : fewH s
  · exact walk_few s d A n c U F a k w hf hz hp hl
  by_cases h4 : 4 < n
  · exact walk_many s d A n c U F a k w hf h4 hmx hz hp hl
  have h4' : n ≤ 4 := by omega
  have hlen : (Ls.allOf (ahead d.F F) (1 + n)).length ≤ 2000000 := by
    have h1 := light_len (few_parts hf).2.2.2 hp.free
    rw [ahead_len]
    omega
  have hfi := fine_few hf hp hv
  have hz0 := hz.pos
  have hwn := (few_parts hf).1
  have ha2 := (wf_bounds ha).2
  have hul : (usedL s d).length ≤ 512 := Nat.le_trans (used_len s d) (allS_len d.f s.p.n)
  have hWs := fun (D1 D2 : Hd_) (W : World) (b1 : Nat) (t1 : Hs) (b2 : Nat) (t2 : Hs) (h : Lx w W A n U F [(b2, t2, D2), (b1, t1, D1), (w.heap.size, s, d)]) => pwhole_any s d A n c U F W (h.hp w.heap.size s d (by simp)) h.lr (by omega) (hz.over h.bel hz0) hfi hlen
  by_cases e1 : ofE s d a = 0
  · obtain ⟨m1, _⟩ := ofE_is e1
    have hD := fun (W : World) (h : Lx w W A n U F [(w.heap.size, s, d)]) => dirty_turn s d W a (h.hp w.heap.size s d (by simp)) (hz.over h.bel hz0) hfi ha2 e1
    have hM1 := fun (D2 : Hd_) (W : World) (b1 : Nat) (t1 : Hs) (b2 : Nat) (t2 : Hs) (n1 : Same3 s t1) (h : Lx w W A n U F [(b2, t2, D2), (b1, t1, ck d (ofK a) true), (w.heap.size, s, d)]) => pmay0_any t1 (ck d (ofK a) true) W (h.hp b1 t1 (ck d (ofK a) true) (by simp)) (hz.over h.bel hz0) (fine_ck n1 hfi _ _)
    have hW1 := fun (D2 : Hd_) (W : World) (b1 : Nat) (t1 : Hs) (b2 : Nat) (t2 : Hs) (n1 : Same3 s t1) (h : Lx w W A n U F [(b2, t2, D2), (b1, t1, ck d (ofK a) true), (w.heap.size, s, d)]) => pwhole_any t1 (ck d (ofK a) true) A n c U F W (h.hp b1 t1 (ck d (ofK a) true) (by simp)) h.lr (by omega) (hz.over h.bel hz0) (fine_ck n1 hfi _ _) hlen
    have hU1 := fun (D2 : Hd_) (W : World) (b1 : Nat) (t1 : Hs) (b2 : Nat) (t2 : Hs) (n1 : Same3 s t1) (h : Lx w W A n U F [(b2, t2, D2), (b1, t1, ck d (ofK a) true), (w.heap.size, s, d)]) => pused_any t1 (ck d (ofK a) true) W (h.hp b1 t1 (ck d (ofK a) true) (by simp)) (hz.over h.bel hz0) (fine_ck n1 hfi _ _)
    have hU2 := fun (D2 : Hd_) (W : World) (b1 : Nat) (t1 : Hs) (b2 : Nat) (t2 : Hs) (h : Lx w W A n U F [(b2, t2, D2), (b1, t1, ck d (ofK a) true), (w.heap.size, s, d)]) => pused_any s d W (h.hp w.heap.size s d (by simp)) (hz.over h.bel hz0) hfi
    have hM1' := fun D2 W b1 t1 b2 t2 n1 h => by have := hM1 D2 W b1 t1 b2 t2 n1 h; rw [may0_ck n1, m1] at this; exact this
    have hW1' := fun D2 W b1 t1 b2 t2 n1 h => by have := hW1 D2 W b1 t1 b2 t2 n1 h; rw [whole_ck n1] at this; exact this
    have hU1' := fun D2 W b1 t1 b2 t2 n1 h => by have := hU1 D2 W b1 t1 b2 t2 n1 h; rw [used_ck n1] at this; exact this
    by_cases e2 : clE s d k = 0
    · obtain ⟨_, k0, k1⟩ := clE_is e2
      obtain ⟨i, rfl⟩ : ∃ i : Nat, k = i := ⟨k.toNat, by omega⟩
      refine core_ok_ok s d A n c U F a i w (ck d (ofK a) true) (ck d i false) h4' _ _ hul hwn rfl hf hD (fun W b1 t1 h => clean_turn s d W i (h.hp w.heap.size s d (by simp)) (hz.over h.bel hz0) hfi e2) (hM1' _) (hW1' _) (hU1' _) (hU2 _) (hWs _ _)
        (fun W b1 t1 b2 t2 n2 h => ?_) (fun W b1 t1 b2 t2 n2 h => ?_) hz hp hl
      · have := pmay0_any t2 (ck d i false) W (h.hp b2 t2 (ck d i false) (by simp)) (hz.over h.bel hz0) (fine_ck n2 hfi _ _)
        rwa [may0_ck n2, m1] at this
      · have := pwhole_any t2 (ck d i false) A n c U F W (h.hp b2 t2 (ck d i false) (by simp)) h.lr (by omega) (hz.over h.bel hz0) (fine_ck n2 hfi _ _) hlen
        rwa [whole_ck n2] at this
    · exact core_ok_no s d A n c U F a k w (ck d (ofK a) true) _ h4' _ e2 _ _ hul hf hD (fun W b1 t1 h => clean_weak s d W k (h.hp w.heap.size s d (by simp)) (hz.over h.bel hz0) hfi) (hM1' _) (hW1' _) (hU1' _) (hU2 _) (hWs _ _) hz hp hl
  · have hD := fun (W : World) (h : Lx w W A n U F [(w.heap.size, s, d)]) => dirty_weak s d W a (h.hp w.heap.size s d (by simp)) (hz.over h.bel hz0) hfi ha2
    by_cases e2 : clE s d k = 0
    · obtain ⟨m1, k0, k1⟩ := clE_is e2
      obtain ⟨i, rfl⟩ : ∃ i : Nat, k = i := ⟨k.toNat, by omega⟩
      refine core_no_ok s d A n c U F a i w _ (ck d i false) h4' _ e1 _ hwn rfl hf hD (fun W b1 t1 h => clean_turn s d W i (h.hp w.heap.size s d (by simp)) (hz.over h.bel hz0) hfi e2) (hWs _ _)
        (fun W b1 t1 b2 t2 n2 h => ?_) (fun W b1 t1 b2 t2 n2 h => ?_) hz hp hl
      · have := pmay0_any t2 (ck d i false) W (h.hp b2 t2 (ck d i false) (by simp)) (hz.over h.bel hz0) (fine_ck n2 hfi _ _)
        rwa [may0_ck n2, m1] at this
      · have := pwhole_any t2 (ck d i false) A n c U F W (h.hp b2 t2 (ck d i false) (by simp)) h.lr (by omega) (hz.over h.bel hz0) (fine_ck n2 hfi _ _) hlen
        rwa [whole_ck n2] at this
    · exact core_no_no s d A n c U F a k w _ _ h4' _ e1 _ e2 hf hD (fun W b1 t1 h => clean_weak s d W k (h.hp w.heap.size s d (by simp)) (hz.over h.bel hz0) hfi) hz hp hl
-- the frame (hp10frame.py)
set_option maxRecDepth 100000 in
theorem lifted (os : Os) (started : os.Started) (H : Type) (enc : TypeId × Value → H) (F : Stop.Interp) :
    ReturnsInHanded {} Tryd.checked os 6 .any ((Rows.OpenSpec.upto Rows.cardsWordsSpec).preRow enc Tryd.prog Tryd.f6 Rows.cardsWordsUptoRow.domain false Rows.cardsWordsUptoRow.laid) (((Rows.OpenSpec.upto Rows.cardsWordsSpec).at F).post enc Tryd.prog Tryd.f6 false true false false) := by
  obtain ⟨places, hx⟩ : ∃ places, DataW.whole enc Tryd.prog ((World.doorLaid Tryd.prog 400 os).forCall (fun _ _ => 0) ⟨#[], #[.agg #[.slice none 0 0, .slice none 0 0, .slice none 0 0, .slice none 0 0, .slice none 0 0, .slice none 0 0], .slice none 0 0, .int .i64 0, .int .i64 0], []⟩).memory Tryd.f6.params.toList Rows.cardsWordsSpec.vars false (#[.agg #[.slice none 0 0, .slice none 0 0, .slice none 0 0, .slice none 0 0, .slice none 0 0, .slice none 0 0], .slice none 0 0, .int .i64 0, .int .i64 0] : Array Value).toList 8 = some ([.agg [.nil, .nil, .agg [.nil, .nil, .nil], .nil], .nil, .lit (.int .i64 0), .lit (.int .i64 0)], [], places) := ⟨[], by kernel_rfl⟩
  refine returnsInHanded_of_row (C := Tryd.checked) (s := Rows.OpenSpec.upto Rows.cardsWordsSpec) own started (by kernel_rfl) Tryd.func6
    (witness_row_atRef (enc := enc) (C := Tryd.checked) false (World.doorLaid Tryd.prog 400 os) #[.agg #[.slice none 0 0, .slice none 0 0, .slice none 0 0, .slice none 0 0, .slice none 0 0, .slice none 0 0], .slice none 0 0, .int .i64 0, .int .i64 0] rfl (by kernel_rfl) (by kernel_rfl) (by kernel_rfl)
      (OpenSpec.preRow_of_cond 8 hx (by kernel_rfl) (fun k hk => by cases hk; kernel_rfl) (by kernel_rfl) (door_met os _))) ?_
  intro W base args ds gs before hval0 hW _ hk0 _ hL _ _
  have hval : ∀ (j : Nat) t v, Tryd.f6.params[j]? = some t → args[j]? = some v → Value.okWide Tryd.prog W .any base t v := hval0
  have hW' := hW
  obtain ⟨p, q, hA0, hV, rfl, hfz, hnd⟩ := hW
  have hA : DataW.TrodAll enc Tryd.prog W 0 (fun _ => true) true Tryd.f6.params.toList args.toList ds p := hA0
  rw [Tryd.params6] at hA hval
  obtain ⟨v0, vs0, d0, ds0, p0, q0, hargs, rfl, rfl, h0, r0⟩ := trodAll_cons hA
  obtain ⟨v1, vs1, d1, ds1, p1, q1, rfl, rfl, rfl, h1, r1⟩ := trodAll_cons r0
  obtain ⟨v2, vs2, d2, ds2, p2, q2, rfl, rfl, rfl, h2, r2⟩ := trodAll_cons r1
  obtain ⟨v3, vs3, d3, ds3, p3, q3, rfl, rfl, rfl, h3, r3⟩ := trodAll_cons r2
  obtain ⟨rfl, rfl, rfl⟩ := trodAll_nil r3
  obtain rfl : args = #[v0, v1, v2, v3] := by cases args; simp_all
  obtain ⟨rfl, rfl⟩ := trodVars_none hV
  have k0 := h0
  have lt0 : ∀ x ∈ p0, x.block < W.heap.size := by obtain ⟨m, hm⟩ := k0; exact DataW.trod_lt m _ _ _ hm
  obtain ⟨s0, z0, rfl, w0, f0, b0⟩ := heap_of8 (hval 0 28 v0 rfl rfl) h0
  have k1 := h1
  have lt1 : ∀ x ∈ p1, x.block < W.heap.size := by obtain ⟨m, hm⟩ := k1; exact DataW.trod_lt m _ _ _ hm
  obtain ⟨a1, len1, cap1, rfl⟩ := okWide_slice Tryd.underlying49 (hval 1 49 v1 rfl rfl)
  obtain ⟨u1, z1, w1, m1, b1⟩ := rows_of h1
  have c1 := cap_of h1
  obtain ⟨a2, rfl, rfl, rfl, w2⟩ := open_int Tryd.underlying3 (hval 2 3 v2 rfl rfl) h2
  obtain ⟨a3, rfl, rfl, rfl, w3⟩ := open_int Tryd.underlying3 (hval 3 3 v3 rfl rfl) h3
  have hb : (Ls.allOf z1 len1).length ≤ 1048576 := by
    have h := of_decide_eq_true (hk0 _ rfl)
    simp only [Rows.uptoBulkAll, List.append_nil] at h
    omega
  clear hk0
  clear hA0 hval0
  refine (walk s0 z0 a1 len1 cap1 u1 z1 a2 a3 W (of_laid hL) w0 f0 b0 w1 m1 c1.1 c1.2 w2 w3 hb).mono fun e W' ⟨he, bel⟩ => ?_
  subst he
  exact ⟨_, rfl, _, _, _, [], _, [], hW', trodAll_mk1 (shut_bool Tryd.underlying4 _), (trodAll_cons_mk (Below.trod laidOut (by kernel_rfl) (of_decide_eq_true (by kernel_rfl)) k0 bel lt0) (trodAll_cons_mk (Below.trod laidOut (by kernel_rfl) (of_decide_eq_true (by kernel_rfl)) k1 bel lt1) (trodAll_cons_mk (shut_int Tryd.underlying3 w2) (trodAll_cons_mk (shut_int Tryd.underlying3 w3) trodAll_mk0)))), rfl, bel.frame _, fun h => by cases h⟩

theorem over : Rows.CardsWordsUptoSaid :=
  OpenClaim.holds_of_cond 6 Tryd.f6 rfl rfl rfl rfl rfl rfl rfl ⟨rfl, rfl, rfl, rfl, rfl⟩ rfl rfl rfl rfl rfl (by kernel_rfl) Tryd.func6 (by kernel_rfl)
    (of_decide_eq_true (by kernel_rfl)) (by unfold Func.isWrapper; first | (rw [if_pos (by decide +kernel)]; kernel_rfl) | (rw [if_neg (by decide +kernel)]; exact ⟨rfl, rfl⟩))
    (fun os started H enc _ F => by rw [OpenClaim.pre_eq_preRow]; exact lifted os started H enc F)

/-- The statement: the card. -/
theorem proved : Rows.CardsWordsUptoCardSaid :=
  Claim7.holds_tied_plain_at .later [] [.data] true Rows.cardsWordsUptoCard.stood.harness false
    over (fun _ h => by cases h) (by kernel_rfl) (fun _ h => by cases h) cardsWordsUpto_row_tie rfl ⟨rfl, rfl⟩ (by kernel_rfl) rfl
    (fun f fn hf hfn => by
      obtain rfl : f = 6 := Option.some.inj ((show Tryd.prog.funcNamed "ragpicker/ragpickerlaw10.CardsWords" = some 6 by kernel_rfl).symm.trans hf) |>.symm
      obtain rfl : fn = Tryd.f6 := (Option.some.inj (Tryd.func6.symm.trans hfn)).symm
      exact ⟨by kernel_rfl, fun j t ht => by
        rw [Tryd.params6] at ht
        have hm : t ∈ [28, 49, 3, 3] := by simpa using Array.mem_of_getElem? ht
        have hall : ([28, 49, 3, 3].all fun u => !Tryd.prog.wantsStandIn u) = true := by kernel_rfl
        exact (show Tryd.prog.wantsStandIn t = false by simpa using List.all_eq_true.1 hall t hm)⟩)
    (by kernel_rfl)
#print axioms proved
end Go.Proofs.YtmalopciboikhaaDoor.CardsWords
