/-
  CardsNone: of what may not be, and of nobody's addresses, there is no card; none is dirtied, or cleaned, that is none: for every heap of at most 9 pages and 130 words; the table of sizes is tied to the program's text by the card.
-/
import Derived.Test.YtmalopciboikhaaDoorHpCG
namespace Go.Proofs.YtmalopciboikhaaDoor.CardsNone
open Go.Proofs.YtmalopciboikhaaDoor Go.Proofs.YtmalopciboikhaaDoor.Ck
open Go.ChangeShapes Go.WideShapes Go.ChangeAt Go.RowKit
set_option maxRecDepth 100000

section
variable (s : Hs) (d : Hd_) (a k : Int) (w : World)
set_option maxHeartbeats 1000000 in
theorem walk_few (hf : fewH s = false) (hz : Cl.Sz w) (hp : Hp w w.heap.size s d) : Calls Tryd.prog 7 #[(.agg #[.slice s.w.a s.w.n s.w.c, .slice s.p.a s.p.n s.p.c, .slice (s.u 0).a (s.u 0).n (s.u 0).c, .slice (s.u 1).a (s.u 1).n (s.u 1).c, .slice (s.u 2).a (s.u 2).n (s.u 2).c, .slice s.c.a s.c.n s.c.c]), .int .i64 a, .int .i64 k] w fun e w' => e = .returned (.bool true) ∧ Below w.heap.size w w' := by
  have HZ := Lib.hid hz
  have hz0 := hz.pos
  have HP := Lib.hid hp
  have HF := Lib.hid hf
  clear hz hp hf
  go_enter Tryd.func7, Tryd.ntmps7
  go_wp2_with fail
  obtain ⟨W1, hW1⟩ : ∃ W1, W1 = w.alloc (.cells #[.slice s.w.a s.w.n s.w.c, .slice s.p.a s.p.n s.p.c, .slice (s.u 0).a (s.u 0).n (s.u 0).c, .slice (s.u 1).a (s.u 1).n (s.u 1).c, .slice (s.u 2).a (s.u 2).n (s.u 2).c, .slice s.c.a s.c.n s.c.c] 28) := ⟨_, rfl⟩
  have L1 := Lib.hid (lx_start (A := none) (n := 0) (U := (fun _ => Ls.noSl)) (F := noCaches) HP.out (fun h => absurd h (by omega)) hW1)
  rw [← hW1]
  clear hW1
  refine (Ck.awake_any W1 (HZ.out.over L1.out.bel hz0)).mono ?_
  rintro e9 w1 ⟨rfl, hb1⟩
  have L2 := Lib.hid (L1.out.next hb1)
  clear hb1 L1
  have q0 := (L2.out.at (w.heap.size) (s) (d) (by simp)).c0
  have q1 := (L2.out.at (w.heap.size) (s) (d) (by simp)).c1
  have q2 := (L2.out.at (w.heap.size) (s) (d) (by simp)).c2
  have q3 := (L2.out.at (w.heap.size) (s) (d) (by simp)).c3
  have q4 := (L2.out.at (w.heap.size) (s) (d) (by simp)).c4
  have q5 := (L2.out.at (w.heap.size) (s) (d) (by simp)).c5
  have ql := (L2.out.at (w.heap.size) (s) (d) (by simp)).lt
  go_wp2_with fail
  refine (rfew_any s w1).mono ?_
  rw [HF.out]
  rintro e9 w2 ⟨rfl, hb2⟩
  have L3 := Lib.hid (L2.out.next hb2)
  clear hb2 L2
  clear q0 q1 q2 q3 q4 q5 ql
  go_wp2
  go_ret
  exact ⟨rfl, L3.out.bel⟩
set_option maxHeartbeats 4000000 in
theorem core_bad (d1 d2 : Hd_) (hf : fewH s = true) (hO : ∀ W, Lx w W none 0 (fun _ => Ls.noSl) noCaches [(w.heap.size, s, d)] → Calls Tryd.prog 10 #[(.agg #[.slice s.w.a s.w.n s.w.c, .slice s.p.a s.p.n s.p.c, .slice (s.u 0).a (s.u 0).n (s.u 0).c, .slice (s.u 1).a (s.u 1).n (s.u 1).c, .slice (s.u 2).a (s.u 2).n (s.u 2).c, .slice s.c.a s.c.n s.c.c]), .int .i64 a] W fun e w' => e = .returned (.tuple #[.int .i64 0, .int .i64 1]) ∧ Below W.heap.size W w') (hD : ∀ W, Lx w W none 0 (fun _ => Ls.noSl) noCaches [(w.heap.size, s, d)] → Calls Tryd.prog 12 #[(.agg #[.slice s.w.a s.w.n s.w.c, .slice s.p.a s.p.n s.p.c, .slice (s.u 0).a (s.u 0).n (s.u 0).c, .slice (s.u 1).a (s.u 1).n (s.u 1).c, .slice (s.u 2).a (s.u 2).n (s.u 2).c, .slice s.c.a s.c.n s.c.c]), .int .i64 a] W fun e w' => ∃ t : Hs, e = .returned (.tuple #[(.agg #[.slice t.w.a t.w.n t.w.c, .slice t.p.a t.p.n t.p.c, .slice (t.u 0).a (t.u 0).n (t.u 0).c, .slice (t.u 1).a (t.u 1).n (t.u 1).c, .slice (t.u 2).a (t.u 2).n (t.u 2).c, .slice t.c.a t.c.n t.c.c]), .int .i64 1]) ∧ Hp w' w'.heap.size t d1 ∧ True ∧ Below W.heap.size W w') (hC : ∀ W b1 t1, Lx w W none 0 (fun _ => Ls.noSl) noCaches [(b1, t1, d1), (w.heap.size, s, d)] → Calls Tryd.prog 13 #[(.agg #[.slice s.w.a s.w.n s.w.c, .slice s.p.a s.p.n s.p.c, .slice (s.u 0).a (s.u 0).n (s.u 0).c, .slice (s.u 1).a (s.u 1).n (s.u 1).c, .slice (s.u 2).a (s.u 2).n (s.u 2).c, .slice s.c.a s.c.n s.c.c]), .int .i64 k] W fun e w' => ∃ t : Hs, e = .returned (.tuple #[(.agg #[.slice t.w.a t.w.n t.w.c, .slice t.p.a t.p.n t.p.c, .slice (t.u 0).a (t.u 0).n (t.u 0).c, .slice (t.u 1).a (t.u 1).n (t.u 1).c, .slice (t.u 2).a (t.u 2).n (t.u 2).c, .slice t.c.a t.c.n t.c.c]), .int .i64 1]) ∧ Hp w' w'.heap.size t d2 ∧ True ∧ Below W.heap.size W w') (hM : ∀ W b1 t1 b2 t2, Lx w W none 0 (fun _ => Ls.noSl) noCaches [(b2, t2, d2), (b1, t1, d1), (w.heap.size, s, d)] → Calls Tryd.prog 15 #[(.agg #[.slice s.w.a s.w.n s.w.c, .slice s.p.a s.p.n s.p.c, .slice (s.u 0).a (s.u 0).n (s.u 0).c, .slice (s.u 1).a (s.u 1).n (s.u 1).c, .slice (s.u 2).a (s.u 2).n (s.u 2).c, .slice s.c.a s.c.n s.c.c]), .slice none 0 0] W fun e w' => e = .returned (.bool false) ∧ Below W.heap.size W w') (hN : ∀ W b1 t1 b2 t2, Lx w W none 0 (fun _ => Ls.noSl) noCaches [(b2, t2, d2), (b1, t1, d1), (w.heap.size, s, d)] → Calls Tryd.prog 16 #[(.agg #[.slice s.w.a s.w.n s.w.c, .slice s.p.a s.p.n s.p.c, .slice (s.u 0).a (s.u 0).n (s.u 0).c, .slice (s.u 1).a (s.u 1).n (s.u 1).c, .slice (s.u 2).a (s.u 2).n (s.u 2).c, .slice s.c.a s.c.n s.c.c]), .int .i64 k] W (Ls.AllOut W [])) (hz : Cl.Sz w) (hp : Hp w w.heap.size s d) : Calls Tryd.prog 7 #[(.agg #[.slice s.w.a s.w.n s.w.c, .slice s.p.a s.p.n s.p.c, .slice (s.u 0).a (s.u 0).n (s.u 0).c, .slice (s.u 1).a (s.u 1).n (s.u 1).c, .slice (s.u 2).a (s.u 2).n (s.u 2).c, .slice s.c.a s.c.n s.c.c]), .int .i64 a, .int .i64 k] w fun e w' => e = .returned (.bool true) ∧ Below w.heap.size w w' := by
  have HZ := Lib.hid hz
  have hz0 := hz.pos
  have HP := Lib.hid hp
  have HF := Lib.hid hf
  have H1 := Lib.hid hO
  have H2 := Lib.hid hD
  have H3 := Lib.hid hC
  have H4 := Lib.hid hM
  have H5 := Lib.hid hN
  clear hN
  clear hz hp hf hO hD hC hM
  go_enter Tryd.func7, Tryd.ntmps7
  go_wp2_with fail
  obtain ⟨W1, hW1⟩ : ∃ W1, W1 = w.alloc (.cells #[.slice s.w.a s.w.n s.w.c, .slice s.p.a s.p.n s.p.c, .slice (s.u 0).a (s.u 0).n (s.u 0).c, .slice (s.u 1).a (s.u 1).n (s.u 1).c, .slice (s.u 2).a (s.u 2).n (s.u 2).c, .slice s.c.a s.c.n s.c.c] 28) := ⟨_, rfl⟩
  have L1 := Lib.hid (lx_start (A := none) (n := 0) (U := (fun _ => Ls.noSl)) (F := noCaches) HP.out (fun h => absurd h (by omega)) hW1)
  rw [← hW1]
  clear hW1
  refine (Ck.awake_any W1 (HZ.out.over L1.out.bel hz0)).mono ?_
  rintro e9 w1 ⟨rfl, hb1⟩
  have L2 := Lib.hid (L1.out.next hb1)
  clear hb1 L1
  have q0 := (L2.out.at (w.heap.size) (s) (d) (by simp)).c0
  have q1 := (L2.out.at (w.heap.size) (s) (d) (by simp)).c1
  have q2 := (L2.out.at (w.heap.size) (s) (d) (by simp)).c2
  have q3 := (L2.out.at (w.heap.size) (s) (d) (by simp)).c3
  have q4 := (L2.out.at (w.heap.size) (s) (d) (by simp)).c4
  have q5 := (L2.out.at (w.heap.size) (s) (d) (by simp)).c5
  have ql := (L2.out.at (w.heap.size) (s) (d) (by simp)).lt
  go_wp2_with fail
  refine (rfew_any s w1).mono ?_
  rw [HF.out]
  rintro e9 w2 ⟨rfl, hb2⟩
  have L3 := Lib.hid (L2.out.next hb2)
  clear hb2 L2
  clear q0 q1 q2 q3 q4 q5 ql
  have q0 := (L3.out.at (w.heap.size) (s) (d) (by simp)).c0
  have q1 := (L3.out.at (w.heap.size) (s) (d) (by simp)).c1
  have q2 := (L3.out.at (w.heap.size) (s) (d) (by simp)).c2
  have q3 := (L3.out.at (w.heap.size) (s) (d) (by simp)).c3
  have q4 := (L3.out.at (w.heap.size) (s) (d) (by simp)).c4
  have q5 := (L3.out.at (w.heap.size) (s) (d) (by simp)).c5
  have ql := (L3.out.at (w.heap.size) (s) (d) (by simp)).lt
  go_wp2_with fail
  refine (H1.out w2 L3.out).mono ?_
  rintro e9 w3 ⟨rfl, hb9⟩
  have L4 := Lib.hid (L3.out.next hb9)
  clear hb9 L3
  clear q0 q1 q2 q3 q4 q5 ql
  have q0 := (L4.out.at (w.heap.size) (s) (d) (by simp)).c0
  have q1 := (L4.out.at (w.heap.size) (s) (d) (by simp)).c1
  have q2 := (L4.out.at (w.heap.size) (s) (d) (by simp)).c2
  have q3 := (L4.out.at (w.heap.size) (s) (d) (by simp)).c3
  have q4 := (L4.out.at (w.heap.size) (s) (d) (by simp)).c4
  have q5 := (L4.out.at (w.heap.size) (s) (d) (by simp)).c5
  have ql := (L4.out.at (w.heap.size) (s) (d) (by simp)).lt
  go_wp2_with fail
  refine (H2.out w3 L4.out).mono ?_
  rintro e9 w9 ⟨t1, rfl, hp9, hl9, hb9⟩
  have L5 := Lib.hid (L4.out.add (nw_new (ty := 28) hb9 hp9))
  have N5 := Lib.hid hl9
  clear hp9 hb9 hl9 L4
  clear q0 q1 q2 q3 q4 q5 ql
  go_upto_region 7 with fail
  obtain ⟨v5, h0⟩ : ∃ W, W = w9.alloc (.cells #[.slice t1.w.a t1.w.n t1.w.c, .slice t1.p.a t1.p.n t1.p.c, .slice (t1.u 0).a (t1.u 0).n (t1.u 0).c, .slice (t1.u 1).a (t1.u 1).n (t1.u 1).c, .slice (t1.u 2).a (t1.u 2).n (t1.u 2).c, .slice t1.c.a t1.c.n t1.c.c] 28) := ⟨_, rfl⟩
  obtain ⟨b1, h1⟩ : ∃ b, b = w9.heap.size := ⟨_, rfl⟩
  rw [← h0, ← h1] at L5
  rw [← h0, ← h1]
  clear h0 h1
  have q0 := (L5.out.at (w.heap.size) (s) (d) (by simp)).c0
  have q1 := (L5.out.at (w.heap.size) (s) (d) (by simp)).c1
  have q2 := (L5.out.at (w.heap.size) (s) (d) (by simp)).c2
  have q3 := (L5.out.at (w.heap.size) (s) (d) (by simp)).c3
  have q4 := (L5.out.at (w.heap.size) (s) (d) (by simp)).c4
  have q5 := (L5.out.at (w.heap.size) (s) (d) (by simp)).c5
  have ql := (L5.out.at (w.heap.size) (s) (d) (by simp)).lt
  go_wp2_with fail
  refine (H3.out v5 b1 t1 L5.out).mono ?_
  rintro e9 w9 ⟨t2, rfl, hp9, hl9, hb9⟩
  have L6 := Lib.hid (L5.out.add (nw_new (ty := 28) hb9 hp9))
  have N6 := Lib.hid hl9
  clear hp9 hb9 hl9 L5
  clear q0 q1 q2 q3 q4 q5 ql
  go_upto_region 8 with fail
  obtain ⟨v6, h0⟩ : ∃ W, W = w9.alloc (.cells #[.slice t2.w.a t2.w.n t2.w.c, .slice t2.p.a t2.p.n t2.p.c, .slice (t2.u 0).a (t2.u 0).n (t2.u 0).c, .slice (t2.u 1).a (t2.u 1).n (t2.u 1).c, .slice (t2.u 2).a (t2.u 2).n (t2.u 2).c, .slice t2.c.a t2.c.n t2.c.c] 28) := ⟨_, rfl⟩
  obtain ⟨b2, h1⟩ : ∃ b, b = w9.heap.size := ⟨_, rfl⟩
  rw [← h0, ← h1] at L6
  rw [← h0, ← h1]
  clear h0 h1
  have q0 := (L6.out.at (w.heap.size) (s) (d) (by simp)).c0
  have q1 := (L6.out.at (w.heap.size) (s) (d) (by simp)).c1
  have q2 := (L6.out.at (w.heap.size) (s) (d) (by simp)).c2
  have q3 := (L6.out.at (w.heap.size) (s) (d) (by simp)).c3
  have q4 := (L6.out.at (w.heap.size) (s) (d) (by simp)).c4
  have q5 := (L6.out.at (w.heap.size) (s) (d) (by simp)).c5
  have ql := (L6.out.at (w.heap.size) (s) (d) (by simp)).lt
  go_wp2_with fail
  refine (H4.out v6 b1 t1 b2 t2 L6.out).mono ?_
  rintro e9 w7 ⟨rfl, hb9⟩
  have L7 := Lib.hid (L6.out.next hb9)
  clear hb9 L6
  clear q0 q1 q2 q3 q4 q5 ql
  have q0 := (L7.out.at (w.heap.size) (s) (d) (by simp)).c0
  have q1 := (L7.out.at (w.heap.size) (s) (d) (by simp)).c1
  have q2 := (L7.out.at (w.heap.size) (s) (d) (by simp)).c2
  have q3 := (L7.out.at (w.heap.size) (s) (d) (by simp)).c3
  have q4 := (L7.out.at (w.heap.size) (s) (d) (by simp)).c4
  have q5 := (L7.out.at (w.heap.size) (s) (d) (by simp)).c5
  have ql := (L7.out.at (w.heap.size) (s) (d) (by simp)).lt
  go_wp2_with fail
  refine (H5.out w7 b1 t1 b2 t2 L7.out).mono ?_
  rintro e9 w8 ⟨v9, rfl, ho9, hb9⟩
  have L8 := Lib.hid (L7.out.next hb9)
  have hv9 : v9.n = 0 := by have := ho9.1; simpa using this.symm
  obtain ⟨va, vn, vc⟩ := v9
  dsimp only at hv9
  subst hv9
  clear hb9 ho9 L7
  clear q0 q1 q2 q3 q4 q5 ql
  go_wp2
  go_ret
  exact ⟨rfl, L8.out.bel⟩
set_option maxHeartbeats 4000000 in
theorem core_low_no (d1 d2 : Hd_) (hf : fewH s = true) (a1 : decide (16 ≤ a) = false) (k1 : decide (0 ≤ k) = false) (hO : ∀ W, Lx w W none 0 (fun _ => Ls.noSl) noCaches [(w.heap.size, s, d)] → Calls Tryd.prog 10 #[(.agg #[.slice s.w.a s.w.n s.w.c, .slice s.p.a s.p.n s.p.c, .slice (s.u 0).a (s.u 0).n (s.u 0).c, .slice (s.u 1).a (s.u 1).n (s.u 1).c, .slice (s.u 2).a (s.u 2).n (s.u 2).c, .slice s.c.a s.c.n s.c.c]), .int .i64 a] W fun e w' => e = .returned (.tuple #[.int .i64 0, .int .i64 3]) ∧ Below W.heap.size W w') (hD : ∀ W, Lx w W none 0 (fun _ => Ls.noSl) noCaches [(w.heap.size, s, d)] → Calls Tryd.prog 12 #[(.agg #[.slice s.w.a s.w.n s.w.c, .slice s.p.a s.p.n s.p.c, .slice (s.u 0).a (s.u 0).n (s.u 0).c, .slice (s.u 1).a (s.u 1).n (s.u 1).c, .slice (s.u 2).a (s.u 2).n (s.u 2).c, .slice s.c.a s.c.n s.c.c]), .int .i64 a] W fun e w' => ∃ t : Hs, e = .returned (.tuple #[(.agg #[.slice t.w.a t.w.n t.w.c, .slice t.p.a t.p.n t.p.c, .slice (t.u 0).a (t.u 0).n (t.u 0).c, .slice (t.u 1).a (t.u 1).n (t.u 1).c, .slice (t.u 2).a (t.u 2).n (t.u 2).c, .slice t.c.a t.c.n t.c.c]), .int .i64 3]) ∧ Hp w' w'.heap.size t d1 ∧ True ∧ Below W.heap.size W w') (hC : ∀ W b1 t1, Lx w W none 0 (fun _ => Ls.noSl) noCaches [(b1, t1, d1), (w.heap.size, s, d)] → Calls Tryd.prog 13 #[(.agg #[.slice s.w.a s.w.n s.w.c, .slice s.p.a s.p.n s.p.c, .slice (s.u 0).a (s.u 0).n (s.u 0).c, .slice (s.u 1).a (s.u 1).n (s.u 1).c, .slice (s.u 2).a (s.u 2).n (s.u 2).c, .slice s.c.a s.c.n s.c.c]), .int .i64 k] W fun e w' => ∃ t : Hs, e = .returned (.tuple #[(.agg #[.slice t.w.a t.w.n t.w.c, .slice t.p.a t.p.n t.p.c, .slice (t.u 0).a (t.u 0).n (t.u 0).c, .slice (t.u 1).a (t.u 1).n (t.u 1).c, .slice (t.u 2).a (t.u 2).n (t.u 2).c, .slice t.c.a t.c.n t.c.c]), .int .i64 3]) ∧ Hp w' w'.heap.size t d2 ∧ True ∧ Below W.heap.size W w') (hM : ∀ W b1 t1 b2 t2, Lx w W none 0 (fun _ => Ls.noSl) noCaches [(b2, t2, d2), (b1, t1, d1), (w.heap.size, s, d)] → Calls Tryd.prog 15 #[(.agg #[.slice s.w.a s.w.n s.w.c, .slice s.p.a s.p.n s.p.c, .slice (s.u 0).a (s.u 0).n (s.u 0).c, .slice (s.u 1).a (s.u 1).n (s.u 1).c, .slice (s.u 2).a (s.u 2).n (s.u 2).c, .slice s.c.a s.c.n s.c.c]), .slice none 0 0] W fun e w' => e = .returned (.bool true) ∧ Below W.heap.size W w') (hN : ∀ W b1 t1 b2 t2, Lx w W none 0 (fun _ => Ls.noSl) noCaches [(b2, t2, d2), (b1, t1, d1), (w.heap.size, s, d)] → Calls Tryd.prog 16 #[(.agg #[.slice s.w.a s.w.n s.w.c, .slice s.p.a s.p.n s.p.c, .slice (s.u 0).a (s.u 0).n (s.u 0).c, .slice (s.u 1).a (s.u 1).n (s.u 1).c, .slice (s.u 2).a (s.u 2).n (s.u 2).c, .slice s.c.a s.c.n s.c.c]), .int .i64 k] W (Ls.AllOut W [])) (hz : Cl.Sz w) (hp : Hp w w.heap.size s d) : Calls Tryd.prog 7 #[(.agg #[.slice s.w.a s.w.n s.w.c, .slice s.p.a s.p.n s.p.c, .slice (s.u 0).a (s.u 0).n (s.u 0).c, .slice (s.u 1).a (s.u 1).n (s.u 1).c, .slice (s.u 2).a (s.u 2).n (s.u 2).c, .slice s.c.a s.c.n s.c.c]), .int .i64 a, .int .i64 k] w fun e w' => e = .returned (.bool true) ∧ Below w.heap.size w w' := by
  have HZ := Lib.hid hz
  have hz0 := hz.pos
  have HP := Lib.hid hp
  have HF := Lib.hid hf
  have H1 := Lib.hid hO
  have H2 := Lib.hid hD
  have H3 := Lib.hid hC
  have H4 := Lib.hid hM
  have H5 := Lib.hid hN
  clear hN
  clear hz hp hf hO hD hC hM
  go_enter Tryd.func7, Tryd.ntmps7
  go_wp2_with fail
  obtain ⟨W1, hW1⟩ : ∃ W1, W1 = w.alloc (.cells #[.slice s.w.a s.w.n s.w.c, .slice s.p.a s.p.n s.p.c, .slice (s.u 0).a (s.u 0).n (s.u 0).c, .slice (s.u 1).a (s.u 1).n (s.u 1).c, .slice (s.u 2).a (s.u 2).n (s.u 2).c, .slice s.c.a s.c.n s.c.c] 28) := ⟨_, rfl⟩
  have L1 := Lib.hid (lx_start (A := none) (n := 0) (U := (fun _ => Ls.noSl)) (F := noCaches) HP.out (fun h => absurd h (by omega)) hW1)
  rw [← hW1]
  clear hW1
  refine (Ck.awake_any W1 (HZ.out.over L1.out.bel hz0)).mono ?_
  rintro e9 w1 ⟨rfl, hb1⟩
  have L2 := Lib.hid (L1.out.next hb1)
  clear hb1 L1
  have q0 := (L2.out.at (w.heap.size) (s) (d) (by simp)).c0
  have q1 := (L2.out.at (w.heap.size) (s) (d) (by simp)).c1
  have q2 := (L2.out.at (w.heap.size) (s) (d) (by simp)).c2
  have q3 := (L2.out.at (w.heap.size) (s) (d) (by simp)).c3
  have q4 := (L2.out.at (w.heap.size) (s) (d) (by simp)).c4
  have q5 := (L2.out.at (w.heap.size) (s) (d) (by simp)).c5
  have ql := (L2.out.at (w.heap.size) (s) (d) (by simp)).lt
  go_wp2_with fail
  refine (rfew_any s w1).mono ?_
  rw [HF.out]
  rintro e9 w2 ⟨rfl, hb2⟩
  have L3 := Lib.hid (L2.out.next hb2)
  clear hb2 L2
  clear q0 q1 q2 q3 q4 q5 ql
  have q0 := (L3.out.at (w.heap.size) (s) (d) (by simp)).c0
  have q1 := (L3.out.at (w.heap.size) (s) (d) (by simp)).c1
  have q2 := (L3.out.at (w.heap.size) (s) (d) (by simp)).c2
  have q3 := (L3.out.at (w.heap.size) (s) (d) (by simp)).c3
  have q4 := (L3.out.at (w.heap.size) (s) (d) (by simp)).c4
  have q5 := (L3.out.at (w.heap.size) (s) (d) (by simp)).c5
  have ql := (L3.out.at (w.heap.size) (s) (d) (by simp)).lt
  go_wp2_with fail
  refine (H1.out w2 L3.out).mono ?_
  rintro e9 w3 ⟨rfl, hb9⟩
  have L4 := Lib.hid (L3.out.next hb9)
  clear hb9 L3
  clear q0 q1 q2 q3 q4 q5 ql
  have q0 := (L4.out.at (w.heap.size) (s) (d) (by simp)).c0
  have q1 := (L4.out.at (w.heap.size) (s) (d) (by simp)).c1
  have q2 := (L4.out.at (w.heap.size) (s) (d) (by simp)).c2
  have q3 := (L4.out.at (w.heap.size) (s) (d) (by simp)).c3
  have q4 := (L4.out.at (w.heap.size) (s) (d) (by simp)).c4
  have q5 := (L4.out.at (w.heap.size) (s) (d) (by simp)).c5
  have ql := (L4.out.at (w.heap.size) (s) (d) (by simp)).lt
  go_wp2_with fail
  refine (H2.out w3 L4.out).mono ?_
  rintro e9 w9 ⟨t1, rfl, hp9, hl9, hb9⟩
  have L5 := Lib.hid (L4.out.add (nw_new (ty := 28) hb9 hp9))
  have N5 := Lib.hid hl9
  clear hp9 hb9 hl9 L4
  clear q0 q1 q2 q3 q4 q5 ql
  go_upto_region 7 with fail
  obtain ⟨v5, h0⟩ : ∃ W, W = w9.alloc (.cells #[.slice t1.w.a t1.w.n t1.w.c, .slice t1.p.a t1.p.n t1.p.c, .slice (t1.u 0).a (t1.u 0).n (t1.u 0).c, .slice (t1.u 1).a (t1.u 1).n (t1.u 1).c, .slice (t1.u 2).a (t1.u 2).n (t1.u 2).c, .slice t1.c.a t1.c.n t1.c.c] 28) := ⟨_, rfl⟩
  obtain ⟨b1, h1⟩ : ∃ b, b = w9.heap.size := ⟨_, rfl⟩
  rw [← h0, ← h1] at L5
  rw [← h0, ← h1]
  clear h0 h1
  have q0 := (L5.out.at (w.heap.size) (s) (d) (by simp)).c0
  have q1 := (L5.out.at (w.heap.size) (s) (d) (by simp)).c1
  have q2 := (L5.out.at (w.heap.size) (s) (d) (by simp)).c2
  have q3 := (L5.out.at (w.heap.size) (s) (d) (by simp)).c3
  have q4 := (L5.out.at (w.heap.size) (s) (d) (by simp)).c4
  have q5 := (L5.out.at (w.heap.size) (s) (d) (by simp)).c5
  have ql := (L5.out.at (w.heap.size) (s) (d) (by simp)).lt
  go_wp2_with fail
  refine (H3.out v5 b1 t1 L5.out).mono ?_
  rintro e9 w9 ⟨t2, rfl, hp9, hl9, hb9⟩
  have L6 := Lib.hid (L5.out.add (nw_new (ty := 28) hb9 hp9))
  have N6 := Lib.hid hl9
  clear hp9 hb9 hl9 L5
  clear q0 q1 q2 q3 q4 q5 ql
  go_upto_region 8 with fail
  obtain ⟨v6, h0⟩ : ∃ W, W = w9.alloc (.cells #[.slice t2.w.a t2.w.n t2.w.c, .slice t2.p.a t2.p.n t2.p.c, .slice (t2.u 0).a (t2.u 0).n (t2.u 0).c, .slice (t2.u 1).a (t2.u 1).n (t2.u 1).c, .slice (t2.u 2).a (t2.u 2).n (t2.u 2).c, .slice t2.c.a t2.c.n t2.c.c] 28) := ⟨_, rfl⟩
  obtain ⟨b2, h1⟩ : ∃ b, b = w9.heap.size := ⟨_, rfl⟩
  rw [← h0, ← h1] at L6
  rw [← h0, ← h1]
  clear h0 h1
  have q0 := (L6.out.at (w.heap.size) (s) (d) (by simp)).c0
  have q1 := (L6.out.at (w.heap.size) (s) (d) (by simp)).c1
  have q2 := (L6.out.at (w.heap.size) (s) (d) (by simp)).c2
  have q3 := (L6.out.at (w.heap.size) (s) (d) (by simp)).c3
  have q4 := (L6.out.at (w.heap.size) (s) (d) (by simp)).c4
  have q5 := (L6.out.at (w.heap.size) (s) (d) (by simp)).c5
  have ql := (L6.out.at (w.heap.size) (s) (d) (by simp)).lt
  go_wp2_with fail
  refine (H4.out v6 b1 t1 b2 t2 L6.out).mono ?_
  rintro e9 w7 ⟨rfl, hb9⟩
  have L7 := Lib.hid (L6.out.next hb9)
  clear hb9 L6
  clear q0 q1 q2 q3 q4 q5 ql
  have q0 := (L7.out.at (w.heap.size) (s) (d) (by simp)).c0
  have q1 := (L7.out.at (w.heap.size) (s) (d) (by simp)).c1
  have q2 := (L7.out.at (w.heap.size) (s) (d) (by simp)).c2
  have q3 := (L7.out.at (w.heap.size) (s) (d) (by simp)).c3
  have q4 := (L7.out.at (w.heap.size) (s) (d) (by simp)).c4
  have q5 := (L7.out.at (w.heap.size) (s) (d) (by simp)).c5
  have ql := (L7.out.at (w.heap.size) (s) (d) (by simp)).lt
  go_wp2_with fail
  refine (H5.out w7 b1 t1 b2 t2 L7.out).mono ?_
  rintro e9 w8 ⟨v9, rfl, ho9, hb9⟩
  have L8 := Lib.hid (L7.out.next hb9)
  have hv9 : v9.n = 0 := by have := ho9.1; simpa using this.symm
  obtain ⟨va, vn, vc⟩ := v9
  dsimp only at hv9
  subst hv9
  clear hb9 ho9 L7
  clear q0 q1 q2 q3 q4 q5 ql
  go_wp2
  go_ret
  exact ⟨rfl, L8.out.bel⟩
set_option maxHeartbeats 4000000 in
theorem core_low_hi (d1 d2 : Hd_) (hf : fewH s = true) (a1 : decide (16 ≤ a) = false) (k1 : decide (0 ≤ k) = true) (k2 : decide (k < (s.c.n : Int)) = false) (hO : ∀ W, Lx w W none 0 (fun _ => Ls.noSl) noCaches [(w.heap.size, s, d)] → Calls Tryd.prog 10 #[(.agg #[.slice s.w.a s.w.n s.w.c, .slice s.p.a s.p.n s.p.c, .slice (s.u 0).a (s.u 0).n (s.u 0).c, .slice (s.u 1).a (s.u 1).n (s.u 1).c, .slice (s.u 2).a (s.u 2).n (s.u 2).c, .slice s.c.a s.c.n s.c.c]), .int .i64 a] W fun e w' => e = .returned (.tuple #[.int .i64 0, .int .i64 3]) ∧ Below W.heap.size W w') (hD : ∀ W, Lx w W none 0 (fun _ => Ls.noSl) noCaches [(w.heap.size, s, d)] → Calls Tryd.prog 12 #[(.agg #[.slice s.w.a s.w.n s.w.c, .slice s.p.a s.p.n s.p.c, .slice (s.u 0).a (s.u 0).n (s.u 0).c, .slice (s.u 1).a (s.u 1).n (s.u 1).c, .slice (s.u 2).a (s.u 2).n (s.u 2).c, .slice s.c.a s.c.n s.c.c]), .int .i64 a] W fun e w' => ∃ t : Hs, e = .returned (.tuple #[(.agg #[.slice t.w.a t.w.n t.w.c, .slice t.p.a t.p.n t.p.c, .slice (t.u 0).a (t.u 0).n (t.u 0).c, .slice (t.u 1).a (t.u 1).n (t.u 1).c, .slice (t.u 2).a (t.u 2).n (t.u 2).c, .slice t.c.a t.c.n t.c.c]), .int .i64 3]) ∧ Hp w' w'.heap.size t d1 ∧ True ∧ Below W.heap.size W w') (hC : ∀ W b1 t1, Lx w W none 0 (fun _ => Ls.noSl) noCaches [(b1, t1, d1), (w.heap.size, s, d)] → Calls Tryd.prog 13 #[(.agg #[.slice s.w.a s.w.n s.w.c, .slice s.p.a s.p.n s.p.c, .slice (s.u 0).a (s.u 0).n (s.u 0).c, .slice (s.u 1).a (s.u 1).n (s.u 1).c, .slice (s.u 2).a (s.u 2).n (s.u 2).c, .slice s.c.a s.c.n s.c.c]), .int .i64 k] W fun e w' => ∃ t : Hs, e = .returned (.tuple #[(.agg #[.slice t.w.a t.w.n t.w.c, .slice t.p.a t.p.n t.p.c, .slice (t.u 0).a (t.u 0).n (t.u 0).c, .slice (t.u 1).a (t.u 1).n (t.u 1).c, .slice (t.u 2).a (t.u 2).n (t.u 2).c, .slice t.c.a t.c.n t.c.c]), .int .i64 3]) ∧ Hp w' w'.heap.size t d2 ∧ True ∧ Below W.heap.size W w') (hM : ∀ W b1 t1 b2 t2, Lx w W none 0 (fun _ => Ls.noSl) noCaches [(b2, t2, d2), (b1, t1, d1), (w.heap.size, s, d)] → Calls Tryd.prog 15 #[(.agg #[.slice s.w.a s.w.n s.w.c, .slice s.p.a s.p.n s.p.c, .slice (s.u 0).a (s.u 0).n (s.u 0).c, .slice (s.u 1).a (s.u 1).n (s.u 1).c, .slice (s.u 2).a (s.u 2).n (s.u 2).c, .slice s.c.a s.c.n s.c.c]), .slice none 0 0] W fun e w' => e = .returned (.bool true) ∧ Below W.heap.size W w') (hN : ∀ W b1 t1 b2 t2, Lx w W none 0 (fun _ => Ls.noSl) noCaches [(b2, t2, d2), (b1, t1, d1), (w.heap.size, s, d)] → Calls Tryd.prog 16 #[(.agg #[.slice s.w.a s.w.n s.w.c, .slice s.p.a s.p.n s.p.c, .slice (s.u 0).a (s.u 0).n (s.u 0).c, .slice (s.u 1).a (s.u 1).n (s.u 1).c, .slice (s.u 2).a (s.u 2).n (s.u 2).c, .slice s.c.a s.c.n s.c.c]), .int .i64 k] W (Ls.AllOut W [])) (hz : Cl.Sz w) (hp : Hp w w.heap.size s d) : Calls Tryd.prog 7 #[(.agg #[.slice s.w.a s.w.n s.w.c, .slice s.p.a s.p.n s.p.c, .slice (s.u 0).a (s.u 0).n (s.u 0).c, .slice (s.u 1).a (s.u 1).n (s.u 1).c, .slice (s.u 2).a (s.u 2).n (s.u 2).c, .slice s.c.a s.c.n s.c.c]), .int .i64 a, .int .i64 k] w fun e w' => e = .returned (.bool true) ∧ Below w.heap.size w w' := by
  have HZ := Lib.hid hz
  have hz0 := hz.pos
  have HP := Lib.hid hp
  have HF := Lib.hid hf
  have H1 := Lib.hid hO
  have H2 := Lib.hid hD
  have H3 := Lib.hid hC
  have H4 := Lib.hid hM
  have H5 := Lib.hid hN
  clear hN
  clear hz hp hf hO hD hC hM
  go_enter Tryd.func7, Tryd.ntmps7
  go_wp2_with fail
  obtain ⟨W1, hW1⟩ : ∃ W1, W1 = w.alloc (.cells #[.slice s.w.a s.w.n s.w.c, .slice s.p.a s.p.n s.p.c, .slice (s.u 0).a (s.u 0).n (s.u 0).c, .slice (s.u 1).a (s.u 1).n (s.u 1).c, .slice (s.u 2).a (s.u 2).n (s.u 2).c, .slice s.c.a s.c.n s.c.c] 28) := ⟨_, rfl⟩
  have L1 := Lib.hid (lx_start (A := none) (n := 0) (U := (fun _ => Ls.noSl)) (F := noCaches) HP.out (fun h => absurd h (by omega)) hW1)
  rw [← hW1]
  clear hW1
  refine (Ck.awake_any W1 (HZ.out.over L1.out.bel hz0)).mono ?_
  rintro e9 w1 ⟨rfl, hb1⟩
  have L2 := Lib.hid (L1.out.next hb1)
  clear hb1 L1
  have q0 := (L2.out.at (w.heap.size) (s) (d) (by simp)).c0
  have q1 := (L2.out.at (w.heap.size) (s) (d) (by simp)).c1
  have q2 := (L2.out.at (w.heap.size) (s) (d) (by simp)).c2
  have q3 := (L2.out.at (w.heap.size) (s) (d) (by simp)).c3
  have q4 := (L2.out.at (w.heap.size) (s) (d) (by simp)).c4
  have q5 := (L2.out.at (w.heap.size) (s) (d) (by simp)).c5
  have ql := (L2.out.at (w.heap.size) (s) (d) (by simp)).lt
  go_wp2_with fail
  refine (rfew_any s w1).mono ?_
  rw [HF.out]
  rintro e9 w2 ⟨rfl, hb2⟩
  have L3 := Lib.hid (L2.out.next hb2)
  clear hb2 L2
  clear q0 q1 q2 q3 q4 q5 ql
  have q0 := (L3.out.at (w.heap.size) (s) (d) (by simp)).c0
  have q1 := (L3.out.at (w.heap.size) (s) (d) (by simp)).c1
  have q2 := (L3.out.at (w.heap.size) (s) (d) (by simp)).c2
  have q3 := (L3.out.at (w.heap.size) (s) (d) (by simp)).c3
  have q4 := (L3.out.at (w.heap.size) (s) (d) (by simp)).c4
  have q5 := (L3.out.at (w.heap.size) (s) (d) (by simp)).c5
  have ql := (L3.out.at (w.heap.size) (s) (d) (by simp)).lt
  go_wp2_with fail
  refine (H1.out w2 L3.out).mono ?_
  rintro e9 w3 ⟨rfl, hb9⟩
  have L4 := Lib.hid (L3.out.next hb9)
  clear hb9 L3
  clear q0 q1 q2 q3 q4 q5 ql
  have q0 := (L4.out.at (w.heap.size) (s) (d) (by simp)).c0
  have q1 := (L4.out.at (w.heap.size) (s) (d) (by simp)).c1
  have q2 := (L4.out.at (w.heap.size) (s) (d) (by simp)).c2
  have q3 := (L4.out.at (w.heap.size) (s) (d) (by simp)).c3
  have q4 := (L4.out.at (w.heap.size) (s) (d) (by simp)).c4
  have q5 := (L4.out.at (w.heap.size) (s) (d) (by simp)).c5
  have ql := (L4.out.at (w.heap.size) (s) (d) (by simp)).lt
  go_wp2_with fail
  refine (H2.out w3 L4.out).mono ?_
  rintro e9 w9 ⟨t1, rfl, hp9, hl9, hb9⟩
  have L5 := Lib.hid (L4.out.add (nw_new (ty := 28) hb9 hp9))
  have N5 := Lib.hid hl9
  clear hp9 hb9 hl9 L4
  clear q0 q1 q2 q3 q4 q5 ql
  go_upto_region 7 with fail
  obtain ⟨v5, h0⟩ : ∃ W, W = w9.alloc (.cells #[.slice t1.w.a t1.w.n t1.w.c, .slice t1.p.a t1.p.n t1.p.c, .slice (t1.u 0).a (t1.u 0).n (t1.u 0).c, .slice (t1.u 1).a (t1.u 1).n (t1.u 1).c, .slice (t1.u 2).a (t1.u 2).n (t1.u 2).c, .slice t1.c.a t1.c.n t1.c.c] 28) := ⟨_, rfl⟩
  obtain ⟨b1, h1⟩ : ∃ b, b = w9.heap.size := ⟨_, rfl⟩
  rw [← h0, ← h1] at L5
  rw [← h0, ← h1]
  clear h0 h1
  have q0 := (L5.out.at (w.heap.size) (s) (d) (by simp)).c0
  have q1 := (L5.out.at (w.heap.size) (s) (d) (by simp)).c1
  have q2 := (L5.out.at (w.heap.size) (s) (d) (by simp)).c2
  have q3 := (L5.out.at (w.heap.size) (s) (d) (by simp)).c3
  have q4 := (L5.out.at (w.heap.size) (s) (d) (by simp)).c4
  have q5 := (L5.out.at (w.heap.size) (s) (d) (by simp)).c5
  have ql := (L5.out.at (w.heap.size) (s) (d) (by simp)).lt
  go_wp2_with fail
  refine (H3.out v5 b1 t1 L5.out).mono ?_
  rintro e9 w9 ⟨t2, rfl, hp9, hl9, hb9⟩
  have L6 := Lib.hid (L5.out.add (nw_new (ty := 28) hb9 hp9))
  have N6 := Lib.hid hl9
  clear hp9 hb9 hl9 L5
  clear q0 q1 q2 q3 q4 q5 ql
  go_upto_region 8 with fail
  obtain ⟨v6, h0⟩ : ∃ W, W = w9.alloc (.cells #[.slice t2.w.a t2.w.n t2.w.c, .slice t2.p.a t2.p.n t2.p.c, .slice (t2.u 0).a (t2.u 0).n (t2.u 0).c, .slice (t2.u 1).a (t2.u 1).n (t2.u 1).c, .slice (t2.u 2).a (t2.u 2).n (t2.u 2).c, .slice t2.c.a t2.c.n t2.c.c] 28) := ⟨_, rfl⟩
  obtain ⟨b2, h1⟩ : ∃ b, b = w9.heap.size := ⟨_, rfl⟩
  rw [← h0, ← h1] at L6
  rw [← h0, ← h1]
  clear h0 h1
  have q0 := (L6.out.at (w.heap.size) (s) (d) (by simp)).c0
  have q1 := (L6.out.at (w.heap.size) (s) (d) (by simp)).c1
  have q2 := (L6.out.at (w.heap.size) (s) (d) (by simp)).c2
  have q3 := (L6.out.at (w.heap.size) (s) (d) (by simp)).c3
  have q4 := (L6.out.at (w.heap.size) (s) (d) (by simp)).c4
  have q5 := (L6.out.at (w.heap.size) (s) (d) (by simp)).c5
  have ql := (L6.out.at (w.heap.size) (s) (d) (by simp)).lt
  go_wp2_with fail
  refine (H4.out v6 b1 t1 b2 t2 L6.out).mono ?_
  rintro e9 w7 ⟨rfl, hb9⟩
  have L7 := Lib.hid (L6.out.next hb9)
  clear hb9 L6
  clear q0 q1 q2 q3 q4 q5 ql
  have q0 := (L7.out.at (w.heap.size) (s) (d) (by simp)).c0
  have q1 := (L7.out.at (w.heap.size) (s) (d) (by simp)).c1
  have q2 := (L7.out.at (w.heap.size) (s) (d) (by simp)).c2
  have q3 := (L7.out.at (w.heap.size) (s) (d) (by simp)).c3
  have q4 := (L7.out.at (w.heap.size) (s) (d) (by simp)).c4
  have q5 := (L7.out.at (w.heap.size) (s) (d) (by simp)).c5
  have ql := (L7.out.at (w.heap.size) (s) (d) (by simp)).lt
  go_wp2_with fail
  refine (H5.out w7 b1 t1 b2 t2 L7.out).mono ?_
  rintro e9 w8 ⟨v9, rfl, ho9, hb9⟩
  have L8 := Lib.hid (L7.out.next hb9)
  have hv9 : v9.n = 0 := by have := ho9.1; simpa using this.symm
  obtain ⟨va, vn, vc⟩ := v9
  dsimp only at hv9
  subst hv9
  clear hb9 ho9 L7
  clear q0 q1 q2 q3 q4 q5 ql
  go_wp2
  go_ret
  exact ⟨rfl, L8.out.bel⟩
set_option maxHeartbeats 4000000 in
theorem core_low_ok (d1 d2 : Hd_) (hf : fewH s = true) (a1 : decide (16 ≤ a) = false) (k1 : decide (0 ≤ k) = true) (k2 : decide (k < (s.c.n : Int)) = true) (hO : ∀ W, Lx w W none 0 (fun _ => Ls.noSl) noCaches [(w.heap.size, s, d)] → Calls Tryd.prog 10 #[(.agg #[.slice s.w.a s.w.n s.w.c, .slice s.p.a s.p.n s.p.c, .slice (s.u 0).a (s.u 0).n (s.u 0).c, .slice (s.u 1).a (s.u 1).n (s.u 1).c, .slice (s.u 2).a (s.u 2).n (s.u 2).c, .slice s.c.a s.c.n s.c.c]), .int .i64 a] W fun e w' => e = .returned (.tuple #[.int .i64 0, .int .i64 3]) ∧ Below W.heap.size W w') (hD : ∀ W, Lx w W none 0 (fun _ => Ls.noSl) noCaches [(w.heap.size, s, d)] → Calls Tryd.prog 12 #[(.agg #[.slice s.w.a s.w.n s.w.c, .slice s.p.a s.p.n s.p.c, .slice (s.u 0).a (s.u 0).n (s.u 0).c, .slice (s.u 1).a (s.u 1).n (s.u 1).c, .slice (s.u 2).a (s.u 2).n (s.u 2).c, .slice s.c.a s.c.n s.c.c]), .int .i64 a] W fun e w' => ∃ t : Hs, e = .returned (.tuple #[(.agg #[.slice t.w.a t.w.n t.w.c, .slice t.p.a t.p.n t.p.c, .slice (t.u 0).a (t.u 0).n (t.u 0).c, .slice (t.u 1).a (t.u 1).n (t.u 1).c, .slice (t.u 2).a (t.u 2).n (t.u 2).c, .slice t.c.a t.c.n t.c.c]), .int .i64 3]) ∧ Hp w' w'.heap.size t d1 ∧ True ∧ Below W.heap.size W w') (hC : ∀ W b1 t1, Lx w W none 0 (fun _ => Ls.noSl) noCaches [(b1, t1, d1), (w.heap.size, s, d)] → Calls Tryd.prog 13 #[(.agg #[.slice s.w.a s.w.n s.w.c, .slice s.p.a s.p.n s.p.c, .slice (s.u 0).a (s.u 0).n (s.u 0).c, .slice (s.u 1).a (s.u 1).n (s.u 1).c, .slice (s.u 2).a (s.u 2).n (s.u 2).c, .slice s.c.a s.c.n s.c.c]), .int .i64 k] W fun e w' => ∃ t : Hs, e = .returned (.tuple #[(.agg #[.slice t.w.a t.w.n t.w.c, .slice t.p.a t.p.n t.p.c, .slice (t.u 0).a (t.u 0).n (t.u 0).c, .slice (t.u 1).a (t.u 1).n (t.u 1).c, .slice (t.u 2).a (t.u 2).n (t.u 2).c, .slice t.c.a t.c.n t.c.c]), .int .i64 0]) ∧ Hp w' w'.heap.size t d2 ∧ True ∧ Below W.heap.size W w') (hM : ∀ W b1 t1 b2 t2, Lx w W none 0 (fun _ => Ls.noSl) noCaches [(b2, t2, d2), (b1, t1, d1), (w.heap.size, s, d)] → Calls Tryd.prog 15 #[(.agg #[.slice s.w.a s.w.n s.w.c, .slice s.p.a s.p.n s.p.c, .slice (s.u 0).a (s.u 0).n (s.u 0).c, .slice (s.u 1).a (s.u 1).n (s.u 1).c, .slice (s.u 2).a (s.u 2).n (s.u 2).c, .slice s.c.a s.c.n s.c.c]), .slice none 0 0] W fun e w' => e = .returned (.bool true) ∧ Below W.heap.size W w') (hz : Cl.Sz w) (hp : Hp w w.heap.size s d) : Calls Tryd.prog 7 #[(.agg #[.slice s.w.a s.w.n s.w.c, .slice s.p.a s.p.n s.p.c, .slice (s.u 0).a (s.u 0).n (s.u 0).c, .slice (s.u 1).a (s.u 1).n (s.u 1).c, .slice (s.u 2).a (s.u 2).n (s.u 2).c, .slice s.c.a s.c.n s.c.c]), .int .i64 a, .int .i64 k] w fun e w' => e = .returned (.bool true) ∧ Below w.heap.size w w' := by
  have HZ := Lib.hid hz
  have hz0 := hz.pos
  have HP := Lib.hid hp
  have HF := Lib.hid hf
  have H1 := Lib.hid hO
  have H2 := Lib.hid hD
  have H3 := Lib.hid hC
  have H4 := Lib.hid hM
  clear hz hp hf hO hD hC hM
  go_enter Tryd.func7, Tryd.ntmps7
  go_wp2_with fail
  obtain ⟨W1, hW1⟩ : ∃ W1, W1 = w.alloc (.cells #[.slice s.w.a s.w.n s.w.c, .slice s.p.a s.p.n s.p.c, .slice (s.u 0).a (s.u 0).n (s.u 0).c, .slice (s.u 1).a (s.u 1).n (s.u 1).c, .slice (s.u 2).a (s.u 2).n (s.u 2).c, .slice s.c.a s.c.n s.c.c] 28) := ⟨_, rfl⟩
  have L1 := Lib.hid (lx_start (A := none) (n := 0) (U := (fun _ => Ls.noSl)) (F := noCaches) HP.out (fun h => absurd h (by omega)) hW1)
  rw [← hW1]
  clear hW1
  refine (Ck.awake_any W1 (HZ.out.over L1.out.bel hz0)).mono ?_
  rintro e9 w1 ⟨rfl, hb1⟩
  have L2 := Lib.hid (L1.out.next hb1)
  clear hb1 L1
  have q0 := (L2.out.at (w.heap.size) (s) (d) (by simp)).c0
  have q1 := (L2.out.at (w.heap.size) (s) (d) (by simp)).c1
  have q2 := (L2.out.at (w.heap.size) (s) (d) (by simp)).c2
  have q3 := (L2.out.at (w.heap.size) (s) (d) (by simp)).c3
  have q4 := (L2.out.at (w.heap.size) (s) (d) (by simp)).c4
  have q5 := (L2.out.at (w.heap.size) (s) (d) (by simp)).c5
  have ql := (L2.out.at (w.heap.size) (s) (d) (by simp)).lt
  go_wp2_with fail
  refine (rfew_any s w1).mono ?_
  rw [HF.out]
  rintro e9 w2 ⟨rfl, hb2⟩
  have L3 := Lib.hid (L2.out.next hb2)
  clear hb2 L2
  clear q0 q1 q2 q3 q4 q5 ql
  have q0 := (L3.out.at (w.heap.size) (s) (d) (by simp)).c0
  have q1 := (L3.out.at (w.heap.size) (s) (d) (by simp)).c1
  have q2 := (L3.out.at (w.heap.size) (s) (d) (by simp)).c2
  have q3 := (L3.out.at (w.heap.size) (s) (d) (by simp)).c3
  have q4 := (L3.out.at (w.heap.size) (s) (d) (by simp)).c4
  have q5 := (L3.out.at (w.heap.size) (s) (d) (by simp)).c5
  have ql := (L3.out.at (w.heap.size) (s) (d) (by simp)).lt
  go_wp2_with fail
  refine (H1.out w2 L3.out).mono ?_
  rintro e9 w3 ⟨rfl, hb9⟩
  have L4 := Lib.hid (L3.out.next hb9)
  clear hb9 L3
  clear q0 q1 q2 q3 q4 q5 ql
  have q0 := (L4.out.at (w.heap.size) (s) (d) (by simp)).c0
  have q1 := (L4.out.at (w.heap.size) (s) (d) (by simp)).c1
  have q2 := (L4.out.at (w.heap.size) (s) (d) (by simp)).c2
  have q3 := (L4.out.at (w.heap.size) (s) (d) (by simp)).c3
  have q4 := (L4.out.at (w.heap.size) (s) (d) (by simp)).c4
  have q5 := (L4.out.at (w.heap.size) (s) (d) (by simp)).c5
  have ql := (L4.out.at (w.heap.size) (s) (d) (by simp)).lt
  go_wp2_with fail
  refine (H2.out w3 L4.out).mono ?_
  rintro e9 w9 ⟨t1, rfl, hp9, hl9, hb9⟩
  have L5 := Lib.hid (L4.out.add (nw_new (ty := 28) hb9 hp9))
  have N5 := Lib.hid hl9
  clear hp9 hb9 hl9 L4
  clear q0 q1 q2 q3 q4 q5 ql
  go_upto_region 7 with fail
  obtain ⟨v5, h0⟩ : ∃ W, W = w9.alloc (.cells #[.slice t1.w.a t1.w.n t1.w.c, .slice t1.p.a t1.p.n t1.p.c, .slice (t1.u 0).a (t1.u 0).n (t1.u 0).c, .slice (t1.u 1).a (t1.u 1).n (t1.u 1).c, .slice (t1.u 2).a (t1.u 2).n (t1.u 2).c, .slice t1.c.a t1.c.n t1.c.c] 28) := ⟨_, rfl⟩
  obtain ⟨b1, h1⟩ : ∃ b, b = w9.heap.size := ⟨_, rfl⟩
  rw [← h0, ← h1] at L5
  rw [← h0, ← h1]
  clear h0 h1
  have q0 := (L5.out.at (w.heap.size) (s) (d) (by simp)).c0
  have q1 := (L5.out.at (w.heap.size) (s) (d) (by simp)).c1
  have q2 := (L5.out.at (w.heap.size) (s) (d) (by simp)).c2
  have q3 := (L5.out.at (w.heap.size) (s) (d) (by simp)).c3
  have q4 := (L5.out.at (w.heap.size) (s) (d) (by simp)).c4
  have q5 := (L5.out.at (w.heap.size) (s) (d) (by simp)).c5
  have ql := (L5.out.at (w.heap.size) (s) (d) (by simp)).lt
  go_wp2_with fail
  refine (H3.out v5 b1 t1 L5.out).mono ?_
  rintro e9 w9 ⟨t2, rfl, hp9, hl9, hb9⟩
  have L6 := Lib.hid (L5.out.add (nw_new (ty := 28) hb9 hp9))
  have N6 := Lib.hid hl9
  clear hp9 hb9 hl9 L5
  clear q0 q1 q2 q3 q4 q5 ql
  go_upto_region 8 with fail
  obtain ⟨v6, h0⟩ : ∃ W, W = w9.alloc (.cells #[.slice t2.w.a t2.w.n t2.w.c, .slice t2.p.a t2.p.n t2.p.c, .slice (t2.u 0).a (t2.u 0).n (t2.u 0).c, .slice (t2.u 1).a (t2.u 1).n (t2.u 1).c, .slice (t2.u 2).a (t2.u 2).n (t2.u 2).c, .slice t2.c.a t2.c.n t2.c.c] 28) := ⟨_, rfl⟩
  obtain ⟨b2, h1⟩ : ∃ b, b = w9.heap.size := ⟨_, rfl⟩
  rw [← h0, ← h1] at L6
  rw [← h0, ← h1]
  clear h0 h1
  have q0 := (L6.out.at (w.heap.size) (s) (d) (by simp)).c0
  have q1 := (L6.out.at (w.heap.size) (s) (d) (by simp)).c1
  have q2 := (L6.out.at (w.heap.size) (s) (d) (by simp)).c2
  have q3 := (L6.out.at (w.heap.size) (s) (d) (by simp)).c3
  have q4 := (L6.out.at (w.heap.size) (s) (d) (by simp)).c4
  have q5 := (L6.out.at (w.heap.size) (s) (d) (by simp)).c5
  have ql := (L6.out.at (w.heap.size) (s) (d) (by simp)).lt
  go_wp2_with fail
  refine (H4.out v6 b1 t1 b2 t2 L6.out).mono ?_
  rintro e9 w7 ⟨rfl, hb9⟩
  have L7 := Lib.hid (L6.out.next hb9)
  clear hb9 L6
  clear q0 q1 q2 q3 q4 q5 ql
  have q0 := (L7.out.at (w.heap.size) (s) (d) (by simp)).c0
  have q1 := (L7.out.at (w.heap.size) (s) (d) (by simp)).c1
  have q2 := (L7.out.at (w.heap.size) (s) (d) (by simp)).c2
  have q3 := (L7.out.at (w.heap.size) (s) (d) (by simp)).c3
  have q4 := (L7.out.at (w.heap.size) (s) (d) (by simp)).c4
  have q5 := (L7.out.at (w.heap.size) (s) (d) (by simp)).c5
  have ql := (L7.out.at (w.heap.size) (s) (d) (by simp)).lt
  go_wp2
  go_ret
  exact ⟨rfl, L7.out.bel⟩
set_option maxHeartbeats 4000000 in
theorem core_high_no (d1 d2 : Hd_) (hf : fewH s = true) (a1 : decide (16 ≤ a) = true) (a2 : decide (a < 16 + (s.w.n : Int)) = false) (hwn : s.w.n ≤ 4000) (k1 : decide (0 ≤ k) = false) (hO : ∀ W, Lx w W none 0 (fun _ => Ls.noSl) noCaches [(w.heap.size, s, d)] → Calls Tryd.prog 10 #[(.agg #[.slice s.w.a s.w.n s.w.c, .slice s.p.a s.p.n s.p.c, .slice (s.u 0).a (s.u 0).n (s.u 0).c, .slice (s.u 1).a (s.u 1).n (s.u 1).c, .slice (s.u 2).a (s.u 2).n (s.u 2).c, .slice s.c.a s.c.n s.c.c]), .int .i64 a] W fun e w' => e = .returned (.tuple #[.int .i64 0, .int .i64 3]) ∧ Below W.heap.size W w') (hD : ∀ W, Lx w W none 0 (fun _ => Ls.noSl) noCaches [(w.heap.size, s, d)] → Calls Tryd.prog 12 #[(.agg #[.slice s.w.a s.w.n s.w.c, .slice s.p.a s.p.n s.p.c, .slice (s.u 0).a (s.u 0).n (s.u 0).c, .slice (s.u 1).a (s.u 1).n (s.u 1).c, .slice (s.u 2).a (s.u 2).n (s.u 2).c, .slice s.c.a s.c.n s.c.c]), .int .i64 a] W fun e w' => ∃ t : Hs, e = .returned (.tuple #[(.agg #[.slice t.w.a t.w.n t.w.c, .slice t.p.a t.p.n t.p.c, .slice (t.u 0).a (t.u 0).n (t.u 0).c, .slice (t.u 1).a (t.u 1).n (t.u 1).c, .slice (t.u 2).a (t.u 2).n (t.u 2).c, .slice t.c.a t.c.n t.c.c]), .int .i64 3]) ∧ Hp w' w'.heap.size t d1 ∧ True ∧ Below W.heap.size W w') (hC : ∀ W b1 t1, Lx w W none 0 (fun _ => Ls.noSl) noCaches [(b1, t1, d1), (w.heap.size, s, d)] → Calls Tryd.prog 13 #[(.agg #[.slice s.w.a s.w.n s.w.c, .slice s.p.a s.p.n s.p.c, .slice (s.u 0).a (s.u 0).n (s.u 0).c, .slice (s.u 1).a (s.u 1).n (s.u 1).c, .slice (s.u 2).a (s.u 2).n (s.u 2).c, .slice s.c.a s.c.n s.c.c]), .int .i64 k] W fun e w' => ∃ t : Hs, e = .returned (.tuple #[(.agg #[.slice t.w.a t.w.n t.w.c, .slice t.p.a t.p.n t.p.c, .slice (t.u 0).a (t.u 0).n (t.u 0).c, .slice (t.u 1).a (t.u 1).n (t.u 1).c, .slice (t.u 2).a (t.u 2).n (t.u 2).c, .slice t.c.a t.c.n t.c.c]), .int .i64 3]) ∧ Hp w' w'.heap.size t d2 ∧ True ∧ Below W.heap.size W w') (hM : ∀ W b1 t1 b2 t2, Lx w W none 0 (fun _ => Ls.noSl) noCaches [(b2, t2, d2), (b1, t1, d1), (w.heap.size, s, d)] → Calls Tryd.prog 15 #[(.agg #[.slice s.w.a s.w.n s.w.c, .slice s.p.a s.p.n s.p.c, .slice (s.u 0).a (s.u 0).n (s.u 0).c, .slice (s.u 1).a (s.u 1).n (s.u 1).c, .slice (s.u 2).a (s.u 2).n (s.u 2).c, .slice s.c.a s.c.n s.c.c]), .slice none 0 0] W fun e w' => e = .returned (.bool true) ∧ Below W.heap.size W w') (hN : ∀ W b1 t1 b2 t2, Lx w W none 0 (fun _ => Ls.noSl) noCaches [(b2, t2, d2), (b1, t1, d1), (w.heap.size, s, d)] → Calls Tryd.prog 16 #[(.agg #[.slice s.w.a s.w.n s.w.c, .slice s.p.a s.p.n s.p.c, .slice (s.u 0).a (s.u 0).n (s.u 0).c, .slice (s.u 1).a (s.u 1).n (s.u 1).c, .slice (s.u 2).a (s.u 2).n (s.u 2).c, .slice s.c.a s.c.n s.c.c]), .int .i64 k] W (Ls.AllOut W [])) (hz : Cl.Sz w) (hp : Hp w w.heap.size s d) : Calls Tryd.prog 7 #[(.agg #[.slice s.w.a s.w.n s.w.c, .slice s.p.a s.p.n s.p.c, .slice (s.u 0).a (s.u 0).n (s.u 0).c, .slice (s.u 1).a (s.u 1).n (s.u 1).c, .slice (s.u 2).a (s.u 2).n (s.u 2).c, .slice s.c.a s.c.n s.c.c]), .int .i64 a, .int .i64 k] w fun e w' => e = .returned (.bool true) ∧ Below w.heap.size w w' := by
  have HZ := Lib.hid hz
  have hz0 := hz.pos
  have HP := Lib.hid hp
  have HF := Lib.hid hf
  have H1 := Lib.hid hO
  have H2 := Lib.hid hD
  have H3 := Lib.hid hC
  have H4 := Lib.hid hM
  have H5 := Lib.hid hN
  clear hN
  clear hz hp hf hO hD hC hM
  go_enter Tryd.func7, Tryd.ntmps7
  go_wp2_with fail
  obtain ⟨W1, hW1⟩ : ∃ W1, W1 = w.alloc (.cells #[.slice s.w.a s.w.n s.w.c, .slice s.p.a s.p.n s.p.c, .slice (s.u 0).a (s.u 0).n (s.u 0).c, .slice (s.u 1).a (s.u 1).n (s.u 1).c, .slice (s.u 2).a (s.u 2).n (s.u 2).c, .slice s.c.a s.c.n s.c.c] 28) := ⟨_, rfl⟩
  have L1 := Lib.hid (lx_start (A := none) (n := 0) (U := (fun _ => Ls.noSl)) (F := noCaches) HP.out (fun h => absurd h (by omega)) hW1)
  rw [← hW1]
  clear hW1
  refine (Ck.awake_any W1 (HZ.out.over L1.out.bel hz0)).mono ?_
  rintro e9 w1 ⟨rfl, hb1⟩
  have L2 := Lib.hid (L1.out.next hb1)
  clear hb1 L1
  have q0 := (L2.out.at (w.heap.size) (s) (d) (by simp)).c0
  have q1 := (L2.out.at (w.heap.size) (s) (d) (by simp)).c1
  have q2 := (L2.out.at (w.heap.size) (s) (d) (by simp)).c2
  have q3 := (L2.out.at (w.heap.size) (s) (d) (by simp)).c3
  have q4 := (L2.out.at (w.heap.size) (s) (d) (by simp)).c4
  have q5 := (L2.out.at (w.heap.size) (s) (d) (by simp)).c5
  have ql := (L2.out.at (w.heap.size) (s) (d) (by simp)).lt
  go_wp2_with fail
  refine (rfew_any s w1).mono ?_
  rw [HF.out]
  rintro e9 w2 ⟨rfl, hb2⟩
  have L3 := Lib.hid (L2.out.next hb2)
  clear hb2 L2
  clear q0 q1 q2 q3 q4 q5 ql
  have q0 := (L3.out.at (w.heap.size) (s) (d) (by simp)).c0
  have q1 := (L3.out.at (w.heap.size) (s) (d) (by simp)).c1
  have q2 := (L3.out.at (w.heap.size) (s) (d) (by simp)).c2
  have q3 := (L3.out.at (w.heap.size) (s) (d) (by simp)).c3
  have q4 := (L3.out.at (w.heap.size) (s) (d) (by simp)).c4
  have q5 := (L3.out.at (w.heap.size) (s) (d) (by simp)).c5
  have ql := (L3.out.at (w.heap.size) (s) (d) (by simp)).lt
  go_wp2_with fail
  refine (H1.out w2 L3.out).mono ?_
  rintro e9 w3 ⟨rfl, hb9⟩
  have L4 := Lib.hid (L3.out.next hb9)
  clear hb9 L3
  clear q0 q1 q2 q3 q4 q5 ql
  have q0 := (L4.out.at (w.heap.size) (s) (d) (by simp)).c0
  have q1 := (L4.out.at (w.heap.size) (s) (d) (by simp)).c1
  have q2 := (L4.out.at (w.heap.size) (s) (d) (by simp)).c2
  have q3 := (L4.out.at (w.heap.size) (s) (d) (by simp)).c3
  have q4 := (L4.out.at (w.heap.size) (s) (d) (by simp)).c4
  have q5 := (L4.out.at (w.heap.size) (s) (d) (by simp)).c5
  have ql := (L4.out.at (w.heap.size) (s) (d) (by simp)).lt
  go_wp2_with fail
  refine (H2.out w3 L4.out).mono ?_
  rintro e9 w9 ⟨t1, rfl, hp9, hl9, hb9⟩
  have L5 := Lib.hid (L4.out.add (nw_new (ty := 28) hb9 hp9))
  have N5 := Lib.hid hl9
  clear hp9 hb9 hl9 L4
  clear q0 q1 q2 q3 q4 q5 ql
  go_upto_region 7 with fail
  obtain ⟨v5, h0⟩ : ∃ W, W = w9.alloc (.cells #[.slice t1.w.a t1.w.n t1.w.c, .slice t1.p.a t1.p.n t1.p.c, .slice (t1.u 0).a (t1.u 0).n (t1.u 0).c, .slice (t1.u 1).a (t1.u 1).n (t1.u 1).c, .slice (t1.u 2).a (t1.u 2).n (t1.u 2).c, .slice t1.c.a t1.c.n t1.c.c] 28) := ⟨_, rfl⟩
  obtain ⟨b1, h1⟩ : ∃ b, b = w9.heap.size := ⟨_, rfl⟩
  rw [← h0, ← h1] at L5
  rw [← h0, ← h1]
  clear h0 h1
  have q0 := (L5.out.at (w.heap.size) (s) (d) (by simp)).c0
  have q1 := (L5.out.at (w.heap.size) (s) (d) (by simp)).c1
  have q2 := (L5.out.at (w.heap.size) (s) (d) (by simp)).c2
  have q3 := (L5.out.at (w.heap.size) (s) (d) (by simp)).c3
  have q4 := (L5.out.at (w.heap.size) (s) (d) (by simp)).c4
  have q5 := (L5.out.at (w.heap.size) (s) (d) (by simp)).c5
  have ql := (L5.out.at (w.heap.size) (s) (d) (by simp)).lt
  go_wp2_with fail
  refine (H3.out v5 b1 t1 L5.out).mono ?_
  rintro e9 w9 ⟨t2, rfl, hp9, hl9, hb9⟩
  have L6 := Lib.hid (L5.out.add (nw_new (ty := 28) hb9 hp9))
  have N6 := Lib.hid hl9
  clear hp9 hb9 hl9 L5
  clear q0 q1 q2 q3 q4 q5 ql
  go_upto_region 8 with fail
  obtain ⟨v6, h0⟩ : ∃ W, W = w9.alloc (.cells #[.slice t2.w.a t2.w.n t2.w.c, .slice t2.p.a t2.p.n t2.p.c, .slice (t2.u 0).a (t2.u 0).n (t2.u 0).c, .slice (t2.u 1).a (t2.u 1).n (t2.u 1).c, .slice (t2.u 2).a (t2.u 2).n (t2.u 2).c, .slice t2.c.a t2.c.n t2.c.c] 28) := ⟨_, rfl⟩
  obtain ⟨b2, h1⟩ : ∃ b, b = w9.heap.size := ⟨_, rfl⟩
  rw [← h0, ← h1] at L6
  rw [← h0, ← h1]
  clear h0 h1
  have q0 := (L6.out.at (w.heap.size) (s) (d) (by simp)).c0
  have q1 := (L6.out.at (w.heap.size) (s) (d) (by simp)).c1
  have q2 := (L6.out.at (w.heap.size) (s) (d) (by simp)).c2
  have q3 := (L6.out.at (w.heap.size) (s) (d) (by simp)).c3
  have q4 := (L6.out.at (w.heap.size) (s) (d) (by simp)).c4
  have q5 := (L6.out.at (w.heap.size) (s) (d) (by simp)).c5
  have ql := (L6.out.at (w.heap.size) (s) (d) (by simp)).lt
  go_wp2_with fail
  refine (H4.out v6 b1 t1 b2 t2 L6.out).mono ?_
  rintro e9 w7 ⟨rfl, hb9⟩
  have L7 := Lib.hid (L6.out.next hb9)
  clear hb9 L6
  clear q0 q1 q2 q3 q4 q5 ql
  have q0 := (L7.out.at (w.heap.size) (s) (d) (by simp)).c0
  have q1 := (L7.out.at (w.heap.size) (s) (d) (by simp)).c1
  have q2 := (L7.out.at (w.heap.size) (s) (d) (by simp)).c2
  have q3 := (L7.out.at (w.heap.size) (s) (d) (by simp)).c3
  have q4 := (L7.out.at (w.heap.size) (s) (d) (by simp)).c4
  have q5 := (L7.out.at (w.heap.size) (s) (d) (by simp)).c5
  have ql := (L7.out.at (w.heap.size) (s) (d) (by simp)).lt
  go_wp2_with fail
  refine (H5.out w7 b1 t1 b2 t2 L7.out).mono ?_
  rintro e9 w8 ⟨v9, rfl, ho9, hb9⟩
  have L8 := Lib.hid (L7.out.next hb9)
  have hv9 : v9.n = 0 := by have := ho9.1; simpa using this.symm
  obtain ⟨va, vn, vc⟩ := v9
  dsimp only at hv9
  subst hv9
  clear hb9 ho9 L7
  clear q0 q1 q2 q3 q4 q5 ql
  go_wp2
  go_ret
  exact ⟨rfl, L8.out.bel⟩
set_option maxHeartbeats 4000000 in
theorem core_high_hi (d1 d2 : Hd_) (hf : fewH s = true) (a1 : decide (16 ≤ a) = true) (a2 : decide (a < 16 + (s.w.n : Int)) = false) (hwn : s.w.n ≤ 4000) (k1 : decide (0 ≤ k) = true) (k2 : decide (k < (s.c.n : Int)) = false) (hO : ∀ W, Lx w W none 0 (fun _ => Ls.noSl) noCaches [(w.heap.size, s, d)] → Calls Tryd.prog 10 #[(.agg #[.slice s.w.a s.w.n s.w.c, .slice s.p.a s.p.n s.p.c, .slice (s.u 0).a (s.u 0).n (s.u 0).c, .slice (s.u 1).a (s.u 1).n (s.u 1).c, .slice (s.u 2).a (s.u 2).n (s.u 2).c, .slice s.c.a s.c.n s.c.c]), .int .i64 a] W fun e w' => e = .returned (.tuple #[.int .i64 0, .int .i64 3]) ∧ Below W.heap.size W w') (hD : ∀ W, Lx w W none 0 (fun _ => Ls.noSl) noCaches [(w.heap.size, s, d)] → Calls Tryd.prog 12 #[(.agg #[.slice s.w.a s.w.n s.w.c, .slice s.p.a s.p.n s.p.c, .slice (s.u 0).a (s.u 0).n (s.u 0).c, .slice (s.u 1).a (s.u 1).n (s.u 1).c, .slice (s.u 2).a (s.u 2).n (s.u 2).c, .slice s.c.a s.c.n s.c.c]), .int .i64 a] W fun e w' => ∃ t : Hs, e = .returned (.tuple #[(.agg #[.slice t.w.a t.w.n t.w.c, .slice t.p.a t.p.n t.p.c, .slice (t.u 0).a (t.u 0).n (t.u 0).c, .slice (t.u 1).a (t.u 1).n (t.u 1).c, .slice (t.u 2).a (t.u 2).n (t.u 2).c, .slice t.c.a t.c.n t.c.c]), .int .i64 3]) ∧ Hp w' w'.heap.size t d1 ∧ True ∧ Below W.heap.size W w') (hC : ∀ W b1 t1, Lx w W none 0 (fun _ => Ls.noSl) noCaches [(b1, t1, d1), (w.heap.size, s, d)] → Calls Tryd.prog 13 #[(.agg #[.slice s.w.a s.w.n s.w.c, .slice s.p.a s.p.n s.p.c, .slice (s.u 0).a (s.u 0).n (s.u 0).c, .slice (s.u 1).a (s.u 1).n (s.u 1).c, .slice (s.u 2).a (s.u 2).n (s.u 2).c, .slice s.c.a s.c.n s.c.c]), .int .i64 k] W fun e w' => ∃ t : Hs, e = .returned (.tuple #[(.agg #[.slice t.w.a t.w.n t.w.c, .slice t.p.a t.p.n t.p.c, .slice (t.u 0).a (t.u 0).n (t.u 0).c, .slice (t.u 1).a (t.u 1).n (t.u 1).c, .slice (t.u 2).a (t.u 2).n (t.u 2).c, .slice t.c.a t.c.n t.c.c]), .int .i64 3]) ∧ Hp w' w'.heap.size t d2 ∧ True ∧ Below W.heap.size W w') (hM : ∀ W b1 t1 b2 t2, Lx w W none 0 (fun _ => Ls.noSl) noCaches [(b2, t2, d2), (b1, t1, d1), (w.heap.size, s, d)] → Calls Tryd.prog 15 #[(.agg #[.slice s.w.a s.w.n s.w.c, .slice s.p.a s.p.n s.p.c, .slice (s.u 0).a (s.u 0).n (s.u 0).c, .slice (s.u 1).a (s.u 1).n (s.u 1).c, .slice (s.u 2).a (s.u 2).n (s.u 2).c, .slice s.c.a s.c.n s.c.c]), .slice none 0 0] W fun e w' => e = .returned (.bool true) ∧ Below W.heap.size W w') (hN : ∀ W b1 t1 b2 t2, Lx w W none 0 (fun _ => Ls.noSl) noCaches [(b2, t2, d2), (b1, t1, d1), (w.heap.size, s, d)] → Calls Tryd.prog 16 #[(.agg #[.slice s.w.a s.w.n s.w.c, .slice s.p.a s.p.n s.p.c, .slice (s.u 0).a (s.u 0).n (s.u 0).c, .slice (s.u 1).a (s.u 1).n (s.u 1).c, .slice (s.u 2).a (s.u 2).n (s.u 2).c, .slice s.c.a s.c.n s.c.c]), .int .i64 k] W (Ls.AllOut W [])) (hz : Cl.Sz w) (hp : Hp w w.heap.size s d) : Calls Tryd.prog 7 #[(.agg #[.slice s.w.a s.w.n s.w.c, .slice s.p.a s.p.n s.p.c, .slice (s.u 0).a (s.u 0).n (s.u 0).c, .slice (s.u 1).a (s.u 1).n (s.u 1).c, .slice (s.u 2).a (s.u 2).n (s.u 2).c, .slice s.c.a s.c.n s.c.c]), .int .i64 a, .int .i64 k] w fun e w' => e = .returned (.bool true) ∧ Below w.heap.size w w' := by
  have HZ := Lib.hid hz
  have hz0 := hz.pos
  have HP := Lib.hid hp
  have HF := Lib.hid hf
  have H1 := Lib.hid hO
  have H2 := Lib.hid hD
  have H3 := Lib.hid hC
  have H4 := Lib.hid hM
  have H5 := Lib.hid hN
  clear hN
  clear hz hp hf hO hD hC hM
  go_enter Tryd.func7, Tryd.ntmps7
  go_wp2_with fail
  obtain ⟨W1, hW1⟩ : ∃ W1, W1 = w.alloc (.cells #[.slice s.w.a s.w.n s.w.c, .slice s.p.a s.p.n s.p.c, .slice (s.u 0).a (s.u 0).n (s.u 0).c, .slice (s.u 1).a (s.u 1).n (s.u 1).c, .slice (s.u 2).a (s.u 2).n (s.u 2).c, .slice s.c.a s.c.n s.c.c] 28) := ⟨_, rfl⟩
  have L1 := Lib.hid (lx_start (A := none) (n := 0) (U := (fun _ => Ls.noSl)) (F := noCaches) HP.out (fun h => absurd h (by omega)) hW1)
  rw [← hW1]
  clear hW1
  refine (Ck.awake_any W1 (HZ.out.over L1.out.bel hz0)).mono ?_
  rintro e9 w1 ⟨rfl, hb1⟩
  have L2 := Lib.hid (L1.out.next hb1)
  clear hb1 L1
  have q0 := (L2.out.at (w.heap.size) (s) (d) (by simp)).c0
  have q1 := (L2.out.at (w.heap.size) (s) (d) (by simp)).c1
  have q2 := (L2.out.at (w.heap.size) (s) (d) (by simp)).c2
  have q3 := (L2.out.at (w.heap.size) (s) (d) (by simp)).c3
  have q4 := (L2.out.at (w.heap.size) (s) (d) (by simp)).c4
  have q5 := (L2.out.at (w.heap.size) (s) (d) (by simp)).c5
  have ql := (L2.out.at (w.heap.size) (s) (d) (by simp)).lt
  go_wp2_with fail
  refine (rfew_any s w1).mono ?_
  rw [HF.out]
  rintro e9 w2 ⟨rfl, hb2⟩
  have L3 := Lib.hid (L2.out.next hb2)
  clear hb2 L2
  clear q0 q1 q2 q3 q4 q5 ql
  have q0 := (L3.out.at (w.heap.size) (s) (d) (by simp)).c0
  have q1 := (L3.out.at (w.heap.size) (s) (d) (by simp)).c1
  have q2 := (L3.out.at (w.heap.size) (s) (d) (by simp)).c2
  have q3 := (L3.out.at (w.heap.size) (s) (d) (by simp)).c3
  have q4 := (L3.out.at (w.heap.size) (s) (d) (by simp)).c4
  have q5 := (L3.out.at (w.heap.size) (s) (d) (by simp)).c5
  have ql := (L3.out.at (w.heap.size) (s) (d) (by simp)).lt
  go_wp2_with fail
  refine (H1.out w2 L3.out).mono ?_
  rintro e9 w3 ⟨rfl, hb9⟩
  have L4 := Lib.hid (L3.out.next hb9)
  clear hb9 L3
  clear q0 q1 q2 q3 q4 q5 ql
  have q0 := (L4.out.at (w.heap.size) (s) (d) (by simp)).c0
  have q1 := (L4.out.at (w.heap.size) (s) (d) (by simp)).c1
  have q2 := (L4.out.at (w.heap.size) (s) (d) (by simp)).c2
  have q3 := (L4.out.at (w.heap.size) (s) (d) (by simp)).c3
  have q4 := (L4.out.at (w.heap.size) (s) (d) (by simp)).c4
  have q5 := (L4.out.at (w.heap.size) (s) (d) (by simp)).c5
  have ql := (L4.out.at (w.heap.size) (s) (d) (by simp)).lt
  go_wp2_with fail
  refine (H2.out w3 L4.out).mono ?_
  rintro e9 w9 ⟨t1, rfl, hp9, hl9, hb9⟩
  have L5 := Lib.hid (L4.out.add (nw_new (ty := 28) hb9 hp9))
  have N5 := Lib.hid hl9
  clear hp9 hb9 hl9 L4
  clear q0 q1 q2 q3 q4 q5 ql
  go_upto_region 7 with fail
  obtain ⟨v5, h0⟩ : ∃ W, W = w9.alloc (.cells #[.slice t1.w.a t1.w.n t1.w.c, .slice t1.p.a t1.p.n t1.p.c, .slice (t1.u 0).a (t1.u 0).n (t1.u 0).c, .slice (t1.u 1).a (t1.u 1).n (t1.u 1).c, .slice (t1.u 2).a (t1.u 2).n (t1.u 2).c, .slice t1.c.a t1.c.n t1.c.c] 28) := ⟨_, rfl⟩
  obtain ⟨b1, h1⟩ : ∃ b, b = w9.heap.size := ⟨_, rfl⟩
  rw [← h0, ← h1] at L5
  rw [← h0, ← h1]
  clear h0 h1
  have q0 := (L5.out.at (w.heap.size) (s) (d) (by simp)).c0
  have q1 := (L5.out.at (w.heap.size) (s) (d) (by simp)).c1
  have q2 := (L5.out.at (w.heap.size) (s) (d) (by simp)).c2
  have q3 := (L5.out.at (w.heap.size) (s) (d) (by simp)).c3
  have q4 := (L5.out.at (w.heap.size) (s) (d) (by simp)).c4
  have q5 := (L5.out.at (w.heap.size) (s) (d) (by simp)).c5
  have ql := (L5.out.at (w.heap.size) (s) (d) (by simp)).lt
  go_wp2_with fail
  refine (H3.out v5 b1 t1 L5.out).mono ?_
  rintro e9 w9 ⟨t2, rfl, hp9, hl9, hb9⟩
  have L6 := Lib.hid (L5.out.add (nw_new (ty := 28) hb9 hp9))
  have N6 := Lib.hid hl9
  clear hp9 hb9 hl9 L5
  clear q0 q1 q2 q3 q4 q5 ql
  go_upto_region 8 with fail
  obtain ⟨v6, h0⟩ : ∃ W, W = w9.alloc (.cells #[.slice t2.w.a t2.w.n t2.w.c, .slice t2.p.a t2.p.n t2.p.c, .slice (t2.u 0).a (t2.u 0).n (t2.u 0).c, .slice (t2.u 1).a (t2.u 1).n (t2.u 1).c, .slice (t2.u 2).a (t2.u 2).n (t2.u 2).c, .slice t2.c.a t2.c.n t2.c.c] 28) := ⟨_, rfl⟩
  obtain ⟨b2, h1⟩ : ∃ b, b = w9.heap.size := ⟨_, rfl⟩
  rw [← h0, ← h1] at L6
  rw [← h0, ← h1]
  clear h0 h1
  have q0 := (L6.out.at (w.heap.size) (s) (d) (by simp)).c0
  have q1 := (L6.out.at (w.heap.size) (s) (d) (by simp)).c1
  have q2 := (L6.out.at (w.heap.size) (s) (d) (by simp)).c2
  have q3 := (L6.out.at (w.heap.size) (s) (d) (by simp)).c3
  have q4 := (L6.out.at (w.heap.size) (s) (d) (by simp)).c4
  have q5 := (L6.out.at (w.heap.size) (s) (d) (by simp)).c5
  have ql := (L6.out.at (w.heap.size) (s) (d) (by simp)).lt
  go_wp2_with fail
  refine (H4.out v6 b1 t1 b2 t2 L6.out).mono ?_
  rintro e9 w7 ⟨rfl, hb9⟩
  have L7 := Lib.hid (L6.out.next hb9)
  clear hb9 L6
  clear q0 q1 q2 q3 q4 q5 ql
  have q0 := (L7.out.at (w.heap.size) (s) (d) (by simp)).c0
  have q1 := (L7.out.at (w.heap.size) (s) (d) (by simp)).c1
  have q2 := (L7.out.at (w.heap.size) (s) (d) (by simp)).c2
  have q3 := (L7.out.at (w.heap.size) (s) (d) (by simp)).c3
  have q4 := (L7.out.at (w.heap.size) (s) (d) (by simp)).c4
  have q5 := (L7.out.at (w.heap.size) (s) (d) (by simp)).c5
  have ql := (L7.out.at (w.heap.size) (s) (d) (by simp)).lt
  go_wp2_with fail
  refine (H5.out w7 b1 t1 b2 t2 L7.out).mono ?_
  rintro e9 w8 ⟨v9, rfl, ho9, hb9⟩
  have L8 := Lib.hid (L7.out.next hb9)
  have hv9 : v9.n = 0 := by have := ho9.1; simpa using this.symm
  obtain ⟨va, vn, vc⟩ := v9
  dsimp only at hv9
  subst hv9
  clear hb9 ho9 L7
  clear q0 q1 q2 q3 q4 q5 ql
  go_wp2
  go_ret
  exact ⟨rfl, L8.out.bel⟩
set_option maxHeartbeats 4000000 in
theorem core_high_ok (d1 d2 : Hd_) (hf : fewH s = true) (a1 : decide (16 ≤ a) = true) (a2 : decide (a < 16 + (s.w.n : Int)) = false) (hwn : s.w.n ≤ 4000) (k1 : decide (0 ≤ k) = true) (k2 : decide (k < (s.c.n : Int)) = true) (hO : ∀ W, Lx w W none 0 (fun _ => Ls.noSl) noCaches [(w.heap.size, s, d)] → Calls Tryd.prog 10 #[(.agg #[.slice s.w.a s.w.n s.w.c, .slice s.p.a s.p.n s.p.c, .slice (s.u 0).a (s.u 0).n (s.u 0).c, .slice (s.u 1).a (s.u 1).n (s.u 1).c, .slice (s.u 2).a (s.u 2).n (s.u 2).c, .slice s.c.a s.c.n s.c.c]), .int .i64 a] W fun e w' => e = .returned (.tuple #[.int .i64 0, .int .i64 3]) ∧ Below W.heap.size W w') (hD : ∀ W, Lx w W none 0 (fun _ => Ls.noSl) noCaches [(w.heap.size, s, d)] → Calls Tryd.prog 12 #[(.agg #[.slice s.w.a s.w.n s.w.c, .slice s.p.a s.p.n s.p.c, .slice (s.u 0).a (s.u 0).n (s.u 0).c, .slice (s.u 1).a (s.u 1).n (s.u 1).c, .slice (s.u 2).a (s.u 2).n (s.u 2).c, .slice s.c.a s.c.n s.c.c]), .int .i64 a] W fun e w' => ∃ t : Hs, e = .returned (.tuple #[(.agg #[.slice t.w.a t.w.n t.w.c, .slice t.p.a t.p.n t.p.c, .slice (t.u 0).a (t.u 0).n (t.u 0).c, .slice (t.u 1).a (t.u 1).n (t.u 1).c, .slice (t.u 2).a (t.u 2).n (t.u 2).c, .slice t.c.a t.c.n t.c.c]), .int .i64 3]) ∧ Hp w' w'.heap.size t d1 ∧ True ∧ Below W.heap.size W w') (hC : ∀ W b1 t1, Lx w W none 0 (fun _ => Ls.noSl) noCaches [(b1, t1, d1), (w.heap.size, s, d)] → Calls Tryd.prog 13 #[(.agg #[.slice s.w.a s.w.n s.w.c, .slice s.p.a s.p.n s.p.c, .slice (s.u 0).a (s.u 0).n (s.u 0).c, .slice (s.u 1).a (s.u 1).n (s.u 1).c, .slice (s.u 2).a (s.u 2).n (s.u 2).c, .slice s.c.a s.c.n s.c.c]), .int .i64 k] W fun e w' => ∃ t : Hs, e = .returned (.tuple #[(.agg #[.slice t.w.a t.w.n t.w.c, .slice t.p.a t.p.n t.p.c, .slice (t.u 0).a (t.u 0).n (t.u 0).c, .slice (t.u 1).a (t.u 1).n (t.u 1).c, .slice (t.u 2).a (t.u 2).n (t.u 2).c, .slice t.c.a t.c.n t.c.c]), .int .i64 0]) ∧ Hp w' w'.heap.size t d2 ∧ True ∧ Below W.heap.size W w') (hM : ∀ W b1 t1 b2 t2, Lx w W none 0 (fun _ => Ls.noSl) noCaches [(b2, t2, d2), (b1, t1, d1), (w.heap.size, s, d)] → Calls Tryd.prog 15 #[(.agg #[.slice s.w.a s.w.n s.w.c, .slice s.p.a s.p.n s.p.c, .slice (s.u 0).a (s.u 0).n (s.u 0).c, .slice (s.u 1).a (s.u 1).n (s.u 1).c, .slice (s.u 2).a (s.u 2).n (s.u 2).c, .slice s.c.a s.c.n s.c.c]), .slice none 0 0] W fun e w' => e = .returned (.bool true) ∧ Below W.heap.size W w') (hz : Cl.Sz w) (hp : Hp w w.heap.size s d) : Calls Tryd.prog 7 #[(.agg #[.slice s.w.a s.w.n s.w.c, .slice s.p.a s.p.n s.p.c, .slice (s.u 0).a (s.u 0).n (s.u 0).c, .slice (s.u 1).a (s.u 1).n (s.u 1).c, .slice (s.u 2).a (s.u 2).n (s.u 2).c, .slice s.c.a s.c.n s.c.c]), .int .i64 a, .int .i64 k] w fun e w' => e = .returned (.bool true) ∧ Below w.heap.size w w' := by
  have HZ := Lib.hid hz
  have hz0 := hz.pos
  have HP := Lib.hid hp
  have HF := Lib.hid hf
  have H1 := Lib.hid hO
  have H2 := Lib.hid hD
  have H3 := Lib.hid hC
  have H4 := Lib.hid hM
  clear hz hp hf hO hD hC hM
  go_enter Tryd.func7, Tryd.ntmps7
  go_wp2_with fail
  obtain ⟨W1, hW1⟩ : ∃ W1, W1 = w.alloc (.cells #[.slice s.w.a s.w.n s.w.c, .slice s.p.a s.p.n s.p.c, .slice (s.u 0).a (s.u 0).n (s.u 0).c, .slice (s.u 1).a (s.u 1).n (s.u 1).c, .slice (s.u 2).a (s.u 2).n (s.u 2).c, .slice s.c.a s.c.n s.c.c] 28) := ⟨_, rfl⟩
  have L1 := Lib.hid (lx_start (A := none) (n := 0) (U := (fun _ => Ls.noSl)) (F := noCaches) HP.out (fun h => absurd h (by omega)) hW1)
  rw [← hW1]
  clear hW1
  refine (Ck.awake_any W1 (HZ.out.over L1.out.bel hz0)).mono ?_
  rintro e9 w1 ⟨rfl, hb1⟩
  have L2 := Lib.hid (L1.out.next hb1)
  clear hb1 L1
  have q0 := (L2.out.at (w.heap.size) (s) (d) (by simp)).c0
  have q1 := (L2.out.at (w.heap.size) (s) (d) (by simp)).c1
  have q2 := (L2.out.at (w.heap.size) (s) (d) (by simp)).c2
  have q3 := (L2.out.at (w.heap.size) (s) (d) (by simp)).c3
  have q4 := (L2.out.at (w.heap.size) (s) (d) (by simp)).c4
  have q5 := (L2.out.at (w.heap.size) (s) (d) (by simp)).c5
  have ql := (L2.out.at (w.heap.size) (s) (d) (by simp)).lt
  go_wp2_with fail
  refine (rfew_any s w1).mono ?_
  rw [HF.out]
  rintro e9 w2 ⟨rfl, hb2⟩
  have L3 := Lib.hid (L2.out.next hb2)
  clear hb2 L2
  clear q0 q1 q2 q3 q4 q5 ql
  have q0 := (L3.out.at (w.heap.size) (s) (d) (by simp)).c0
  have q1 := (L3.out.at (w.heap.size) (s) (d) (by simp)).c1
  have q2 := (L3.out.at (w.heap.size) (s) (d) (by simp)).c2
  have q3 := (L3.out.at (w.heap.size) (s) (d) (by simp)).c3
  have q4 := (L3.out.at (w.heap.size) (s) (d) (by simp)).c4
  have q5 := (L3.out.at (w.heap.size) (s) (d) (by simp)).c5
  have ql := (L3.out.at (w.heap.size) (s) (d) (by simp)).lt
  go_wp2_with fail
  refine (H1.out w2 L3.out).mono ?_
  rintro e9 w3 ⟨rfl, hb9⟩
  have L4 := Lib.hid (L3.out.next hb9)
  clear hb9 L3
  clear q0 q1 q2 q3 q4 q5 ql
  have q0 := (L4.out.at (w.heap.size) (s) (d) (by simp)).c0
  have q1 := (L4.out.at (w.heap.size) (s) (d) (by simp)).c1
  have q2 := (L4.out.at (w.heap.size) (s) (d) (by simp)).c2
  have q3 := (L4.out.at (w.heap.size) (s) (d) (by simp)).c3
  have q4 := (L4.out.at (w.heap.size) (s) (d) (by simp)).c4
  have q5 := (L4.out.at (w.heap.size) (s) (d) (by simp)).c5
  have ql := (L4.out.at (w.heap.size) (s) (d) (by simp)).lt
  go_wp2_with fail
  refine (H2.out w3 L4.out).mono ?_
  rintro e9 w9 ⟨t1, rfl, hp9, hl9, hb9⟩
  have L5 := Lib.hid (L4.out.add (nw_new (ty := 28) hb9 hp9))
  have N5 := Lib.hid hl9
  clear hp9 hb9 hl9 L4
  clear q0 q1 q2 q3 q4 q5 ql
  go_upto_region 7 with fail
  obtain ⟨v5, h0⟩ : ∃ W, W = w9.alloc (.cells #[.slice t1.w.a t1.w.n t1.w.c, .slice t1.p.a t1.p.n t1.p.c, .slice (t1.u 0).a (t1.u 0).n (t1.u 0).c, .slice (t1.u 1).a (t1.u 1).n (t1.u 1).c, .slice (t1.u 2).a (t1.u 2).n (t1.u 2).c, .slice t1.c.a t1.c.n t1.c.c] 28) := ⟨_, rfl⟩
  obtain ⟨b1, h1⟩ : ∃ b, b = w9.heap.size := ⟨_, rfl⟩
  rw [← h0, ← h1] at L5
  rw [← h0, ← h1]
  clear h0 h1
  have q0 := (L5.out.at (w.heap.size) (s) (d) (by simp)).c0
  have q1 := (L5.out.at (w.heap.size) (s) (d) (by simp)).c1
  have q2 := (L5.out.at (w.heap.size) (s) (d) (by simp)).c2
  have q3 := (L5.out.at (w.heap.size) (s) (d) (by simp)).c3
  have q4 := (L5.out.at (w.heap.size) (s) (d) (by simp)).c4
  have q5 := (L5.out.at (w.heap.size) (s) (d) (by simp)).c5
  have ql := (L5.out.at (w.heap.size) (s) (d) (by simp)).lt
  go_wp2_with fail
  refine (H3.out v5 b1 t1 L5.out).mono ?_
  rintro e9 w9 ⟨t2, rfl, hp9, hl9, hb9⟩
  have L6 := Lib.hid (L5.out.add (nw_new (ty := 28) hb9 hp9))
  have N6 := Lib.hid hl9
  clear hp9 hb9 hl9 L5
  clear q0 q1 q2 q3 q4 q5 ql
  go_upto_region 8 with fail
  obtain ⟨v6, h0⟩ : ∃ W, W = w9.alloc (.cells #[.slice t2.w.a t2.w.n t2.w.c, .slice t2.p.a t2.p.n t2.p.c, .slice (t2.u 0).a (t2.u 0).n (t2.u 0).c, .slice (t2.u 1).a (t2.u 1).n (t2.u 1).c, .slice (t2.u 2).a (t2.u 2).n (t2.u 2).c, .slice t2.c.a t2.c.n t2.c.c] 28) := ⟨_, rfl⟩
  obtain ⟨b2, h1⟩ : ∃ b, b = w9.heap.size := ⟨_, rfl⟩
  rw [← h0, ← h1] at L6
  rw [← h0, ← h1]
  clear h0 h1
  have q0 := (L6.out.at (w.heap.size) (s) (d) (by simp)).c0
  have q1 := (L6.out.at (w.heap.size) (s) (d) (by simp)).c1
  have q2 := (L6.out.at (w.heap.size) (s) (d) (by simp)).c2
  have q3 := (L6.out.at (w.heap.size) (s) (d) (by simp)).c3
  have q4 := (L6.out.at (w.heap.size) (s) (d) (by simp)).c4
  have q5 := (L6.out.at (w.heap.size) (s) (d) (by simp)).c5
  have ql := (L6.out.at (w.heap.size) (s) (d) (by simp)).lt
  go_wp2_with fail
  refine (H4.out v6 b1 t1 b2 t2 L6.out).mono ?_
  rintro e9 w7 ⟨rfl, hb9⟩
  have L7 := Lib.hid (L6.out.next hb9)
  clear hb9 L6
  clear q0 q1 q2 q3 q4 q5 ql
  have q0 := (L7.out.at (w.heap.size) (s) (d) (by simp)).c0
  have q1 := (L7.out.at (w.heap.size) (s) (d) (by simp)).c1
  have q2 := (L7.out.at (w.heap.size) (s) (d) (by simp)).c2
  have q3 := (L7.out.at (w.heap.size) (s) (d) (by simp)).c3
  have q4 := (L7.out.at (w.heap.size) (s) (d) (by simp)).c4
  have q5 := (L7.out.at (w.heap.size) (s) (d) (by simp)).c5
  have ql := (L7.out.at (w.heap.size) (s) (d) (by simp)).lt
  go_wp2
  go_ret
  exact ⟨rfl, L7.out.bel⟩
set_option maxHeartbeats 4000000 in
theorem core_in_no (d1 d2 : Hd_) (n1 : Int) (hf : fewH s = true) (a1 : decide (16 ≤ a) = true) (a2 : decide (a < 16 + (s.w.n : Int)) = true) (hwn : s.w.n ≤ 4000) (k1 : decide (0 ≤ k) = false) (hO : ∀ W, Lx w W none 0 (fun _ => Ls.noSl) noCaches [(w.heap.size, s, d)] → Calls Tryd.prog 10 #[(.agg #[.slice s.w.a s.w.n s.w.c, .slice s.p.a s.p.n s.p.c, .slice (s.u 0).a (s.u 0).n (s.u 0).c, .slice (s.u 1).a (s.u 1).n (s.u 1).c, .slice (s.u 2).a (s.u 2).n (s.u 2).c, .slice s.c.a s.c.n s.c.c]), .int .i64 a] W fun e w' => e = .returned (.tuple #[.int .i64 n1, .int .i64 0]) ∧ Below W.heap.size W w') (hD : ∀ W, Lx w W none 0 (fun _ => Ls.noSl) noCaches [(w.heap.size, s, d)] → Calls Tryd.prog 12 #[(.agg #[.slice s.w.a s.w.n s.w.c, .slice s.p.a s.p.n s.p.c, .slice (s.u 0).a (s.u 0).n (s.u 0).c, .slice (s.u 1).a (s.u 1).n (s.u 1).c, .slice (s.u 2).a (s.u 2).n (s.u 2).c, .slice s.c.a s.c.n s.c.c]), .int .i64 a] W fun e w' => ∃ t : Hs, e = .returned (.tuple #[(.agg #[.slice t.w.a t.w.n t.w.c, .slice t.p.a t.p.n t.p.c, .slice (t.u 0).a (t.u 0).n (t.u 0).c, .slice (t.u 1).a (t.u 1).n (t.u 1).c, .slice (t.u 2).a (t.u 2).n (t.u 2).c, .slice t.c.a t.c.n t.c.c]), .int .i64 0]) ∧ Hp w' w'.heap.size t d1 ∧ True ∧ Below W.heap.size W w') (hC : ∀ W b1 t1, Lx w W none 0 (fun _ => Ls.noSl) noCaches [(b1, t1, d1), (w.heap.size, s, d)] → Calls Tryd.prog 13 #[(.agg #[.slice s.w.a s.w.n s.w.c, .slice s.p.a s.p.n s.p.c, .slice (s.u 0).a (s.u 0).n (s.u 0).c, .slice (s.u 1).a (s.u 1).n (s.u 1).c, .slice (s.u 2).a (s.u 2).n (s.u 2).c, .slice s.c.a s.c.n s.c.c]), .int .i64 k] W fun e w' => ∃ t : Hs, e = .returned (.tuple #[(.agg #[.slice t.w.a t.w.n t.w.c, .slice t.p.a t.p.n t.p.c, .slice (t.u 0).a (t.u 0).n (t.u 0).c, .slice (t.u 1).a (t.u 1).n (t.u 1).c, .slice (t.u 2).a (t.u 2).n (t.u 2).c, .slice t.c.a t.c.n t.c.c]), .int .i64 3]) ∧ Hp w' w'.heap.size t d2 ∧ True ∧ Below W.heap.size W w') (hM : ∀ W b1 t1 b2 t2, Lx w W none 0 (fun _ => Ls.noSl) noCaches [(b2, t2, d2), (b1, t1, d1), (w.heap.size, s, d)] → Calls Tryd.prog 15 #[(.agg #[.slice s.w.a s.w.n s.w.c, .slice s.p.a s.p.n s.p.c, .slice (s.u 0).a (s.u 0).n (s.u 0).c, .slice (s.u 1).a (s.u 1).n (s.u 1).c, .slice (s.u 2).a (s.u 2).n (s.u 2).c, .slice s.c.a s.c.n s.c.c]), .slice none 0 0] W fun e w' => e = .returned (.bool true) ∧ Below W.heap.size W w') (hN : ∀ W b1 t1 b2 t2, Lx w W none 0 (fun _ => Ls.noSl) noCaches [(b2, t2, d2), (b1, t1, d1), (w.heap.size, s, d)] → Calls Tryd.prog 16 #[(.agg #[.slice s.w.a s.w.n s.w.c, .slice s.p.a s.p.n s.p.c, .slice (s.u 0).a (s.u 0).n (s.u 0).c, .slice (s.u 1).a (s.u 1).n (s.u 1).c, .slice (s.u 2).a (s.u 2).n (s.u 2).c, .slice s.c.a s.c.n s.c.c]), .int .i64 k] W (Ls.AllOut W [])) (hz : Cl.Sz w) (hp : Hp w w.heap.size s d) : Calls Tryd.prog 7 #[(.agg #[.slice s.w.a s.w.n s.w.c, .slice s.p.a s.p.n s.p.c, .slice (s.u 0).a (s.u 0).n (s.u 0).c, .slice (s.u 1).a (s.u 1).n (s.u 1).c, .slice (s.u 2).a (s.u 2).n (s.u 2).c, .slice s.c.a s.c.n s.c.c]), .int .i64 a, .int .i64 k] w fun e w' => e = .returned (.bool true) ∧ Below w.heap.size w w' := by
  have HZ := Lib.hid hz
  have hz0 := hz.pos
  have HP := Lib.hid hp
  have HF := Lib.hid hf
  have H1 := Lib.hid hO
  have H2 := Lib.hid hD
  have H3 := Lib.hid hC
  have H4 := Lib.hid hM
  have H5 := Lib.hid hN
  clear hN
  clear hz hp hf hO hD hC hM
  go_enter Tryd.func7, Tryd.ntmps7
  go_wp2_with fail
  obtain ⟨W1, hW1⟩ : ∃ W1, W1 = w.alloc (.cells #[.slice s.w.a s.w.n s.w.c, .slice s.p.a s.p.n s.p.c, .slice (s.u 0).a (s.u 0).n (s.u 0).c, .slice (s.u 1).a (s.u 1).n (s.u 1).c, .slice (s.u 2).a (s.u 2).n (s.u 2).c, .slice s.c.a s.c.n s.c.c] 28) := ⟨_, rfl⟩
  have L1 := Lib.hid (lx_start (A := none) (n := 0) (U := (fun _ => Ls.noSl)) (F := noCaches) HP.out (fun h => absurd h (by omega)) hW1)
  rw [← hW1]
  clear hW1
  refine (Ck.awake_any W1 (HZ.out.over L1.out.bel hz0)).mono ?_
  rintro e9 w1 ⟨rfl, hb1⟩
  have L2 := Lib.hid (L1.out.next hb1)
  clear hb1 L1
  have q0 := (L2.out.at (w.heap.size) (s) (d) (by simp)).c0
  have q1 := (L2.out.at (w.heap.size) (s) (d) (by simp)).c1
  have q2 := (L2.out.at (w.heap.size) (s) (d) (by simp)).c2
  have q3 := (L2.out.at (w.heap.size) (s) (d) (by simp)).c3
  have q4 := (L2.out.at (w.heap.size) (s) (d) (by simp)).c4
  have q5 := (L2.out.at (w.heap.size) (s) (d) (by simp)).c5
  have ql := (L2.out.at (w.heap.size) (s) (d) (by simp)).lt
  go_wp2_with fail
  refine (rfew_any s w1).mono ?_
  rw [HF.out]
  rintro e9 w2 ⟨rfl, hb2⟩
  have L3 := Lib.hid (L2.out.next hb2)
  clear hb2 L2
  clear q0 q1 q2 q3 q4 q5 ql
  have q0 := (L3.out.at (w.heap.size) (s) (d) (by simp)).c0
  have q1 := (L3.out.at (w.heap.size) (s) (d) (by simp)).c1
  have q2 := (L3.out.at (w.heap.size) (s) (d) (by simp)).c2
  have q3 := (L3.out.at (w.heap.size) (s) (d) (by simp)).c3
  have q4 := (L3.out.at (w.heap.size) (s) (d) (by simp)).c4
  have q5 := (L3.out.at (w.heap.size) (s) (d) (by simp)).c5
  have ql := (L3.out.at (w.heap.size) (s) (d) (by simp)).lt
  go_wp2_with fail
  refine (H1.out w2 L3.out).mono ?_
  rintro e9 w3 ⟨rfl, hb9⟩
  have L4 := Lib.hid (L3.out.next hb9)
  clear hb9 L3
  clear q0 q1 q2 q3 q4 q5 ql
  have q0 := (L4.out.at (w.heap.size) (s) (d) (by simp)).c0
  have q1 := (L4.out.at (w.heap.size) (s) (d) (by simp)).c1
  have q2 := (L4.out.at (w.heap.size) (s) (d) (by simp)).c2
  have q3 := (L4.out.at (w.heap.size) (s) (d) (by simp)).c3
  have q4 := (L4.out.at (w.heap.size) (s) (d) (by simp)).c4
  have q5 := (L4.out.at (w.heap.size) (s) (d) (by simp)).c5
  have ql := (L4.out.at (w.heap.size) (s) (d) (by simp)).lt
  go_wp2_with fail
  refine (H2.out w3 L4.out).mono ?_
  rintro e9 w9 ⟨t1, rfl, hp9, hl9, hb9⟩
  have L5 := Lib.hid (L4.out.add (nw_new (ty := 28) hb9 hp9))
  have N5 := Lib.hid hl9
  clear hp9 hb9 hl9 L4
  clear q0 q1 q2 q3 q4 q5 ql
  go_upto_region 7 with fail
  obtain ⟨v5, h0⟩ : ∃ W, W = w9.alloc (.cells #[.slice t1.w.a t1.w.n t1.w.c, .slice t1.p.a t1.p.n t1.p.c, .slice (t1.u 0).a (t1.u 0).n (t1.u 0).c, .slice (t1.u 1).a (t1.u 1).n (t1.u 1).c, .slice (t1.u 2).a (t1.u 2).n (t1.u 2).c, .slice t1.c.a t1.c.n t1.c.c] 28) := ⟨_, rfl⟩
  obtain ⟨b1, h1⟩ : ∃ b, b = w9.heap.size := ⟨_, rfl⟩
  rw [← h0, ← h1] at L5
  rw [← h0, ← h1]
  clear h0 h1
  have q0 := (L5.out.at (w.heap.size) (s) (d) (by simp)).c0
  have q1 := (L5.out.at (w.heap.size) (s) (d) (by simp)).c1
  have q2 := (L5.out.at (w.heap.size) (s) (d) (by simp)).c2
  have q3 := (L5.out.at (w.heap.size) (s) (d) (by simp)).c3
  have q4 := (L5.out.at (w.heap.size) (s) (d) (by simp)).c4
  have q5 := (L5.out.at (w.heap.size) (s) (d) (by simp)).c5
  have ql := (L5.out.at (w.heap.size) (s) (d) (by simp)).lt
  go_wp2_with fail
  refine (H3.out v5 b1 t1 L5.out).mono ?_
  rintro e9 w9 ⟨t2, rfl, hp9, hl9, hb9⟩
  have L6 := Lib.hid (L5.out.add (nw_new (ty := 28) hb9 hp9))
  have N6 := Lib.hid hl9
  clear hp9 hb9 hl9 L5
  clear q0 q1 q2 q3 q4 q5 ql
  go_upto_region 8 with fail
  obtain ⟨v6, h0⟩ : ∃ W, W = w9.alloc (.cells #[.slice t2.w.a t2.w.n t2.w.c, .slice t2.p.a t2.p.n t2.p.c, .slice (t2.u 0).a (t2.u 0).n (t2.u 0).c, .slice (t2.u 1).a (t2.u 1).n (t2.u 1).c, .slice (t2.u 2).a (t2.u 2).n (t2.u 2).c, .slice t2.c.a t2.c.n t2.c.c] 28) := ⟨_, rfl⟩
  obtain ⟨b2, h1⟩ : ∃ b, b = w9.heap.size := ⟨_, rfl⟩
  rw [← h0, ← h1] at L6
  rw [← h0, ← h1]
  clear h0 h1
  have q0 := (L6.out.at (w.heap.size) (s) (d) (by simp)).c0
  have q1 := (L6.out.at (w.heap.size) (s) (d) (by simp)).c1
  have q2 := (L6.out.at (w.heap.size) (s) (d) (by simp)).c2
  have q3 := (L6.out.at (w.heap.size) (s) (d) (by simp)).c3
  have q4 := (L6.out.at (w.heap.size) (s) (d) (by simp)).c4
  have q5 := (L6.out.at (w.heap.size) (s) (d) (by simp)).c5
  have ql := (L6.out.at (w.heap.size) (s) (d) (by simp)).lt
  go_wp2_with fail
  refine (H4.out v6 b1 t1 b2 t2 L6.out).mono ?_
  rintro e9 w7 ⟨rfl, hb9⟩
  have L7 := Lib.hid (L6.out.next hb9)
  clear hb9 L6
  clear q0 q1 q2 q3 q4 q5 ql
  have q0 := (L7.out.at (w.heap.size) (s) (d) (by simp)).c0
  have q1 := (L7.out.at (w.heap.size) (s) (d) (by simp)).c1
  have q2 := (L7.out.at (w.heap.size) (s) (d) (by simp)).c2
  have q3 := (L7.out.at (w.heap.size) (s) (d) (by simp)).c3
  have q4 := (L7.out.at (w.heap.size) (s) (d) (by simp)).c4
  have q5 := (L7.out.at (w.heap.size) (s) (d) (by simp)).c5
  have ql := (L7.out.at (w.heap.size) (s) (d) (by simp)).lt
  go_wp2_with fail
  refine (H5.out w7 b1 t1 b2 t2 L7.out).mono ?_
  rintro e9 w8 ⟨v9, rfl, ho9, hb9⟩
  have L8 := Lib.hid (L7.out.next hb9)
  have hv9 : v9.n = 0 := by have := ho9.1; simpa using this.symm
  obtain ⟨va, vn, vc⟩ := v9
  dsimp only at hv9
  subst hv9
  clear hb9 ho9 L7
  clear q0 q1 q2 q3 q4 q5 ql
  go_wp2
  go_ret
  exact ⟨rfl, L8.out.bel⟩
set_option maxHeartbeats 4000000 in
theorem core_in_hi (d1 d2 : Hd_) (n1 : Int) (hf : fewH s = true) (a1 : decide (16 ≤ a) = true) (a2 : decide (a < 16 + (s.w.n : Int)) = true) (hwn : s.w.n ≤ 4000) (k1 : decide (0 ≤ k) = true) (k2 : decide (k < (s.c.n : Int)) = false) (hO : ∀ W, Lx w W none 0 (fun _ => Ls.noSl) noCaches [(w.heap.size, s, d)] → Calls Tryd.prog 10 #[(.agg #[.slice s.w.a s.w.n s.w.c, .slice s.p.a s.p.n s.p.c, .slice (s.u 0).a (s.u 0).n (s.u 0).c, .slice (s.u 1).a (s.u 1).n (s.u 1).c, .slice (s.u 2).a (s.u 2).n (s.u 2).c, .slice s.c.a s.c.n s.c.c]), .int .i64 a] W fun e w' => e = .returned (.tuple #[.int .i64 n1, .int .i64 0]) ∧ Below W.heap.size W w') (hD : ∀ W, Lx w W none 0 (fun _ => Ls.noSl) noCaches [(w.heap.size, s, d)] → Calls Tryd.prog 12 #[(.agg #[.slice s.w.a s.w.n s.w.c, .slice s.p.a s.p.n s.p.c, .slice (s.u 0).a (s.u 0).n (s.u 0).c, .slice (s.u 1).a (s.u 1).n (s.u 1).c, .slice (s.u 2).a (s.u 2).n (s.u 2).c, .slice s.c.a s.c.n s.c.c]), .int .i64 a] W fun e w' => ∃ t : Hs, e = .returned (.tuple #[(.agg #[.slice t.w.a t.w.n t.w.c, .slice t.p.a t.p.n t.p.c, .slice (t.u 0).a (t.u 0).n (t.u 0).c, .slice (t.u 1).a (t.u 1).n (t.u 1).c, .slice (t.u 2).a (t.u 2).n (t.u 2).c, .slice t.c.a t.c.n t.c.c]), .int .i64 0]) ∧ Hp w' w'.heap.size t d1 ∧ True ∧ Below W.heap.size W w') (hC : ∀ W b1 t1, Lx w W none 0 (fun _ => Ls.noSl) noCaches [(b1, t1, d1), (w.heap.size, s, d)] → Calls Tryd.prog 13 #[(.agg #[.slice s.w.a s.w.n s.w.c, .slice s.p.a s.p.n s.p.c, .slice (s.u 0).a (s.u 0).n (s.u 0).c, .slice (s.u 1).a (s.u 1).n (s.u 1).c, .slice (s.u 2).a (s.u 2).n (s.u 2).c, .slice s.c.a s.c.n s.c.c]), .int .i64 k] W fun e w' => ∃ t : Hs, e = .returned (.tuple #[(.agg #[.slice t.w.a t.w.n t.w.c, .slice t.p.a t.p.n t.p.c, .slice (t.u 0).a (t.u 0).n (t.u 0).c, .slice (t.u 1).a (t.u 1).n (t.u 1).c, .slice (t.u 2).a (t.u 2).n (t.u 2).c, .slice t.c.a t.c.n t.c.c]), .int .i64 3]) ∧ Hp w' w'.heap.size t d2 ∧ True ∧ Below W.heap.size W w') (hM : ∀ W b1 t1 b2 t2, Lx w W none 0 (fun _ => Ls.noSl) noCaches [(b2, t2, d2), (b1, t1, d1), (w.heap.size, s, d)] → Calls Tryd.prog 15 #[(.agg #[.slice s.w.a s.w.n s.w.c, .slice s.p.a s.p.n s.p.c, .slice (s.u 0).a (s.u 0).n (s.u 0).c, .slice (s.u 1).a (s.u 1).n (s.u 1).c, .slice (s.u 2).a (s.u 2).n (s.u 2).c, .slice s.c.a s.c.n s.c.c]), .slice none 0 0] W fun e w' => e = .returned (.bool true) ∧ Below W.heap.size W w') (hN : ∀ W b1 t1 b2 t2, Lx w W none 0 (fun _ => Ls.noSl) noCaches [(b2, t2, d2), (b1, t1, d1), (w.heap.size, s, d)] → Calls Tryd.prog 16 #[(.agg #[.slice s.w.a s.w.n s.w.c, .slice s.p.a s.p.n s.p.c, .slice (s.u 0).a (s.u 0).n (s.u 0).c, .slice (s.u 1).a (s.u 1).n (s.u 1).c, .slice (s.u 2).a (s.u 2).n (s.u 2).c, .slice s.c.a s.c.n s.c.c]), .int .i64 k] W (Ls.AllOut W [])) (hz : Cl.Sz w) (hp : Hp w w.heap.size s d) : Calls Tryd.prog 7 #[(.agg #[.slice s.w.a s.w.n s.w.c, .slice s.p.a s.p.n s.p.c, .slice (s.u 0).a (s.u 0).n (s.u 0).c, .slice (s.u 1).a (s.u 1).n (s.u 1).c, .slice (s.u 2).a (s.u 2).n (s.u 2).c, .slice s.c.a s.c.n s.c.c]), .int .i64 a, .int .i64 k] w fun e w' => e = .returned (.bool true) ∧ Below w.heap.size w w' := by
  have HZ := Lib.hid hz
  have hz0 := hz.pos
  have HP := Lib.hid hp
  have HF := Lib.hid hf
  have H1 := Lib.hid hO
  have H2 := Lib.hid hD
  have H3 := Lib.hid hC
  have H4 := Lib.hid hM
  have H5 := Lib.hid hN
  clear hN
  clear hz hp hf hO hD hC hM
  go_enter Tryd.func7, Tryd.ntmps7
  go_wp2_with fail
  obtain ⟨W1, hW1⟩ : ∃ W1, W1 = w.alloc (.cells #[.slice s.w.a s.w.n s.w.c, .slice s.p.a s.p.n s.p.c, .slice (s.u 0).a (s.u 0).n (s.u 0).c, .slice (s.u 1).a (s.u 1).n (s.u 1).c, .slice (s.u 2).a (s.u 2).n (s.u 2).c, .slice s.c.a s.c.n s.c.c] 28) := ⟨_, rfl⟩
  have L1 := Lib.hid (lx_start (A := none) (n := 0) (U := (fun _ => Ls.noSl)) (F := noCaches) HP.out (fun h => absurd h (by omega)) hW1)
  rw [← hW1]
  clear hW1
  refine (Ck.awake_any W1 (HZ.out.over L1.out.bel hz0)).mono ?_
  rintro e9 w1 ⟨rfl, hb1⟩
  have L2 := Lib.hid (L1.out.next hb1)
  clear hb1 L1
  have q0 := (L2.out.at (w.heap.size) (s) (d) (by simp)).c0
  have q1 := (L2.out.at (w.heap.size) (s) (d) (by simp)).c1
  have q2 := (L2.out.at (w.heap.size) (s) (d) (by simp)).c2
  have q3 := (L2.out.at (w.heap.size) (s) (d) (by simp)).c3
  have q4 := (L2.out.at (w.heap.size) (s) (d) (by simp)).c4
  have q5 := (L2.out.at (w.heap.size) (s) (d) (by simp)).c5
  have ql := (L2.out.at (w.heap.size) (s) (d) (by simp)).lt
  go_wp2_with fail
  refine (rfew_any s w1).mono ?_
  rw [HF.out]
  rintro e9 w2 ⟨rfl, hb2⟩
  have L3 := Lib.hid (L2.out.next hb2)
  clear hb2 L2
  clear q0 q1 q2 q3 q4 q5 ql
  have q0 := (L3.out.at (w.heap.size) (s) (d) (by simp)).c0
  have q1 := (L3.out.at (w.heap.size) (s) (d) (by simp)).c1
  have q2 := (L3.out.at (w.heap.size) (s) (d) (by simp)).c2
  have q3 := (L3.out.at (w.heap.size) (s) (d) (by simp)).c3
  have q4 := (L3.out.at (w.heap.size) (s) (d) (by simp)).c4
  have q5 := (L3.out.at (w.heap.size) (s) (d) (by simp)).c5
  have ql := (L3.out.at (w.heap.size) (s) (d) (by simp)).lt
  go_wp2_with fail
  refine (H1.out w2 L3.out).mono ?_
  rintro e9 w3 ⟨rfl, hb9⟩
  have L4 := Lib.hid (L3.out.next hb9)
  clear hb9 L3
  clear q0 q1 q2 q3 q4 q5 ql
  have q0 := (L4.out.at (w.heap.size) (s) (d) (by simp)).c0
  have q1 := (L4.out.at (w.heap.size) (s) (d) (by simp)).c1
  have q2 := (L4.out.at (w.heap.size) (s) (d) (by simp)).c2
  have q3 := (L4.out.at (w.heap.size) (s) (d) (by simp)).c3
  have q4 := (L4.out.at (w.heap.size) (s) (d) (by simp)).c4
  have q5 := (L4.out.at (w.heap.size) (s) (d) (by simp)).c5
  have ql := (L4.out.at (w.heap.size) (s) (d) (by simp)).lt
  go_wp2_with fail
  refine (H2.out w3 L4.out).mono ?_
  rintro e9 w9 ⟨t1, rfl, hp9, hl9, hb9⟩
  have L5 := Lib.hid (L4.out.add (nw_new (ty := 28) hb9 hp9))
  have N5 := Lib.hid hl9
  clear hp9 hb9 hl9 L4
  clear q0 q1 q2 q3 q4 q5 ql
  go_upto_region 7 with fail
  obtain ⟨v5, h0⟩ : ∃ W, W = w9.alloc (.cells #[.slice t1.w.a t1.w.n t1.w.c, .slice t1.p.a t1.p.n t1.p.c, .slice (t1.u 0).a (t1.u 0).n (t1.u 0).c, .slice (t1.u 1).a (t1.u 1).n (t1.u 1).c, .slice (t1.u 2).a (t1.u 2).n (t1.u 2).c, .slice t1.c.a t1.c.n t1.c.c] 28) := ⟨_, rfl⟩
  obtain ⟨b1, h1⟩ : ∃ b, b = w9.heap.size := ⟨_, rfl⟩
  rw [← h0, ← h1] at L5
  rw [← h0, ← h1]
  clear h0 h1
  have q0 := (L5.out.at (w.heap.size) (s) (d) (by simp)).c0
  have q1 := (L5.out.at (w.heap.size) (s) (d) (by simp)).c1
  have q2 := (L5.out.at (w.heap.size) (s) (d) (by simp)).c2
  have q3 := (L5.out.at (w.heap.size) (s) (d) (by simp)).c3
  have q4 := (L5.out.at (w.heap.size) (s) (d) (by simp)).c4
  have q5 := (L5.out.at (w.heap.size) (s) (d) (by simp)).c5
  have ql := (L5.out.at (w.heap.size) (s) (d) (by simp)).lt
  go_wp2_with fail
  refine (H3.out v5 b1 t1 L5.out).mono ?_
  rintro e9 w9 ⟨t2, rfl, hp9, hl9, hb9⟩
  have L6 := Lib.hid (L5.out.add (nw_new (ty := 28) hb9 hp9))
  have N6 := Lib.hid hl9
  clear hp9 hb9 hl9 L5
  clear q0 q1 q2 q3 q4 q5 ql
  go_upto_region 8 with fail
  obtain ⟨v6, h0⟩ : ∃ W, W = w9.alloc (.cells #[.slice t2.w.a t2.w.n t2.w.c, .slice t2.p.a t2.p.n t2.p.c, .slice (t2.u 0).a (t2.u 0).n (t2.u 0).c, .slice (t2.u 1).a (t2.u 1).n (t2.u 1).c, .slice (t2.u 2).a (t2.u 2).n (t2.u 2).c, .slice t2.c.a t2.c.n t2.c.c] 28) := ⟨_, rfl⟩
  obtain ⟨b2, h1⟩ : ∃ b, b = w9.heap.size := ⟨_, rfl⟩
  rw [← h0, ← h1] at L6
  rw [← h0, ← h1]
  clear h0 h1
  have q0 := (L6.out.at (w.heap.size) (s) (d) (by simp)).c0
  have q1 := (L6.out.at (w.heap.size) (s) (d) (by simp)).c1
  have q2 := (L6.out.at (w.heap.size) (s) (d) (by simp)).c2
  have q3 := (L6.out.at (w.heap.size) (s) (d) (by simp)).c3
  have q4 := (L6.out.at (w.heap.size) (s) (d) (by simp)).c4
  have q5 := (L6.out.at (w.heap.size) (s) (d) (by simp)).c5
  have ql := (L6.out.at (w.heap.size) (s) (d) (by simp)).lt
  go_wp2_with fail
  refine (H4.out v6 b1 t1 b2 t2 L6.out).mono ?_
  rintro e9 w7 ⟨rfl, hb9⟩
  have L7 := Lib.hid (L6.out.next hb9)
  clear hb9 L6
  clear q0 q1 q2 q3 q4 q5 ql
  have q0 := (L7.out.at (w.heap.size) (s) (d) (by simp)).c0
  have q1 := (L7.out.at (w.heap.size) (s) (d) (by simp)).c1
  have q2 := (L7.out.at (w.heap.size) (s) (d) (by simp)).c2
  have q3 := (L7.out.at (w.heap.size) (s) (d) (by simp)).c3
  have q4 := (L7.out.at (w.heap.size) (s) (d) (by simp)).c4
  have q5 := (L7.out.at (w.heap.size) (s) (d) (by simp)).c5
  have ql := (L7.out.at (w.heap.size) (s) (d) (by simp)).lt
  go_wp2_with fail
  refine (H5.out w7 b1 t1 b2 t2 L7.out).mono ?_
  rintro e9 w8 ⟨v9, rfl, ho9, hb9⟩
  have L8 := Lib.hid (L7.out.next hb9)
  have hv9 : v9.n = 0 := by have := ho9.1; simpa using this.symm
  obtain ⟨va, vn, vc⟩ := v9
  dsimp only at hv9
  subst hv9
  clear hb9 ho9 L7
  clear q0 q1 q2 q3 q4 q5 ql
  go_wp2
  go_ret
  exact ⟨rfl, L8.out.bel⟩
set_option maxHeartbeats 4000000 in
theorem core_in_ok (d1 d2 : Hd_) (n1 : Int) (hf : fewH s = true) (a1 : decide (16 ≤ a) = true) (a2 : decide (a < 16 + (s.w.n : Int)) = true) (hwn : s.w.n ≤ 4000) (k1 : decide (0 ≤ k) = true) (k2 : decide (k < (s.c.n : Int)) = true) (hO : ∀ W, Lx w W none 0 (fun _ => Ls.noSl) noCaches [(w.heap.size, s, d)] → Calls Tryd.prog 10 #[(.agg #[.slice s.w.a s.w.n s.w.c, .slice s.p.a s.p.n s.p.c, .slice (s.u 0).a (s.u 0).n (s.u 0).c, .slice (s.u 1).a (s.u 1).n (s.u 1).c, .slice (s.u 2).a (s.u 2).n (s.u 2).c, .slice s.c.a s.c.n s.c.c]), .int .i64 a] W fun e w' => e = .returned (.tuple #[.int .i64 n1, .int .i64 0]) ∧ Below W.heap.size W w') (hD : ∀ W, Lx w W none 0 (fun _ => Ls.noSl) noCaches [(w.heap.size, s, d)] → Calls Tryd.prog 12 #[(.agg #[.slice s.w.a s.w.n s.w.c, .slice s.p.a s.p.n s.p.c, .slice (s.u 0).a (s.u 0).n (s.u 0).c, .slice (s.u 1).a (s.u 1).n (s.u 1).c, .slice (s.u 2).a (s.u 2).n (s.u 2).c, .slice s.c.a s.c.n s.c.c]), .int .i64 a] W fun e w' => ∃ t : Hs, e = .returned (.tuple #[(.agg #[.slice t.w.a t.w.n t.w.c, .slice t.p.a t.p.n t.p.c, .slice (t.u 0).a (t.u 0).n (t.u 0).c, .slice (t.u 1).a (t.u 1).n (t.u 1).c, .slice (t.u 2).a (t.u 2).n (t.u 2).c, .slice t.c.a t.c.n t.c.c]), .int .i64 0]) ∧ Hp w' w'.heap.size t d1 ∧ True ∧ Below W.heap.size W w') (hC : ∀ W b1 t1, Lx w W none 0 (fun _ => Ls.noSl) noCaches [(b1, t1, d1), (w.heap.size, s, d)] → Calls Tryd.prog 13 #[(.agg #[.slice s.w.a s.w.n s.w.c, .slice s.p.a s.p.n s.p.c, .slice (s.u 0).a (s.u 0).n (s.u 0).c, .slice (s.u 1).a (s.u 1).n (s.u 1).c, .slice (s.u 2).a (s.u 2).n (s.u 2).c, .slice s.c.a s.c.n s.c.c]), .int .i64 k] W fun e w' => ∃ t : Hs, e = .returned (.tuple #[(.agg #[.slice t.w.a t.w.n t.w.c, .slice t.p.a t.p.n t.p.c, .slice (t.u 0).a (t.u 0).n (t.u 0).c, .slice (t.u 1).a (t.u 1).n (t.u 1).c, .slice (t.u 2).a (t.u 2).n (t.u 2).c, .slice t.c.a t.c.n t.c.c]), .int .i64 0]) ∧ Hp w' w'.heap.size t d2 ∧ True ∧ Below W.heap.size W w') (hM : ∀ W b1 t1 b2 t2, Lx w W none 0 (fun _ => Ls.noSl) noCaches [(b2, t2, d2), (b1, t1, d1), (w.heap.size, s, d)] → Calls Tryd.prog 15 #[(.agg #[.slice s.w.a s.w.n s.w.c, .slice s.p.a s.p.n s.p.c, .slice (s.u 0).a (s.u 0).n (s.u 0).c, .slice (s.u 1).a (s.u 1).n (s.u 1).c, .slice (s.u 2).a (s.u 2).n (s.u 2).c, .slice s.c.a s.c.n s.c.c]), .slice none 0 0] W fun e w' => e = .returned (.bool true) ∧ Below W.heap.size W w') (hz : Cl.Sz w) (hp : Hp w w.heap.size s d) : Calls Tryd.prog 7 #[(.agg #[.slice s.w.a s.w.n s.w.c, .slice s.p.a s.p.n s.p.c, .slice (s.u 0).a (s.u 0).n (s.u 0).c, .slice (s.u 1).a (s.u 1).n (s.u 1).c, .slice (s.u 2).a (s.u 2).n (s.u 2).c, .slice s.c.a s.c.n s.c.c]), .int .i64 a, .int .i64 k] w fun e w' => e = .returned (.bool true) ∧ Below w.heap.size w w' := by
  have HZ := Lib.hid hz
  have hz0 := hz.pos
  have HP := Lib.hid hp
  have HF := Lib.hid hf
  have H1 := Lib.hid hO
  have H2 := Lib.hid hD
  have H3 := Lib.hid hC
  have H4 := Lib.hid hM
  clear hz hp hf hO hD hC hM
  go_enter Tryd.func7, Tryd.ntmps7
  go_wp2_with fail
  obtain ⟨W1, hW1⟩ : ∃ W1, W1 = w.alloc (.cells #[.slice s.w.a s.w.n s.w.c, .slice s.p.a s.p.n s.p.c, .slice (s.u 0).a (s.u 0).n (s.u 0).c, .slice (s.u 1).a (s.u 1).n (s.u 1).c, .slice (s.u 2).a (s.u 2).n (s.u 2).c, .slice s.c.a s.c.n s.c.c] 28) := ⟨_, rfl⟩
  have L1 := Lib.hid (lx_start (A := none) (n := 0) (U := (fun _ => Ls.noSl)) (F := noCaches) HP.out (fun h => absurd h (by omega)) hW1)
  rw [← hW1]
  clear hW1
  refine (Ck.awake_any W1 (HZ.out.over L1.out.bel hz0)).mono ?_
  rintro e9 w1 ⟨rfl, hb1⟩
  have L2 := Lib.hid (L1.out.next hb1)
  clear hb1 L1
  have q0 := (L2.out.at (w.heap.size) (s) (d) (by simp)).c0
  have q1 := (L2.out.at (w.heap.size) (s) (d) (by simp)).c1
  have q2 := (L2.out.at (w.heap.size) (s) (d) (by simp)).c2
  have q3 := (L2.out.at (w.heap.size) (s) (d) (by simp)).c3
  have q4 := (L2.out.at (w.heap.size) (s) (d) (by simp)).c4
  have q5 := (L2.out.at (w.heap.size) (s) (d) (by simp)).c5
  have ql := (L2.out.at (w.heap.size) (s) (d) (by simp)).lt
  go_wp2_with fail
  refine (rfew_any s w1).mono ?_
  rw [HF.out]
  rintro e9 w2 ⟨rfl, hb2⟩
  have L3 := Lib.hid (L2.out.next hb2)
  clear hb2 L2
  clear q0 q1 q2 q3 q4 q5 ql
  have q0 := (L3.out.at (w.heap.size) (s) (d) (by simp)).c0
  have q1 := (L3.out.at (w.heap.size) (s) (d) (by simp)).c1
  have q2 := (L3.out.at (w.heap.size) (s) (d) (by simp)).c2
  have q3 := (L3.out.at (w.heap.size) (s) (d) (by simp)).c3
  have q4 := (L3.out.at (w.heap.size) (s) (d) (by simp)).c4
  have q5 := (L3.out.at (w.heap.size) (s) (d) (by simp)).c5
  have ql := (L3.out.at (w.heap.size) (s) (d) (by simp)).lt
  go_wp2_with fail
  refine (H1.out w2 L3.out).mono ?_
  rintro e9 w3 ⟨rfl, hb9⟩
  have L4 := Lib.hid (L3.out.next hb9)
  clear hb9 L3
  clear q0 q1 q2 q3 q4 q5 ql
  have q0 := (L4.out.at (w.heap.size) (s) (d) (by simp)).c0
  have q1 := (L4.out.at (w.heap.size) (s) (d) (by simp)).c1
  have q2 := (L4.out.at (w.heap.size) (s) (d) (by simp)).c2
  have q3 := (L4.out.at (w.heap.size) (s) (d) (by simp)).c3
  have q4 := (L4.out.at (w.heap.size) (s) (d) (by simp)).c4
  have q5 := (L4.out.at (w.heap.size) (s) (d) (by simp)).c5
  have ql := (L4.out.at (w.heap.size) (s) (d) (by simp)).lt
  go_wp2_with fail
  refine (H2.out w3 L4.out).mono ?_
  rintro e9 w9 ⟨t1, rfl, hp9, hl9, hb9⟩
  have L5 := Lib.hid (L4.out.add (nw_new (ty := 28) hb9 hp9))
  have N5 := Lib.hid hl9
  clear hp9 hb9 hl9 L4
  clear q0 q1 q2 q3 q4 q5 ql
  go_upto_region 7 with fail
  obtain ⟨v5, h0⟩ : ∃ W, W = w9.alloc (.cells #[.slice t1.w.a t1.w.n t1.w.c, .slice t1.p.a t1.p.n t1.p.c, .slice (t1.u 0).a (t1.u 0).n (t1.u 0).c, .slice (t1.u 1).a (t1.u 1).n (t1.u 1).c, .slice (t1.u 2).a (t1.u 2).n (t1.u 2).c, .slice t1.c.a t1.c.n t1.c.c] 28) := ⟨_, rfl⟩
  obtain ⟨b1, h1⟩ : ∃ b, b = w9.heap.size := ⟨_, rfl⟩
  rw [← h0, ← h1] at L5
  rw [← h0, ← h1]
  clear h0 h1
  have q0 := (L5.out.at (w.heap.size) (s) (d) (by simp)).c0
  have q1 := (L5.out.at (w.heap.size) (s) (d) (by simp)).c1
  have q2 := (L5.out.at (w.heap.size) (s) (d) (by simp)).c2
  have q3 := (L5.out.at (w.heap.size) (s) (d) (by simp)).c3
  have q4 := (L5.out.at (w.heap.size) (s) (d) (by simp)).c4
  have q5 := (L5.out.at (w.heap.size) (s) (d) (by simp)).c5
  have ql := (L5.out.at (w.heap.size) (s) (d) (by simp)).lt
  go_wp2_with fail
  refine (H3.out v5 b1 t1 L5.out).mono ?_
  rintro e9 w9 ⟨t2, rfl, hp9, hl9, hb9⟩
  have L6 := Lib.hid (L5.out.add (nw_new (ty := 28) hb9 hp9))
  have N6 := Lib.hid hl9
  clear hp9 hb9 hl9 L5
  clear q0 q1 q2 q3 q4 q5 ql
  go_upto_region 8 with fail
  obtain ⟨v6, h0⟩ : ∃ W, W = w9.alloc (.cells #[.slice t2.w.a t2.w.n t2.w.c, .slice t2.p.a t2.p.n t2.p.c, .slice (t2.u 0).a (t2.u 0).n (t2.u 0).c, .slice (t2.u 1).a (t2.u 1).n (t2.u 1).c, .slice (t2.u 2).a (t2.u 2).n (t2.u 2).c, .slice t2.c.a t2.c.n t2.c.c] 28) := ⟨_, rfl⟩
  obtain ⟨b2, h1⟩ : ∃ b, b = w9.heap.size := ⟨_, rfl⟩
  rw [← h0, ← h1] at L6
  rw [← h0, ← h1]
  clear h0 h1
  have q0 := (L6.out.at (w.heap.size) (s) (d) (by simp)).c0
  have q1 := (L6.out.at (w.heap.size) (s) (d) (by simp)).c1
  have q2 := (L6.out.at (w.heap.size) (s) (d) (by simp)).c2
  have q3 := (L6.out.at (w.heap.size) (s) (d) (by simp)).c3
  have q4 := (L6.out.at (w.heap.size) (s) (d) (by simp)).c4
  have q5 := (L6.out.at (w.heap.size) (s) (d) (by simp)).c5
  have ql := (L6.out.at (w.heap.size) (s) (d) (by simp)).lt
  go_wp2_with fail
  refine (H4.out v6 b1 t1 b2 t2 L6.out).mono ?_
  rintro e9 w7 ⟨rfl, hb9⟩
  have L7 := Lib.hid (L6.out.next hb9)
  clear hb9 L6
  clear q0 q1 q2 q3 q4 q5 ql
  have q0 := (L7.out.at (w.heap.size) (s) (d) (by simp)).c0
  have q1 := (L7.out.at (w.heap.size) (s) (d) (by simp)).c1
  have q2 := (L7.out.at (w.heap.size) (s) (d) (by simp)).c2
  have q3 := (L7.out.at (w.heap.size) (s) (d) (by simp)).c3
  have q4 := (L7.out.at (w.heap.size) (s) (d) (by simp)).c4
  have q5 := (L7.out.at (w.heap.size) (s) (d) (by simp)).c5
  have ql := (L7.out.at (w.heap.size) (s) (d) (by simp)).lt
  go_wp2
  go_ret
  exact ⟨rfl, L7.out.bel⟩
end
theorem walk (s : Hs) (d : Hd_) (a k : Int) (w : World) (hz : Cl.Sz w) (hp : Hp w w.heap.size s d) (hv : Fit64 d.ws) (_ : s.p.n ≤ s.p.c) (ha : (Lit.int .i64 a).wf = true) (_ : (Lit.int .i64 k).wf = true) :
    Calls Tryd.prog 7 #[(.agg #[.slice s.w.a s.w.n s.w.c, .slice s.p.a s.p.n s.p.c, .slice (s.u 0).a (s.u 0).n (s.u 0).c, .slice (s.u 1).a (s.u 1).n (s.u 1).c, .slice (s.u 2).a (s.u 2).n (s.u 2).c, .slice s.c.a s.c.n s.c.c]), .int .i64 a, .int .i64 k] w fun e w' => e = .returned (.bool true) ∧ Below w.heap.size w w' := by
  cases hf : fewH s
  · exact walk_few s d a k w hf hz hp
  have hfi := fine_few hf hp hv
  have hz0 := hz.pos
  have hwn := (few_parts hf).1
  have ha2 := (wf_bounds ha).2
  have hO := fun (W : World) (h : Lx w W none 0 (fun _ => Ls.noSl) noCaches [(w.heap.size, s, d)]) => of_any s d W a (h.hp w.heap.size s d (by simp)) (hz.over h.bel hz0) hfi ha2
  have hD := fun (W : World) (h : Lx w W none 0 (fun _ => Ls.noSl) noCaches [(w.heap.size, s, d)]) => dirty_weak s d W a (h.hp w.heap.size s d (by simp)) (hz.over h.bel hz0) hfi ha2
  have hC := fun (W : World) (b1 : Nat) (t1 : Hs) (h : Lx w W none 0 (fun _ => Ls.noSl) noCaches [(b1, t1, (dirR s d a).d), (w.heap.size, s, d)]) => clean_weak s d W k (h.hp w.heap.size s d (by simp)) (hz.over h.bel hz0) hfi
  have hM := fun (W : World) (b1 : Nat) (t1 : Hs) (b2 : Nat) (t2 : Hs) (h : Lx w W none 0 (fun _ => Ls.noSl) noCaches [(b2, t2, (clR s d k).d), (b1, t1, (dirR s d a).d), (w.heap.size, s, d)]) => pmay0_any s d W (h.hp w.heap.size s d (by simp)) (hz.over h.bel hz0) hfi
  have hN := fun (W : World) (b1 : Nat) (t1 : Hs) (b2 : Nat) (t2 : Hs) (h : Lx w W none 0 (fun _ => Ls.noSl) noCaches [(b2, t2, (clR s d k).d), (b1, t1, (dirR s d a).d), (w.heap.size, s, d)]) => on_any s d W k (h.hp w.heap.size s d (by simp)) (hz.over h.bel hz0) hfi
  cases hm : mayB0 s d
  · have e1 : ofE s d a = 1 := if_pos hm
    have e2 : ofN s d a = 0 := if_neg (by rw [e1]; decide)
    have e3 : clE s d k = 1 := if_pos hm
    have e6 : onL s d k = [] := by unfold onL; rw [used_no hm]; rfl
    rw [e1, e2] at hO
    rw [e1] at hD
    rw [e3] at hC
    rw [hm] at hM
    rw [e6] at hN
    exact core_bad s d a k w _ _ hf hO hD hC hM hN hz hp
  rw [hm] at hM
  have oE : ofE s d a = if 16 ≤ a ∧ a < 16 + (s.w.n : Int) then 0 else 3 := if_neg (by rw [hm]; decide)
  have cE : clE s d k = if 0 ≤ k ∧ k < (s.c.n : Int) then 0 else 3 := if_neg (by rw [hm]; decide)
  by_cases h1 : 16 ≤ a
  · by_cases h2 : a < 16 + (s.w.n : Int)
    · have e1 : ofE s d a = 0 := by rw [oE, if_pos ⟨h1, h2⟩]
      rw [e1] at hO hD
      by_cases hk1 : 0 ≤ k
      · by_cases hk2 : k < (s.c.n : Int)
        · rw [cE, if_pos ⟨hk1, hk2⟩] at hC
          exact core_in_ok s d a k w _ _ _ hf (decide_eq_true h1) (decide_eq_true h2) (by omega) (decide_eq_true hk1) (decide_eq_true hk2) hO hD hC hM hz hp
        · rw [cE, if_neg (by omega)] at hC
          rw [on_out (by omega)] at hN
          exact core_in_hi s d a k w _ _ _ hf (decide_eq_true h1) (decide_eq_true h2) (by omega) (decide_eq_true hk1) (decide_eq_false hk2) hO hD hC hM hN hz hp
      · rw [cE, if_neg (by omega)] at hC
        rw [on_out (by omega)] at hN
        exact core_in_no s d a k w _ _ _ hf (decide_eq_true h1) (decide_eq_true h2) (by omega) (decide_eq_false hk1) hO hD hC hM hN hz hp
    · have e1 : ofE s d a = 3 := by rw [oE, if_neg (by omega)]
      have e2 : ofN s d a = 0 := if_neg (by rw [e1]; decide)
      rw [e1, e2] at hO
      rw [e1] at hD
      by_cases hk1 : 0 ≤ k
      · by_cases hk2 : k < (s.c.n : Int)
        · rw [cE, if_pos ⟨hk1, hk2⟩] at hC
          exact core_high_ok s d a k w _ _ hf (decide_eq_true h1) (decide_eq_false h2) (by omega) (decide_eq_true hk1) (decide_eq_true hk2) hO hD hC hM hz hp
        · rw [cE, if_neg (by omega)] at hC
          rw [on_out (by omega)] at hN
          exact core_high_hi s d a k w _ _ hf (decide_eq_true h1) (decide_eq_false h2) (by omega) (decide_eq_true hk1) (decide_eq_false hk2) hO hD hC hM hN hz hp
      · rw [cE, if_neg (by omega)] at hC
        rw [on_out (by omega)] at hN
        exact core_high_no s d a k w _ _ hf (decide_eq_true h1) (decide_eq_false h2) (by omega) (decide_eq_false hk1) hO hD hC hM hN hz hp
  · have e1 : ofE s d a = 3 := by rw [oE, if_neg (by omega)]
    have e2 : ofN s d a = 0 := if_neg (by rw [e1]; decide)
    rw [e1, e2] at hO
    rw [e1] at hD
    by_cases hk1 : 0 ≤ k
    · by_cases hk2 : k < (s.c.n : Int)
      · rw [cE, if_pos ⟨hk1, hk2⟩] at hC
        exact core_low_ok s d a k w _ _ hf (decide_eq_false h1) (decide_eq_true hk1) (decide_eq_true hk2) hO hD hC hM hz hp
      · rw [cE, if_neg (by omega)] at hC
        rw [on_out (by omega)] at hN
        exact core_low_hi s d a k w _ _ hf (decide_eq_false h1) (decide_eq_true hk1) (decide_eq_false hk2) hO hD hC hM hN hz hp
    · rw [cE, if_neg (by omega)] at hC
      rw [on_out (by omega)] at hN
      exact core_low_no s d a k w _ _ hf (decide_eq_false h1) (decide_eq_false hk1) hO hD hC hM hN hz hp
-- the frame (hp10frame.py)
set_option maxRecDepth 100000 in
theorem lifted (os : Os) (started : os.Started) (H : Type) (enc : TypeId × Value → H) :
    ReturnsInHanded {} Tryd.checked os 7 .any (fun w args => (Rows.cardsNoneSpec.pre enc Tryd.prog Tryd.f7 [] false w args ∧ laidMetH Tryd.prog laidSizes w) ∧ sizedMet enc Tryd.prog Tryd.f7 (OpenSpec.ofChange Rows.cardsNoneSpec) false w args)
      (Rows.cardsNoneSpec.post enc Tryd.prog Tryd.f7 false true false false) := by
  refine returnsInHanded_of_change_and (C := Tryd.checked) (X := fun w _ => laidMetH Tryd.prog laidSizes w) (fun _ _ _ hh h => h.of_heap hh) own started (by kernel_rfl) Tryd.func7
    (ChangeSpec.witness_shaped (enc := enc) (C := Tryd.checked) (os := os) (X := fun w _ => laidMetH Tryd.prog laidSizes w) false (World.doorLaid Tryd.prog 400 os) #[.agg #[.slice none 0 0, .slice none 0 0, .slice none 0 0, .slice none 0 0, .slice none 0 0, .slice none 0 0], .int .i64 0, .int .i64 0] 8 rfl (World.shaped_of_RefB (by kernel_rfl) (by kernel_rfl)) (by kernel_rfl) (by kernel_rfl) (by kernel_rfl) (door_met os _)) ?_
  intro W base args ds gs before hval0 hW _ _ hL _
  have hval : ∀ (j : Nat) t v, Tryd.f7.params[j]? = some t → args[j]? = some v → Value.okWide Tryd.prog W .any base t v := hval0
  have hW' := hW
  obtain ⟨p, q, hA0, hV, rfl, hfz, hnd⟩ := hW
  have hA : DataW.TrodAll enc Tryd.prog W 0 (fun _ => true) true Tryd.f7.params.toList args.toList ds p := hA0
  rw [Tryd.params7] at hA hval
  obtain ⟨v0, vs0, d0, ds0, p0, q0, hargs, rfl, rfl, h0, r0⟩ := trodAll_cons hA
  obtain ⟨v1, vs1, d1, ds1, p1, q1, rfl, rfl, rfl, h1, r1⟩ := trodAll_cons r0
  obtain ⟨v2, vs2, d2, ds2, p2, q2, rfl, rfl, rfl, h2, r2⟩ := trodAll_cons r1
  obtain ⟨rfl, rfl, rfl⟩ := trodAll_nil r2
  obtain rfl : args = #[v0, v1, v2] := by cases args; simp_all
  obtain ⟨rfl, rfl⟩ := trodVars_none hV
  have k0 := h0
  have lt0 : ∀ x ∈ p0, x.block < W.heap.size := by obtain ⟨m, hm⟩ := k0; exact DataW.trod_lt m _ _ _ hm
  obtain ⟨s0, z0, rfl, w0, f0, b0⟩ := heap_of8 (hval 0 28 v0 rfl rfl) h0
  obtain ⟨a1, rfl, rfl, rfl, w1⟩ := open_int Tryd.underlying3 (hval 1 3 v1 rfl rfl) h1
  obtain ⟨a2, rfl, rfl, rfl, w2⟩ := open_int Tryd.underlying3 (hval 2 3 v2 rfl rfl) h2
  clear hA0 hval0
  refine (walk s0 z0 a1 a2 W (of_laid hL) w0 f0 b0 w1 w2).mono fun e W' ⟨he, bel⟩ => ?_
  subst he
  exact ⟨_, rfl, _, _, _, [], _, [], hW', trodAll_mk1 (shut_bool Tryd.underlying4 _), (trodAll_cons_mk (Below.trod laidOut (by kernel_rfl) (of_decide_eq_true (by kernel_rfl)) k0 bel lt0) (trodAll_cons_mk (shut_int Tryd.underlying3 w1) (trodAll_cons_mk (shut_int Tryd.underlying3 w2) trodAll_mk0))), rfl, bel.frame _, fun h => by cases h⟩

theorem over : Rows.CardsNoneSaid :=
  OpenClaim.holds_of_wide 7 Tryd.f7 rfl rfl rfl rfl rfl rfl rfl ⟨rfl, rfl, rfl, rfl, rfl⟩ rfl rfl rfl rfl rfl (by kernel_rfl) Tryd.func7 (by kernel_rfl)
    (of_decide_eq_true (by kernel_rfl)) (by unfold Func.isWrapper; first | (rw [if_pos (by decide +kernel)]; kernel_rfl) | (rw [if_neg (by decide +kernel)]; exact ⟨rfl, rfl⟩))
    (fun os started H enc _ => lifted os started H enc)

/-- The statement: the card. -/
theorem proved : Rows.CardsNoneCardSaid :=
  Claim7.holds_tied_plain_at .later [] [.data] true Rows.cardsNoneCard.stood.harness false
    over (fun _ h => by cases h) (by kernel_rfl) (fun _ h => by cases h) cardsNone_row_tie rfl ⟨rfl, rfl⟩ (by kernel_rfl) rfl
    (fun f fn hf hfn => by
      obtain rfl : f = 7 := Option.some.inj ((show Tryd.prog.funcNamed "ragpicker/ragpickerlaw10.CardsNone" = some 7 by kernel_rfl).symm.trans hf) |>.symm
      obtain rfl : fn = Tryd.f7 := (Option.some.inj (Tryd.func7.symm.trans hfn)).symm
      exact ⟨by kernel_rfl, fun j t ht => by
        rw [Tryd.params7] at ht
        have hm : t ∈ [28, 3, 3] := by simpa using Array.mem_of_getElem? ht
        have hall : ([28, 3, 3].all fun u => !Tryd.prog.wantsStandIn u) = true := by kernel_rfl
        exact (show Tryd.prog.wantsStandIn t = false by simpa using List.all_eq_true.1 hall t hm)⟩)
    (by kernel_rfl)
#print axioms proved
end Go.Proofs.YtmalopciboikhaaDoor.CardsNone
