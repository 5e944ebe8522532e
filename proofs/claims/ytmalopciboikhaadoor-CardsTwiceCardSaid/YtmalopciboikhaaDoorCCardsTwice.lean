/-
  CardsTwice: cards that are dirtied, in whichever order, are dirty; a card is as many words as it has, of a page two: for every heap of at most 9 pages and 130 words; the table of sizes is tied to the program's text by the card.
-/
import Derived.Test.YtmalopciboikhaaDoorHpCG
import Derived.Test.YtmalopciboikhaaDoorHpCH
namespace Go.Proofs.YtmalopciboikhaaDoor.CardsTwice
open Go.Proofs.YtmalopciboikhaaDoor Go.Proofs.YtmalopciboikhaaDoor.Ck
open Go.ChangeShapes Go.WideShapes Go.ChangeAt Go.RowKit
set_option maxRecDepth 100000

theorem same3_trans {s t u : Hs} (h : Same3 s t) (g : Same3 t u) : Same3 s u := ⟨g.1.trans h.1, g.2.1.trans h.2.1, g.2.2.trans h.2.2⟩
section
variable (s : Hs) (d : Hd_) (a b : Int) (w : World)
set_option maxHeartbeats 1000000 in
theorem walk_few (hf : fewH s = false) (hz : Cl.Sz w) (hp : Hp w w.heap.size s d) : Calls Tryd.prog 5 #[(.agg #[.slice s.w.a s.w.n s.w.c, .slice s.p.a s.p.n s.p.c, .slice (s.u 0).a (s.u 0).n (s.u 0).c, .slice (s.u 1).a (s.u 1).n (s.u 1).c, .slice (s.u 2).a (s.u 2).n (s.u 2).c, .slice s.c.a s.c.n s.c.c]), .int .i64 a, .int .i64 b] w fun e w' => e = .returned (.bool true) ∧ Below w.heap.size w w' := by
  have HZ := Lib.hid hz
  have hz0 := hz.pos
  have HP := Lib.hid hp
  have HF := Lib.hid hf
  clear hz hp hf
  go_enter Tryd.func5, Tryd.ntmps5
  go_wp2_with fail
  obtain ⟨W1, hW1⟩ : ∃ W1, W1 = w.alloc (.cells #[.slice s.w.a s.w.n s.w.c, .slice s.p.a s.p.n s.p.c, .slice (s.u 0).a (s.u 0).n (s.u 0).c, .slice (s.u 1).a (s.u 1).n (s.u 1).c, .slice (s.u 2).a (s.u 2).n (s.u 2).c, .slice s.c.a s.c.n s.c.c] 28) := ⟨_, rfl⟩
  have L1 := Lib.hid (lx_start (A := none) (n := 0) (U := (fun _ => Ls.noSl)) (F := noCaches) HP.out (fun h => absurd h (by omega)) hW1)
  rw [← hW1]
  clear hW1
  refine (Ck.awake_any W1 (HZ.out.over L1.out.bel hz0)).mono ?_
  rintro e9 w1 ⟨rfl, hb1⟩
  have L2 := Lib.hid (L1.out.next hb1)
  clear hb1 L1
  have q0 := (L2.out.at (w.heap.size) (s) (d) (by simp)).c0
  have q1 := (L2.out.at (w.heap.size) (s) (d) (by simp)).c1
  have q2 := (L2.out.at (w.heap.size) (s) (d) (by simp)).c2
  have q3 := (L2.out.at (w.heap.size) (s) (d) (by simp)).c3
  have q4 := (L2.out.at (w.heap.size) (s) (d) (by simp)).c4
  have q5 := (L2.out.at (w.heap.size) (s) (d) (by simp)).c5
  have ql := (L2.out.at (w.heap.size) (s) (d) (by simp)).lt
  go_wp2_with fail
  refine (rfew_any s w1).mono ?_
  rw [HF.out]
  rintro e9 w2 ⟨rfl, hb2⟩
  have L3 := Lib.hid (L2.out.next hb2)
  clear hb2 L2
  clear q0 q1 q2 q3 q4 q5 ql
  go_wp2
  go_ret
  exact ⟨rfl, L3.out.bel⟩
set_option maxHeartbeats 1000000 in
theorem core_first (n1 n2 e1 e2 : Int) (h1 : ¬ e1 = 0) (hf : fewH s = true) (hO1 : ∀ W, Lx w W none 0 (fun _ => Ls.noSl) noCaches [(w.heap.size, s, d)] → Calls Tryd.prog 10 #[(.agg #[.slice s.w.a s.w.n s.w.c, .slice s.p.a s.p.n s.p.c, .slice (s.u 0).a (s.u 0).n (s.u 0).c, .slice (s.u 1).a (s.u 1).n (s.u 1).c, .slice (s.u 2).a (s.u 2).n (s.u 2).c, .slice s.c.a s.c.n s.c.c]), .int .i64 a] W fun e w' => e = .returned (.tuple #[.int .i64 n1, .int .i64 e1]) ∧ Below W.heap.size W w') (hO2 : ∀ W, Lx w W none 0 (fun _ => Ls.noSl) noCaches [(w.heap.size, s, d)] → Calls Tryd.prog 10 #[(.agg #[.slice s.w.a s.w.n s.w.c, .slice s.p.a s.p.n s.p.c, .slice (s.u 0).a (s.u 0).n (s.u 0).c, .slice (s.u 1).a (s.u 1).n (s.u 1).c, .slice (s.u 2).a (s.u 2).n (s.u 2).c, .slice s.c.a s.c.n s.c.c]), .int .i64 b] W fun e w' => e = .returned (.tuple #[.int .i64 n2, .int .i64 e2]) ∧ Below W.heap.size W w') (hz : Cl.Sz w) (hp : Hp w w.heap.size s d) : Calls Tryd.prog 5 #[(.agg #[.slice s.w.a s.w.n s.w.c, .slice s.p.a s.p.n s.p.c, .slice (s.u 0).a (s.u 0).n (s.u 0).c, .slice (s.u 1).a (s.u 1).n (s.u 1).c, .slice (s.u 2).a (s.u 2).n (s.u 2).c, .slice s.c.a s.c.n s.c.c]), .int .i64 a, .int .i64 b] w fun e w' => e = .returned (.bool true) ∧ Below w.heap.size w w' := by
  have HZ := Lib.hid hz
  have hz0 := hz.pos
  have HP := Lib.hid hp
  have HF := Lib.hid hf
  have O1 := Lib.hid hO1
  have O2 := Lib.hid hO2
  have g1 : (e1 != 0) = true := by simp [h1]
  clear hz hp hf hO1 hO2 h1
  go_enter Tryd.func5, Tryd.ntmps5
  go_wp2_with fail
  obtain ⟨W1, hW1⟩ : ∃ W1, W1 = w.alloc (.cells #[.slice s.w.a s.w.n s.w.c, .slice s.p.a s.p.n s.p.c, .slice (s.u 0).a (s.u 0).n (s.u 0).c, .slice (s.u 1).a (s.u 1).n (s.u 1).c, .slice (s.u 2).a (s.u 2).n (s.u 2).c, .slice s.c.a s.c.n s.c.c] 28) := ⟨_, rfl⟩
  have L1 := Lib.hid (lx_start (A := none) (n := 0) (U := (fun _ => Ls.noSl)) (F := noCaches) HP.out (fun h => absurd h (by omega)) hW1)
  rw [← hW1]
  clear hW1
  refine (Ck.awake_any W1 (HZ.out.over L1.out.bel hz0)).mono ?_
  rintro e9 w1 ⟨rfl, hb1⟩
  have L2 := Lib.hid (L1.out.next hb1)
  clear hb1 L1
  have q0 := (L2.out.at (w.heap.size) (s) (d) (by simp)).c0
  have q1 := (L2.out.at (w.heap.size) (s) (d) (by simp)).c1
  have q2 := (L2.out.at (w.heap.size) (s) (d) (by simp)).c2
  have q3 := (L2.out.at (w.heap.size) (s) (d) (by simp)).c3
  have q4 := (L2.out.at (w.heap.size) (s) (d) (by simp)).c4
  have q5 := (L2.out.at (w.heap.size) (s) (d) (by simp)).c5
  have ql := (L2.out.at (w.heap.size) (s) (d) (by simp)).lt
  go_wp2_with fail
  refine (rfew_any s w1).mono ?_
  rw [HF.out]
  rintro e9 w2 ⟨rfl, hb2⟩
  have L3 := Lib.hid (L2.out.next hb2)
  clear hb2 L2
  clear q0 q1 q2 q3 q4 q5 ql
  have q0 := (L3.out.at (w.heap.size) (s) (d) (by simp)).c0
  have q1 := (L3.out.at (w.heap.size) (s) (d) (by simp)).c1
  have q2 := (L3.out.at (w.heap.size) (s) (d) (by simp)).c2
  have q3 := (L3.out.at (w.heap.size) (s) (d) (by simp)).c3
  have q4 := (L3.out.at (w.heap.size) (s) (d) (by simp)).c4
  have q5 := (L3.out.at (w.heap.size) (s) (d) (by simp)).c5
  have ql := (L3.out.at (w.heap.size) (s) (d) (by simp)).lt
  go_wp2_with fail
  refine (O1.out w2 L3.out).mono ?_
  rintro e9 w3 ⟨rfl, hb9⟩
  have L4 := Lib.hid (L3.out.next hb9)
  clear hb9 L3
  clear q0 q1 q2 q3 q4 q5 ql
  have q0 := (L4.out.at (w.heap.size) (s) (d) (by simp)).c0
  have q1 := (L4.out.at (w.heap.size) (s) (d) (by simp)).c1
  have q2 := (L4.out.at (w.heap.size) (s) (d) (by simp)).c2
  have q3 := (L4.out.at (w.heap.size) (s) (d) (by simp)).c3
  have q4 := (L4.out.at (w.heap.size) (s) (d) (by simp)).c4
  have q5 := (L4.out.at (w.heap.size) (s) (d) (by simp)).c5
  have ql := (L4.out.at (w.heap.size) (s) (d) (by simp)).lt
  go_wp2_with fail
  refine (O2.out w3 L4.out).mono ?_
  rintro e9 w4 ⟨rfl, hb9⟩
  have L5 := Lib.hid (L4.out.next hb9)
  clear hb9 L4
  clear q0 q1 q2 q3 q4 q5 ql
  go_wp2
  go_ret
  exact ⟨rfl, L5.out.bel⟩
set_option maxHeartbeats 1000000 in
theorem core_second (n1 n2 e2 : Int) (h2 : ¬ e2 = 0) (hf : fewH s = true) (hO1 : ∀ W, Lx w W none 0 (fun _ => Ls.noSl) noCaches [(w.heap.size, s, d)] → Calls Tryd.prog 10 #[(.agg #[.slice s.w.a s.w.n s.w.c, .slice s.p.a s.p.n s.p.c, .slice (s.u 0).a (s.u 0).n (s.u 0).c, .slice (s.u 1).a (s.u 1).n (s.u 1).c, .slice (s.u 2).a (s.u 2).n (s.u 2).c, .slice s.c.a s.c.n s.c.c]), .int .i64 a] W fun e w' => e = .returned (.tuple #[.int .i64 n1, .int .i64 0]) ∧ Below W.heap.size W w') (hO2 : ∀ W, Lx w W none 0 (fun _ => Ls.noSl) noCaches [(w.heap.size, s, d)] → Calls Tryd.prog 10 #[(.agg #[.slice s.w.a s.w.n s.w.c, .slice s.p.a s.p.n s.p.c, .slice (s.u 0).a (s.u 0).n (s.u 0).c, .slice (s.u 1).a (s.u 1).n (s.u 1).c, .slice (s.u 2).a (s.u 2).n (s.u 2).c, .slice s.c.a s.c.n s.c.c]), .int .i64 b] W fun e w' => e = .returned (.tuple #[.int .i64 n2, .int .i64 e2]) ∧ Below W.heap.size W w') (hz : Cl.Sz w) (hp : Hp w w.heap.size s d) : Calls Tryd.prog 5 #[(.agg #[.slice s.w.a s.w.n s.w.c, .slice s.p.a s.p.n s.p.c, .slice (s.u 0).a (s.u 0).n (s.u 0).c, .slice (s.u 1).a (s.u 1).n (s.u 1).c, .slice (s.u 2).a (s.u 2).n (s.u 2).c, .slice s.c.a s.c.n s.c.c]), .int .i64 a, .int .i64 b] w fun e w' => e = .returned (.bool true) ∧ Below w.heap.size w w' := by
  have HZ := Lib.hid hz
  have hz0 := hz.pos
  have HP := Lib.hid hp
  have HF := Lib.hid hf
  have O1 := Lib.hid hO1
  have O2 := Lib.hid hO2
  have g2 : (e2 != 0) = true := by simp [h2]
  clear hz hp hf hO1 hO2 h2
  go_enter Tryd.func5, Tryd.ntmps5
  go_wp2_with fail
  obtain ⟨W1, hW1⟩ : ∃ W1, W1 = w.alloc (.cells #[.slice s.w.a s.w.n s.w.c, .slice s.p.a s.p.n s.p.c, .slice (s.u 0).a (s.u 0).n (s.u 0).c, .slice (s.u 1).a (s.u 1).n (s.u 1).c, .slice (s.u 2).a (s.u 2).n (s.u 2).c, .slice s.c.a s.c.n s.c.c] 28) := ⟨_, rfl⟩
  have L1 := Lib.hid (lx_start (A := none) (n := 0) (U := (fun _ => Ls.noSl)) (F := noCaches) HP.out (fun h => absurd h (by omega)) hW1)
  rw [← hW1]
  clear hW1
  refine (Ck.awake_any W1 (HZ.out.over L1.out.bel hz0)).mono ?_
  rintro e9 w1 ⟨rfl, hb1⟩
  have L2 := Lib.hid (L1.out.next hb1)
  clear hb1 L1
  have q0 := (L2.out.at (w.heap.size) (s) (d) (by simp)).c0
  have q1 := (L2.out.at (w.heap.size) (s) (d) (by simp)).c1
  have q2 := (L2.out.at (w.heap.size) (s) (d) (by simp)).c2
  have q3 := (L2.out.at (w.heap.size) (s) (d) (by simp)).c3
  have q4 := (L2.out.at (w.heap.size) (s) (d) (by simp)).c4
  have q5 := (L2.out.at (w.heap.size) (s) (d) (by simp)).c5
  have ql := (L2.out.at (w.heap.size) (s) (d) (by simp)).lt
  go_wp2_with fail
  refine (rfew_any s w1).mono ?_
  rw [HF.out]
  rintro e9 w2 ⟨rfl, hb2⟩
  have L3 := Lib.hid (L2.out.next hb2)
  clear hb2 L2
  clear q0 q1 q2 q3 q4 q5 ql
  have q0 := (L3.out.at (w.heap.size) (s) (d) (by simp)).c0
  have q1 := (L3.out.at (w.heap.size) (s) (d) (by simp)).c1
  have q2 := (L3.out.at (w.heap.size) (s) (d) (by simp)).c2
  have q3 := (L3.out.at (w.heap.size) (s) (d) (by simp)).c3
  have q4 := (L3.out.at (w.heap.size) (s) (d) (by simp)).c4
  have q5 := (L3.out.at (w.heap.size) (s) (d) (by simp)).c5
  have ql := (L3.out.at (w.heap.size) (s) (d) (by simp)).lt
  go_wp2_with fail
  refine (O1.out w2 L3.out).mono ?_
  rintro e9 w3 ⟨rfl, hb9⟩
  have L4 := Lib.hid (L3.out.next hb9)
  clear hb9 L3
  clear q0 q1 q2 q3 q4 q5 ql
  have q0 := (L4.out.at (w.heap.size) (s) (d) (by simp)).c0
  have q1 := (L4.out.at (w.heap.size) (s) (d) (by simp)).c1
  have q2 := (L4.out.at (w.heap.size) (s) (d) (by simp)).c2
  have q3 := (L4.out.at (w.heap.size) (s) (d) (by simp)).c3
  have q4 := (L4.out.at (w.heap.size) (s) (d) (by simp)).c4
  have q5 := (L4.out.at (w.heap.size) (s) (d) (by simp)).c5
  have ql := (L4.out.at (w.heap.size) (s) (d) (by simp)).lt
  go_wp2_with fail
  refine (O2.out w3 L4.out).mono ?_
  rintro e9 w4 ⟨rfl, hb9⟩
  have L5 := Lib.hid (L4.out.next hb9)
  clear hb9 L4
  clear q0 q1 q2 q3 q4 q5 ql
  go_wp2
  go_ret
  exact ⟨rfl, L5.out.bel⟩
set_option maxHeartbeats 4000000 in
theorem core_ok (d1 d2 d3 d4 : Hd_) (n1 n2 : Int) (x1 x2 : Int) (r : Bool) (ha1 : 0 ≤ a) (ha2 : a ≤ 10000) (hb1 : 0 ≤ b) (hb2 : b ≤ 10000) (q1 : a / 8 = x1) (q2 : b / 8 = x2) (g1 : (n1 == n2) = r) (g2 : (x1 == x2) = r) (g3 : ((s.c.n : Int) == 2 * (s.p.n : Int)) = true) (hpn : s.p.n ≤ 64) (hf : fewH s = true) (hO1 : ∀ W, Lx w W none 0 (fun _ => Ls.noSl) noCaches [(w.heap.size, s, d)] → Calls Tryd.prog 10 #[(.agg #[.slice s.w.a s.w.n s.w.c, .slice s.p.a s.p.n s.p.c, .slice (s.u 0).a (s.u 0).n (s.u 0).c, .slice (s.u 1).a (s.u 1).n (s.u 1).c, .slice (s.u 2).a (s.u 2).n (s.u 2).c, .slice s.c.a s.c.n s.c.c]), .int .i64 a] W fun e w' => e = .returned (.tuple #[.int .i64 n1, .int .i64 0]) ∧ Below W.heap.size W w') (hO2 : ∀ W, Lx w W none 0 (fun _ => Ls.noSl) noCaches [(w.heap.size, s, d)] → Calls Tryd.prog 10 #[(.agg #[.slice s.w.a s.w.n s.w.c, .slice s.p.a s.p.n s.p.c, .slice (s.u 0).a (s.u 0).n (s.u 0).c, .slice (s.u 1).a (s.u 1).n (s.u 1).c, .slice (s.u 2).a (s.u 2).n (s.u 2).c, .slice s.c.a s.c.n s.c.c]), .int .i64 b] W fun e w' => e = .returned (.tuple #[.int .i64 n2, .int .i64 0]) ∧ Below W.heap.size W w') (hD1 : ∀ W, Lx w W none 0 (fun _ => Ls.noSl) noCaches [(w.heap.size, s, d)] → Calls Tryd.prog 12 #[(.agg #[.slice s.w.a s.w.n s.w.c, .slice s.p.a s.p.n s.p.c, .slice (s.u 0).a (s.u 0).n (s.u 0).c, .slice (s.u 1).a (s.u 1).n (s.u 1).c, .slice (s.u 2).a (s.u 2).n (s.u 2).c, .slice s.c.a s.c.n s.c.c]), .int .i64 a] W fun e w' => ∃ t : Hs, e = .returned (.tuple #[(.agg #[.slice t.w.a t.w.n t.w.c, .slice t.p.a t.p.n t.p.c, .slice (t.u 0).a (t.u 0).n (t.u 0).c, .slice (t.u 1).a (t.u 1).n (t.u 1).c, .slice (t.u 2).a (t.u 2).n (t.u 2).c, .slice t.c.a t.c.n t.c.c]), .int .i64 0]) ∧ Hp w' w'.heap.size t d1 ∧ Same3 s t ∧ Below W.heap.size W w') (hD2 : ∀ W b1 t1, Same3 s t1 → Lx w W none 0 (fun _ => Ls.noSl) noCaches [(b1, t1, d1), (w.heap.size, s, d)] → Calls Tryd.prog 12 #[(.agg #[.slice t1.w.a t1.w.n t1.w.c, .slice t1.p.a t1.p.n t1.p.c, .slice (t1.u 0).a (t1.u 0).n (t1.u 0).c, .slice (t1.u 1).a (t1.u 1).n (t1.u 1).c, .slice (t1.u 2).a (t1.u 2).n (t1.u 2).c, .slice t1.c.a t1.c.n t1.c.c]), .int .i64 b] W fun e w' => ∃ t : Hs, e = .returned (.tuple #[(.agg #[.slice t.w.a t.w.n t.w.c, .slice t.p.a t.p.n t.p.c, .slice (t.u 0).a (t.u 0).n (t.u 0).c, .slice (t.u 1).a (t.u 1).n (t.u 1).c, .slice (t.u 2).a (t.u 2).n (t.u 2).c, .slice t.c.a t.c.n t.c.c]), .int .i64 0]) ∧ Hp w' w'.heap.size t d2 ∧ Same3 s t ∧ Below W.heap.size W w') (hD3 : ∀ W b1 t1 b2 t2, Lx w W none 0 (fun _ => Ls.noSl) noCaches [(b2, t2, d2), (b1, t1, d1), (w.heap.size, s, d)] → Calls Tryd.prog 12 #[(.agg #[.slice s.w.a s.w.n s.w.c, .slice s.p.a s.p.n s.p.c, .slice (s.u 0).a (s.u 0).n (s.u 0).c, .slice (s.u 1).a (s.u 1).n (s.u 1).c, .slice (s.u 2).a (s.u 2).n (s.u 2).c, .slice s.c.a s.c.n s.c.c]), .int .i64 b] W fun e w' => ∃ t : Hs, e = .returned (.tuple #[(.agg #[.slice t.w.a t.w.n t.w.c, .slice t.p.a t.p.n t.p.c, .slice (t.u 0).a (t.u 0).n (t.u 0).c, .slice (t.u 1).a (t.u 1).n (t.u 1).c, .slice (t.u 2).a (t.u 2).n (t.u 2).c, .slice t.c.a t.c.n t.c.c]), .int .i64 0]) ∧ Hp w' w'.heap.size t d3 ∧ Same3 s t ∧ Below W.heap.size W w') (hD4 : ∀ W b1 t1 b2 t2 b3 t3, Same3 s t3 → Lx w W none 0 (fun _ => Ls.noSl) noCaches [(b3, t3, d3), (b2, t2, d2), (b1, t1, d1), (w.heap.size, s, d)] → Calls Tryd.prog 12 #[(.agg #[.slice t3.w.a t3.w.n t3.w.c, .slice t3.p.a t3.p.n t3.p.c, .slice (t3.u 0).a (t3.u 0).n (t3.u 0).c, .slice (t3.u 1).a (t3.u 1).n (t3.u 1).c, .slice (t3.u 2).a (t3.u 2).n (t3.u 2).c, .slice t3.c.a t3.c.n t3.c.c]), .int .i64 a] W fun e w' => ∃ t : Hs, e = .returned (.tuple #[(.agg #[.slice t.w.a t.w.n t.w.c, .slice t.p.a t.p.n t.p.c, .slice (t.u 0).a (t.u 0).n (t.u 0).c, .slice (t.u 1).a (t.u 1).n (t.u 1).c, .slice (t.u 2).a (t.u 2).n (t.u 2).c, .slice t.c.a t.c.n t.c.c]), .int .i64 0]) ∧ Hp w' w'.heap.size t d4 ∧ Same3 s t ∧ Below W.heap.size W w') (hS : ∀ W b1 t1 b2 t2 b3 t3 b4 t4, Same3 s t2 → Same3 s t4 → Lx w W none 0 (fun _ => Ls.noSl) noCaches [(b4, t4, d4), (b3, t3, d3), (b2, t2, d2), (b1, t1, d1), (w.heap.size, s, d)] → Calls Tryd.prog 20 #[(.agg #[.slice t2.w.a t2.w.n t2.w.c, .slice t2.p.a t2.p.n t2.p.c, .slice (t2.u 0).a (t2.u 0).n (t2.u 0).c, .slice (t2.u 1).a (t2.u 1).n (t2.u 1).c, .slice (t2.u 2).a (t2.u 2).n (t2.u 2).c, .slice t2.c.a t2.c.n t2.c.c]), (.agg #[.slice t4.w.a t4.w.n t4.w.c, .slice t4.p.a t4.p.n t4.p.c, .slice (t4.u 0).a (t4.u 0).n (t4.u 0).c, .slice (t4.u 1).a (t4.u 1).n (t4.u 1).c, .slice (t4.u 2).a (t4.u 2).n (t4.u 2).c, .slice t4.c.a t4.c.n t4.c.c])] W fun e w' => e = .returned (.bool true) ∧ Below W.heap.size W w') (hI1 : ∀ W b1 t1 b2 t2 b3 t3 b4 t4, Same3 s t2 → Lx w W none 0 (fun _ => Ls.noSl) noCaches [(b4, t4, d4), (b3, t3, d3), (b2, t2, d2), (b1, t1, d1), (w.heap.size, s, d)] → Calls Tryd.prog 11 #[(.agg #[.slice t2.w.a t2.w.n t2.w.c, .slice t2.p.a t2.p.n t2.p.c, .slice (t2.u 0).a (t2.u 0).n (t2.u 0).c, .slice (t2.u 1).a (t2.u 1).n (t2.u 1).c, .slice (t2.u 2).a (t2.u 2).n (t2.u 2).c, .slice t2.c.a t2.c.n t2.c.c]), .int .i64 a] W fun e w' => e = .returned (.bool true) ∧ Below W.heap.size W w') (hI2 : ∀ W b1 t1 b2 t2 b3 t3 b4 t4, Same3 s t2 → Lx w W none 0 (fun _ => Ls.noSl) noCaches [(b4, t4, d4), (b3, t3, d3), (b2, t2, d2), (b1, t1, d1), (w.heap.size, s, d)] → Calls Tryd.prog 11 #[(.agg #[.slice t2.w.a t2.w.n t2.w.c, .slice t2.p.a t2.p.n t2.p.c, .slice (t2.u 0).a (t2.u 0).n (t2.u 0).c, .slice (t2.u 1).a (t2.u 1).n (t2.u 1).c, .slice (t2.u 2).a (t2.u 2).n (t2.u 2).c, .slice t2.c.a t2.c.n t2.c.c]), .int .i64 b] W fun e w' => e = .returned (.bool true) ∧ Below W.heap.size W w') (hz : Cl.Sz w) (hp : Hp w w.heap.size s d) : Calls Tryd.prog 5 #[(.agg #[.slice s.w.a s.w.n s.w.c, .slice s.p.a s.p.n s.p.c, .slice (s.u 0).a (s.u 0).n (s.u 0).c, .slice (s.u 1).a (s.u 1).n (s.u 1).c, .slice (s.u 2).a (s.u 2).n (s.u 2).c, .slice s.c.a s.c.n s.c.c]), .int .i64 a, .int .i64 b] w fun e w' => e = .returned (.bool true) ∧ Below w.heap.size w w' := by
  have HZ := Lib.hid hz
  have hz0 := hz.pos
  have HP := Lib.hid hp
  have HF := Lib.hid hf
  have O1 := Lib.hid hO1
  have O2 := Lib.hid hO2
  have D1 := Lib.hid hD1
  have D2 := Lib.hid hD2
  have D3 := Lib.hid hD3
  have D4 := Lib.hid hD4
  have S := Lib.hid hS
  have I1 := Lib.hid hI1
  have I2 := Lib.hid hI2
  have q3 : Int.tdiv a 8 = x1 := by rw [Int.tdiv_eq_ediv_of_nonneg ha1]; exact q1
  have q4 : Int.tdiv b 8 = x2 := by rw [Int.tdiv_eq_ediv_of_nonneg hb1]; exact q2
  have g4 : (r == r) = true := by simp
  clear hz hp hf hO1 hO2 hD1 hD2 hD3 hD4 hS hI1 hI2
  go_enter Tryd.func5, Tryd.ntmps5
  go_wp2_with fail
  obtain ⟨W1, hW1⟩ : ∃ W1, W1 = w.alloc (.cells #[.slice s.w.a s.w.n s.w.c, .slice s.p.a s.p.n s.p.c, .slice (s.u 0).a (s.u 0).n (s.u 0).c, .slice (s.u 1).a (s.u 1).n (s.u 1).c, .slice (s.u 2).a (s.u 2).n (s.u 2).c, .slice s.c.a s.c.n s.c.c] 28) := ⟨_, rfl⟩
  have L1 := Lib.hid (lx_start (A := none) (n := 0) (U := (fun _ => Ls.noSl)) (F := noCaches) HP.out (fun h => absurd h (by omega)) hW1)
  rw [← hW1]
  clear hW1
  refine (Ck.awake_any W1 (HZ.out.over L1.out.bel hz0)).mono ?_
  rintro e9 w1 ⟨rfl, hb1⟩
  have L2 := Lib.hid (L1.out.next hb1)
  clear hb1 L1
  have q0 := (L2.out.at (w.heap.size) (s) (d) (by simp)).c0
  have q1 := (L2.out.at (w.heap.size) (s) (d) (by simp)).c1
  have q2 := (L2.out.at (w.heap.size) (s) (d) (by simp)).c2
  have q3 := (L2.out.at (w.heap.size) (s) (d) (by simp)).c3
  have q4 := (L2.out.at (w.heap.size) (s) (d) (by simp)).c4
  have q5 := (L2.out.at (w.heap.size) (s) (d) (by simp)).c5
  have ql := (L2.out.at (w.heap.size) (s) (d) (by simp)).lt
  go_wp2_with fail
  refine (rfew_any s w1).mono ?_
  rw [HF.out]
  rintro e9 w2 ⟨rfl, hb2⟩
  have L3 := Lib.hid (L2.out.next hb2)
  clear hb2 L2
  clear q0 q1 q2 q3 q4 q5 ql
  have q0 := (L3.out.at (w.heap.size) (s) (d) (by simp)).c0
  have q1 := (L3.out.at (w.heap.size) (s) (d) (by simp)).c1
  have q2 := (L3.out.at (w.heap.size) (s) (d) (by simp)).c2
  have q3 := (L3.out.at (w.heap.size) (s) (d) (by simp)).c3
  have q4 := (L3.out.at (w.heap.size) (s) (d) (by simp)).c4
  have q5 := (L3.out.at (w.heap.size) (s) (d) (by simp)).c5
  have ql := (L3.out.at (w.heap.size) (s) (d) (by simp)).lt
  go_wp2_with fail
  refine (O1.out w2 L3.out).mono ?_
  rintro e9 w3 ⟨rfl, hb9⟩
  have L4 := Lib.hid (L3.out.next hb9)
  clear hb9 L3
  clear q0 q1 q2 q3 q4 q5 ql
  have q0 := (L4.out.at (w.heap.size) (s) (d) (by simp)).c0
  have q1 := (L4.out.at (w.heap.size) (s) (d) (by simp)).c1
  have q2 := (L4.out.at (w.heap.size) (s) (d) (by simp)).c2
  have q3 := (L4.out.at (w.heap.size) (s) (d) (by simp)).c3
  have q4 := (L4.out.at (w.heap.size) (s) (d) (by simp)).c4
  have q5 := (L4.out.at (w.heap.size) (s) (d) (by simp)).c5
  have ql := (L4.out.at (w.heap.size) (s) (d) (by simp)).lt
  go_wp2_with fail
  refine (O2.out w3 L4.out).mono ?_
  rintro e9 w4 ⟨rfl, hb9⟩
  have L5 := Lib.hid (L4.out.next hb9)
  clear hb9 L4
  clear q0 q1 q2 q3 q4 q5 ql
  have q0 := (L5.out.at (w.heap.size) (s) (d) (by simp)).c0
  have q1 := (L5.out.at (w.heap.size) (s) (d) (by simp)).c1
  have q2 := (L5.out.at (w.heap.size) (s) (d) (by simp)).c2
  have q3 := (L5.out.at (w.heap.size) (s) (d) (by simp)).c3
  have q4 := (L5.out.at (w.heap.size) (s) (d) (by simp)).c4
  have q5 := (L5.out.at (w.heap.size) (s) (d) (by simp)).c5
  have ql := (L5.out.at (w.heap.size) (s) (d) (by simp)).lt
  go_wp2_with fail
  refine (D1.out w4 L5.out).mono ?_
  rintro e9 w9 ⟨t1, rfl, hp9, hl9, hb9⟩
  have L6 := Lib.hid (L5.out.add (nw_new (ty := 28) hb9 hp9))
  have N1 := Lib.hid hl9
  clear hp9 hb9 hl9 L5
  clear q0 q1 q2 q3 q4 q5 ql
  go_upto_region 10 with fail
  obtain ⟨v5, h0⟩ : ∃ W, W = w9.alloc (.cells #[.slice t1.w.a t1.w.n t1.w.c, .slice t1.p.a t1.p.n t1.p.c, .slice (t1.u 0).a (t1.u 0).n (t1.u 0).c, .slice (t1.u 1).a (t1.u 1).n (t1.u 1).c, .slice (t1.u 2).a (t1.u 2).n (t1.u 2).c, .slice t1.c.a t1.c.n t1.c.c] 28) := ⟨_, rfl⟩
  obtain ⟨b1, h1⟩ : ∃ b, b = w9.heap.size := ⟨_, rfl⟩
  rw [← h0, ← h1] at L6
  rw [← h0, ← h1]
  clear h0 h1
  have q0 := (L6.out.at (b1) (t1) (d1) (by simp)).c0
  have q1 := (L6.out.at (b1) (t1) (d1) (by simp)).c1
  have q2 := (L6.out.at (b1) (t1) (d1) (by simp)).c2
  have q3 := (L6.out.at (b1) (t1) (d1) (by simp)).c3
  have q4 := (L6.out.at (b1) (t1) (d1) (by simp)).c4
  have q5 := (L6.out.at (b1) (t1) (d1) (by simp)).c5
  have ql := (L6.out.at (b1) (t1) (d1) (by simp)).lt
  go_wp2_with fail
  refine (D2.out v5 b1 t1 N1.out L6.out).mono ?_
  rintro e9 w9 ⟨t2, rfl, hp9, hl9, hb9⟩
  have L7 := Lib.hid (L6.out.add (nw_new (ty := 28) hb9 hp9))
  have N2 := Lib.hid hl9
  clear hp9 hb9 hl9 L6
  clear q0 q1 q2 q3 q4 q5 ql
  go_upto_region 11 with fail
  obtain ⟨v6, h0⟩ : ∃ W, W = w9.alloc (.cells #[.slice t2.w.a t2.w.n t2.w.c, .slice t2.p.a t2.p.n t2.p.c, .slice (t2.u 0).a (t2.u 0).n (t2.u 0).c, .slice (t2.u 1).a (t2.u 1).n (t2.u 1).c, .slice (t2.u 2).a (t2.u 2).n (t2.u 2).c, .slice t2.c.a t2.c.n t2.c.c] 28) := ⟨_, rfl⟩
  obtain ⟨b2, h1⟩ : ∃ b, b = w9.heap.size := ⟨_, rfl⟩
  rw [← h0, ← h1] at L7
  rw [← h0, ← h1]
  clear h0 h1
  have q0 := (L7.out.at (w.heap.size) (s) (d) (by simp)).c0
  have q1 := (L7.out.at (w.heap.size) (s) (d) (by simp)).c1
  have q2 := (L7.out.at (w.heap.size) (s) (d) (by simp)).c2
  have q3 := (L7.out.at (w.heap.size) (s) (d) (by simp)).c3
  have q4 := (L7.out.at (w.heap.size) (s) (d) (by simp)).c4
  have q5 := (L7.out.at (w.heap.size) (s) (d) (by simp)).c5
  have ql := (L7.out.at (w.heap.size) (s) (d) (by simp)).lt
  go_wp2_with fail
  refine (D3.out v6 b1 t1 b2 t2 L7.out).mono ?_
  rintro e9 w9 ⟨t3, rfl, hp9, hl9, hb9⟩
  have L8 := Lib.hid (L7.out.add (nw_new (ty := 28) hb9 hp9))
  have N3 := Lib.hid hl9
  clear hp9 hb9 hl9 L7
  clear q0 q1 q2 q3 q4 q5 ql
  go_upto_region 12 with fail
  obtain ⟨v7, h0⟩ : ∃ W, W = w9.alloc (.cells #[.slice t3.w.a t3.w.n t3.w.c, .slice t3.p.a t3.p.n t3.p.c, .slice (t3.u 0).a (t3.u 0).n (t3.u 0).c, .slice (t3.u 1).a (t3.u 1).n (t3.u 1).c, .slice (t3.u 2).a (t3.u 2).n (t3.u 2).c, .slice t3.c.a t3.c.n t3.c.c] 28) := ⟨_, rfl⟩
  obtain ⟨b3, h1⟩ : ∃ b, b = w9.heap.size := ⟨_, rfl⟩
  rw [← h0, ← h1] at L8
  rw [← h0, ← h1]
  clear h0 h1
  have q0 := (L8.out.at (b3) (t3) (d3) (by simp)).c0
  have q1 := (L8.out.at (b3) (t3) (d3) (by simp)).c1
  have q2 := (L8.out.at (b3) (t3) (d3) (by simp)).c2
  have q3 := (L8.out.at (b3) (t3) (d3) (by simp)).c3
  have q4 := (L8.out.at (b3) (t3) (d3) (by simp)).c4
  have q5 := (L8.out.at (b3) (t3) (d3) (by simp)).c5
  have ql := (L8.out.at (b3) (t3) (d3) (by simp)).lt
  go_wp2_with fail
  refine (D4.out v7 b1 t1 b2 t2 b3 t3 N3.out L8.out).mono ?_
  rintro e9 w9 ⟨t4, rfl, hp9, hl9, hb9⟩
  have L9 := Lib.hid (L8.out.add (nw_new (ty := 28) hb9 hp9))
  have N4 := Lib.hid hl9
  clear hp9 hb9 hl9 L8
  clear q0 q1 q2 q3 q4 q5 ql
  go_upto_region 13 with fail
  obtain ⟨v8, h0⟩ : ∃ W, W = w9.alloc (.cells #[.slice t4.w.a t4.w.n t4.w.c, .slice t4.p.a t4.p.n t4.p.c, .slice (t4.u 0).a (t4.u 0).n (t4.u 0).c, .slice (t4.u 1).a (t4.u 1).n (t4.u 1).c, .slice (t4.u 2).a (t4.u 2).n (t4.u 2).c, .slice t4.c.a t4.c.n t4.c.c] 28) := ⟨_, rfl⟩
  obtain ⟨b4, h1⟩ : ∃ b, b = w9.heap.size := ⟨_, rfl⟩
  rw [← h0, ← h1] at L9
  rw [← h0, ← h1]
  clear h0 h1
  have p0 := (L9.out.at (b4) (t4) (d4) (by simp)).c0
  have p1 := (L9.out.at (b4) (t4) (d4) (by simp)).c1
  have p2 := (L9.out.at (b4) (t4) (d4) (by simp)).c2
  have p3 := (L9.out.at (b4) (t4) (d4) (by simp)).c3
  have p4 := (L9.out.at (b4) (t4) (d4) (by simp)).c4
  have p5 := (L9.out.at (b4) (t4) (d4) (by simp)).c5
  have pl := (L9.out.at (b4) (t4) (d4) (by simp)).lt
  have q0 := (L9.out.at (b2) (t2) (d2) (by simp)).c0
  have q1 := (L9.out.at (b2) (t2) (d2) (by simp)).c1
  have q2 := (L9.out.at (b2) (t2) (d2) (by simp)).c2
  have q3 := (L9.out.at (b2) (t2) (d2) (by simp)).c3
  have q4 := (L9.out.at (b2) (t2) (d2) (by simp)).c4
  have q5 := (L9.out.at (b2) (t2) (d2) (by simp)).c5
  have ql := (L9.out.at (b2) (t2) (d2) (by simp)).lt
  go_wp2_with fail
  refine (S.out v8 b1 t1 b2 t2 b3 t3 b4 t4 N2.out N4.out L9.out).mono ?_
  rintro e9 w9 ⟨rfl, hb9⟩
  have LA := Lib.hid (L9.out.next hb9)
  clear hb9 L9
  clear q0 q1 q2 q3 q4 q5 ql
  clear p0 p1 p2 p3 p4 p5 pl
  have q0 := (LA.out.at (b2) (t2) (d2) (by simp)).c0
  have q1 := (LA.out.at (b2) (t2) (d2) (by simp)).c1
  have q2 := (LA.out.at (b2) (t2) (d2) (by simp)).c2
  have q3 := (LA.out.at (b2) (t2) (d2) (by simp)).c3
  have q4 := (LA.out.at (b2) (t2) (d2) (by simp)).c4
  have q5 := (LA.out.at (b2) (t2) (d2) (by simp)).c5
  have ql := (LA.out.at (b2) (t2) (d2) (by simp)).lt
  go_wp2_with fail
  refine (I1.out w9 b1 t1 b2 t2 b3 t3 b4 t4 N2.out LA.out).mono ?_
  rintro e9 wa ⟨rfl, hb9⟩
  have LB := Lib.hid (LA.out.next hb9)
  clear hb9 LA
  clear q0 q1 q2 q3 q4 q5 ql
  have q0 := (LB.out.at (b2) (t2) (d2) (by simp)).c0
  have q1 := (LB.out.at (b2) (t2) (d2) (by simp)).c1
  have q2 := (LB.out.at (b2) (t2) (d2) (by simp)).c2
  have q3 := (LB.out.at (b2) (t2) (d2) (by simp)).c3
  have q4 := (LB.out.at (b2) (t2) (d2) (by simp)).c4
  have q5 := (LB.out.at (b2) (t2) (d2) (by simp)).c5
  have ql := (LB.out.at (b2) (t2) (d2) (by simp)).lt
  go_wp2_with fail
  refine (I2.out wa b1 t1 b2 t2 b3 t3 b4 t4 N2.out LB.out).mono ?_
  rintro e9 wb ⟨rfl, hb9⟩
  have LC := Lib.hid (LB.out.next hb9)
  clear hb9 LB
  clear q0 q1 q2 q3 q4 q5 ql
  have q0 := (LC.out.at (w.heap.size) (s) (d) (by simp)).c0
  have q1 := (LC.out.at (w.heap.size) (s) (d) (by simp)).c1
  have q2 := (LC.out.at (w.heap.size) (s) (d) (by simp)).c2
  have q3 := (LC.out.at (w.heap.size) (s) (d) (by simp)).c3
  have q4 := (LC.out.at (w.heap.size) (s) (d) (by simp)).c4
  have q5 := (LC.out.at (w.heap.size) (s) (d) (by simp)).c5
  have ql := (LC.out.at (w.heap.size) (s) (d) (by simp)).lt
  go_wp2
  go_ret
  exact ⟨rfl, LC.out.bel⟩
end
theorem walk (s : Hs) (d : Hd_) (a b : Int) (w : World) (hz : Cl.Sz w) (hp : Hp w w.heap.size s d) (hv : Fit64 d.ws) (_ : s.p.n ≤ s.p.c) (ha : (Lit.int .i64 a).wf = true) (hb : (Lit.int .i64 b).wf = true) :
    Calls Tryd.prog 5 #[(.agg #[.slice s.w.a s.w.n s.w.c, .slice s.p.a s.p.n s.p.c, .slice (s.u 0).a (s.u 0).n (s.u 0).c, .slice (s.u 1).a (s.u 1).n (s.u 1).c, .slice (s.u 2).a (s.u 2).n (s.u 2).c, .slice s.c.a s.c.n s.c.c]), .int .i64 a, .int .i64 b] w fun e w' => e = .returned (.bool true) ∧ Below w.heap.size w w' := by
  cases hf : fewH s
  · exact walk_few s d a b w hf hz hp
  have hfi := fine_few hf hp hv
  have hz0 := hz.pos
  have hwn := (few_parts hf).1
  have ha2 := (wf_bounds ha).2
  have hb2 := (wf_bounds hb).2
  have hO1 := fun (W : World) (h : Lx w W none 0 (fun _ => Ls.noSl) noCaches [(w.heap.size, s, d)]) => of_any s d W a (h.hp w.heap.size s d (by simp)) (hz.over h.bel hz0) hfi ha2
  have hO2 := fun (W : World) (h : Lx w W none 0 (fun _ => Ls.noSl) noCaches [(w.heap.size, s, d)]) => of_any s d W b (h.hp w.heap.size s d (by simp)) (hz.over h.bel hz0) hfi hb2
  by_cases e1 : ofE s d a = 0
  · by_cases e2 : ofE s d b = 0
    · rw [e1] at hO1
      rw [e2] at hO2
      obtain ⟨m1, a1, a3, i1, i2⟩ := ofE_is e1
      obtain ⟨_, c1, c3, j1, j2⟩ := ofE_is e2
      have hwp := may_wp m1
      refine core_ok s d a b w (ck d (ofK a) true) (ck (ck d (ofK a) true) (ofK b) true) (ck d (ofK b) true) (ck (ck d (ofK b) true) (ofK a) true) _ _ (a / 8) (b / 8) (a / 8 == b / 8) (by omega) (by omega) (by omega) (by omega) rfl rfl ?_ rfl (by rw [beq_iff_eq]; omega) hwp.2.2.1 hf hO1 hO2
        (fun W h => dirty_turn s d W a (h.hp w.heap.size s d (by simp)) (hz.over h.bel hz0) hfi ha2 e1)
        (fun W b1 t1 n1 h => (dirty_turn t1 _ W b (h.hp b1 t1 (ck d (ofK a) true) (by simp)) (hz.over h.bel hz0) (fine_ck n1 hfi _ _) hb2 ((ofE_ck n1 _ _ _).trans e2)).mono fun e w' ⟨t, h1, h2, h3, h4⟩ => ⟨t, h1, h2, same3_trans n1 h3, h4⟩)
        (fun W b1 t1 b2 t2 h => dirty_turn s d W b (h.hp w.heap.size s d (by simp)) (hz.over h.bel hz0) hfi hb2 e2)
        (fun W b1 t1 b2 t2 b3 t3 n3 h => (dirty_turn t3 _ W a (h.hp b3 t3 (ck d (ofK b) true) (by simp)) (hz.over h.bel hz0) (fine_ck n3 hfi _ _) ha2 ((ofE_ck n3 _ _ _).trans e1)).mono fun e w' ⟨t, h1, h2, h3, h4⟩ => ⟨t, h1, h2, same3_trans n3 h3, h4⟩)
        (fun W b1 t1 b2 t2 b3 t3 b4 t4 n2 n4 h => ?_)
        (fun W b1 t1 b2 t2 b3 t3 b4 t4 n2 h => ?_) (fun W b1 t1 b2 t2 b3 t3 b4 t4 n2 h => ?_) hz hp
      · rw [i1, j1]
        unfold ofK
        rw [Bool.eq_iff_iff, beq_iff_eq, beq_iff_eq]
        omega
      · have p2 := h.hp b2 t2 (ck (ck d (ofK a) true) (ofK b) true) (by simp)
        have p4 := h.hp b4 t4 (ck (ck d (ofK b) true) (ofK a) true) (by simp)
        have k2 : ∀ j, j < 3 → (t2.u j).n ≤ 4000000 := fun j hj => by have h1 := p2.free.len j hj; have h2 := (few_lists hf hp j hj).2; exact Nat.le_trans (Nat.le_of_eq h1) (Nat.le_trans h2 (by decide))
        have k4 : ∀ j, j < 3 → (t4.u j).n ≤ 4000000 := fun j hj => by have h1 := p4.free.len j hj; have h2 := (few_lists hf hp j hj).2; exact Nat.le_trans (Nat.le_of_eq h1) (Nat.le_trans h2 (by decide))
        obtain ⟨⟨A1, N1, C1⟩, ⟨A2, N2, C2⟩, v, ⟨A3, N3, C3⟩⟩ := t4
        obtain ⟨x1, x2, x3⟩ := n4
        obtain ⟨y1, y2, y3⟩ := n2
        dsimp only at x1 x2 x3
        subst x1 x2 x3
        rw [← y1, ← y2, ← y3] at p4 ⊢
        refine rsame_yes t2 _ _ A1 A2 A3 C1 C2 C3 v W p2 p4 rfl (fun _ _ => rfl) (fun _ _ => rfl) (fun i _ => ?_) (by omega) (by omega) (by omega) k2 k4
        rw [ck_at, ck_at, ck_at, ck_at]
        split <;> split <;> rfl
      · have := is_any t2 _ W a (h.hp b2 t2 (ck (ck d (ofK a) true) (ofK b) true) (by simp)) (hz.over h.bel hz0) (fine_ck (s := s) n2 (fine_ck (s := s) ⟨rfl, rfl, rfl⟩ hfi _ _) _ _) ha2
        rwa [show isB t2 (ck (ck d (ofK a) true) (ofK b) true) a = true by
          unfold isB
          rw [ofE_ck (s := s) n2, ofE_ck (s := s) (t := s) ⟨rfl, rfl, rfl⟩, e1, ck_at, ck_at, if_pos (rfl : ofK a = ofK a)]
          split <;> rfl] at this
      · have := is_any t2 _ W b (h.hp b2 t2 (ck (ck d (ofK a) true) (ofK b) true) (by simp)) (hz.over h.bel hz0) (fine_ck (s := s) n2 (fine_ck (s := s) ⟨rfl, rfl, rfl⟩ hfi _ _) _ _) hb2
        rwa [show isB t2 (ck (ck d (ofK a) true) (ofK b) true) b = true by
          unfold isB
          rw [ofE_ck (s := s) n2, ofE_ck (s := s) (t := s) ⟨rfl, rfl, rfl⟩, e2, ck_at, if_pos rfl]
          rfl] at this
    · rw [e1] at hO1
      exact core_second s d a b w _ _ _ e2 hf hO1 hO2 hz hp
  · exact core_first s d a b w _ _ _ _ e1 hf hO1 hO2 hz hp
-- the frame (hp10frame.py)
set_option maxRecDepth 100000 in
theorem lifted (os : Os) (started : os.Started) (H : Type) (enc : TypeId × Value → H) :
    ReturnsInHanded {} Tryd.checked os 5 .any (fun w args => (Rows.cardsTwiceSpec.pre enc Tryd.prog Tryd.f5 [] false w args ∧ laidMetH Tryd.prog laidSizes w) ∧ sizedMet enc Tryd.prog Tryd.f5 (OpenSpec.ofChange Rows.cardsTwiceSpec) false w args)
      (Rows.cardsTwiceSpec.post enc Tryd.prog Tryd.f5 false true false false) := by
  refine returnsInHanded_of_change_and (C := Tryd.checked) (X := fun w _ => laidMetH Tryd.prog laidSizes w) (fun _ _ _ hh h => h.of_heap hh) own started (by kernel_rfl) Tryd.func5
    (ChangeSpec.witness_shaped (enc := enc) (C := Tryd.checked) (os := os) (X := fun w _ => laidMetH Tryd.prog laidSizes w) false (World.doorLaid Tryd.prog 400 os) #[.agg #[.slice none 0 0, .slice none 0 0, .slice none 0 0, .slice none 0 0, .slice none 0 0, .slice none 0 0], .int .i64 0, .int .i64 0] 8 rfl (World.shaped_of_RefB (by kernel_rfl) (by kernel_rfl)) (by kernel_rfl) (by kernel_rfl) (by kernel_rfl) (door_met os _)) ?_
  intro W base args ds gs before hval0 hW _ _ hL _
  have hval : ∀ (j : Nat) t v, Tryd.f5.params[j]? = some t → args[j]? = some v → Value.okWide Tryd.prog W .any base t v := hval0
  have hW' := hW
  obtain ⟨p, q, hA0, hV, rfl, hfz, hnd⟩ := hW
  have hA : DataW.TrodAll enc Tryd.prog W 0 (fun _ => true) true Tryd.f5.params.toList args.toList ds p := hA0
  rw [Tryd.params5] at hA hval
  obtain ⟨v0, vs0, d0, ds0, p0, q0, hargs, rfl, rfl, h0, r0⟩ := trodAll_cons hA
  obtain ⟨v1, vs1, d1, ds1, p1, q1, rfl, rfl, rfl, h1, r1⟩ := trodAll_cons r0
  obtain ⟨v2, vs2, d2, ds2, p2, q2, rfl, rfl, rfl, h2, r2⟩ := trodAll_cons r1
  obtain ⟨rfl, rfl, rfl⟩ := trodAll_nil r2
  obtain rfl : args = #[v0, v1, v2] := by cases args; simp_all
  obtain ⟨rfl, rfl⟩ := trodVars_none hV
  have k0 := h0
  have lt0 : ∀ x ∈ p0, x.block < W.heap.size := by obtain ⟨m, hm⟩ := k0; exact DataW.trod_lt m _ _ _ hm
  obtain ⟨s0, z0, rfl, w0, f0, b0⟩ := heap_of8 (hval 0 28 v0 rfl rfl) h0
  obtain ⟨a1, rfl, rfl, rfl, w1⟩ := open_int Tryd.underlying3 (hval 1 3 v1 rfl rfl) h1
  obtain ⟨a2, rfl, rfl, rfl, w2⟩ := open_int Tryd.underlying3 (hval 2 3 v2 rfl rfl) h2
  clear hA0 hval0
  refine (walk s0 z0 a1 a2 W (of_laid hL) w0 f0 b0 w1 w2).mono fun e W' ⟨he, bel⟩ => ?_
  subst he
  exact ⟨_, rfl, _, _, _, [], _, [], hW', trodAll_mk1 (shut_bool Tryd.underlying4 _), (trodAll_cons_mk (Below.trod laidOut (by kernel_rfl) (of_decide_eq_true (by kernel_rfl)) k0 bel lt0) (trodAll_cons_mk (shut_int Tryd.underlying3 w1) (trodAll_cons_mk (shut_int Tryd.underlying3 w2) trodAll_mk0))), rfl, bel.frame _, fun h => by cases h⟩

theorem over : Rows.CardsTwiceSaid :=
  OpenClaim.holds_of_wide 5 Tryd.f5 rfl rfl rfl rfl rfl rfl rfl ⟨rfl, rfl, rfl, rfl, rfl⟩ rfl rfl rfl rfl rfl (by kernel_rfl) Tryd.func5 (by kernel_rfl)
    (of_decide_eq_true (by kernel_rfl)) (by unfold Func.isWrapper; first | (rw [if_pos (by decide +kernel)]; kernel_rfl) | (rw [if_neg (by decide +kernel)]; exact ⟨rfl, rfl⟩))
    (fun os started H enc _ => lifted os started H enc)

/-- The statement: the card. -/
theorem proved : Rows.CardsTwiceCardSaid :=
  Claim7.holds_tied_plain_at .later [] [.data] true Rows.cardsTwiceCard.stood.harness false
    over (fun _ h => by cases h) (by kernel_rfl) (fun _ h => by cases h) cardsTwice_row_tie rfl ⟨rfl, rfl⟩ (by kernel_rfl) rfl
    (fun f fn hf hfn => by
      obtain rfl : f = 5 := Option.some.inj ((show Tryd.prog.funcNamed "ragpicker/ragpickerlaw10.CardsTwice" = some 5 by kernel_rfl).symm.trans hf) |>.symm
      obtain rfl : fn = Tryd.f5 := (Option.some.inj (Tryd.func5.symm.trans hfn)).symm
      exact ⟨by kernel_rfl, fun j t ht => by
        rw [Tryd.params5] at ht
        have hm : t ∈ [28, 3, 3] := by simpa using Array.mem_of_getElem? ht
        have hall : ([28, 3, 3].all fun u => !Tryd.prog.wantsStandIn u) = true := by kernel_rfl
        exact (show Tryd.prog.wantsStandIn t = false by simpa using List.all_eq_true.1 hall t hm)⟩)
    (by kernel_rfl)
#print axioms proved
end Go.Proofs.YtmalopciboikhaaDoor.CardsTwice
