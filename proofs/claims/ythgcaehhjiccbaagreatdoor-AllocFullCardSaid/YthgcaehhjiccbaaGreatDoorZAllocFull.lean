/-
  AllocFull: nothing is told to be full but where there is no room; what is too small, or too great, takes nothing: for every heap of at most 9 pages and 130 words, every four caches of at most 70 cells of each class, and every number of fields; the table of sizes is tied to the program's text by the card.
-/
import Derived.Test.YthgcaehhjiccbaaGreatDoorZAlLawF
namespace Go.Proofs.YthgcaehhjiccbaaGreatDoor.AllocFull
open Go.Proofs.YthgcaehhjiccbaaGreatDoor Go.Proofs.YthgcaehhjiccbaaGreatDoor.Al
open Go.ChangeShapes Go.WideShapes Go.ChangeAt Go.RowKit
set_option maxRecDepth 100000

section
variable (s : Hs) (d : Hd_) (A : Option Addr) (n c : Nat) (U : Nat → Nat → Ls.Sl) (F : Nat → Nat → List Int) (N : Int) (w : World)
set_option maxHeartbeats 1000000 in
theorem walk_few (hf : fewL s U n = false) (hn : n ≤ 9223372036854775807) (hz : Cl.Sz w) (hp : Hp w w.heap.size s d) (hl : Ls.LRow w w.heap.size A n U F) : Calls Tryz.prog 6 #[(.agg #[.slice s.w.a s.w.n s.w.c, .slice s.p.a s.p.n s.p.c, .slice (s.u 0).a (s.u 0).n (s.u 0).c, .slice (s.u 1).a (s.u 1).n (s.u 1).c, .slice (s.u 2).a (s.u 2).n (s.u 2).c, .slice s.c.a s.c.n s.c.c]), .slice A n c, .int .i64 N] w fun e w' => e = .returned (.bool true) ∧ Below w.heap.size w w' := by
  have HZ := Lib.hid hz
  have hz0 := hz.pos
  have HP := Lib.hid hp
  have HL := Lib.hid hl
  have HF := Lib.hid hf
  clear hz hp hl hf
  go_enter Tryz.func6, Tryz.ntmps6
  go_wp2_with fail
  obtain ⟨W1, hW1⟩ : ∃ W1, W1 = w.alloc (.cells #[.slice s.w.a s.w.n s.w.c, .slice s.p.a s.p.n s.p.c, .slice (s.u 0).a (s.u 0).n (s.u 0).c, .slice (s.u 1).a (s.u 1).n (s.u 1).c, .slice (s.u 2).a (s.u 2).n (s.u 2).c, .slice s.c.a s.c.n s.c.c] 28) := ⟨_, rfl⟩
  have L1 := Lib.hid (lh_start HP.out HL.out hW1)
  rw [← hW1]
  clear hW1
  refine (Al.awake_any W1 (HZ.out.over L1.out.bel hz0)).mono ?_
  rintro e9 w1 ⟨rfl, hb1⟩
  have L2 := Lib.hid (L1.out.next hb1)
  clear hb1 L1
  have q0 := L2.out.hb.c0
  have q1 := L2.out.hb.c1
  have q2 := L2.out.hb.c2
  have q3 := L2.out.hb.c3
  have q4 := L2.out.hb.c4
  have q5 := L2.out.hb.c5
  have ql := L2.out.hb.lt
  go_wp2_with fail
  refine (few8_any s A _ c U F w1 hn L2.out.lr).mono ?_
  rw [HF.out]
  rintro e9 w2 ⟨rfl, hb2⟩
  have L3 := Lib.hid (L2.out.next hb2)
  clear hb2 L2
  clear q0 q1 q2 q3 q4 q5 ql
  go_wp2
  go_ret
  exact ⟨rfl, L3.out.bel⟩
set_option maxHeartbeats 1000000 in
theorem walk_none (hf : fewL s U n = true) (h0 : n = 0) (hn : n ≤ 9223372036854775807) (hz : Cl.Sz w) (hp : Hp w w.heap.size s d) (hl : Ls.LRow w w.heap.size A n U F) : Calls Tryz.prog 6 #[(.agg #[.slice s.w.a s.w.n s.w.c, .slice s.p.a s.p.n s.p.c, .slice (s.u 0).a (s.u 0).n (s.u 0).c, .slice (s.u 1).a (s.u 1).n (s.u 1).c, .slice (s.u 2).a (s.u 2).n (s.u 2).c, .slice s.c.a s.c.n s.c.c]), .slice A n c, .int .i64 N] w fun e w' => e = .returned (.bool true) ∧ Below w.heap.size w w' := by
  subst h0
  have HZ := Lib.hid hz
  have hz0 := hz.pos
  have HP := Lib.hid hp
  have HL := Lib.hid hl
  have HF := Lib.hid hf
  clear hz hp hl hf
  go_enter Tryz.func6, Tryz.ntmps6
  go_wp2_with fail
  obtain ⟨W1, hW1⟩ : ∃ W1, W1 = w.alloc (.cells #[.slice s.w.a s.w.n s.w.c, .slice s.p.a s.p.n s.p.c, .slice (s.u 0).a (s.u 0).n (s.u 0).c, .slice (s.u 1).a (s.u 1).n (s.u 1).c, .slice (s.u 2).a (s.u 2).n (s.u 2).c, .slice s.c.a s.c.n s.c.c] 28) := ⟨_, rfl⟩
  have L1 := Lib.hid (lh_start HP.out HL.out hW1)
  rw [← hW1]
  clear hW1
  refine (Al.awake_any W1 (HZ.out.over L1.out.bel hz0)).mono ?_
  rintro e9 w1 ⟨rfl, hb1⟩
  have L2 := Lib.hid (L1.out.next hb1)
  clear hb1 L1
  have q0 := L2.out.hb.c0
  have q1 := L2.out.hb.c1
  have q2 := L2.out.hb.c2
  have q3 := L2.out.hb.c3
  have q4 := L2.out.hb.c4
  have q5 := L2.out.hb.c5
  have ql := L2.out.hb.lt
  go_wp2_with fail
  refine (few8_any s A _ c U F w1 hn L2.out.lr).mono ?_
  rw [HF.out]
  rintro e9 w2 ⟨rfl, hb2⟩
  have L3 := Lib.hid (L2.out.next hb2)
  clear hb2 L2
  clear q0 q1 q2 q3 q4 q5 ql
  go_wp2
  go_ret
  exact ⟨rfl, L3.out.bel⟩
set_option maxHeartbeats 1000000 in
theorem walk_may (hf : fewL s U n = true) (hn1 : 0 < n) (hmay : ∀ W, Lh w W s d A n U F → Calls Tryz.prog 28 #[(.agg #[.slice s.w.a s.w.n s.w.c, .slice s.p.a s.p.n s.p.c, .slice (s.u 0).a (s.u 0).n (s.u 0).c, .slice (s.u 1).a (s.u 1).n (s.u 1).c, .slice (s.u 2).a (s.u 2).n (s.u 2).c, .slice s.c.a s.c.n s.c.c]), .slice A n c] W fun e w' => e = .returned (.bool false) ∧ Below W.heap.size W w') (hn : n ≤ 9223372036854775807) (hz : Cl.Sz w) (hp : Hp w w.heap.size s d) (hl : Ls.LRow w w.heap.size A n U F) : Calls Tryz.prog 6 #[(.agg #[.slice s.w.a s.w.n s.w.c, .slice s.p.a s.p.n s.p.c, .slice (s.u 0).a (s.u 0).n (s.u 0).c, .slice (s.u 1).a (s.u 1).n (s.u 1).c, .slice (s.u 2).a (s.u 2).n (s.u 2).c, .slice s.c.a s.c.n s.c.c]), .slice A n c, .int .i64 N] w fun e w' => e = .returned (.bool true) ∧ Below w.heap.size w w' := by
  have HZ := Lib.hid hz
  have hz0 := hz.pos
  have HP := Lib.hid hp
  have HL := Lib.hid hl
  have HF := Lib.hid hf
  have HMAY := Lib.hid hmay
  clear hz hp hl hf hmay
  go_enter Tryz.func6, Tryz.ntmps6
  go_wp2_with fail
  obtain ⟨W1, hW1⟩ : ∃ W1, W1 = w.alloc (.cells #[.slice s.w.a s.w.n s.w.c, .slice s.p.a s.p.n s.p.c, .slice (s.u 0).a (s.u 0).n (s.u 0).c, .slice (s.u 1).a (s.u 1).n (s.u 1).c, .slice (s.u 2).a (s.u 2).n (s.u 2).c, .slice s.c.a s.c.n s.c.c] 28) := ⟨_, rfl⟩
  have L1 := Lib.hid (lh_start HP.out HL.out hW1)
  rw [← hW1]
  clear hW1
  refine (Al.awake_any W1 (HZ.out.over L1.out.bel hz0)).mono ?_
  rintro e9 w1 ⟨rfl, hb1⟩
  have L2 := Lib.hid (L1.out.next hb1)
  clear hb1 L1
  have q0 := L2.out.hb.c0
  have q1 := L2.out.hb.c1
  have q2 := L2.out.hb.c2
  have q3 := L2.out.hb.c3
  have q4 := L2.out.hb.c4
  have q5 := L2.out.hb.c5
  have ql := L2.out.hb.lt
  go_wp2_with fail
  refine (few8_any s A _ c U F w1 hn L2.out.lr).mono ?_
  rw [HF.out]
  rintro e9 w2 ⟨rfl, hb2⟩
  have L3 := Lib.hid (L2.out.next hb2)
  clear hb2 L2
  clear q0 q1 q2 q3 q4 q5 ql
  have d1 : decide ((n : Int) < 1) = false := by simp; omega
  have q0 := L3.out.hb.c0
  have q1 := L3.out.hb.c1
  have q2 := L3.out.hb.c2
  have q3 := L3.out.hb.c3
  have q4 := L3.out.hb.c4
  have q5 := L3.out.hb.c5
  have ql := L3.out.hb.lt
  go_wp2_with fail
  refine (HMAY.out w2 L3.out).mono ?_
  rintro e9 w3 ⟨rfl, hb4⟩
  have L4 := Lib.hid (L3.out.next hb4)
  clear hb4 L3
  clear q0 q1 q2 q3 q4 q5 ql
  go_wp2
  go_ret
  exact ⟨rfl, L4.out.bel⟩
set_option maxHeartbeats 4000000 in
theorem core_arg (k er : Int) (u : Nat → Ls.Sl) (hu : U 0 = u) (her : ¬ er = 0) (hf : fewL s U n = true) (hn1 : 0 < n) (hmay : ∀ W, Lh w W s d A n U F → Calls Tryz.prog 28 #[(.agg #[.slice s.w.a s.w.n s.w.c, .slice s.p.a s.p.n s.p.c, .slice (s.u 0).a (s.u 0).n (s.u 0).c, .slice (s.u 1).a (s.u 1).n (s.u 1).c, .slice (s.u 2).a (s.u 2).n (s.u 2).c, .slice s.c.a s.c.n s.c.c]), .slice A n c] W fun e w' => e = .returned (.bool true) ∧ Below W.heap.size W w') (hof : ∀ W, Calls Tryz.prog 29 #[.int .i64 N] W fun e w' => e = .returned (.tuple #[.int .i64 k, .int .i64 er]) ∧ W = w') (htk : ∀ W, Lh w W s d A n U F → Calls Tryz.prog 20 #[(.agg #[.slice s.w.a s.w.n s.w.c, .slice s.p.a s.p.n s.p.c, .slice (s.u 0).a (s.u 0).n (s.u 0).c, .slice (s.u 1).a (s.u 1).n (s.u 1).c, .slice (s.u 2).a (s.u 2).n (s.u 2).c, .slice s.c.a s.c.n s.c.c]), (.agg #[.slice (u 0).a (u 0).n (u 0).c, .slice (u 1).a (u 1).n (u 1).c, .slice (u 2).a (u 2).n (u 2).c]), .agg #[.bool true, .bool false, .bool false, .int .i64 N, .int .i64 0, .int .i64 0]] W fun e w' => ∃ (t : Hs) (v : Nat → Ls.Sl) (a : Int), e = .returned (.tuple #[(.agg #[.slice t.w.a t.w.n t.w.c, .slice t.p.a t.p.n t.p.c, .slice (t.u 0).a (t.u 0).n (t.u 0).c, .slice (t.u 1).a (t.u 1).n (t.u 1).c, .slice (t.u 2).a (t.u 2).n (t.u 2).c, .slice t.c.a t.c.n t.c.c]), (.agg #[.slice (v 0).a (v 0).n (v 0).c, .slice (v 1).a (v 1).n (v 1).c, .slice (v 2).a (v 2).n (v 2).c]), .int .i64 a, .int .i64 1]) ∧ Below W.heap.size W w') (hn : n ≤ 9223372036854775807) (hz : Cl.Sz w) (hp : Hp w w.heap.size s d) (hl : Ls.LRow w w.heap.size A n U F) : Calls Tryz.prog 6 #[(.agg #[.slice s.w.a s.w.n s.w.c, .slice s.p.a s.p.n s.p.c, .slice (s.u 0).a (s.u 0).n (s.u 0).c, .slice (s.u 1).a (s.u 1).n (s.u 1).c, .slice (s.u 2).a (s.u 2).n (s.u 2).c, .slice s.c.a s.c.n s.c.c]), .slice A n c, .int .i64 N] w fun e w' => e = .returned (.bool true) ∧ Below w.heap.size w w' := by
  have HZ := Lib.hid hz
  have hz0 := hz.pos
  have HP := Lib.hid hp
  have HL := Lib.hid hl
  have HF := Lib.hid hf
  have d0 : (er != 0) = true := by simp [her]
  have d9 : decide (er = 0) = false := by simp [her]
  have HMAY := Lib.hid hmay
  have HO := Lib.hid hof
  have TK := Lib.hid htk
  clear hz hp hl hf hmay hof htk
  go_enter Tryz.func6, Tryz.ntmps6
  go_wp2_with fail
  obtain ⟨W1, hW1⟩ : ∃ W1, W1 = w.alloc (.cells #[.slice s.w.a s.w.n s.w.c, .slice s.p.a s.p.n s.p.c, .slice (s.u 0).a (s.u 0).n (s.u 0).c, .slice (s.u 1).a (s.u 1).n (s.u 1).c, .slice (s.u 2).a (s.u 2).n (s.u 2).c, .slice s.c.a s.c.n s.c.c] 28) := ⟨_, rfl⟩
  have L1 := Lib.hid (lh_start HP.out HL.out hW1)
  rw [← hW1]
  clear hW1
  refine (Al.awake_any W1 (HZ.out.over L1.out.bel hz0)).mono ?_
  rintro e9 w1 ⟨rfl, hb1⟩
  have L2 := Lib.hid (L1.out.next hb1)
  clear hb1 L1
  have q0 := L2.out.hb.c0
  have q1 := L2.out.hb.c1
  have q2 := L2.out.hb.c2
  have q3 := L2.out.hb.c3
  have q4 := L2.out.hb.c4
  have q5 := L2.out.hb.c5
  have ql := L2.out.hb.lt
  go_wp2_with fail
  refine (few8_any s A _ c U F w1 hn L2.out.lr).mono ?_
  rw [HF.out]
  rintro e9 w2 ⟨rfl, hb2⟩
  have L3 := Lib.hid (L2.out.next hb2)
  clear hb2 L2
  clear q0 q1 q2 q3 q4 q5 ql
  have d1 : decide ((n : Int) < 1) = false := by simp; omega
  have q0 := L3.out.hb.c0
  have q1 := L3.out.hb.c1
  have q2 := L3.out.hb.c2
  have q3 := L3.out.hb.c3
  have q4 := L3.out.hb.c4
  have q5 := L3.out.hb.c5
  have ql := L3.out.hb.lt
  go_wp2_with fail
  refine (HMAY.out w2 L3.out).mono ?_
  rintro e9 w3 ⟨rfl, hb4⟩
  have L4 := Lib.hid (L3.out.next hb4)
  clear hb4 L3
  clear q0 q1 q2 q3 q4 q5 ql
  have q0 := L4.out.hb.c0
  have q1 := L4.out.hb.c1
  have q2 := L4.out.hb.c2
  have q3 := L4.out.hb.c3
  have q4 := L4.out.hb.c4
  have q5 := L4.out.hb.c5
  have ql := L4.out.hb.lt
  go_wp2_with fail
  refine (HO.out _).mono ?_
  rintro e9 w3b ⟨rfl, rfl⟩
  have hlb : Hid (Ls.LRow w3 w3.heap.size A n U F) := Lib.hid L4.out.lr
  obtain ⟨b, off, rfl, hbl, hcl⟩ := hlb.out hn1
  clear hcl hbl hlb
  have i0 : (0 : Int) < n := by omega
  have HU := Lib.hid hu
  clear hu
  clear q0 q1 q2 q3 q4 q5 ql
  go_upto_region 6 with fail
  go_cut [14] from 11 to 59 (fun f wx => f = .int .i64 1 ∧ Hid (Lh w wx s d (some ⟨b, off, none⟩) n U F))
  case first =>
    go_region_held3 (fun W => (Below w3.heap.size w3 W ∧ True) ∧ w.heap.size < W.heap.size ∧ W.cell? ⟨w.heap.size, 0, none⟩ = some (.slice s.w.a s.w.n s.w.c) ∧ W.cell? ⟨w.heap.size, 1, none⟩ = some (.slice s.p.a s.p.n s.p.c) ∧ W.cell? ⟨w.heap.size, 2, none⟩ = some (.slice (s.u 0).a (s.u 0).n (s.u 0).c) ∧ W.cell? ⟨w.heap.size, 3, none⟩ = some (.slice (s.u 1).a (s.u 1).n (s.u 1).c) ∧ W.cell? ⟨w.heap.size, 4, none⟩ = some (.slice (s.u 2).a (s.u 2).n (s.u 2).c) ∧ W.cell? ⟨w.heap.size, 5, none⟩ = some (.slice s.c.a s.c.n s.c.c) ∧ b < W.heap.size ∧ W.cell? ⟨b, off, none⟩ = some (.slice (u 0).a (u 0).n (u 0).c) ∧ W.cell? ⟨b, off + 1, none⟩ = some (.slice (u 1).a (u 1).n (u 1).c) ∧ W.cell? ⟨b, off + 2, none⟩ = some (.slice (u 2).a (u 2).n (u 2).c)) (((with_reducible refine full_keep u L4.out hn1 HU.out ?_); repeat' (first | with_reducible exact H4.out | with_reducible exact Below.refl _ _ | with_reducible refine bl_set ?_ ?_ _ | with_reducible refine bl_alloc ?_ _ | with_reducible refine bl_drew ?_ | with_reducible exact Nat.le_refl _ | with_reducible exact Nat.le_succ _ | omega))) (first
      | ((go_at_call 20; (with_reducible refine (TK.out (World.drew w3) (L4.out.next (bl_drew (Below.refl _ _)))).mono ?_); rintro e9 w4 ⟨⟨⟨A1, m1, D1⟩, ⟨A2, m2, D2⟩, t4, ⟨A3, m3, D3⟩⟩, v4, a4, rfl, hb4⟩; dsimp only; have H4 := Lib.hid (bl_call (bl_drew (Below.refl _ _)) hb4); clear hb4))
      | ((go_at_call 20; (with_reducible refine (TK.out (World.drew (World.alloc w3 (.cells #[.slice none 0 0, .slice none 0 0, .slice none 0 0, .slice none 0 0, .slice none 0 0, .slice none 0 0] 28))) (L4.out.next (bl_drew (bl_alloc (Below.refl _ _) _)))).mono ?_); rintro e9 w4 ⟨⟨⟨A1, m1, D1⟩, ⟨A2, m2, D2⟩, t4, ⟨A3, m3, D3⟩⟩, v4, a4, rfl, hb4⟩; dsimp only; have H4 := Lib.hid (bl_call (bl_drew (bl_alloc (Below.refl _ _) _)) hb4); obtain ⟨z, xa0, xa1, xa2, xa3, xa4, xa5, ya0, ya1, ya2, ya3, ya4, ya5⟩ := old6d hb4; clear hb4))
      | ((go_at_call 20; (with_reducible refine (TK.out (World.drew (World.alloc w3 (.cells #[.slice none 0 0, .slice none 0 0, .slice none 0 0] 25))) (L4.out.next (bl_drew (bl_alloc (Below.refl _ _) _)))).mono ?_); rintro e9 w4 ⟨⟨⟨A1, m1, D1⟩, ⟨A2, m2, D2⟩, t4, ⟨A3, m3, D3⟩⟩, v4, a4, rfl, hb4⟩; dsimp only; have H4 := Lib.hid (bl_call (bl_drew (bl_alloc (Below.refl _ _) _)) hb4); obtain ⟨z, xa0, xa1, xa2, ya0, ya1, ya2⟩ := old3d hb4; clear hb4))
      | ((go_at_call 20; (with_reducible refine (TK.out (World.drew (World.alloc (World.alloc w3 (.cells #[.slice none 0 0, .slice none 0 0, .slice none 0 0, .slice none 0 0, .slice none 0 0, .slice none 0 0] 28)) (.cells #[.slice none 0 0, .slice none 0 0, .slice none 0 0] 25))) (L4.out.next (bl_drew (bl_alloc (bl_alloc (Below.refl _ _) _) _)))).mono ?_); rintro e9 w4 ⟨⟨⟨A1, m1, D1⟩, ⟨A2, m2, D2⟩, t4, ⟨A3, m3, D3⟩⟩, v4, a4, rfl, hb4⟩; dsimp only; have H4 := Lib.hid (bl_call (bl_drew (bl_alloc (bl_alloc (Below.refl _ _) _) _)) hb4); obtain ⟨⟨z, xb0, xb1, xb2, yb0, yb1, yb2⟩, zz, xa0, xa1, xa2, xa3, xa4, xa5, ya0, ya1, ya2, ya3, ya4, ya5⟩ := old63d hb4; clear hb4))
      | ((go_at_call 20; (with_reducible refine (TK.out (World.drew (World.alloc (World.alloc w3 (.cells #[.slice none 0 0, .slice none 0 0, .slice none 0 0] 25)) (.cells #[.slice none 0 0, .slice none 0 0, .slice none 0 0, .slice none 0 0, .slice none 0 0, .slice none 0 0] 28))) (L4.out.next (bl_drew (bl_alloc (bl_alloc (Below.refl _ _) _) _)))).mono ?_); rintro e9 w4 ⟨⟨⟨A1, m1, D1⟩, ⟨A2, m2, D2⟩, t4, ⟨A3, m3, D3⟩⟩, v4, a4, rfl, hb4⟩; dsimp only; have H4 := Lib.hid (bl_call (bl_drew (bl_alloc (bl_alloc (Below.refl _ _) _) _)) hb4); obtain ⟨⟨z, xb0, xb1, xb2, xb3, xb4, xb5, yb0, yb1, yb2, yb3, yb4, yb5⟩, zz, xa0, xa1, xa2, ya0, ya1, ya2⟩ := old36d hb4; clear hb4)))
    all_goals go_wp2_with fail
    all_goals go_meet
    all_goals exact ⟨rfl, Lib.hid (L4.out.next (‹(Below w3.heap.size w3 _ ∧ True) ∧ _›).1.1)⟩
  case rest =>
    obtain ⟨rfl, L5⟩ := hcut
    clear L4
    by_cases h1 : (1 : Int) = er
    · subst h1
      go_wp2
      go_ret
      exact ⟨rfl, L5.out.bel⟩
    · have d2 : ((1 : Int) == er) = false := by simp [h1]
      have d3 : decide ((1 : Int) = er) = false := by simp [h1]
      go_wp2
      go_ret
      exact ⟨rfl, L5.out.bel⟩
set_option maxHeartbeats 4000000 in
theorem core_err (k er : Int) (u : Nat → Ls.Sl) (hu : U 0 = u) (her : ¬ er = 0) (hf : fewL s U n = true) (hn1 : 0 < n) (hmay : ∀ W, Lh w W s d A n U F → Calls Tryz.prog 28 #[(.agg #[.slice s.w.a s.w.n s.w.c, .slice s.p.a s.p.n s.p.c, .slice (s.u 0).a (s.u 0).n (s.u 0).c, .slice (s.u 1).a (s.u 1).n (s.u 1).c, .slice (s.u 2).a (s.u 2).n (s.u 2).c, .slice s.c.a s.c.n s.c.c]), .slice A n c] W fun e w' => e = .returned (.bool true) ∧ Below W.heap.size W w') (hof : ∀ W, Calls Tryz.prog 29 #[.int .i64 N] W fun e w' => e = .returned (.tuple #[.int .i64 k, .int .i64 er]) ∧ W = w') (htk : ∀ W, Lh w W s d A n U F → Calls Tryz.prog 20 #[(.agg #[.slice s.w.a s.w.n s.w.c, .slice s.p.a s.p.n s.p.c, .slice (s.u 0).a (s.u 0).n (s.u 0).c, .slice (s.u 1).a (s.u 1).n (s.u 1).c, .slice (s.u 2).a (s.u 2).n (s.u 2).c, .slice s.c.a s.c.n s.c.c]), (.agg #[.slice (u 0).a (u 0).n (u 0).c, .slice (u 1).a (u 1).n (u 1).c, .slice (u 2).a (u 2).n (u 2).c]), .agg #[.bool true, .bool false, .bool false, .int .i64 N, .int .i64 0, .int .i64 0]] W fun e w' => ∃ (t : Hs) (v : Nat → Ls.Sl) (a : Int), e = .returned (.tuple #[(.agg #[.slice t.w.a t.w.n t.w.c, .slice t.p.a t.p.n t.p.c, .slice (t.u 0).a (t.u 0).n (t.u 0).c, .slice (t.u 1).a (t.u 1).n (t.u 1).c, .slice (t.u 2).a (t.u 2).n (t.u 2).c, .slice t.c.a t.c.n t.c.c]), (.agg #[.slice (v 0).a (v 0).n (v 0).c, .slice (v 1).a (v 1).n (v 1).c, .slice (v 2).a (v 2).n (v 2).c]), .int .i64 a, .int .i64 er]) ∧ Below W.heap.size W w') (hn : n ≤ 9223372036854775807) (hz : Cl.Sz w) (hp : Hp w w.heap.size s d) (hl : Ls.LRow w w.heap.size A n U F) : Calls Tryz.prog 6 #[(.agg #[.slice s.w.a s.w.n s.w.c, .slice s.p.a s.p.n s.p.c, .slice (s.u 0).a (s.u 0).n (s.u 0).c, .slice (s.u 1).a (s.u 1).n (s.u 1).c, .slice (s.u 2).a (s.u 2).n (s.u 2).c, .slice s.c.a s.c.n s.c.c]), .slice A n c, .int .i64 N] w fun e w' => e = .returned (.bool true) ∧ Below w.heap.size w w' := by
  have HZ := Lib.hid hz
  have hz0 := hz.pos
  have HP := Lib.hid hp
  have HL := Lib.hid hl
  have HF := Lib.hid hf
  have d0 : (er != 0) = true := by simp [her]
  have d9 : decide (er = 0) = false := by simp [her]
  have HMAY := Lib.hid hmay
  have HO := Lib.hid hof
  have TK := Lib.hid htk
  clear hz hp hl hf hmay hof htk
  go_enter Tryz.func6, Tryz.ntmps6
  go_wp2_with fail
  obtain ⟨W1, hW1⟩ : ∃ W1, W1 = w.alloc (.cells #[.slice s.w.a s.w.n s.w.c, .slice s.p.a s.p.n s.p.c, .slice (s.u 0).a (s.u 0).n (s.u 0).c, .slice (s.u 1).a (s.u 1).n (s.u 1).c, .slice (s.u 2).a (s.u 2).n (s.u 2).c, .slice s.c.a s.c.n s.c.c] 28) := ⟨_, rfl⟩
  have L1 := Lib.hid (lh_start HP.out HL.out hW1)
  rw [← hW1]
  clear hW1
  refine (Al.awake_any W1 (HZ.out.over L1.out.bel hz0)).mono ?_
  rintro e9 w1 ⟨rfl, hb1⟩
  have L2 := Lib.hid (L1.out.next hb1)
  clear hb1 L1
  have q0 := L2.out.hb.c0
  have q1 := L2.out.hb.c1
  have q2 := L2.out.hb.c2
  have q3 := L2.out.hb.c3
  have q4 := L2.out.hb.c4
  have q5 := L2.out.hb.c5
  have ql := L2.out.hb.lt
  go_wp2_with fail
  refine (few8_any s A _ c U F w1 hn L2.out.lr).mono ?_
  rw [HF.out]
  rintro e9 w2 ⟨rfl, hb2⟩
  have L3 := Lib.hid (L2.out.next hb2)
  clear hb2 L2
  clear q0 q1 q2 q3 q4 q5 ql
  have d1 : decide ((n : Int) < 1) = false := by simp; omega
  have q0 := L3.out.hb.c0
  have q1 := L3.out.hb.c1
  have q2 := L3.out.hb.c2
  have q3 := L3.out.hb.c3
  have q4 := L3.out.hb.c4
  have q5 := L3.out.hb.c5
  have ql := L3.out.hb.lt
  go_wp2_with fail
  refine (HMAY.out w2 L3.out).mono ?_
  rintro e9 w3 ⟨rfl, hb4⟩
  have L4 := Lib.hid (L3.out.next hb4)
  clear hb4 L3
  clear q0 q1 q2 q3 q4 q5 ql
  have q0 := L4.out.hb.c0
  have q1 := L4.out.hb.c1
  have q2 := L4.out.hb.c2
  have q3 := L4.out.hb.c3
  have q4 := L4.out.hb.c4
  have q5 := L4.out.hb.c5
  have ql := L4.out.hb.lt
  go_wp2_with fail
  refine (HO.out _).mono ?_
  rintro e9 w3b ⟨rfl, rfl⟩
  have hlb : Hid (Ls.LRow w3 w3.heap.size A n U F) := Lib.hid L4.out.lr
  obtain ⟨b, off, rfl, hbl, hcl⟩ := hlb.out hn1
  clear hcl hbl hlb
  have i0 : (0 : Int) < n := by omega
  have HU := Lib.hid hu
  clear hu
  clear q0 q1 q2 q3 q4 q5 ql
  go_upto_region 6 with fail
  go_cut [14] from 11 to 59 (fun f wx => f = .int .i64 er ∧ Hid (Lh w wx s d (some ⟨b, off, none⟩) n U F))
  case first =>
    go_region_held3 (fun W => (Below w3.heap.size w3 W ∧ True) ∧ w.heap.size < W.heap.size ∧ W.cell? ⟨w.heap.size, 0, none⟩ = some (.slice s.w.a s.w.n s.w.c) ∧ W.cell? ⟨w.heap.size, 1, none⟩ = some (.slice s.p.a s.p.n s.p.c) ∧ W.cell? ⟨w.heap.size, 2, none⟩ = some (.slice (s.u 0).a (s.u 0).n (s.u 0).c) ∧ W.cell? ⟨w.heap.size, 3, none⟩ = some (.slice (s.u 1).a (s.u 1).n (s.u 1).c) ∧ W.cell? ⟨w.heap.size, 4, none⟩ = some (.slice (s.u 2).a (s.u 2).n (s.u 2).c) ∧ W.cell? ⟨w.heap.size, 5, none⟩ = some (.slice s.c.a s.c.n s.c.c) ∧ b < W.heap.size ∧ W.cell? ⟨b, off, none⟩ = some (.slice (u 0).a (u 0).n (u 0).c) ∧ W.cell? ⟨b, off + 1, none⟩ = some (.slice (u 1).a (u 1).n (u 1).c) ∧ W.cell? ⟨b, off + 2, none⟩ = some (.slice (u 2).a (u 2).n (u 2).c)) (((with_reducible refine full_keep u L4.out hn1 HU.out ?_); repeat' (first | with_reducible exact H4.out | with_reducible exact Below.refl _ _ | with_reducible refine bl_set ?_ ?_ _ | with_reducible refine bl_alloc ?_ _ | with_reducible refine bl_drew ?_ | with_reducible exact Nat.le_refl _ | with_reducible exact Nat.le_succ _ | omega))) (first
      | ((go_at_call 20; (with_reducible refine (TK.out (World.drew w3) (L4.out.next (bl_drew (Below.refl _ _)))).mono ?_); rintro e9 w4 ⟨⟨⟨A1, m1, D1⟩, ⟨A2, m2, D2⟩, t4, ⟨A3, m3, D3⟩⟩, v4, a4, rfl, hb4⟩; dsimp only; have H4 := Lib.hid (bl_call (bl_drew (Below.refl _ _)) hb4); clear hb4))
      | ((go_at_call 20; (with_reducible refine (TK.out (World.drew (World.alloc w3 (.cells #[.slice none 0 0, .slice none 0 0, .slice none 0 0, .slice none 0 0, .slice none 0 0, .slice none 0 0] 28))) (L4.out.next (bl_drew (bl_alloc (Below.refl _ _) _)))).mono ?_); rintro e9 w4 ⟨⟨⟨A1, m1, D1⟩, ⟨A2, m2, D2⟩, t4, ⟨A3, m3, D3⟩⟩, v4, a4, rfl, hb4⟩; dsimp only; have H4 := Lib.hid (bl_call (bl_drew (bl_alloc (Below.refl _ _) _)) hb4); obtain ⟨z, xa0, xa1, xa2, xa3, xa4, xa5, ya0, ya1, ya2, ya3, ya4, ya5⟩ := old6d hb4; clear hb4))
      | ((go_at_call 20; (with_reducible refine (TK.out (World.drew (World.alloc w3 (.cells #[.slice none 0 0, .slice none 0 0, .slice none 0 0] 25))) (L4.out.next (bl_drew (bl_alloc (Below.refl _ _) _)))).mono ?_); rintro e9 w4 ⟨⟨⟨A1, m1, D1⟩, ⟨A2, m2, D2⟩, t4, ⟨A3, m3, D3⟩⟩, v4, a4, rfl, hb4⟩; dsimp only; have H4 := Lib.hid (bl_call (bl_drew (bl_alloc (Below.refl _ _) _)) hb4); obtain ⟨z, xa0, xa1, xa2, ya0, ya1, ya2⟩ := old3d hb4; clear hb4))
      | ((go_at_call 20; (with_reducible refine (TK.out (World.drew (World.alloc (World.alloc w3 (.cells #[.slice none 0 0, .slice none 0 0, .slice none 0 0, .slice none 0 0, .slice none 0 0, .slice none 0 0] 28)) (.cells #[.slice none 0 0, .slice none 0 0, .slice none 0 0] 25))) (L4.out.next (bl_drew (bl_alloc (bl_alloc (Below.refl _ _) _) _)))).mono ?_); rintro e9 w4 ⟨⟨⟨A1, m1, D1⟩, ⟨A2, m2, D2⟩, t4, ⟨A3, m3, D3⟩⟩, v4, a4, rfl, hb4⟩; dsimp only; have H4 := Lib.hid (bl_call (bl_drew (bl_alloc (bl_alloc (Below.refl _ _) _) _)) hb4); obtain ⟨⟨z, xb0, xb1, xb2, yb0, yb1, yb2⟩, zz, xa0, xa1, xa2, xa3, xa4, xa5, ya0, ya1, ya2, ya3, ya4, ya5⟩ := old63d hb4; clear hb4))
      | ((go_at_call 20; (with_reducible refine (TK.out (World.drew (World.alloc (World.alloc w3 (.cells #[.slice none 0 0, .slice none 0 0, .slice none 0 0] 25)) (.cells #[.slice none 0 0, .slice none 0 0, .slice none 0 0, .slice none 0 0, .slice none 0 0, .slice none 0 0] 28))) (L4.out.next (bl_drew (bl_alloc (bl_alloc (Below.refl _ _) _) _)))).mono ?_); rintro e9 w4 ⟨⟨⟨A1, m1, D1⟩, ⟨A2, m2, D2⟩, t4, ⟨A3, m3, D3⟩⟩, v4, a4, rfl, hb4⟩; dsimp only; have H4 := Lib.hid (bl_call (bl_drew (bl_alloc (bl_alloc (Below.refl _ _) _) _)) hb4); obtain ⟨⟨z, xb0, xb1, xb2, xb3, xb4, xb5, yb0, yb1, yb2, yb3, yb4, yb5⟩, zz, xa0, xa1, xa2, ya0, ya1, ya2⟩ := old36d hb4; clear hb4)))
    all_goals go_wp2_with fail
    all_goals go_meet
    all_goals exact ⟨rfl, Lib.hid (L4.out.next (‹(Below w3.heap.size w3 _ ∧ True) ∧ _›).1.1)⟩
  case rest =>
    obtain ⟨rfl, L5⟩ := hcut
    clear L4
    go_wp2
    go_ret
    exact ⟨rfl, L5.out.bel⟩
set_option maxHeartbeats 8000000 in
theorem core_ok (k er : Int) (B : Bool) (u : Nat → Ls.Sl) (hu : U 0 = u) (hB : (B = true ∧ er = 0) ∨ (B = false ∧ er = 4))
  (hk : (k = 3 ∧ ∃ v m : Int, (∀ W, Calls Tryz.prog 30 #[.int .i64 N] W fun e w' => e = .returned (.tuple #[.int .i64 m, .int .i64 0]) ∧ W = w') ∧ (∀ W, Lh w W s d A n U F → Calls Tryz.prog 31 #[.slice s.p.a s.p.n s.p.c, .int .i64 m] W fun e w' => e = .returned (.tuple #[.int .i64 v, .bool B]) ∧ Below W.heap.size W w')) ∨ (∃ (v : Int) (P : Bool), (∀ W, Lh w W s d A n U F → Calls Tryz.prog 31 #[.slice s.p.a s.p.n s.p.c, .int .i64 1] W fun e w' => e = .returned (.tuple #[.int .i64 v, .bool P]) ∧ Below W.heap.size W w') ∧ ((k = 0 ∧ B = (P || decide (0 < (s.u 0).n) || decide (0 < (u 0).n))) ∨ (k = 1 ∧ B = (P || decide (0 < (s.u 1).n) || decide (0 < (u 1).n))) ∨ (k = 2 ∧ B = (P || decide (0 < (s.u 2).n) || decide (0 < (u 2).n))))))
  (hf : fewL s U n = true) (hn1 : 0 < n) (hmay : ∀ W, Lh w W s d A n U F → Calls Tryz.prog 28 #[(.agg #[.slice s.w.a s.w.n s.w.c, .slice s.p.a s.p.n s.p.c, .slice (s.u 0).a (s.u 0).n (s.u 0).c, .slice (s.u 1).a (s.u 1).n (s.u 1).c, .slice (s.u 2).a (s.u 2).n (s.u 2).c, .slice s.c.a s.c.n s.c.c]), .slice A n c] W fun e w' => e = .returned (.bool true) ∧ Below W.heap.size W w') (hof : ∀ W, Calls Tryz.prog 29 #[.int .i64 N] W fun e w' => e = .returned (.tuple #[.int .i64 k, .int .i64 0]) ∧ W = w') (htk : ∀ W, Lh w W s d A n U F → Calls Tryz.prog 20 #[(.agg #[.slice s.w.a s.w.n s.w.c, .slice s.p.a s.p.n s.p.c, .slice (s.u 0).a (s.u 0).n (s.u 0).c, .slice (s.u 1).a (s.u 1).n (s.u 1).c, .slice (s.u 2).a (s.u 2).n (s.u 2).c, .slice s.c.a s.c.n s.c.c]), (.agg #[.slice (u 0).a (u 0).n (u 0).c, .slice (u 1).a (u 1).n (u 1).c, .slice (u 2).a (u 2).n (u 2).c]), .agg #[.bool true, .bool false, .bool false, .int .i64 N, .int .i64 0, .int .i64 0]] W fun e w' => ∃ (t : Hs) (v : Nat → Ls.Sl) (a : Int), e = .returned (.tuple #[(.agg #[.slice t.w.a t.w.n t.w.c, .slice t.p.a t.p.n t.p.c, .slice (t.u 0).a (t.u 0).n (t.u 0).c, .slice (t.u 1).a (t.u 1).n (t.u 1).c, .slice (t.u 2).a (t.u 2).n (t.u 2).c, .slice t.c.a t.c.n t.c.c]), (.agg #[.slice (v 0).a (v 0).n (v 0).c, .slice (v 1).a (v 1).n (v 1).c, .slice (v 2).a (v 2).n (v 2).c]), .int .i64 a, .int .i64 er]) ∧ Below W.heap.size W w') (hrm : ∀ W, Lh w W s d A n U F → Calls Tryz.prog 23 #[(.agg #[.slice s.w.a s.w.n s.w.c, .slice s.p.a s.p.n s.p.c, .slice (s.u 0).a (s.u 0).n (s.u 0).c, .slice (s.u 1).a (s.u 1).n (s.u 1).c, .slice (s.u 2).a (s.u 2).n (s.u 2).c, .slice s.c.a s.c.n s.c.c]), (.agg #[.slice (u 0).a (u 0).n (u 0).c, .slice (u 1).a (u 1).n (u 1).c, .slice (u 2).a (u 2).n (u 2).c]), .int .i64 N] W fun e w' => e = .returned (.bool B) ∧ Below W.heap.size W w') (hn : n ≤ 9223372036854775807) (hz : Cl.Sz w) (hp : Hp w w.heap.size s d) (hl : Ls.LRow w w.heap.size A n U F) : Calls Tryz.prog 6 #[(.agg #[.slice s.w.a s.w.n s.w.c, .slice s.p.a s.p.n s.p.c, .slice (s.u 0).a (s.u 0).n (s.u 0).c, .slice (s.u 1).a (s.u 1).n (s.u 1).c, .slice (s.u 2).a (s.u 2).n (s.u 2).c, .slice s.c.a s.c.n s.c.c]), .slice A n c, .int .i64 N] w fun e w' => e = .returned (.bool true) ∧ Below w.heap.size w w' := by
  have HZ := Lib.hid hz
  have hz0 := hz.pos
  have HP := Lib.hid hp
  have HL := Lib.hid hl
  have HF := Lib.hid hf
  have HB := Lib.hid hB
  have HK := Lib.hid hk
  have RM := Lib.hid hrm
  clear hB hk hrm
  have HMAY := Lib.hid hmay
  have HO := Lib.hid hof
  have TK := Lib.hid htk
  clear hz hp hl hf hmay hof htk
  go_enter Tryz.func6, Tryz.ntmps6
  go_wp2_with fail
  obtain ⟨W1, hW1⟩ : ∃ W1, W1 = w.alloc (.cells #[.slice s.w.a s.w.n s.w.c, .slice s.p.a s.p.n s.p.c, .slice (s.u 0).a (s.u 0).n (s.u 0).c, .slice (s.u 1).a (s.u 1).n (s.u 1).c, .slice (s.u 2).a (s.u 2).n (s.u 2).c, .slice s.c.a s.c.n s.c.c] 28) := ⟨_, rfl⟩
  have L1 := Lib.hid (lh_start HP.out HL.out hW1)
  rw [← hW1]
  clear hW1
  refine (Al.awake_any W1 (HZ.out.over L1.out.bel hz0)).mono ?_
  rintro e9 w1 ⟨rfl, hb1⟩
  have L2 := Lib.hid (L1.out.next hb1)
  clear hb1 L1
  have q0 := L2.out.hb.c0
  have q1 := L2.out.hb.c1
  have q2 := L2.out.hb.c2
  have q3 := L2.out.hb.c3
  have q4 := L2.out.hb.c4
  have q5 := L2.out.hb.c5
  have ql := L2.out.hb.lt
  go_wp2_with fail
  refine (few8_any s A _ c U F w1 hn L2.out.lr).mono ?_
  rw [HF.out]
  rintro e9 w2 ⟨rfl, hb2⟩
  have L3 := Lib.hid (L2.out.next hb2)
  clear hb2 L2
  clear q0 q1 q2 q3 q4 q5 ql
  have d1 : decide ((n : Int) < 1) = false := by simp; omega
  have q0 := L3.out.hb.c0
  have q1 := L3.out.hb.c1
  have q2 := L3.out.hb.c2
  have q3 := L3.out.hb.c3
  have q4 := L3.out.hb.c4
  have q5 := L3.out.hb.c5
  have ql := L3.out.hb.lt
  go_wp2_with fail
  refine (HMAY.out w2 L3.out).mono ?_
  rintro e9 w3 ⟨rfl, hb4⟩
  have L4 := Lib.hid (L3.out.next hb4)
  clear hb4 L3
  clear q0 q1 q2 q3 q4 q5 ql
  have q0 := L4.out.hb.c0
  have q1 := L4.out.hb.c1
  have q2 := L4.out.hb.c2
  have q3 := L4.out.hb.c3
  have q4 := L4.out.hb.c4
  have q5 := L4.out.hb.c5
  have ql := L4.out.hb.lt
  go_wp2_with fail
  refine (HO.out _).mono ?_
  rintro e9 w3b ⟨rfl, rfl⟩
  have hlb : Hid (Ls.LRow w3 w3.heap.size A n U F) := Lib.hid L4.out.lr
  obtain ⟨b, off, rfl, hbl, hcl⟩ := hlb.out hn1
  clear hcl hbl hlb
  have i0 : (0 : Int) < n := by omega
  have HU := Lib.hid hu
  clear hu
  clear q0 q1 q2 q3 q4 q5 ql
  go_upto_region 6 with fail
  go_cut [14] from 11 to 59 (fun f wx => f = .int .i64 er ∧ Hid (Lh w wx s d (some ⟨b, off, none⟩) n U F))
  case first =>
    go_region_held3 (fun W => (Below w3.heap.size w3 W ∧ True) ∧ w.heap.size < W.heap.size ∧ W.cell? ⟨w.heap.size, 0, none⟩ = some (.slice s.w.a s.w.n s.w.c) ∧ W.cell? ⟨w.heap.size, 1, none⟩ = some (.slice s.p.a s.p.n s.p.c) ∧ W.cell? ⟨w.heap.size, 2, none⟩ = some (.slice (s.u 0).a (s.u 0).n (s.u 0).c) ∧ W.cell? ⟨w.heap.size, 3, none⟩ = some (.slice (s.u 1).a (s.u 1).n (s.u 1).c) ∧ W.cell? ⟨w.heap.size, 4, none⟩ = some (.slice (s.u 2).a (s.u 2).n (s.u 2).c) ∧ W.cell? ⟨w.heap.size, 5, none⟩ = some (.slice s.c.a s.c.n s.c.c) ∧ b < W.heap.size ∧ W.cell? ⟨b, off, none⟩ = some (.slice (u 0).a (u 0).n (u 0).c) ∧ W.cell? ⟨b, off + 1, none⟩ = some (.slice (u 1).a (u 1).n (u 1).c) ∧ W.cell? ⟨b, off + 2, none⟩ = some (.slice (u 2).a (u 2).n (u 2).c)) (((with_reducible refine full_keep u L4.out hn1 HU.out ?_); repeat' (first | with_reducible exact H4.out | with_reducible exact Below.refl _ _ | with_reducible refine bl_set ?_ ?_ _ | with_reducible refine bl_alloc ?_ _ | with_reducible refine bl_drew ?_ | with_reducible exact Nat.le_refl _ | with_reducible exact Nat.le_succ _ | omega))) (first
      | ((go_at_call 20; (with_reducible refine (TK.out (World.drew w3) (L4.out.next (bl_drew (Below.refl _ _)))).mono ?_); rintro e9 w4 ⟨⟨⟨A1, m1, D1⟩, ⟨A2, m2, D2⟩, t4, ⟨A3, m3, D3⟩⟩, v4, a4, rfl, hb4⟩; dsimp only; have H4 := Lib.hid (bl_call (bl_drew (Below.refl _ _)) hb4); clear hb4))
      | ((go_at_call 20; (with_reducible refine (TK.out (World.drew (World.alloc w3 (.cells #[.slice none 0 0, .slice none 0 0, .slice none 0 0, .slice none 0 0, .slice none 0 0, .slice none 0 0] 28))) (L4.out.next (bl_drew (bl_alloc (Below.refl _ _) _)))).mono ?_); rintro e9 w4 ⟨⟨⟨A1, m1, D1⟩, ⟨A2, m2, D2⟩, t4, ⟨A3, m3, D3⟩⟩, v4, a4, rfl, hb4⟩; dsimp only; have H4 := Lib.hid (bl_call (bl_drew (bl_alloc (Below.refl _ _) _)) hb4); obtain ⟨z, xa0, xa1, xa2, xa3, xa4, xa5, ya0, ya1, ya2, ya3, ya4, ya5⟩ := old6d hb4; clear hb4))
      | ((go_at_call 20; (with_reducible refine (TK.out (World.drew (World.alloc w3 (.cells #[.slice none 0 0, .slice none 0 0, .slice none 0 0] 25))) (L4.out.next (bl_drew (bl_alloc (Below.refl _ _) _)))).mono ?_); rintro e9 w4 ⟨⟨⟨A1, m1, D1⟩, ⟨A2, m2, D2⟩, t4, ⟨A3, m3, D3⟩⟩, v4, a4, rfl, hb4⟩; dsimp only; have H4 := Lib.hid (bl_call (bl_drew (bl_alloc (Below.refl _ _) _)) hb4); obtain ⟨z, xa0, xa1, xa2, ya0, ya1, ya2⟩ := old3d hb4; clear hb4))
      | ((go_at_call 20; (with_reducible refine (TK.out (World.drew (World.alloc (World.alloc w3 (.cells #[.slice none 0 0, .slice none 0 0, .slice none 0 0, .slice none 0 0, .slice none 0 0, .slice none 0 0] 28)) (.cells #[.slice none 0 0, .slice none 0 0, .slice none 0 0] 25))) (L4.out.next (bl_drew (bl_alloc (bl_alloc (Below.refl _ _) _) _)))).mono ?_); rintro e9 w4 ⟨⟨⟨A1, m1, D1⟩, ⟨A2, m2, D2⟩, t4, ⟨A3, m3, D3⟩⟩, v4, a4, rfl, hb4⟩; dsimp only; have H4 := Lib.hid (bl_call (bl_drew (bl_alloc (bl_alloc (Below.refl _ _) _) _)) hb4); obtain ⟨⟨z, xb0, xb1, xb2, yb0, yb1, yb2⟩, zz, xa0, xa1, xa2, xa3, xa4, xa5, ya0, ya1, ya2, ya3, ya4, ya5⟩ := old63d hb4; clear hb4))
      | ((go_at_call 20; (with_reducible refine (TK.out (World.drew (World.alloc (World.alloc w3 (.cells #[.slice none 0 0, .slice none 0 0, .slice none 0 0] 25)) (.cells #[.slice none 0 0, .slice none 0 0, .slice none 0 0, .slice none 0 0, .slice none 0 0, .slice none 0 0] 28))) (L4.out.next (bl_drew (bl_alloc (bl_alloc (Below.refl _ _) _) _)))).mono ?_); rintro e9 w4 ⟨⟨⟨A1, m1, D1⟩, ⟨A2, m2, D2⟩, t4, ⟨A3, m3, D3⟩⟩, v4, a4, rfl, hb4⟩; dsimp only; have H4 := Lib.hid (bl_call (bl_drew (bl_alloc (bl_alloc (Below.refl _ _) _) _)) hb4); obtain ⟨⟨z, xb0, xb1, xb2, xb3, xb4, xb5, yb0, yb1, yb2, yb3, yb4, yb5⟩, zz, xa0, xa1, xa2, ya0, ya1, ya2⟩ := old36d hb4; clear hb4)))
    all_goals go_wp2_with fail
    all_goals go_meet
    all_goals exact ⟨rfl, Lib.hid (L4.out.next (‹(Below w3.heap.size w3 _ ∧ True) ∧ _›).1.1)⟩
  case rest =>
    obtain ⟨rfl, L5⟩ := hcut
    clear L4
    go_upto_if 69 with fail
    go_cut [15] from 15 to 106 (fun sm wx => sm = .bool B ∧ Hid (Lh w wx s d (some ⟨b, off, none⟩) n U F))
    case first =>
      rcases HK.out with ⟨rfl, v, m, hrun, hfd⟩ | ⟨v, P, hfd, hk⟩
      · have HR := Lib.hid hrun
        have HFD := Lib.hid hfd
        clear hrun hfd
        have q0 := L5.out.hb.c0
        have q1 := L5.out.hb.c1
        have q2 := L5.out.hb.c2
        have q3 := L5.out.hb.c3
        have q4 := L5.out.hb.c4
        have q5 := L5.out.hb.c5
        have ql := L5.out.hb.lt
        go_wp2_with fail
        refine (HR.out _).mono ?_
        rintro e9 w5b ⟨rfl, rfl⟩
        go_wp2_with fail
        refine (HFD.out _ L5.out).mono ?_
        rintro e9 w6 ⟨rfl, hb6⟩
        have L6 := Lib.hid (L5.out.next hb6)
        clear hb6
        go_wp2_with fail
        go_meet
        exact ⟨rfl, L6⟩
      · have HFD := Lib.hid hfd
        clear hfd
        rcases hk with ⟨rfl, hB⟩ | ⟨rfl, hB⟩ | ⟨rfl, hB⟩
        · have HBJ := Lib.hid hB
          clear hB
          have q0 := L5.out.hb.c0
          have q1 := L5.out.hb.c1
          have q2 := L5.out.hb.c2
          have q3 := L5.out.hb.c3
          have q4 := L5.out.hb.c4
          have q5 := L5.out.hb.c5
          have ql := L5.out.hb.lt
          go_wp2_with fail
          refine (HFD.out _ L5.out).mono ?_
          rintro e9 w6 ⟨rfl, hb6⟩
          have L6 := Lib.hid (L5.out.next hb6)
          clear hb6 q0 q1 q2 q3 q4 q5 ql
          have q0 := L6.out.hb.c0
          have q1 := L6.out.hb.c1
          have q2 := L6.out.hb.c2
          have q3 := L6.out.hb.c3
          have q4 := L6.out.hb.c4
          have q5 := L6.out.hb.c5
          have ql := L6.out.hb.lt
          have hlb := L6.out.lr
          obtain ⟨b9, o9, e9, hbl, hcl⟩ := hlb hn1
          cases e9
          have c0 := (hcl 0 hn1).1 0 (by decide)
          have c1 := (hcl 0 hn1).1 1 (by decide)
          have c2 := (hcl 0 hn1).1 2 (by decide)
          rw [HU.out] at c0 c1 c2
          simp only [Nat.zero_mul, Nat.add_zero] at c0 c1 c2
          clear hcl hlb
          cases P
          · by_cases h1 : 0 < (s.u 0).n
            · have d1 : decide ((0 : Int) < (s.u 0).n) = true := by simp; omega
              have d1n : decide (0 < (s.u 0).n) = true := by simp; omega
              go_wp2_with fail
              go_meet
              exact ⟨by rw [HBJ.out]; simp [h1], L6⟩
            · have d1 : decide ((0 : Int) < (s.u 0).n) = false := by simp; omega
              have d1n : decide (0 < (s.u 0).n) = false := by simp; omega
              by_cases h2 : 0 < (u 0).n
              · have d2 : decide ((0 : Int) < (u 0).n) = true := by simp; omega
                have d2n : decide (0 < (u 0).n) = true := by simp; omega
                go_wp2_with fail
                go_meet
                exact ⟨by rw [HBJ.out]; simp [h2], L6⟩
              · have d2 : decide ((0 : Int) < (u 0).n) = false := by simp; omega
                have d2n : decide (0 < (u 0).n) = false := by simp; omega
                go_wp2_with fail
                go_meet
                exact ⟨by rw [HBJ.out]; simp [h1, h2], L6⟩
          · go_wp2_with fail
            go_meet
            exact ⟨by rw [HBJ.out]; simp, L6⟩
        · have HBJ := Lib.hid hB
          clear hB
          have q0 := L5.out.hb.c0
          have q1 := L5.out.hb.c1
          have q2 := L5.out.hb.c2
          have q3 := L5.out.hb.c3
          have q4 := L5.out.hb.c4
          have q5 := L5.out.hb.c5
          have ql := L5.out.hb.lt
          go_wp2_with fail
          refine (HFD.out _ L5.out).mono ?_
          rintro e9 w6 ⟨rfl, hb6⟩
          have L6 := Lib.hid (L5.out.next hb6)
          clear hb6 q0 q1 q2 q3 q4 q5 ql
          have q0 := L6.out.hb.c0
          have q1 := L6.out.hb.c1
          have q2 := L6.out.hb.c2
          have q3 := L6.out.hb.c3
          have q4 := L6.out.hb.c4
          have q5 := L6.out.hb.c5
          have ql := L6.out.hb.lt
          have hlb := L6.out.lr
          obtain ⟨b9, o9, e9, hbl, hcl⟩ := hlb hn1
          cases e9
          have c0 := (hcl 0 hn1).1 0 (by decide)
          have c1 := (hcl 0 hn1).1 1 (by decide)
          have c2 := (hcl 0 hn1).1 2 (by decide)
          rw [HU.out] at c0 c1 c2
          simp only [Nat.zero_mul, Nat.add_zero] at c0 c1 c2
          clear hcl hlb
          cases P
          · by_cases h1 : 0 < (s.u 1).n
            · have d1 : decide ((0 : Int) < (s.u 1).n) = true := by simp; omega
              have d1n : decide (0 < (s.u 1).n) = true := by simp; omega
              go_wp2_with fail
              go_meet
              exact ⟨by rw [HBJ.out]; simp [h1], L6⟩
            · have d1 : decide ((0 : Int) < (s.u 1).n) = false := by simp; omega
              have d1n : decide (0 < (s.u 1).n) = false := by simp; omega
              by_cases h2 : 0 < (u 1).n
              · have d2 : decide ((0 : Int) < (u 1).n) = true := by simp; omega
                have d2n : decide (0 < (u 1).n) = true := by simp; omega
                go_wp2_with fail
                go_meet
                exact ⟨by rw [HBJ.out]; simp [h2], L6⟩
              · have d2 : decide ((0 : Int) < (u 1).n) = false := by simp; omega
                have d2n : decide (0 < (u 1).n) = false := by simp; omega
                go_wp2_with fail
                go_meet
                exact ⟨by rw [HBJ.out]; simp [h1, h2], L6⟩
          · go_wp2_with fail
            go_meet
            exact ⟨by rw [HBJ.out]; simp, L6⟩
        · have HBJ := Lib.hid hB
          clear hB
          have q0 := L5.out.hb.c0
          have q1 := L5.out.hb.c1
          have q2 := L5.out.hb.c2
          have q3 := L5.out.hb.c3
          have q4 := L5.out.hb.c4
          have q5 := L5.out.hb.c5
          have ql := L5.out.hb.lt
          go_wp2_with fail
          refine (HFD.out _ L5.out).mono ?_
          rintro e9 w6 ⟨rfl, hb6⟩
          have L6 := Lib.hid (L5.out.next hb6)
          clear hb6 q0 q1 q2 q3 q4 q5 ql
          have q0 := L6.out.hb.c0
          have q1 := L6.out.hb.c1
          have q2 := L6.out.hb.c2
          have q3 := L6.out.hb.c3
          have q4 := L6.out.hb.c4
          have q5 := L6.out.hb.c5
          have ql := L6.out.hb.lt
          have hlb := L6.out.lr
          obtain ⟨b9, o9, e9, hbl, hcl⟩ := hlb hn1
          cases e9
          have c0 := (hcl 0 hn1).1 0 (by decide)
          have c1 := (hcl 0 hn1).1 1 (by decide)
          have c2 := (hcl 0 hn1).1 2 (by decide)
          rw [HU.out] at c0 c1 c2
          simp only [Nat.zero_mul, Nat.add_zero] at c0 c1 c2
          clear hcl hlb
          cases P
          · by_cases h1 : 0 < (s.u 2).n
            · have d1 : decide ((0 : Int) < (s.u 2).n) = true := by simp; omega
              have d1n : decide (0 < (s.u 2).n) = true := by simp; omega
              go_wp2_with fail
              go_meet
              exact ⟨by rw [HBJ.out]; simp [h1], L6⟩
            · have d1 : decide ((0 : Int) < (s.u 2).n) = false := by simp; omega
              have d1n : decide (0 < (s.u 2).n) = false := by simp; omega
              by_cases h2 : 0 < (u 2).n
              · have d2 : decide ((0 : Int) < (u 2).n) = true := by simp; omega
                have d2n : decide (0 < (u 2).n) = true := by simp; omega
                go_wp2_with fail
                go_meet
                exact ⟨by rw [HBJ.out]; simp [h2], L6⟩
              · have d2 : decide ((0 : Int) < (u 2).n) = false := by simp; omega
                have d2n : decide (0 < (u 2).n) = false := by simp; omega
                go_wp2_with fail
                go_meet
                exact ⟨by rw [HBJ.out]; simp [h1, h2], L6⟩
          · go_wp2_with fail
            go_meet
            exact ⟨by rw [HBJ.out]; simp, L6⟩
    case rest =>
      obtain ⟨rfl, L7⟩ := hcut
      clear L5
      go_upto_region 15 with fail
      generalize wc = w7 at L7 ⊢
      rcases HB.out with ⟨rfl, rfl⟩ | ⟨rfl, rfl⟩
      · first
          | (go_region_held (fun W => (Below w7.heap.size w7 W ∧ True) ∧ w.heap.size < W.heap.size ∧ W.cell? ⟨w.heap.size, 0, none⟩ = some (.slice s.w.a s.w.n s.w.c) ∧ W.cell? ⟨w.heap.size, 1, none⟩ = some (.slice s.p.a s.p.n s.p.c) ∧ W.cell? ⟨w.heap.size, 2, none⟩ = some (.slice (s.u 0).a (s.u 0).n (s.u 0).c) ∧ W.cell? ⟨w.heap.size, 3, none⟩ = some (.slice (s.u 1).a (s.u 1).n (s.u 1).c) ∧ W.cell? ⟨w.heap.size, 4, none⟩ = some (.slice (s.u 2).a (s.u 2).n (s.u 2).c) ∧ W.cell? ⟨w.heap.size, 5, none⟩ = some (.slice s.c.a s.c.n s.c.c) ∧ b < W.heap.size ∧ W.cell? ⟨b, off, none⟩ = some (.slice (u 0).a (u 0).n (u 0).c) ∧ W.cell? ⟨b, off + 1, none⟩ = some (.slice (u 1).a (u 1).n (u 1).c) ∧ W.cell? ⟨b, off + 2, none⟩ = some (.slice (u 2).a (u 2).n (u 2).c)) (((with_reducible refine full_keep u L7.out hn1 HU.out ?_); repeat' (first | with_reducible exact H8.out | with_reducible exact Below.refl _ _ | with_reducible refine bl_drew ?_))) (first
          | ((go_at_call 23; (with_reducible refine (RM.out (World.drew w7) (L7.out.next (bl_drew (Below.refl _ _)))).mono ?_); rintro e9 w8 ⟨rfl, hb8⟩; have H8 := Lib.hid (bl_call (bl_drew (Below.refl _ _)) hb8); clear hb8))))
          | fail
        have L8 := Lib.hid (L7.out.next H8.out)
        go_wp2
        go_ret
        exact ⟨rfl, L8.out.bel⟩
      · first
          | (go_region_held (fun W => (Below w7.heap.size w7 W ∧ True) ∧ w.heap.size < W.heap.size ∧ W.cell? ⟨w.heap.size, 0, none⟩ = some (.slice s.w.a s.w.n s.w.c) ∧ W.cell? ⟨w.heap.size, 1, none⟩ = some (.slice s.p.a s.p.n s.p.c) ∧ W.cell? ⟨w.heap.size, 2, none⟩ = some (.slice (s.u 0).a (s.u 0).n (s.u 0).c) ∧ W.cell? ⟨w.heap.size, 3, none⟩ = some (.slice (s.u 1).a (s.u 1).n (s.u 1).c) ∧ W.cell? ⟨w.heap.size, 4, none⟩ = some (.slice (s.u 2).a (s.u 2).n (s.u 2).c) ∧ W.cell? ⟨w.heap.size, 5, none⟩ = some (.slice s.c.a s.c.n s.c.c) ∧ b < W.heap.size ∧ W.cell? ⟨b, off, none⟩ = some (.slice (u 0).a (u 0).n (u 0).c) ∧ W.cell? ⟨b, off + 1, none⟩ = some (.slice (u 1).a (u 1).n (u 1).c) ∧ W.cell? ⟨b, off + 2, none⟩ = some (.slice (u 2).a (u 2).n (u 2).c)) (((with_reducible refine full_keep u L7.out hn1 HU.out ?_); repeat' (first | with_reducible exact H8.out | with_reducible exact Below.refl _ _ | with_reducible refine bl_drew ?_))) (first
          | ((go_at_call 23; (with_reducible refine (RM.out (World.drew w7) (L7.out.next (bl_drew (Below.refl _ _)))).mono ?_); rintro e9 w8 ⟨rfl, hb8⟩; have H8 := Lib.hid (bl_call (bl_drew (Below.refl _ _)) hb8); clear hb8))))
          | fail
        have L8 := Lib.hid (L7.out.next H8.out)
        go_wp2
        go_ret
        exact ⟨rfl, L8.out.bel⟩
end
theorem lh_l3 {w W : World} {s : Hs} {d : Hd_} {A : Option Addr} {n : Nat} {U : Nat → Nat → Ls.Sl} {F : Nat → Nat → List Int} (h : Lh w W s d A n U F) (hn : 0 < n) : Ls.L3 W W.heap.size (U 0) (F 0) := by
  obtain ⟨_, _, _, _, hc⟩ := h.lr hn
  exact (hc 0 hn).2
/-- Is there room? -/
theorem full_large {d : Hd_} {n : Nat} {G : Nat → List Int} {N : Int} (h3 : Cl.classOf N = 3) : (takeO d n G N).isSome = Cl.findS d.f n (Cl.runOf N) := by
  unfold takeO Cl.findS
  rw [if_pos h3]
  cases Cl.findO d.f n (Cl.runOf N) <;> rfl
theorem full_small {d : Hd_} {n j : Nat} {G : Nat → List Int} {N : Int} (hj : Cl.classOf N = j) (h3 : j < 3) : (takeO d n G N).isSome = (Cl.findS d.f n 1 || decide (0 < (d.F j).length) || decide (0 < (G j).length)) := by
  unfold takeO Cl.findS
  rw [if_neg (by omega), hj, Int.toNat_natCast]
  unfold smallO
  by_cases hG : 0 < (G j).length
  · rw [if_pos hG]; simp [hG]
  · rw [if_neg hG]
    by_cases hF : 0 < (d.F j).length
    · rw [if_pos hF]; simp [hF]
    · rw [if_neg hF]
      cases Cl.findO d.f n 1 <;> simp [hG, hF]
theorem walk (s : Hs) (d : Hd_) (A : Option Addr) (n c : Nat) (U : Nat → Nat → Ls.Sl) (F : Nat → Nat → List Int) (N : Int) (w : World) (hz : Cl.Sz w) (hp : Hp w w.heap.size s d) (hv : Fit64 d.ws) (hsc : s.p.n ≤ s.p.c) (hl : Ls.LRow w w.heap.size A n U F) (hmx : n ≤ maxLen) (_ : n ≤ c) (_ : c ≤ maxLen) (_ : (Lit.int .i64 N).wf = true) :
    Calls Tryz.prog 6 #[(.agg #[.slice s.w.a s.w.n s.w.c, .slice s.p.a s.p.n s.p.c, .slice (s.u 0).a (s.u 0).n (s.u 0).c, .slice (s.u 1).a (s.u 1).n (s.u 1).c, .slice (s.u 2).a (s.u 2).n (s.u 2).c, .slice s.c.a s.c.n s.c.c]), .slice A n c, .int .i64 N] w fun e w' => e = .returned (.bool true) ∧ Below w.heap.size w w' := by
  have hn : n ≤ 9223372036854775807 := by unfold maxLen at hmx; omega
  cases hf : fewL s U n
  · exact walk_few s d A n c U F N w hf hn hz hp hl
  rcases Nat.eq_zero_or_pos n with h0 | hn1
  · exact walk_none s d A n c U F N w hf h0 hn hz hp hl
  obtain ⟨hlt, hn4, hlen⟩ := lite_fewL hf hn1 hp hl hv
  have hz0 := hz.pos
  have l30 : Ls.L3 w w.heap.size (U 0) (F 0) := by
    obtain ⟨_, _, _, _, hc⟩ := hl hn1
    exact (hc 0 hn1).2
  have hfT : FineT s d (U 0) (F 0) := hlt.fineT (by decide) hp.free.len l30.len
  have hmay := fun (W : World) (h : Lh w W s d A n U F) => pmay_any s d A n c U F W h.hp h.lr (by omega) (hz.over h.bel hz0) (by have := hlt.w; omega) (by have := hlt.p; omega) (by have := hlt.c; omega) hlen
  cases hm : mayH s d n F
  · rw [hm] at hmay
    exact walk_may s d A n c U F N w hf hn1 hmay hn hz hp hl
  rw [hm] at hmay
  have hm1 := may_first hn1 hm
  have hof := fun W => Cl.rof_of N W
  obtain ⟨er, her⟩ : ∃ er, er = (tkR s d (F 0) true false false N 0 0).er := ⟨_, rfl⟩
  have htk : ∀ W, Lh w W s d A n U F → Calls Tryz.prog 20 #[(.agg #[.slice s.w.a s.w.n s.w.c, .slice s.p.a s.p.n s.p.c, .slice (s.u 0).a (s.u 0).n (s.u 0).c, .slice (s.u 1).a (s.u 1).n (s.u 1).c, .slice (s.u 2).a (s.u 2).n (s.u 2).c, .slice s.c.a s.c.n s.c.c]), (.agg #[.slice (U 0 0).a (U 0 0).n (U 0 0).c, .slice (U 0 1).a (U 0 1).n (U 0 1).c, .slice (U 0 2).a (U 0 2).n (U 0 2).c]), .agg #[.bool true, .bool false, .bool false, .int .i64 N, .int .i64 0, .int .i64 0]] W fun e w' => ∃ (t : Hs) (v : Nat → Ls.Sl) (a : Int), e = .returned (.tuple #[(.agg #[.slice t.w.a t.w.n t.w.c, .slice t.p.a t.p.n t.p.c, .slice (t.u 0).a (t.u 0).n (t.u 0).c, .slice (t.u 1).a (t.u 1).n (t.u 1).c, .slice (t.u 2).a (t.u 2).n (t.u 2).c, .slice t.c.a t.c.n t.c.c]), (.agg #[.slice (v 0).a (v 0).n (v 0).c, .slice (v 1).a (v 1).n (v 1).c, .slice (v 2).a (v 2).n (v 2).c]), .int .i64 a, .int .i64 er]) ∧ Below W.heap.size W w' :=
    fun W h => (ptake_any s (U 0) d (F 0) true false false N 0 0 W h.hp (lh_l3 h hn1) (hz.over h.bel hz0) hfT).mono fun e w' ⟨t, v, he, _, _, _, hb⟩ => ⟨t, v, _, by rw [her]; exact he, hb⟩
  by_cases hc0 : Cl.classErr N = 0
  · have hx2 : Hd.mayB true false false N 0 0 = true := (Hd.may_used_iff false false N 0 0).2 (by have := class_cases hc0; omega)
    have ha : argE s d (F 0) true false false N 0 0 = 0 := by unfold argE; rw [if_pos ⟨hm1, hx2, rfl⟩]; exact hc0
    obtain ⟨B, hB⟩ : ∃ B, B = (takeO d s.p.n (F 0) N).isSome := ⟨_, rfl⟩
    have hE : (B = true ∧ er = 0) ∨ (B = false ∧ er = 4) := by
      rw [her, hB]
      unfold tkR
      rw [if_pos ha]
      cases takeO d s.p.n (F 0) N
      · exact .inr ⟨rfl, rfl⟩
      · exact .inl ⟨rfl, rfl⟩
    have hrm := fun (W : World) (h : Lh w W s d A n U F) => room_any s (U 0) d (F 0) N W h.hp (lh_l3 h hn1) (hz.over h.bel hz0) hfT
    rw [show roomB s d (F 0) N = B by unfold roomB; rw [← her]; rcases hE with ⟨rfl, rfl⟩ | ⟨rfl, rfl⟩ <;> rfl] at hrm
    have hfd := fun (m : Int) (W : World) (h : Lh w W s d A n U F) => Cl.pfind_any W.heap.size s.p.a s.p.n s.p.c d.f m W (by have := hlt.p; omega) hsc h.hp.pages (Nat.le_refl _)
    rw [hc0] at hof
    refine core_ok s d A n c U F N w (Cl.classOf N) er B (U 0) rfl hE ?_ hf hn1 hmay hof htk hrm hn hz hp hl
    by_cases h3 : Cl.classOf N = 3
    · refine .inl ⟨h3, Cl.findV d.f s.p.n (Cl.runOf N), Cl.runOf N, fun W => ?_, fun W h => ?_⟩
      · have := Cl.rrun_of N W
        rwa [(class_large hc0 h3).1] at this
      · have := hfd (Cl.runOf N) W h
        rwa [← full_large h3, ← hB] at this
    · have hc := class_small h3
      refine .inr ⟨Cl.findV d.f s.p.n 1, Cl.findS d.f s.p.n 1, fun W h => hfd 1 W h, ?_⟩
      have e0 := fun j (hj : j < 3) => hp.free.len j hj
      have g0 := fun j (hj : j < 3) => l30.len j hj
      rcases (show Cl.classOf N = (0 : Nat) ∨ Cl.classOf N = (1 : Nat) ∨ Cl.classOf N = (2 : Nat) by omega) with h | h | h
      · exact .inl ⟨h, by rw [hB, full_small h (by decide), e0 0 (by decide), g0 0 (by decide)]⟩
      · exact .inr (.inl ⟨h, by rw [hB, full_small h (by decide), e0 1 (by decide), g0 1 (by decide)]⟩)
      · exact .inr (.inr ⟨h, by rw [hB, full_small h (by decide), e0 2 (by decide), g0 2 (by decide)]⟩)
  · by_cases hx : Hd.mayB true false false N 0 0 = true
    · have ha : argE s d (F 0) true false false N 0 0 = Cl.classErr N := by unfold argE; rw [if_pos ⟨hm1, hx, rfl⟩]
      have he : er = Cl.classErr N := by rw [her]; unfold tkR; rw [if_neg (by rw [ha]; exact hc0), ha]; rfl
      rw [he] at htk
      exact core_err s d A n c U F N w _ _ (U 0) rfl hc0 hf hn1 hmay hof htk hn hz hp hl
    · have ha : argE s d (F 0) true false false N 0 0 = 1 := by unfold argE; rw [if_neg (fun h => hx h.2.1)]
      have he : er = 1 := by rw [her]; unfold tkR; rw [if_neg (by rw [ha]; decide), ha]; rfl
      rw [he] at htk
      exact core_arg s d A n c U F N w _ _ (U 0) rfl hc0 hf hn1 hmay hof htk hn hz hp hl
-- the frame (hpframe.py)
set_option maxRecDepth 100000 in
theorem lifted (os : Os) (started : os.Started) (H : Type) (enc : TypeId × Value → H) :
    ReturnsInHanded {} Tryz.checked os 6 .any (fun w args => (Rows.allocFullSpec.pre enc Tryz.prog Tryz.f6 [] false w args ∧ laidMetH Tryz.prog laidSizes w) ∧ sizedMet enc Tryz.prog Tryz.f6 (OpenSpec.ofChange Rows.allocFullSpec) false w args)
      (Rows.allocFullSpec.post enc Tryz.prog Tryz.f6 false true false false) := by
  refine returnsInHanded_of_change_and (C := Tryz.checked) (X := fun w _ => laidMetH Tryz.prog laidSizes w) (fun _ _ _ hh h => h.of_heap hh) own started (by kernel_rfl) Tryz.func6
    (ChangeSpec.witness_shaped (enc := enc) (C := Tryz.checked) (os := os) (X := fun w _ => laidMetH Tryz.prog laidSizes w) false (World.doorLaid Tryz.prog 400 os) #[.agg #[.slice none 0 0, .slice none 0 0, .slice none 0 0, .slice none 0 0, .slice none 0 0, .slice none 0 0], .slice none 0 0, .int .i64 0] 8 rfl (World.shaped_of_RefB (by kernel_rfl) (by kernel_rfl)) (by kernel_rfl) (by kernel_rfl) (by kernel_rfl) (door_met os _)) ?_
  intro W base args ds gs before hval0 hW _ _ hL _
  have hval : ∀ (j : Nat) t v, Tryz.f6.params[j]? = some t → args[j]? = some v → Value.okWide Tryz.prog W .any base t v := hval0
  have hW' := hW
  obtain ⟨p, q, hA0, hV, rfl, hfz, hnd⟩ := hW
  have hA : DataW.TrodAll enc Tryz.prog W 0 (fun _ => true) true Tryz.f6.params.toList args.toList ds p := hA0
  rw [Tryz.params6] at hA hval
  obtain ⟨v0, vs0, d0, ds0, p0, q0, hargs, rfl, rfl, h0, r0⟩ := trodAll_cons hA
  obtain ⟨v1, vs1, d1, ds1, p1, q1, rfl, rfl, rfl, h1, r1⟩ := trodAll_cons r0
  obtain ⟨v2, vs2, d2, ds2, p2, q2, rfl, rfl, rfl, h2, r2⟩ := trodAll_cons r1
  obtain ⟨rfl, rfl, rfl⟩ := trodAll_nil r2
  obtain rfl : args = #[v0, v1, v2] := by cases args; simp_all
  obtain ⟨rfl, rfl⟩ := trodVars_none hV
  have k0 := h0
  have lt0 : ∀ x ∈ p0, x.block < W.heap.size := by obtain ⟨m, hm⟩ := k0; exact DataW.trod_lt m _ _ _ hm
  obtain ⟨s0, z0, rfl, w0, f0, b0⟩ := heap_of8 (hval 0 28 v0 rfl rfl) h0
  have k1 := h1
  have lt1 : ∀ x ∈ p1, x.block < W.heap.size := by obtain ⟨m, hm⟩ := k1; exact DataW.trod_lt m _ _ _ hm
  obtain ⟨a1, len1, cap1, rfl⟩ := okWide_slice Tryz.underlying41 (hval 1 41 v1 rfl rfl)
  obtain ⟨u1, z1, w1, m1, b1⟩ := rows_of h1
  have c1 := cap_of h1
  obtain ⟨a2, rfl, rfl, rfl, w2⟩ := open_int Tryz.underlying3 (hval 2 3 v2 rfl rfl) h2
  clear hA0 hval0
  refine (walk s0 z0 a1 len1 cap1 u1 z1 a2 W (of_laid hL) w0 f0 b0 w1 m1 c1.1 c1.2 w2).mono fun e W' ⟨he, bel⟩ => ?_
  subst he
  exact ⟨_, rfl, _, _, _, [], _, [], hW', trodAll_mk1 (shut_bool Tryz.underlying4 _), (trodAll_cons_mk (Below.trod laidOut (by kernel_rfl) (of_decide_eq_true (by kernel_rfl)) k0 bel lt0) (trodAll_cons_mk (Below.trod laidOut (by kernel_rfl) (of_decide_eq_true (by kernel_rfl)) k1 bel lt1) (trodAll_cons_mk (shut_int Tryz.underlying3 w2) trodAll_mk0))), rfl, bel.frame _, fun h => by cases h⟩

theorem over : Rows.AllocFullSaid :=
  OpenClaim.holds_of_wide 6 Tryz.f6 rfl rfl rfl rfl rfl rfl rfl ⟨rfl, rfl, rfl, rfl, rfl⟩ rfl rfl rfl rfl rfl (by kernel_rfl) Tryz.func6 (by kernel_rfl)
    (of_decide_eq_true (by kernel_rfl)) (by unfold Func.isWrapper; first | (rw [if_pos (by decide +kernel)]; kernel_rfl) | (rw [if_neg (by decide +kernel)]; exact ⟨rfl, rfl⟩))
    (fun os started H enc _ => lifted os started H enc)

/-- The statement: the card. -/
theorem proved : Rows.AllocFullCardSaid :=
  Claim7.holds_tied_plain_at .later [] [.data] true Rows.allocFullCard.stood.harness false
    over (fun _ h => by cases h) (by kernel_rfl) (fun _ h => by cases h) allocFull_row_tie rfl ⟨rfl, rfl⟩ (by kernel_rfl) rfl
    (fun f fn hf hfn => by
      obtain rfl : f = 6 := Option.some.inj ((show Tryz.prog.funcNamed "ragpicker/ragpickerlaw08.AllocFull" = some 6 by kernel_rfl).symm.trans hf) |>.symm
      obtain rfl : fn = Tryz.f6 := (Option.some.inj (Tryz.func6.symm.trans hfn)).symm
      exact ⟨by kernel_rfl, fun j t ht => by
        rw [Tryz.params6] at ht
        have hm : t ∈ [28, 41, 3] := by simpa using Array.mem_of_getElem? ht
        have hall : ([28, 41, 3].all fun u => !Tryz.prog.wantsStandIn u) = true := by kernel_rfl
        exact (show Tryz.prog.wantsStandIn t = false by simpa using List.all_eq_true.1 hall t hm)⟩)
    (by kernel_rfl)
#print axioms proved
end Go.Proofs.YthgcaehhjiccbaaGreatDoor.AllocFull
