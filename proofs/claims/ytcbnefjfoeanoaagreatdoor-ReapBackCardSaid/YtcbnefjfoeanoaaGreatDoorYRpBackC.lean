/-
  ReapBack: ReapBack's walks.
-/
import Derived.Test.YtcbnefjfoeanoaaGreatDoorHpYH
namespace Go.Proofs.YtcbnefjfoeanoaaGreatDoor.ReapBack
open Go.Proofs.YtcbnefjfoeanoaaGreatDoor Go.Proofs.YtcbnefjfoeanoaaGreatDoor.Rp
open Go.ChangeShapes Go.WideShapes Go.ChangeAt Go.RowKit
set_option maxRecDepth 100000

section
variable (s : Hs) (d : Hd_) (A : Option Addr) (n c : Nat) (U : Nat → Nat → Ls.Sl) (F : Nat → Nat → List Int) (N : Int) (w : World)
set_option maxHeartbeats 1000000 in
theorem walk_few (hf : Rp.fewL s U n = false) (hn : n ≤ 9223372036854775807) (hz : Cl.Sz w) (hp : Hp w w.heap.size s d) (hl : Ls.LRow w w.heap.size A n U F) : Calls Tryz.prog 6 #[(.agg #[.slice s.w.a s.w.n s.w.c, .slice s.p.a s.p.n s.p.c, .slice (s.u 0).a (s.u 0).n (s.u 0).c, .slice (s.u 1).a (s.u 1).n (s.u 1).c, .slice (s.u 2).a (s.u 2).n (s.u 2).c, .slice s.c.a s.c.n s.c.c]), .slice A n c, .int .i64 N] w fun e w' => e = .returned (.bool true) ∧ Below w.heap.size w w' := by
  have HZ := Lib.hid hz
  have hz0 := hz.pos
  have HP := Lib.hid hp
  have HL := Lib.hid hl
  have HF := Lib.hid hf
  clear hz hp hl hf
  go_enter Tryz.func6, Tryz.ntmps6
  go_wp2_with fail
  obtain ⟨W1, hW1⟩ : ∃ W1, W1 = w.alloc (.cells #[.slice s.w.a s.w.n s.w.c, .slice s.p.a s.p.n s.p.c, .slice (s.u 0).a (s.u 0).n (s.u 0).c, .slice (s.u 1).a (s.u 1).n (s.u 1).c, .slice (s.u 2).a (s.u 2).n (s.u 2).c, .slice s.c.a s.c.n s.c.c] 28) := ⟨_, rfl⟩
  have L1 := Lib.hid (lx_start HP.out HL.out hW1)
  rw [← hW1]
  clear hW1
  refine (Rp.awake_any W1 (HZ.out.over L1.out.bel hz0)).mono ?_
  rintro e9 w1 ⟨rfl, hb1⟩
  have L2 := Lib.hid (L1.out.next hb1)
  clear hb1 L1
  have q0 := (L2.out.at (w.heap.size) (s) (d) (by simp)).c0
  have q1 := (L2.out.at (w.heap.size) (s) (d) (by simp)).c1
  have q2 := (L2.out.at (w.heap.size) (s) (d) (by simp)).c2
  have q3 := (L2.out.at (w.heap.size) (s) (d) (by simp)).c3
  have q4 := (L2.out.at (w.heap.size) (s) (d) (by simp)).c4
  have q5 := (L2.out.at (w.heap.size) (s) (d) (by simp)).c5
  have ql := (L2.out.at (w.heap.size) (s) (d) (by simp)).lt
  go_wp2_with fail
  refine (few9_any s A _ c U F w1 hn L2.out.lr).mono ?_
  rw [HF.out]
  rintro e9 w2 ⟨rfl, hb2⟩
  have L3 := Lib.hid (L2.out.next hb2)
  clear hb2 L2
  clear q0 q1 q2 q3 q4 q5 ql
  go_wp2
  go_ret
  exact ⟨rfl, L3.out.bel⟩
set_option maxHeartbeats 1000000 in
theorem walk_none (hf : Rp.fewL s U n = true) (h0 : n = 0) (hn : n ≤ 9223372036854775807) (hz : Cl.Sz w) (hp : Hp w w.heap.size s d) (hl : Ls.LRow w w.heap.size A n U F) : Calls Tryz.prog 6 #[(.agg #[.slice s.w.a s.w.n s.w.c, .slice s.p.a s.p.n s.p.c, .slice (s.u 0).a (s.u 0).n (s.u 0).c, .slice (s.u 1).a (s.u 1).n (s.u 1).c, .slice (s.u 2).a (s.u 2).n (s.u 2).c, .slice s.c.a s.c.n s.c.c]), .slice A n c, .int .i64 N] w fun e w' => e = .returned (.bool true) ∧ Below w.heap.size w w' := by
  subst h0
  have HZ := Lib.hid hz
  have hz0 := hz.pos
  have HP := Lib.hid hp
  have HL := Lib.hid hl
  have HF := Lib.hid hf
  clear hz hp hl hf
  go_enter Tryz.func6, Tryz.ntmps6
  go_wp2_with fail
  obtain ⟨W1, hW1⟩ : ∃ W1, W1 = w.alloc (.cells #[.slice s.w.a s.w.n s.w.c, .slice s.p.a s.p.n s.p.c, .slice (s.u 0).a (s.u 0).n (s.u 0).c, .slice (s.u 1).a (s.u 1).n (s.u 1).c, .slice (s.u 2).a (s.u 2).n (s.u 2).c, .slice s.c.a s.c.n s.c.c] 28) := ⟨_, rfl⟩
  have L1 := Lib.hid (lx_start HP.out HL.out hW1)
  rw [← hW1]
  clear hW1
  refine (Rp.awake_any W1 (HZ.out.over L1.out.bel hz0)).mono ?_
  rintro e9 w1 ⟨rfl, hb1⟩
  have L2 := Lib.hid (L1.out.next hb1)
  clear hb1 L1
  have q0 := (L2.out.at (w.heap.size) (s) (d) (by simp)).c0
  have q1 := (L2.out.at (w.heap.size) (s) (d) (by simp)).c1
  have q2 := (L2.out.at (w.heap.size) (s) (d) (by simp)).c2
  have q3 := (L2.out.at (w.heap.size) (s) (d) (by simp)).c3
  have q4 := (L2.out.at (w.heap.size) (s) (d) (by simp)).c4
  have q5 := (L2.out.at (w.heap.size) (s) (d) (by simp)).c5
  have ql := (L2.out.at (w.heap.size) (s) (d) (by simp)).lt
  go_wp2_with fail
  refine (few9_any s A _ c U F w1 hn L2.out.lr).mono ?_
  rw [HF.out]
  rintro e9 w2 ⟨rfl, hb2⟩
  have L3 := Lib.hid (L2.out.next hb2)
  clear hb2 L2
  clear q0 q1 q2 q3 q4 q5 ql
  go_wp2
  go_ret
  exact ⟨rfl, L3.out.bel⟩
set_option maxHeartbeats 1000000 in
theorem walk_whole (hf : Rp.fewL s U n = true) (hn1 : 0 < n) (hwh : ∀ W, Lx w W A n U F [(w.heap.size, s, d)] → Calls Tryz.prog 16 #[(.agg #[.slice s.w.a s.w.n s.w.c, .slice s.p.a s.p.n s.p.c, .slice (s.u 0).a (s.u 0).n (s.u 0).c, .slice (s.u 1).a (s.u 1).n (s.u 1).c, .slice (s.u 2).a (s.u 2).n (s.u 2).c, .slice s.c.a s.c.n s.c.c]), .slice A n c] W fun e w' => e = .returned (.bool false) ∧ Below W.heap.size W w') (hn : n ≤ 9223372036854775807) (hz : Cl.Sz w) (hp : Hp w w.heap.size s d) (hl : Ls.LRow w w.heap.size A n U F) : Calls Tryz.prog 6 #[(.agg #[.slice s.w.a s.w.n s.w.c, .slice s.p.a s.p.n s.p.c, .slice (s.u 0).a (s.u 0).n (s.u 0).c, .slice (s.u 1).a (s.u 1).n (s.u 1).c, .slice (s.u 2).a (s.u 2).n (s.u 2).c, .slice s.c.a s.c.n s.c.c]), .slice A n c, .int .i64 N] w fun e w' => e = .returned (.bool true) ∧ Below w.heap.size w w' := by
  have HZ := Lib.hid hz
  have hz0 := hz.pos
  have HP := Lib.hid hp
  have HL := Lib.hid hl
  have HF := Lib.hid hf
  have HWH := Lib.hid hwh
  clear hz hp hl hf hwh
  go_enter Tryz.func6, Tryz.ntmps6
  go_wp2_with fail
  obtain ⟨W1, hW1⟩ : ∃ W1, W1 = w.alloc (.cells #[.slice s.w.a s.w.n s.w.c, .slice s.p.a s.p.n s.p.c, .slice (s.u 0).a (s.u 0).n (s.u 0).c, .slice (s.u 1).a (s.u 1).n (s.u 1).c, .slice (s.u 2).a (s.u 2).n (s.u 2).c, .slice s.c.a s.c.n s.c.c] 28) := ⟨_, rfl⟩
  have L1 := Lib.hid (lx_start HP.out HL.out hW1)
  rw [← hW1]
  clear hW1
  refine (Rp.awake_any W1 (HZ.out.over L1.out.bel hz0)).mono ?_
  rintro e9 w1 ⟨rfl, hb1⟩
  have L2 := Lib.hid (L1.out.next hb1)
  clear hb1 L1
  have q0 := (L2.out.at (w.heap.size) (s) (d) (by simp)).c0
  have q1 := (L2.out.at (w.heap.size) (s) (d) (by simp)).c1
  have q2 := (L2.out.at (w.heap.size) (s) (d) (by simp)).c2
  have q3 := (L2.out.at (w.heap.size) (s) (d) (by simp)).c3
  have q4 := (L2.out.at (w.heap.size) (s) (d) (by simp)).c4
  have q5 := (L2.out.at (w.heap.size) (s) (d) (by simp)).c5
  have ql := (L2.out.at (w.heap.size) (s) (d) (by simp)).lt
  go_wp2_with fail
  refine (few9_any s A _ c U F w1 hn L2.out.lr).mono ?_
  rw [HF.out]
  rintro e9 w2 ⟨rfl, hb2⟩
  have L3 := Lib.hid (L2.out.next hb2)
  clear hb2 L2
  clear q0 q1 q2 q3 q4 q5 ql
  have d1 : decide ((n : Int) < 1) = false := by simp; omega
  have q0 := (L3.out.at (w.heap.size) (s) (d) (by simp)).c0
  have q1 := (L3.out.at (w.heap.size) (s) (d) (by simp)).c1
  have q2 := (L3.out.at (w.heap.size) (s) (d) (by simp)).c2
  have q3 := (L3.out.at (w.heap.size) (s) (d) (by simp)).c3
  have q4 := (L3.out.at (w.heap.size) (s) (d) (by simp)).c4
  have q5 := (L3.out.at (w.heap.size) (s) (d) (by simp)).c5
  have ql := (L3.out.at (w.heap.size) (s) (d) (by simp)).lt
  go_wp2_with fail
  refine (HWH.out w2 L3.out).mono ?_
  rintro e9 w3 ⟨rfl, hb9⟩
  have L4 := Lib.hid (L3.out.next hb9)
  clear hb9 L3
  go_wp2
  go_ret
  exact ⟨rfl, L4.out.bel⟩
set_option maxHeartbeats 8000000 in
theorem core_err (er a : Int) (wn pn cn : Nat) (d' : Hd_) (G' : Nat → List Int) (her : ¬ er = 0) (u : Nat → Ls.Sl) (hu : U 0 = u) (hf : Rp.fewL s U n = true) (hn1 : 0 < n) (hwh : ∀ W, Lx w W A n U F [(w.heap.size, s, d)] → Calls Tryz.prog 16 #[(.agg #[.slice s.w.a s.w.n s.w.c, .slice s.p.a s.p.n s.p.c, .slice (s.u 0).a (s.u 0).n (s.u 0).c, .slice (s.u 1).a (s.u 1).n (s.u 1).c, .slice (s.u 2).a (s.u 2).n (s.u 2).c, .slice s.c.a s.c.n s.c.c]), .slice A n c] W fun e w' => e = .returned (.bool true) ∧ Below W.heap.size W w') (htk : ∀ W, Lx w W A n U F [(w.heap.size, s, d)] → Calls Tryz.prog 11 #[(.agg #[.slice s.w.a s.w.n s.w.c, .slice s.p.a s.p.n s.p.c, .slice (s.u 0).a (s.u 0).n (s.u 0).c, .slice (s.u 1).a (s.u 1).n (s.u 1).c, .slice (s.u 2).a (s.u 2).n (s.u 2).c, .slice s.c.a s.c.n s.c.c]), (.agg #[.slice (u 0).a (u 0).n (u 0).c, .slice (u 1).a (u 1).n (u 1).c, .slice (u 2).a (u 2).n (u 2).c]), .agg #[.bool true, .bool false, .bool false, .int .i64 N, .int .i64 0, .int .i64 0]] W fun e w' => ∃ (t : Hs) (v : Nat → Ls.Sl), e = .returned (.tuple #[(.agg #[.slice t.w.a t.w.n t.w.c, .slice t.p.a t.p.n t.p.c, .slice (t.u 0).a (t.u 0).n (t.u 0).c, .slice (t.u 1).a (t.u 1).n (t.u 1).c, .slice (t.u 2).a (t.u 2).n (t.u 2).c, .slice t.c.a t.c.n t.c.c]), (.agg #[.slice (v 0).a (v 0).n (v 0).c, .slice (v 1).a (v 1).n (v 1).c, .slice (v 2).a (v 2).n (v 2).c]), .int .i64 a, .int .i64 er]) ∧ Hp w' w'.heap.size t d' ∧ Ls.L3 w' w'.heap.size v G' ∧ (t.w.n = wn ∧ t.p.n = pn ∧ t.c.n = cn) ∧ Below W.heap.size W w') (hn : n ≤ 9223372036854775807) (hz : Cl.Sz w) (hp : Hp w w.heap.size s d) (hl : Ls.LRow w w.heap.size A n U F) : Calls Tryz.prog 6 #[(.agg #[.slice s.w.a s.w.n s.w.c, .slice s.p.a s.p.n s.p.c, .slice (s.u 0).a (s.u 0).n (s.u 0).c, .slice (s.u 1).a (s.u 1).n (s.u 1).c, .slice (s.u 2).a (s.u 2).n (s.u 2).c, .slice s.c.a s.c.n s.c.c]), .slice A n c, .int .i64 N] w fun e w' => e = .returned (.bool true) ∧ Below w.heap.size w w' := by
  have HZ := Lib.hid hz
  have hz0 := hz.pos
  have HP := Lib.hid hp
  have HL := Lib.hid hl
  have HF := Lib.hid hf
  have d0 : (er != 0) = true := by simp [her]
  have HWH := Lib.hid hwh
  have TK := Lib.hid htk
  clear hz hp hl hf hwh htk
  go_enter Tryz.func6, Tryz.ntmps6
  go_wp2_with fail
  obtain ⟨W1, hW1⟩ : ∃ W1, W1 = w.alloc (.cells #[.slice s.w.a s.w.n s.w.c, .slice s.p.a s.p.n s.p.c, .slice (s.u 0).a (s.u 0).n (s.u 0).c, .slice (s.u 1).a (s.u 1).n (s.u 1).c, .slice (s.u 2).a (s.u 2).n (s.u 2).c, .slice s.c.a s.c.n s.c.c] 28) := ⟨_, rfl⟩
  have L1 := Lib.hid (lx_start HP.out HL.out hW1)
  rw [← hW1]
  clear hW1
  refine (Rp.awake_any W1 (HZ.out.over L1.out.bel hz0)).mono ?_
  rintro e9 w1 ⟨rfl, hb1⟩
  have L2 := Lib.hid (L1.out.next hb1)
  clear hb1 L1
  have q0 := (L2.out.at (w.heap.size) (s) (d) (by simp)).c0
  have q1 := (L2.out.at (w.heap.size) (s) (d) (by simp)).c1
  have q2 := (L2.out.at (w.heap.size) (s) (d) (by simp)).c2
  have q3 := (L2.out.at (w.heap.size) (s) (d) (by simp)).c3
  have q4 := (L2.out.at (w.heap.size) (s) (d) (by simp)).c4
  have q5 := (L2.out.at (w.heap.size) (s) (d) (by simp)).c5
  have ql := (L2.out.at (w.heap.size) (s) (d) (by simp)).lt
  go_wp2_with fail
  refine (few9_any s A _ c U F w1 hn L2.out.lr).mono ?_
  rw [HF.out]
  rintro e9 w2 ⟨rfl, hb2⟩
  have L3 := Lib.hid (L2.out.next hb2)
  clear hb2 L2
  clear q0 q1 q2 q3 q4 q5 ql
  have d1 : decide ((n : Int) < 1) = false := by simp; omega
  have q0 := (L3.out.at (w.heap.size) (s) (d) (by simp)).c0
  have q1 := (L3.out.at (w.heap.size) (s) (d) (by simp)).c1
  have q2 := (L3.out.at (w.heap.size) (s) (d) (by simp)).c2
  have q3 := (L3.out.at (w.heap.size) (s) (d) (by simp)).c3
  have q4 := (L3.out.at (w.heap.size) (s) (d) (by simp)).c4
  have q5 := (L3.out.at (w.heap.size) (s) (d) (by simp)).c5
  have ql := (L3.out.at (w.heap.size) (s) (d) (by simp)).lt
  go_wp2_with fail
  refine (HWH.out w2 L3.out).mono ?_
  rintro e9 w3 ⟨rfl, hb9⟩
  have L4 := Lib.hid (L3.out.next hb9)
  clear hb9 L3
  clear q0 q1 q2 q3 q4 q5 ql
  have hlb : Hid (Ls.LRow w3 w3.heap.size A n U F) := Lib.hid L4.out.lr
  obtain ⟨bb, off, hA, hbl, hcl⟩ := hlb.out hn1
  subst hA
  clear hcl hbl hlb
  have i0 : (0 : Int) < n := by omega
  have HU := Lib.hid hu
  clear hu
  go_upto_region 5 with fail
  go_cut [9, 10, 11, 12] from 9 to 51 (fun p q aa ee wx => aa = .int .i64 a ∧ ee = .int .i64 er ∧ ∃ bk bc t v, p = .pointer (some ⟨bk, 0, none⟩) ∧ q = .pointer (some ⟨bc, 0, none⟩) ∧ (t.w.n = wn ∧ t.p.n = pn ∧ t.c.n = cn) ∧ Hid (Lx w wx (some ⟨bb, off, none⟩) n U F [(w.heap.size, s, d)]) ∧ Hid (Al.K2 w3 wx bk bc t v d' G'))
  case first =>
    go_region_held3 (fun W => (Below w3.heap.size w3 W ∧ True) ∧ (w.heap.size < W.heap.size ∧ W.cell? ⟨w.heap.size, 0, none⟩ = some (.slice s.w.a s.w.n s.w.c) ∧ W.cell? ⟨w.heap.size, 1, none⟩ = some (.slice s.p.a s.p.n s.p.c) ∧ W.cell? ⟨w.heap.size, 2, none⟩ = some (.slice (s.u 0).a (s.u 0).n (s.u 0).c) ∧ W.cell? ⟨w.heap.size, 3, none⟩ = some (.slice (s.u 1).a (s.u 1).n (s.u 1).c) ∧ W.cell? ⟨w.heap.size, 4, none⟩ = some (.slice (s.u 2).a (s.u 2).n (s.u 2).c) ∧ W.cell? ⟨w.heap.size, 5, none⟩ = some (.slice s.c.a s.c.n s.c.c)) ∧ bb < W.heap.size ∧ W.cell? ⟨bb, off, none⟩ = some (.slice (u 0).a (u 0).n (u 0).c) ∧ W.cell? ⟨bb, off + 1, none⟩ = some (.slice (u 1).a (u 1).n (u 1).c) ∧ W.cell? ⟨bb, off + 2, none⟩ = some (.slice (u 2).a (u 2).n (u 2).c)) (((with_reducible refine lx_keepF (b1 := w.heap.size) (t1 := s) (d1 := d) u (by simp) L4.out hn1 HU.out ?_); repeat' (first | with_reducible exact H4.out | with_reducible exact Below.refl _ _ | with_reducible refine bl_set ?_ ?_ _ | with_reducible refine bl_alloc ?_ _ | with_reducible refine bl_drew ?_ | with_reducible exact Nat.le_refl _ | with_reducible exact Nat.le_succ _ | omega))) (first
      | ((go_at_call 11; (with_reducible refine (TK.out (World.drew w3) (L4.out.next (bl_drew (Below.refl _ _)))).mono ?_); rintro e9 w4 ⟨⟨⟨A1, m1, D1⟩, ⟨A2, m2, D2⟩, t4, ⟨A3, m3, D3⟩⟩, v4, rfl, ht, hv, hnn, hb4⟩; dsimp only; have H4 := Lib.hid (bl_call (bl_drew (Below.refl _ _)) hb4); have T4 := Lib.hid ht; have V4 := Lib.hid hv; have N4 := Lib.hid hnn; clear ht hv hb4 hnn))
      | ((go_at_call 11; (with_reducible refine (TK.out (World.drew (World.alloc w3 (.cells #[.slice none 0 0, .slice none 0 0, .slice none 0 0, .slice none 0 0, .slice none 0 0, .slice none 0 0] 28))) (L4.out.next (bl_drew (bl_alloc (Below.refl _ _) _)))).mono ?_); rintro e9 w4 ⟨⟨⟨A1, m1, D1⟩, ⟨A2, m2, D2⟩, t4, ⟨A3, m3, D3⟩⟩, v4, rfl, ht, hv, hnn, hb4⟩; dsimp only; have H4 := Lib.hid (bl_call (bl_drew (bl_alloc (Below.refl _ _) _)) hb4); have T4 := Lib.hid ht; have V4 := Lib.hid hv; have N4 := Lib.hid hnn; obtain ⟨z, xa0, xa1, xa2, xa3, xa4, xa5, ya0, ya1, ya2, ya3, ya4, ya5⟩ := Al.old6d hb4; have O6 := Lib.hid (Al.kold6 hb4); clear ht hv hb4 hnn))
      | ((go_at_call 11; (with_reducible refine (TK.out (World.drew (World.alloc w3 (.cells #[.slice none 0 0, .slice none 0 0, .slice none 0 0] 25))) (L4.out.next (bl_drew (bl_alloc (Below.refl _ _) _)))).mono ?_); rintro e9 w4 ⟨⟨⟨A1, m1, D1⟩, ⟨A2, m2, D2⟩, t4, ⟨A3, m3, D3⟩⟩, v4, rfl, ht, hv, hnn, hb4⟩; dsimp only; have H4 := Lib.hid (bl_call (bl_drew (bl_alloc (Below.refl _ _) _)) hb4); have T4 := Lib.hid ht; have V4 := Lib.hid hv; have N4 := Lib.hid hnn; obtain ⟨z, xa0, xa1, xa2, ya0, ya1, ya2⟩ := Al.old3d hb4; have O3 := Lib.hid (Al.kold3 hb4); clear ht hv hb4 hnn))
      | ((go_at_call 11; (with_reducible refine (TK.out (World.drew (World.alloc (World.alloc w3 (.cells #[.slice none 0 0, .slice none 0 0, .slice none 0 0, .slice none 0 0, .slice none 0 0, .slice none 0 0] 28)) (.cells #[.slice none 0 0, .slice none 0 0, .slice none 0 0] 25))) (L4.out.next (bl_drew (bl_alloc (bl_alloc (Below.refl _ _) _) _)))).mono ?_); rintro e9 w4 ⟨⟨⟨A1, m1, D1⟩, ⟨A2, m2, D2⟩, t4, ⟨A3, m3, D3⟩⟩, v4, rfl, ht, hv, hnn, hb4⟩; dsimp only; have H4 := Lib.hid (bl_call (bl_drew (bl_alloc (bl_alloc (Below.refl _ _) _) _)) hb4); have T4 := Lib.hid ht; have V4 := Lib.hid hv; have N4 := Lib.hid hnn; obtain ⟨⟨z, xb0, xb1, xb2, yb0, yb1, yb2⟩, zz, xa0, xa1, xa2, xa3, xa4, xa5, ya0, ya1, ya2, ya3, ya4, ya5⟩ := Al.old63d hb4; have O63 := Lib.hid (Al.kold63 hb4); clear ht hv hb4 hnn))
      | ((go_at_call 11; (with_reducible refine (TK.out (World.drew (World.alloc (World.alloc w3 (.cells #[.slice none 0 0, .slice none 0 0, .slice none 0 0] 25)) (.cells #[.slice none 0 0, .slice none 0 0, .slice none 0 0, .slice none 0 0, .slice none 0 0, .slice none 0 0] 28))) (L4.out.next (bl_drew (bl_alloc (bl_alloc (Below.refl _ _) _) _)))).mono ?_); rintro e9 w4 ⟨⟨⟨A1, m1, D1⟩, ⟨A2, m2, D2⟩, t4, ⟨A3, m3, D3⟩⟩, v4, rfl, ht, hv, hnn, hb4⟩; dsimp only; have H4 := Lib.hid (bl_call (bl_drew (bl_alloc (bl_alloc (Below.refl _ _) _) _)) hb4); have T4 := Lib.hid ht; have V4 := Lib.hid hv; have N4 := Lib.hid hnn; obtain ⟨⟨z, xb0, xb1, xb2, xb3, xb4, xb5, yb0, yb1, yb2, yb3, yb4, yb5⟩, zz, xa0, xa1, xa2, ya0, ya1, ya2⟩ := Al.old36d hb4; have O36 := Lib.hid (Al.kold36 hb4); clear ht hv hb4 hnn)))
    all_goals go_wp2_with fail
    all_goals go_meet
    all_goals first
      | with_reducible exact ⟨rfl, rfl, _, _, ⟨⟨A1, m1, D1⟩, ⟨A2, m2, D2⟩, t4, ⟨A3, m3, D3⟩⟩, v4, rfl, rfl, N4.out, Lib.hid (L4.out.next (Al.way1 (t := ⟨⟨A1, m1, D1⟩, ⟨A2, m2, D2⟩, t4, ⟨A3, m3, D3⟩⟩) (v := v4) H4.out T4.out V4.out).bel), Lib.hid (Al.way1 (t := ⟨⟨A1, m1, D1⟩, ⟨A2, m2, D2⟩, t4, ⟨A3, m3, D3⟩⟩) (v := v4) H4.out T4.out V4.out)⟩
      | with_reducible exact ⟨rfl, rfl, _, _, ⟨⟨A1, m1, D1⟩, ⟨A2, m2, D2⟩, t4, ⟨A3, m3, D3⟩⟩, v4, rfl, rfl, N4.out, Lib.hid (L4.out.next (Al.way2 (t := ⟨⟨A1, m1, D1⟩, ⟨A2, m2, D2⟩, t4, ⟨A3, m3, D3⟩⟩) (v := v4) H4.out T4.out V4.out).bel), Lib.hid (Al.way2 (t := ⟨⟨A1, m1, D1⟩, ⟨A2, m2, D2⟩, t4, ⟨A3, m3, D3⟩⟩) (v := v4) H4.out T4.out V4.out)⟩
      | with_reducible exact ⟨rfl, rfl, _, _, ⟨⟨A1, m1, D1⟩, ⟨A2, m2, D2⟩, t4, ⟨A3, m3, D3⟩⟩, v4, rfl, rfl, N4.out, Lib.hid (L4.out.next (Al.way3r (t := ⟨⟨A1, m1, D1⟩, ⟨A2, m2, D2⟩, t4, ⟨A3, m3, D3⟩⟩) (v := v4) H4.out T4.out V4.out O6.out).bel), Lib.hid (Al.way3r (t := ⟨⟨A1, m1, D1⟩, ⟨A2, m2, D2⟩, t4, ⟨A3, m3, D3⟩⟩) (v := v4) H4.out T4.out V4.out O6.out)⟩
      | with_reducible exact ⟨rfl, rfl, _, _, ⟨⟨A1, m1, D1⟩, ⟨A2, m2, D2⟩, t4, ⟨A3, m3, D3⟩⟩, v4, rfl, rfl, N4.out, Lib.hid (L4.out.next (Al.way4r (t := ⟨⟨A1, m1, D1⟩, ⟨A2, m2, D2⟩, t4, ⟨A3, m3, D3⟩⟩) (v := v4) H4.out T4.out V4.out O63.out).bel), Lib.hid (Al.way4r (t := ⟨⟨A1, m1, D1⟩, ⟨A2, m2, D2⟩, t4, ⟨A3, m3, D3⟩⟩) (v := v4) H4.out T4.out V4.out O63.out)⟩
      | with_reducible exact ⟨rfl, rfl, _, _, ⟨⟨A1, m1, D1⟩, ⟨A2, m2, D2⟩, t4, ⟨A3, m3, D3⟩⟩, v4, rfl, rfl, N4.out, Lib.hid (L4.out.next (Al.way5r (t := ⟨⟨A1, m1, D1⟩, ⟨A2, m2, D2⟩, t4, ⟨A3, m3, D3⟩⟩) (v := v4) H4.out T4.out V4.out O3.out).bel), Lib.hid (Al.way5r (t := ⟨⟨A1, m1, D1⟩, ⟨A2, m2, D2⟩, t4, ⟨A3, m3, D3⟩⟩) (v := v4) H4.out T4.out V4.out O3.out)⟩
      | with_reducible exact ⟨rfl, rfl, _, _, ⟨⟨A1, m1, D1⟩, ⟨A2, m2, D2⟩, t4, ⟨A3, m3, D3⟩⟩, v4, rfl, rfl, N4.out, Lib.hid (L4.out.next (Al.way6r (t := ⟨⟨A1, m1, D1⟩, ⟨A2, m2, D2⟩, t4, ⟨A3, m3, D3⟩⟩) (v := v4) H4.out T4.out V4.out O36.out).bel), Lib.hid (Al.way6r (t := ⟨⟨A1, m1, D1⟩, ⟨A2, m2, D2⟩, t4, ⟨A3, m3, D3⟩⟩) (v := v4) H4.out T4.out V4.out O36.out)⟩
  case rest =>
    obtain ⟨rfl, rfl, bk, bc, t, v, rfl, rfl, hnn, L5, K5⟩ := hcut
    clear L4 TK
    go_wp2
    go_ret
    exact ⟨rfl, L5.out.bel⟩
set_option maxHeartbeats 8000000 in
theorem core_ok (a : Int) (d' dB : Hd_) (G' : Nat → List Int) (K : Nat) (hnc : n ≤ c) (hn4 : n ≤ 4) (u : Nat → Ls.Sl) (hu : U 0 = u) (hf : Rp.fewL s U n = true) (hn1 : 0 < n) (hwh : ∀ W, Lx w W A n U F [(w.heap.size, s, d)] → Calls Tryz.prog 16 #[(.agg #[.slice s.w.a s.w.n s.w.c, .slice s.p.a s.p.n s.p.c, .slice (s.u 0).a (s.u 0).n (s.u 0).c, .slice (s.u 1).a (s.u 1).n (s.u 1).c, .slice (s.u 2).a (s.u 2).n (s.u 2).c, .slice s.c.a s.c.n s.c.c]), .slice A n c] W fun e w' => e = .returned (.bool true) ∧ Below W.heap.size W w') (htk : ∀ W, Lx w W A n U F [(w.heap.size, s, d)] → Calls Tryz.prog 11 #[(.agg #[.slice s.w.a s.w.n s.w.c, .slice s.p.a s.p.n s.p.c, .slice (s.u 0).a (s.u 0).n (s.u 0).c, .slice (s.u 1).a (s.u 1).n (s.u 1).c, .slice (s.u 2).a (s.u 2).n (s.u 2).c, .slice s.c.a s.c.n s.c.c]), (.agg #[.slice (u 0).a (u 0).n (u 0).c, .slice (u 1).a (u 1).n (u 1).c, .slice (u 2).a (u 2).n (u 2).c]), .agg #[.bool true, .bool false, .bool false, .int .i64 N, .int .i64 0, .int .i64 0]] W fun e w' => ∃ (t : Hs) (v : Nat → Ls.Sl), e = .returned (.tuple #[(.agg #[.slice t.w.a t.w.n t.w.c, .slice t.p.a t.p.n t.p.c, .slice (t.u 0).a (t.u 0).n (t.u 0).c, .slice (t.u 1).a (t.u 1).n (t.u 1).c, .slice (t.u 2).a (t.u 2).n (t.u 2).c, .slice t.c.a t.c.n t.c.c]), (.agg #[.slice (v 0).a (v 0).n (v 0).c, .slice (v 1).a (v 1).n (v 1).c, .slice (v 2).a (v 2).n (v 2).c]), .int .i64 a, .int .i64 0]) ∧ Hp w' w'.heap.size t d' ∧ Ls.L3 w' w'.heap.size v G' ∧ (t.w.n = s.w.n ∧ t.p.n = s.p.n ∧ t.c.n = s.c.n) ∧ Below W.heap.size W w') (hf1 : ∀ W t, (t.w.n = s.w.n ∧ t.p.n = s.p.n ∧ t.c.n = s.c.n) → Hp W W.heap.size t d' → Below w.heap.size w W → Calls Tryz.prog 22 #[(.agg #[.slice t.w.a t.w.n t.w.c, .slice t.p.a t.p.n t.p.c, .slice (t.u 0).a (t.u 0).n (t.u 0).c, .slice (t.u 1).a (t.u 1).n (t.u 1).c, .slice (t.u 2).a (t.u 2).n (t.u 2).c, .slice t.c.a t.c.n t.c.c]), .int .i64 a] W fun e w' => ∃ t1 : Hs, e = .returned (.tuple #[(.agg #[.slice t1.w.a t1.w.n t1.w.c, .slice t1.p.a t1.p.n t1.p.c, .slice (t1.u 0).a (t1.u 0).n (t1.u 0).c, .slice (t1.u 1).a (t1.u 1).n (t1.u 1).c, .slice (t1.u 2).a (t1.u 2).n (t1.u 2).c, .slice t1.c.a t1.c.n t1.c.c]), .int .i64 0]) ∧ Hp w' w'.heap.size t1 dB ∧ (t1.w.n = s.w.n ∧ t1.p.n = s.p.n ∧ t1.c.n = s.c.n) ∧ Below W.heap.size W w') (hf2 : ∀ W t1, (t1.w.n = s.w.n ∧ t1.p.n = s.p.n ∧ t1.c.n = s.c.n) → Hp W W.heap.size t1 dB → Below w.heap.size w W → Calls Tryz.prog 22 #[(.agg #[.slice t1.w.a t1.w.n t1.w.c, .slice t1.p.a t1.p.n t1.p.c, .slice (t1.u 0).a (t1.u 0).n (t1.u 0).c, .slice (t1.u 1).a (t1.u 1).n (t1.u 1).c, .slice (t1.u 2).a (t1.u 2).n (t1.u 2).c, .slice t1.c.a t1.c.n t1.c.c]), .int .i64 a] W fun e w' => ∃ t2 : Hs, e = .returned (.tuple #[(.agg #[.slice t2.w.a t2.w.n t2.w.c, .slice t2.p.a t2.p.n t2.p.c, .slice (t2.u 0).a (t2.u 0).n (t2.u 0).c, .slice (t2.u 1).a (t2.u 1).n (t2.u 1).c, .slice (t2.u 2).a (t2.u 2).n (t2.u 2).c, .slice t2.c.a t2.c.n t2.c.c]), .int .i64 3]) ∧ Below W.heap.size W w') (hwb : ∀ W b1 t1 A2 v c2, (t1.w.n = s.w.n ∧ t1.p.n = s.p.n ∧ t1.c.n = s.c.n) → Bq w W A n U F s d b1 t1 dB A2 (1 + (n - 1)) (ahead v fun i => U (i + 1)) (ahead G' (behind F)) → Calls Tryz.prog 16 #[(.agg #[.slice t1.w.a t1.w.n t1.w.c, .slice t1.p.a t1.p.n t1.p.c, .slice (t1.u 0).a (t1.u 0).n (t1.u 0).c, .slice (t1.u 1).a (t1.u 1).n (t1.u 1).c, .slice (t1.u 2).a (t1.u 2).n (t1.u 2).c, .slice t1.c.a t1.c.n t1.c.c]), .slice A2 (1 + (n - 1)) c2] W fun e w' => e = .returned (.bool true) ∧ Below W.heap.size W w') (hub : ∀ W b1 t1 A2 v, (t1.w.n = s.w.n ∧ t1.p.n = s.p.n ∧ t1.c.n = s.c.n) → Bq w W A n U F s d b1 t1 dB A2 (1 + (n - 1)) (ahead v fun i => U (i + 1)) (ahead G' (behind F)) → (Calls Tryz.prog 17 #[(.agg #[.slice t1.w.a t1.w.n t1.w.c, .slice t1.p.a t1.p.n t1.p.c, .slice (t1.u 0).a (t1.u 0).n (t1.u 0).c, .slice (t1.u 1).a (t1.u 1).n (t1.u 1).c, .slice (t1.u 2).a (t1.u 2).n (t1.u 2).c, .slice t1.c.a t1.c.n t1.c.c])] W fun e w' => ∃ A' C', e = .returned (.slice A' K C') ∧ Below W.heap.size W w') ∧ Calls Tryz.prog 17 #[(.agg #[.slice s.w.a s.w.n s.w.c, .slice s.p.a s.p.n s.p.c, .slice (s.u 0).a (s.u 0).n (s.u 0).c, .slice (s.u 1).a (s.u 1).n (s.u 1).c, .slice (s.u 2).a (s.u 2).n (s.u 2).c, .slice s.c.a s.c.n s.c.c])] W fun e w' => ∃ A' C', e = .returned (.slice A' K C') ∧ Below W.heap.size W w') (hkb : ∀ W b1 t1 A2 v, (t1.w.n = s.w.n ∧ t1.p.n = s.p.n ∧ t1.c.n = s.c.n) → Bq w W A n U F s d b1 t1 dB A2 (1 + (n - 1)) (ahead v fun i => U (i + 1)) (ahead G' (behind F)) → Calls Tryz.prog 27 #[(.agg #[.slice s.w.a s.w.n s.w.c, .slice s.p.a s.p.n s.p.c, .slice (s.u 0).a (s.u 0).n (s.u 0).c, .slice (s.u 1).a (s.u 1).n (s.u 1).c, .slice (s.u 2).a (s.u 2).n (s.u 2).c, .slice s.c.a s.c.n s.c.c]), (.agg #[.slice t1.w.a t1.w.n t1.w.c, .slice t1.p.a t1.p.n t1.p.c, .slice (t1.u 0).a (t1.u 0).n (t1.u 0).c, .slice (t1.u 1).a (t1.u 1).n (t1.u 1).c, .slice (t1.u 2).a (t1.u 2).n (t1.u 2).c, .slice t1.c.a t1.c.n t1.c.c]), .int .i64 0] W fun e w' => e = .returned (.bool true) ∧ Below W.heap.size W w') (hn : n ≤ 9223372036854775807) (hz : Cl.Sz w) (hp : Hp w w.heap.size s d) (hl : Ls.LRow w w.heap.size A n U F) : Calls Tryz.prog 6 #[(.agg #[.slice s.w.a s.w.n s.w.c, .slice s.p.a s.p.n s.p.c, .slice (s.u 0).a (s.u 0).n (s.u 0).c, .slice (s.u 1).a (s.u 1).n (s.u 1).c, .slice (s.u 2).a (s.u 2).n (s.u 2).c, .slice s.c.a s.c.n s.c.c]), .slice A n c, .int .i64 N] w fun e w' => e = .returned (.bool true) ∧ Below w.heap.size w w' := by
  have HZ := Lib.hid hz
  have hz0 := hz.pos
  have HP := Lib.hid hp
  have HL := Lib.hid hl
  have HF := Lib.hid hf
  have HWH := Lib.hid hwh
  have TK := Lib.hid htk
  have F1 := Lib.hid hf1
  have F2 := Lib.hid hf2
  have WB := Lib.hid hwb
  have UB := Lib.hid hub
  have KB := Lib.hid hkb
  clear hf1 hf2 hwb hub hkb
  clear hz hp hl hf hwh htk
  go_enter Tryz.func6, Tryz.ntmps6
  go_wp2_with fail
  obtain ⟨W1, hW1⟩ : ∃ W1, W1 = w.alloc (.cells #[.slice s.w.a s.w.n s.w.c, .slice s.p.a s.p.n s.p.c, .slice (s.u 0).a (s.u 0).n (s.u 0).c, .slice (s.u 1).a (s.u 1).n (s.u 1).c, .slice (s.u 2).a (s.u 2).n (s.u 2).c, .slice s.c.a s.c.n s.c.c] 28) := ⟨_, rfl⟩
  have L1 := Lib.hid (lx_start HP.out HL.out hW1)
  rw [← hW1]
  clear hW1
  refine (Rp.awake_any W1 (HZ.out.over L1.out.bel hz0)).mono ?_
  rintro e9 w1 ⟨rfl, hb1⟩
  have L2 := Lib.hid (L1.out.next hb1)
  clear hb1 L1
  have q0 := (L2.out.at (w.heap.size) (s) (d) (by simp)).c0
  have q1 := (L2.out.at (w.heap.size) (s) (d) (by simp)).c1
  have q2 := (L2.out.at (w.heap.size) (s) (d) (by simp)).c2
  have q3 := (L2.out.at (w.heap.size) (s) (d) (by simp)).c3
  have q4 := (L2.out.at (w.heap.size) (s) (d) (by simp)).c4
  have q5 := (L2.out.at (w.heap.size) (s) (d) (by simp)).c5
  have ql := (L2.out.at (w.heap.size) (s) (d) (by simp)).lt
  go_wp2_with fail
  refine (few9_any s A _ c U F w1 hn L2.out.lr).mono ?_
  rw [HF.out]
  rintro e9 w2 ⟨rfl, hb2⟩
  have L3 := Lib.hid (L2.out.next hb2)
  clear hb2 L2
  clear q0 q1 q2 q3 q4 q5 ql
  have d1 : decide ((n : Int) < 1) = false := by simp; omega
  have q0 := (L3.out.at (w.heap.size) (s) (d) (by simp)).c0
  have q1 := (L3.out.at (w.heap.size) (s) (d) (by simp)).c1
  have q2 := (L3.out.at (w.heap.size) (s) (d) (by simp)).c2
  have q3 := (L3.out.at (w.heap.size) (s) (d) (by simp)).c3
  have q4 := (L3.out.at (w.heap.size) (s) (d) (by simp)).c4
  have q5 := (L3.out.at (w.heap.size) (s) (d) (by simp)).c5
  have ql := (L3.out.at (w.heap.size) (s) (d) (by simp)).lt
  go_wp2_with fail
  refine (HWH.out w2 L3.out).mono ?_
  rintro e9 w3 ⟨rfl, hb9⟩
  have L4 := Lib.hid (L3.out.next hb9)
  clear hb9 L3
  clear q0 q1 q2 q3 q4 q5 ql
  have hlb : Hid (Ls.LRow w3 w3.heap.size A n U F) := Lib.hid L4.out.lr
  obtain ⟨bb, off, hA, hbl, hcl⟩ := hlb.out hn1
  subst hA
  clear hcl hbl hlb
  have i0 : (0 : Int) < n := by omega
  have HU := Lib.hid hu
  clear hu
  go_upto_region 5 with fail
  go_cut [9, 10, 11, 12] from 9 to 51 (fun p q aa ee wx => aa = .int .i64 a ∧ ee = .int .i64 0 ∧ ∃ bk bc t v, p = .pointer (some ⟨bk, 0, none⟩) ∧ q = .pointer (some ⟨bc, 0, none⟩) ∧ (t.w.n = s.w.n ∧ t.p.n = s.p.n ∧ t.c.n = s.c.n) ∧ Hid (Lx w wx (some ⟨bb, off, none⟩) n U F [(w.heap.size, s, d)]) ∧ Hid (Al.K2 w3 wx bk bc t v d' G'))
  case first =>
    go_region_held3 (fun W => (Below w3.heap.size w3 W ∧ True) ∧ (w.heap.size < W.heap.size ∧ W.cell? ⟨w.heap.size, 0, none⟩ = some (.slice s.w.a s.w.n s.w.c) ∧ W.cell? ⟨w.heap.size, 1, none⟩ = some (.slice s.p.a s.p.n s.p.c) ∧ W.cell? ⟨w.heap.size, 2, none⟩ = some (.slice (s.u 0).a (s.u 0).n (s.u 0).c) ∧ W.cell? ⟨w.heap.size, 3, none⟩ = some (.slice (s.u 1).a (s.u 1).n (s.u 1).c) ∧ W.cell? ⟨w.heap.size, 4, none⟩ = some (.slice (s.u 2).a (s.u 2).n (s.u 2).c) ∧ W.cell? ⟨w.heap.size, 5, none⟩ = some (.slice s.c.a s.c.n s.c.c)) ∧ bb < W.heap.size ∧ W.cell? ⟨bb, off, none⟩ = some (.slice (u 0).a (u 0).n (u 0).c) ∧ W.cell? ⟨bb, off + 1, none⟩ = some (.slice (u 1).a (u 1).n (u 1).c) ∧ W.cell? ⟨bb, off + 2, none⟩ = some (.slice (u 2).a (u 2).n (u 2).c)) (((with_reducible refine lx_keepF (b1 := w.heap.size) (t1 := s) (d1 := d) u (by simp) L4.out hn1 HU.out ?_); repeat' (first | with_reducible exact H4.out | with_reducible exact Below.refl _ _ | with_reducible refine bl_set ?_ ?_ _ | with_reducible refine bl_alloc ?_ _ | with_reducible refine bl_drew ?_ | with_reducible exact Nat.le_refl _ | with_reducible exact Nat.le_succ _ | omega))) (first
      | ((go_at_call 11; (with_reducible refine (TK.out (World.drew w3) (L4.out.next (bl_drew (Below.refl _ _)))).mono ?_); rintro e9 w4 ⟨⟨⟨A1, m1, D1⟩, ⟨A2, m2, D2⟩, t4, ⟨A3, m3, D3⟩⟩, v4, rfl, ht, hv, hnn, hb4⟩; dsimp only; have H4 := Lib.hid (bl_call (bl_drew (Below.refl _ _)) hb4); have T4 := Lib.hid ht; have V4 := Lib.hid hv; have N4 := Lib.hid hnn; clear ht hv hb4 hnn))
      | ((go_at_call 11; (with_reducible refine (TK.out (World.drew (World.alloc w3 (.cells #[.slice none 0 0, .slice none 0 0, .slice none 0 0, .slice none 0 0, .slice none 0 0, .slice none 0 0] 28))) (L4.out.next (bl_drew (bl_alloc (Below.refl _ _) _)))).mono ?_); rintro e9 w4 ⟨⟨⟨A1, m1, D1⟩, ⟨A2, m2, D2⟩, t4, ⟨A3, m3, D3⟩⟩, v4, rfl, ht, hv, hnn, hb4⟩; dsimp only; have H4 := Lib.hid (bl_call (bl_drew (bl_alloc (Below.refl _ _) _)) hb4); have T4 := Lib.hid ht; have V4 := Lib.hid hv; have N4 := Lib.hid hnn; obtain ⟨z, xa0, xa1, xa2, xa3, xa4, xa5, ya0, ya1, ya2, ya3, ya4, ya5⟩ := Al.old6d hb4; have O6 := Lib.hid (Al.kold6 hb4); clear ht hv hb4 hnn))
      | ((go_at_call 11; (with_reducible refine (TK.out (World.drew (World.alloc w3 (.cells #[.slice none 0 0, .slice none 0 0, .slice none 0 0] 25))) (L4.out.next (bl_drew (bl_alloc (Below.refl _ _) _)))).mono ?_); rintro e9 w4 ⟨⟨⟨A1, m1, D1⟩, ⟨A2, m2, D2⟩, t4, ⟨A3, m3, D3⟩⟩, v4, rfl, ht, hv, hnn, hb4⟩; dsimp only; have H4 := Lib.hid (bl_call (bl_drew (bl_alloc (Below.refl _ _) _)) hb4); have T4 := Lib.hid ht; have V4 := Lib.hid hv; have N4 := Lib.hid hnn; obtain ⟨z, xa0, xa1, xa2, ya0, ya1, ya2⟩ := Al.old3d hb4; have O3 := Lib.hid (Al.kold3 hb4); clear ht hv hb4 hnn))
      | ((go_at_call 11; (with_reducible refine (TK.out (World.drew (World.alloc (World.alloc w3 (.cells #[.slice none 0 0, .slice none 0 0, .slice none 0 0, .slice none 0 0, .slice none 0 0, .slice none 0 0] 28)) (.cells #[.slice none 0 0, .slice none 0 0, .slice none 0 0] 25))) (L4.out.next (bl_drew (bl_alloc (bl_alloc (Below.refl _ _) _) _)))).mono ?_); rintro e9 w4 ⟨⟨⟨A1, m1, D1⟩, ⟨A2, m2, D2⟩, t4, ⟨A3, m3, D3⟩⟩, v4, rfl, ht, hv, hnn, hb4⟩; dsimp only; have H4 := Lib.hid (bl_call (bl_drew (bl_alloc (bl_alloc (Below.refl _ _) _) _)) hb4); have T4 := Lib.hid ht; have V4 := Lib.hid hv; have N4 := Lib.hid hnn; obtain ⟨⟨z, xb0, xb1, xb2, yb0, yb1, yb2⟩, zz, xa0, xa1, xa2, xa3, xa4, xa5, ya0, ya1, ya2, ya3, ya4, ya5⟩ := Al.old63d hb4; have O63 := Lib.hid (Al.kold63 hb4); clear ht hv hb4 hnn))
      | ((go_at_call 11; (with_reducible refine (TK.out (World.drew (World.alloc (World.alloc w3 (.cells #[.slice none 0 0, .slice none 0 0, .slice none 0 0] 25)) (.cells #[.slice none 0 0, .slice none 0 0, .slice none 0 0, .slice none 0 0, .slice none 0 0, .slice none 0 0] 28))) (L4.out.next (bl_drew (bl_alloc (bl_alloc (Below.refl _ _) _) _)))).mono ?_); rintro e9 w4 ⟨⟨⟨A1, m1, D1⟩, ⟨A2, m2, D2⟩, t4, ⟨A3, m3, D3⟩⟩, v4, rfl, ht, hv, hnn, hb4⟩; dsimp only; have H4 := Lib.hid (bl_call (bl_drew (bl_alloc (bl_alloc (Below.refl _ _) _) _)) hb4); have T4 := Lib.hid ht; have V4 := Lib.hid hv; have N4 := Lib.hid hnn; obtain ⟨⟨z, xb0, xb1, xb2, xb3, xb4, xb5, yb0, yb1, yb2, yb3, yb4, yb5⟩, zz, xa0, xa1, xa2, ya0, ya1, ya2⟩ := Al.old36d hb4; have O36 := Lib.hid (Al.kold36 hb4); clear ht hv hb4 hnn)))
    all_goals go_wp2_with fail
    all_goals go_meet
    all_goals first
      | with_reducible exact ⟨rfl, rfl, _, _, ⟨⟨A1, m1, D1⟩, ⟨A2, m2, D2⟩, t4, ⟨A3, m3, D3⟩⟩, v4, rfl, rfl, N4.out, Lib.hid (L4.out.next (Al.way1 (t := ⟨⟨A1, m1, D1⟩, ⟨A2, m2, D2⟩, t4, ⟨A3, m3, D3⟩⟩) (v := v4) H4.out T4.out V4.out).bel), Lib.hid (Al.way1 (t := ⟨⟨A1, m1, D1⟩, ⟨A2, m2, D2⟩, t4, ⟨A3, m3, D3⟩⟩) (v := v4) H4.out T4.out V4.out)⟩
      | with_reducible exact ⟨rfl, rfl, _, _, ⟨⟨A1, m1, D1⟩, ⟨A2, m2, D2⟩, t4, ⟨A3, m3, D3⟩⟩, v4, rfl, rfl, N4.out, Lib.hid (L4.out.next (Al.way2 (t := ⟨⟨A1, m1, D1⟩, ⟨A2, m2, D2⟩, t4, ⟨A3, m3, D3⟩⟩) (v := v4) H4.out T4.out V4.out).bel), Lib.hid (Al.way2 (t := ⟨⟨A1, m1, D1⟩, ⟨A2, m2, D2⟩, t4, ⟨A3, m3, D3⟩⟩) (v := v4) H4.out T4.out V4.out)⟩
      | with_reducible exact ⟨rfl, rfl, _, _, ⟨⟨A1, m1, D1⟩, ⟨A2, m2, D2⟩, t4, ⟨A3, m3, D3⟩⟩, v4, rfl, rfl, N4.out, Lib.hid (L4.out.next (Al.way3r (t := ⟨⟨A1, m1, D1⟩, ⟨A2, m2, D2⟩, t4, ⟨A3, m3, D3⟩⟩) (v := v4) H4.out T4.out V4.out O6.out).bel), Lib.hid (Al.way3r (t := ⟨⟨A1, m1, D1⟩, ⟨A2, m2, D2⟩, t4, ⟨A3, m3, D3⟩⟩) (v := v4) H4.out T4.out V4.out O6.out)⟩
      | with_reducible exact ⟨rfl, rfl, _, _, ⟨⟨A1, m1, D1⟩, ⟨A2, m2, D2⟩, t4, ⟨A3, m3, D3⟩⟩, v4, rfl, rfl, N4.out, Lib.hid (L4.out.next (Al.way4r (t := ⟨⟨A1, m1, D1⟩, ⟨A2, m2, D2⟩, t4, ⟨A3, m3, D3⟩⟩) (v := v4) H4.out T4.out V4.out O63.out).bel), Lib.hid (Al.way4r (t := ⟨⟨A1, m1, D1⟩, ⟨A2, m2, D2⟩, t4, ⟨A3, m3, D3⟩⟩) (v := v4) H4.out T4.out V4.out O63.out)⟩
      | with_reducible exact ⟨rfl, rfl, _, _, ⟨⟨A1, m1, D1⟩, ⟨A2, m2, D2⟩, t4, ⟨A3, m3, D3⟩⟩, v4, rfl, rfl, N4.out, Lib.hid (L4.out.next (Al.way5r (t := ⟨⟨A1, m1, D1⟩, ⟨A2, m2, D2⟩, t4, ⟨A3, m3, D3⟩⟩) (v := v4) H4.out T4.out V4.out O3.out).bel), Lib.hid (Al.way5r (t := ⟨⟨A1, m1, D1⟩, ⟨A2, m2, D2⟩, t4, ⟨A3, m3, D3⟩⟩) (v := v4) H4.out T4.out V4.out O3.out)⟩
      | with_reducible exact ⟨rfl, rfl, _, _, ⟨⟨A1, m1, D1⟩, ⟨A2, m2, D2⟩, t4, ⟨A3, m3, D3⟩⟩, v4, rfl, rfl, N4.out, Lib.hid (L4.out.next (Al.way6r (t := ⟨⟨A1, m1, D1⟩, ⟨A2, m2, D2⟩, t4, ⟨A3, m3, D3⟩⟩) (v := v4) H4.out T4.out V4.out O36.out).bel), Lib.hid (Al.way6r (t := ⟨⟨A1, m1, D1⟩, ⟨A2, m2, D2⟩, t4, ⟨A3, m3, D3⟩⟩) (v := v4) H4.out T4.out V4.out O36.out)⟩
  case rest =>
    obtain ⟨rfl, rfl, bk, bc, t, v, rfl, rfl, hnn, L5, K5⟩ := hcut
    clear L4 TK
    have N0 := Lib.hid hnn
    clear hnn
    go_upto_region 8 with fail
    have q0 := (K5.out.kb).c0
    have q1 := (K5.out.kb).c1
    have q2 := (K5.out.kb).c2
    have q3 := (K5.out.kb).c3
    have q4 := (K5.out.kb).c4
    have q5 := (K5.out.kb).c5
    have ql := (K5.out.kb).lt
    go_wp2_with fail
    refine (F1.out wc t N0.out K5.out.hp L5.out.bel).mono ?_
    rintro e9 w9 ⟨t1, rfl, hp9, hl9, hb9⟩
    have L6 := Lib.hid (L5.out.add (nw_new (ty := 28) hb9 hp9))
    have N1 := Lib.hid hl9
    have K6 := Lib.hid ((K5.out.next hb9).next ((Below.refl _ _).alloc (Nat.le_refl _) (.cells #[.slice t1.w.a t1.w.n t1.w.c, .slice t1.p.a t1.p.n t1.p.c, .slice (t1.u 0).a (t1.u 0).n (t1.u 0).c, .slice (t1.u 1).a (t1.u 1).n (t1.u 1).c, .slice (t1.u 2).a (t1.u 2).n (t1.u 2).c, .slice t1.c.a t1.c.n t1.c.c] 28)))
    clear hp9 hb9 hl9 L5 K5
    clear q0 q1 q2 q3 q4 q5 ql
    go_upto_region 9 with fail
    obtain ⟨v1, h0⟩ : ∃ W, W = w9.alloc (.cells #[.slice t1.w.a t1.w.n t1.w.c, .slice t1.p.a t1.p.n t1.p.c, .slice (t1.u 0).a (t1.u 0).n (t1.u 0).c, .slice (t1.u 1).a (t1.u 1).n (t1.u 1).c, .slice (t1.u 2).a (t1.u 2).n (t1.u 2).c, .slice t1.c.a t1.c.n t1.c.c] 28) := ⟨_, rfl⟩
    obtain ⟨b1, h1⟩ : ∃ b, b = w9.heap.size := ⟨_, rfl⟩
    rw [← h0, ← h1] at L6
    rw [← h0] at K6
    rw [← h0, ← h1]
    clear h0 h1
    have i1 : (1 : Int) ≤ n := by omega
    have LD := Lib.hid (L6.out.next (below_drawn' (Below.refl _ _) 1))
    have KD := Lib.hid (K6.out.next (below_drawn' (Below.refl _ _) 1))
    have x0 := K6.out.cb.cell 0 (by decide)
    have x1 := K6.out.cb.cell 1 (by decide)
    have x2 := K6.out.cb.cell 2 (by decide)
    have xl := K6.out.cb.lt
    go_cut [15] from 60 to 64 (fun r wx => ∃ A2 c2, r = .slice A2 (1 + (n - 1)) c2 ∧ Hid (Bq w wx (some ⟨bb, off, none⟩) n U F s d b1 t1 dB A2 (1 + (n - 1)) (ahead v fun i => U (i + 1)) (ahead G' (behind F))))
    case first =>
      rcases (show c = 1 ∨ ¬ c = 1 by omega) with hc1 | hc1
      · subst hc1
        go_region_law ((refine step_glue (by rfl) (.tmp 61) (.tmp 63) (by rfl) (by rfl) (by rfl) (B := (World.drew v1).heap.size) (u := v) (f := G') KD.out.l3 (Nat.le_refl _) (lrow_tail LD.out.lr ?_ ?_) ?_ ?_; (first | rfl | omega); (first | exact fun _ => rfl | (intro h0; exact absurd h0 (by omega))); (first | omega | (simp; omega)); intro A2 c2 w5 hla hbe; have LA := Lib.hid hla; have BE := Lib.hid hbe; clear hla hbe))
        all_goals go_wp2_with fail
        all_goals go_meet
        all_goals first
          | exact ⟨A2, c2, rfl, Lib.hid ⟨LD.out.next BE.out, LA.out⟩⟩
          | exact ⟨A2, c2, by rw [show 1 + (n - 1) = 1 by omega], Lib.hid ⟨LD.out.next BE.out, by have h9 := LA.out; rw [show 1 + (n - 1) = 1 + 0 by omega]; exact h9⟩⟩
      · skip
        go_region_law ((refine step_glue (by rfl) (.tmp 61) (.tmp 63) (by rfl) (by rfl) (by rfl) (B := (World.drew v1).heap.size) (u := v) (f := G') KD.out.l3 (Nat.le_refl _) (lrow_tail LD.out.lr ?_ ?_) ?_ ?_; (first | rfl | omega); (first | exact fun _ => rfl | (intro h0; exact absurd h0 (by omega))); (first | omega | (simp; omega)); intro A2 c2 w5 hla hbe; have LA := Lib.hid hla; have BE := Lib.hid hbe; clear hla hbe))
        all_goals go_wp2_with fail
        all_goals go_meet
        all_goals first
          | exact ⟨A2, c2, rfl, Lib.hid ⟨LD.out.next BE.out, LA.out⟩⟩
          | exact ⟨A2, c2, by rw [show 1 + (n - 1) = 1 by omega], Lib.hid ⟨LD.out.next BE.out, by have h9 := LA.out; rw [show 1 + (n - 1) = 1 + 0 by omega]; exact h9⟩⟩
    case rest =>
      obtain ⟨A2, c2, rfl, HB⟩ := hcut
      clear L6 K6 LD KD x0 x1 x2 xl
      go_upto_region 10 with fail
      generalize wc = wg at HB ⊢
      have q0 := (HB.out.lx.at b1 t1 dB (by simp)).c0
      have q1 := (HB.out.lx.at b1 t1 dB (by simp)).c1
      have q2 := (HB.out.lx.at b1 t1 dB (by simp)).c2
      have q3 := (HB.out.lx.at b1 t1 dB (by simp)).c3
      have q4 := (HB.out.lx.at b1 t1 dB (by simp)).c4
      have q5 := (HB.out.lx.at b1 t1 dB (by simp)).c5
      have ql := (HB.out.lx.at b1 t1 dB (by simp)).lt
      go_wp2_with fail
      refine (F2.out wg t1 N1.out (HB.out.lx.hp b1 t1 dB (by simp)) HB.out.lx.bel).mono ?_
      rintro e9 w9' ⟨t2, rfl, hb9⟩
      have HB2 := HB.out.next hb9
      clear hb9 HB
      clear q0 q1 q2 q3 q4 q5 ql
      go_upto_region 11 with fail
      obtain ⟨v2, h0⟩ : ∃ W, W = w9'.alloc (.cells #[.slice t2.w.a t2.w.n t2.w.c, .slice t2.p.a t2.p.n t2.p.c, .slice (t2.u 0).a (t2.u 0).n (t2.u 0).c, .slice (t2.u 1).a (t2.u 1).n (t2.u 1).c, .slice (t2.u 2).a (t2.u 2).n (t2.u 2).c, .slice t2.c.a t2.c.n t2.c.c] 28) := ⟨_, rfl⟩
      have HST : Hid (Bq w v2 (some ⟨bb, off, none⟩) n U F s d b1 t1 dB A2 (1 + (n - 1)) (ahead v fun i => U (i + 1)) (ahead G' (behind F)) ∧ True) := Lib.hid ⟨HB2.next (by rw [h0]; exact (Below.refl _ _).alloc (Nat.le_refl _) _), trivial⟩
      rw [← h0]
      clear h0 HB2
      have dK : ((K : Int) == K) = true := by simp
      go_region_held3 (fun W => (Bq w W (some ⟨bb, off, none⟩) n U F s d b1 t1 dB A2 (1 + (n - 1)) (ahead v fun i => U (i + 1)) (ahead G' (behind F)) ∧ True) ∧ (b1 < W.heap.size ∧ W.cell? ⟨b1, 0, none⟩ = some (.slice t1.w.a t1.w.n t1.w.c) ∧ W.cell? ⟨b1, 1, none⟩ = some (.slice t1.p.a t1.p.n t1.p.c) ∧ W.cell? ⟨b1, 2, none⟩ = some (.slice (t1.u 0).a (t1.u 0).n (t1.u 0).c) ∧ W.cell? ⟨b1, 3, none⟩ = some (.slice (t1.u 1).a (t1.u 1).n (t1.u 1).c) ∧ W.cell? ⟨b1, 4, none⟩ = some (.slice (t1.u 2).a (t1.u 2).n (t1.u 2).c) ∧ W.cell? ⟨b1, 5, none⟩ = some (.slice t1.c.a t1.c.n t1.c.c)) ∧ w.heap.size < W.heap.size ∧ W.cell? ⟨w.heap.size, 0, none⟩ = some (.slice s.w.a s.w.n s.w.c) ∧ W.cell? ⟨w.heap.size, 1, none⟩ = some (.slice s.p.a s.p.n s.p.c) ∧ W.cell? ⟨w.heap.size, 2, none⟩ = some (.slice (s.u 0).a (s.u 0).n (s.u 0).c) ∧ W.cell? ⟨w.heap.size, 3, none⟩ = some (.slice (s.u 1).a (s.u 1).n (s.u 1).c) ∧ W.cell? ⟨w.heap.size, 4, none⟩ = some (.slice (s.u 2).a (s.u 2).n (s.u 2).c) ∧ W.cell? ⟨w.heap.size, 5, none⟩ = some (.slice s.c.a s.c.n s.c.c)) (first
        | exact bq_keep HST.out (below_drawn' (Below.refl _ _) 1)
        | exact bq_keep (‹(Bq w _ (some ⟨bb, off, none⟩) n U F s d b1 t1 dB A2 (1 + (n - 1)) (ahead v fun i => U (i + 1)) (ahead G' (behind F)) ∧ True) ∧ _›).1 ‹Below _ _ _›) (first
        | ((go_at_call 16; (with_reducible refine (WB.out _ b1 t1 A2 v c2 N1.out (‹(Bq w _ (some ⟨bb, off, none⟩) n U F s d b1 t1 dB A2 (1 + (n - 1)) (ahead v fun i => U (i + 1)) (ahead G' (behind F)) ∧ True) ∧ _›).1.1).mono ?_); rintro e9 w8 ⟨rfl, hb8⟩))
        | ((go_at_call 27; (with_reducible refine (KB.out _ b1 t1 A2 v N1.out (‹(Bq w _ (some ⟨bb, off, none⟩) n U F s d b1 t1 dB A2 (1 + (n - 1)) (ahead v fun i => U (i + 1)) (ahead G' (behind F)) ∧ True) ∧ _›).1.1).mono ?_); rintro e9 w8 ⟨rfl, hb8⟩))
        | ((go_at_call 17; (with_reducible refine ((UB.out _ b1 t1 A2 v N1.out (‹(Bq w _ (some ⟨bb, off, none⟩) n U F s d b1 t1 dB A2 (1 + (n - 1)) (ahead v fun i => U (i + 1)) (ahead G' (behind F)) ∧ True) ∧ _›).1.1).1).mono ?_); rintro e9 w8 ⟨A8, C8, rfl, hb8⟩))
        | ((go_at_call 17; (with_reducible refine ((UB.out _ b1 t1 A2 v N1.out (‹(Bq w _ (some ⟨bb, off, none⟩) n U F s d b1 t1 dB A2 (1 + (n - 1)) (ahead v fun i => U (i + 1)) (ahead G' (behind F)) ∧ True) ∧ _›).1.1).2).mono ?_); rintro e9 w8 ⟨A8, C8, rfl, hb8⟩)))
      have HE := Lib.hid (‹(Bq w _ (some ⟨bb, off, none⟩) n U F s d b1 t1 dB A2 (1 + (n - 1)) (ahead v fun i => U (i + 1)) (ahead G' (behind F)) ∧ True) ∧ _›).1.1
      clear HST
      go_wp2
      go_ret
      exact ⟨rfl, HE.out.lx.bel⟩
end
end Go.Proofs.YtcbnefjfoeanoaaGreatDoor.ReapBack
