/-
  AllocKeeps: what is taken was free; each other object's words are as they were; its own are noughts but for its head; what was whole is whole: for every heap of at most 9 pages and 130 words, every four caches of at most 70 cells of each class, and every head; the table of sizes is tied to the program's text by the card.
-/
import Derived.Test.YtcbnefjfoeanoaaGreatDoorYAlKp
namespace Go.Proofs.YtcbnefjfoeanoaaGreatDoor.AllocKeeps
open Go.Proofs.YtcbnefjfoeanoaaGreatDoor Go.Proofs.YtcbnefjfoeanoaaGreatDoor.Al
open Go.ChangeShapes Go.WideShapes Go.ChangeAt Go.RowKit
set_option maxRecDepth 100000

section
variable (s : Hs) (d : Hd_) (A : Option Addr) (n c : Nat) (U : Nat → Nat → Ls.Sl) (F : Nat → Nat → List Int) (us o e : Bool) (N b m : Int) (w : World)
set_option maxHeartbeats 1000000 in
theorem walk_few (hf : fewL s U n = false) (hn : n ≤ 9223372036854775807) (hz : Cl.Sz w) (hp : Hp w w.heap.size s d) (hl : Ls.LRow w w.heap.size A n U F) : Calls Tryz.prog 4 #[(.agg #[.slice s.w.a s.w.n s.w.c, .slice s.p.a s.p.n s.p.c, .slice (s.u 0).a (s.u 0).n (s.u 0).c, .slice (s.u 1).a (s.u 1).n (s.u 1).c, .slice (s.u 2).a (s.u 2).n (s.u 2).c, .slice s.c.a s.c.n s.c.c]), .slice A n c, .agg #[.bool us, .bool o, .bool e, .int .i64 N, .int .i64 b, .int .i64 m]] w fun e w' => e = .returned (.bool true) ∧ Below w.heap.size w w' := by
  have HZ := Lib.hid hz
  have hz0 := hz.pos
  have HP := Lib.hid hp
  have HL := Lib.hid hl
  have HF := Lib.hid hf
  clear hz hp hl hf
  go_enter Tryz.func4, Tryz.ntmps4
  go_wp2_with fail
  obtain ⟨W1, hW1⟩ : ∃ W1, W1 = (w.alloc (.cells #[.slice s.w.a s.w.n s.w.c, .slice s.p.a s.p.n s.p.c, .slice (s.u 0).a (s.u 0).n (s.u 0).c, .slice (s.u 1).a (s.u 1).n (s.u 1).c, .slice (s.u 2).a (s.u 2).n (s.u 2).c, .slice s.c.a s.c.n s.c.c] 28)).alloc (.cells #[.bool us, .bool o, .bool e, .int .i64 N, .int .i64 b, .int .i64 m] 30) := ⟨_, rfl⟩
  have L1 := Lib.hid (lq_start HP.out HL.out hW1)
  rw [← hW1]
  clear hW1
  refine (Al.awake_any W1 (HZ.out.over L1.out.lh.bel hz0)).mono ?_
  rintro e9 w1 ⟨rfl, hb1⟩
  have L2 := Lib.hid (L1.out.next hb1)
  clear hb1 L1
  have q0 := L2.out.lh.hb.c0
  have q1 := L2.out.lh.hb.c1
  have q2 := L2.out.lh.hb.c2
  have q3 := L2.out.lh.hb.c3
  have q4 := L2.out.lh.hb.c4
  have q5 := L2.out.lh.hb.c5
  have ql := L2.out.lh.hb.lt
  go_wp2_with fail
  refine (few8_any s A _ c U F w1 hn L2.out.lh.lr).mono ?_
  rw [HF.out]
  rintro e9 w2 ⟨rfl, hb2⟩
  have L3 := Lib.hid (L2.out.next hb2)
  clear hb2 L2
  clear q0 q1 q2 q3 q4 q5 ql
  go_wp2
  go_ret
  exact ⟨rfl, L3.out.lh.bel⟩
set_option maxHeartbeats 1000000 in
theorem walk_none (hf : fewL s U n = true) (h0 : n = 0) (hn : n ≤ 9223372036854775807) (hz : Cl.Sz w) (hp : Hp w w.heap.size s d) (hl : Ls.LRow w w.heap.size A n U F) : Calls Tryz.prog 4 #[(.agg #[.slice s.w.a s.w.n s.w.c, .slice s.p.a s.p.n s.p.c, .slice (s.u 0).a (s.u 0).n (s.u 0).c, .slice (s.u 1).a (s.u 1).n (s.u 1).c, .slice (s.u 2).a (s.u 2).n (s.u 2).c, .slice s.c.a s.c.n s.c.c]), .slice A n c, .agg #[.bool us, .bool o, .bool e, .int .i64 N, .int .i64 b, .int .i64 m]] w fun e w' => e = .returned (.bool true) ∧ Below w.heap.size w w' := by
  subst h0
  have HZ := Lib.hid hz
  have hz0 := hz.pos
  have HP := Lib.hid hp
  have HL := Lib.hid hl
  have HF := Lib.hid hf
  clear hz hp hl hf
  go_enter Tryz.func4, Tryz.ntmps4
  go_wp2_with fail
  obtain ⟨W1, hW1⟩ : ∃ W1, W1 = (w.alloc (.cells #[.slice s.w.a s.w.n s.w.c, .slice s.p.a s.p.n s.p.c, .slice (s.u 0).a (s.u 0).n (s.u 0).c, .slice (s.u 1).a (s.u 1).n (s.u 1).c, .slice (s.u 2).a (s.u 2).n (s.u 2).c, .slice s.c.a s.c.n s.c.c] 28)).alloc (.cells #[.bool us, .bool o, .bool e, .int .i64 N, .int .i64 b, .int .i64 m] 30) := ⟨_, rfl⟩
  have L1 := Lib.hid (lq_start HP.out HL.out hW1)
  rw [← hW1]
  clear hW1
  refine (Al.awake_any W1 (HZ.out.over L1.out.lh.bel hz0)).mono ?_
  rintro e9 w1 ⟨rfl, hb1⟩
  have L2 := Lib.hid (L1.out.next hb1)
  clear hb1 L1
  have q0 := L2.out.lh.hb.c0
  have q1 := L2.out.lh.hb.c1
  have q2 := L2.out.lh.hb.c2
  have q3 := L2.out.lh.hb.c3
  have q4 := L2.out.lh.hb.c4
  have q5 := L2.out.lh.hb.c5
  have ql := L2.out.lh.hb.lt
  go_wp2_with fail
  refine (few8_any s A _ c U F w1 hn L2.out.lh.lr).mono ?_
  rw [HF.out]
  rintro e9 w2 ⟨rfl, hb2⟩
  have L3 := Lib.hid (L2.out.next hb2)
  clear hb2 L2
  clear q0 q1 q2 q3 q4 q5 ql
  go_wp2
  go_ret
  exact ⟨rfl, L3.out.lh.bel⟩
set_option maxHeartbeats 1000000 in
theorem walk_whole (hf : fewL s U n = true) (hn1 : 0 < n) (hwh : ∀ W, Lq w W s d A n U F us o e N b m → Calls Tryz.prog 16 #[(.agg #[.slice s.w.a s.w.n s.w.c, .slice s.p.a s.p.n s.p.c, .slice (s.u 0).a (s.u 0).n (s.u 0).c, .slice (s.u 1).a (s.u 1).n (s.u 1).c, .slice (s.u 2).a (s.u 2).n (s.u 2).c, .slice s.c.a s.c.n s.c.c]), .slice A n c] W fun e w' => e = .returned (.bool false) ∧ Below W.heap.size W w') (hn : n ≤ 9223372036854775807) (hz : Cl.Sz w) (hp : Hp w w.heap.size s d) (hl : Ls.LRow w w.heap.size A n U F) : Calls Tryz.prog 4 #[(.agg #[.slice s.w.a s.w.n s.w.c, .slice s.p.a s.p.n s.p.c, .slice (s.u 0).a (s.u 0).n (s.u 0).c, .slice (s.u 1).a (s.u 1).n (s.u 1).c, .slice (s.u 2).a (s.u 2).n (s.u 2).c, .slice s.c.a s.c.n s.c.c]), .slice A n c, .agg #[.bool us, .bool o, .bool e, .int .i64 N, .int .i64 b, .int .i64 m]] w fun e w' => e = .returned (.bool true) ∧ Below w.heap.size w w' := by
  have HZ := Lib.hid hz
  have hz0 := hz.pos
  have HP := Lib.hid hp
  have HL := Lib.hid hl
  have HF := Lib.hid hf
  have HWH := Lib.hid hwh
  clear hz hp hl hf hwh
  go_enter Tryz.func4, Tryz.ntmps4
  go_wp2_with fail
  obtain ⟨W1, hW1⟩ : ∃ W1, W1 = (w.alloc (.cells #[.slice s.w.a s.w.n s.w.c, .slice s.p.a s.p.n s.p.c, .slice (s.u 0).a (s.u 0).n (s.u 0).c, .slice (s.u 1).a (s.u 1).n (s.u 1).c, .slice (s.u 2).a (s.u 2).n (s.u 2).c, .slice s.c.a s.c.n s.c.c] 28)).alloc (.cells #[.bool us, .bool o, .bool e, .int .i64 N, .int .i64 b, .int .i64 m] 30) := ⟨_, rfl⟩
  have L1 := Lib.hid (lq_start HP.out HL.out hW1)
  rw [← hW1]
  clear hW1
  refine (Al.awake_any W1 (HZ.out.over L1.out.lh.bel hz0)).mono ?_
  rintro e9 w1 ⟨rfl, hb1⟩
  have L2 := Lib.hid (L1.out.next hb1)
  clear hb1 L1
  have q0 := L2.out.lh.hb.c0
  have q1 := L2.out.lh.hb.c1
  have q2 := L2.out.lh.hb.c2
  have q3 := L2.out.lh.hb.c3
  have q4 := L2.out.lh.hb.c4
  have q5 := L2.out.lh.hb.c5
  have ql := L2.out.lh.hb.lt
  go_wp2_with fail
  refine (few8_any s A _ c U F w1 hn L2.out.lh.lr).mono ?_
  rw [HF.out]
  rintro e9 w2 ⟨rfl, hb2⟩
  have L3 := Lib.hid (L2.out.next hb2)
  clear hb2 L2
  clear q0 q1 q2 q3 q4 q5 ql
  have d1 : decide ((n : Int) < 1) = false := by simp; omega
  have q0 := L3.out.lh.hb.c0
  have q1 := L3.out.lh.hb.c1
  have q2 := L3.out.lh.hb.c2
  have q3 := L3.out.lh.hb.c3
  have q4 := L3.out.lh.hb.c4
  have q5 := L3.out.lh.hb.c5
  have ql := L3.out.lh.hb.lt
  go_wp2_with fail
  refine (HWH.out w2 L3.out).mono ?_
  rintro e9 w3 ⟨rfl, hb3⟩
  have L4 := Lib.hid (L3.out.next hb3)
  clear hb3 L3
  clear q0 q1 q2 q3 q4 q5 ql
  go_wp2
  go_ret
  exact ⟨rfl, L4.out.lh.bel⟩
set_option maxHeartbeats 8000000 in
theorem core_err (er : Int) (pn cn : Nat) (d' : Hd_) (G' : Nat → List Int) (her : ¬ er = 0) (u : Nat → Ls.Sl) (hu : U 0 = u) (hf : fewL s U n = true) (hn1 : 0 < n) (hwh : ∀ W, Lq w W s d A n U F us o e N b m → Calls Tryz.prog 16 #[(.agg #[.slice s.w.a s.w.n s.w.c, .slice s.p.a s.p.n s.p.c, .slice (s.u 0).a (s.u 0).n (s.u 0).c, .slice (s.u 1).a (s.u 1).n (s.u 1).c, .slice (s.u 2).a (s.u 2).n (s.u 2).c, .slice s.c.a s.c.n s.c.c]), .slice A n c] W fun e w' => e = .returned (.bool true) ∧ Below W.heap.size W w') (htk : ∀ W, Lq w W s d A n U F us o e N b m → Calls Tryz.prog 11 #[(.agg #[.slice s.w.a s.w.n s.w.c, .slice s.p.a s.p.n s.p.c, .slice (s.u 0).a (s.u 0).n (s.u 0).c, .slice (s.u 1).a (s.u 1).n (s.u 1).c, .slice (s.u 2).a (s.u 2).n (s.u 2).c, .slice s.c.a s.c.n s.c.c]), (.agg #[.slice (u 0).a (u 0).n (u 0).c, .slice (u 1).a (u 1).n (u 1).c, .slice (u 2).a (u 2).n (u 2).c]), .agg #[.bool us, .bool o, .bool e, .int .i64 N, .int .i64 b, .int .i64 m]] W fun e w' => ∃ (t : Hs) (v : Nat → Ls.Sl), e = .returned (.tuple #[(.agg #[.slice t.w.a t.w.n t.w.c, .slice t.p.a t.p.n t.p.c, .slice (t.u 0).a (t.u 0).n (t.u 0).c, .slice (t.u 1).a (t.u 1).n (t.u 1).c, .slice (t.u 2).a (t.u 2).n (t.u 2).c, .slice t.c.a t.c.n t.c.c]), (.agg #[.slice (v 0).a (v 0).n (v 0).c, .slice (v 1).a (v 1).n (v 1).c, .slice (v 2).a (v 2).n (v 2).c]), .int .i64 0, .int .i64 er]) ∧ Hp w' w'.heap.size t d' ∧ Ls.L3 w' w'.heap.size v G' ∧ (t.w.n = 0 ∧ t.p.n = pn ∧ t.c.n = cn) ∧ Below W.heap.size W w') (hn : n ≤ 9223372036854775807) (hz : Cl.Sz w) (hp : Hp w w.heap.size s d) (hl : Ls.LRow w w.heap.size A n U F) : Calls Tryz.prog 4 #[(.agg #[.slice s.w.a s.w.n s.w.c, .slice s.p.a s.p.n s.p.c, .slice (s.u 0).a (s.u 0).n (s.u 0).c, .slice (s.u 1).a (s.u 1).n (s.u 1).c, .slice (s.u 2).a (s.u 2).n (s.u 2).c, .slice s.c.a s.c.n s.c.c]), .slice A n c, .agg #[.bool us, .bool o, .bool e, .int .i64 N, .int .i64 b, .int .i64 m]] w fun e w' => e = .returned (.bool true) ∧ Below w.heap.size w w' := by
  have HZ := Lib.hid hz
  have hz0 := hz.pos
  have HP := Lib.hid hp
  have HL := Lib.hid hl
  have HF := Lib.hid hf
  have d0 : (er != 0) = true := by simp [her]
  have HWH := Lib.hid hwh
  have TK := Lib.hid htk
  clear hz hp hl hf hwh htk
  go_enter Tryz.func4, Tryz.ntmps4
  go_wp2_with fail
  obtain ⟨W1, hW1⟩ : ∃ W1, W1 = (w.alloc (.cells #[.slice s.w.a s.w.n s.w.c, .slice s.p.a s.p.n s.p.c, .slice (s.u 0).a (s.u 0).n (s.u 0).c, .slice (s.u 1).a (s.u 1).n (s.u 1).c, .slice (s.u 2).a (s.u 2).n (s.u 2).c, .slice s.c.a s.c.n s.c.c] 28)).alloc (.cells #[.bool us, .bool o, .bool e, .int .i64 N, .int .i64 b, .int .i64 m] 30) := ⟨_, rfl⟩
  have L1 := Lib.hid (lq_start HP.out HL.out hW1)
  rw [← hW1]
  clear hW1
  refine (Al.awake_any W1 (HZ.out.over L1.out.lh.bel hz0)).mono ?_
  rintro e9 w1 ⟨rfl, hb1⟩
  have L2 := Lib.hid (L1.out.next hb1)
  clear hb1 L1
  have q0 := L2.out.lh.hb.c0
  have q1 := L2.out.lh.hb.c1
  have q2 := L2.out.lh.hb.c2
  have q3 := L2.out.lh.hb.c3
  have q4 := L2.out.lh.hb.c4
  have q5 := L2.out.lh.hb.c5
  have ql := L2.out.lh.hb.lt
  go_wp2_with fail
  refine (few8_any s A _ c U F w1 hn L2.out.lh.lr).mono ?_
  rw [HF.out]
  rintro e9 w2 ⟨rfl, hb2⟩
  have L3 := Lib.hid (L2.out.next hb2)
  clear hb2 L2
  clear q0 q1 q2 q3 q4 q5 ql
  have d1 : decide ((n : Int) < 1) = false := by simp; omega
  have q0 := L3.out.lh.hb.c0
  have q1 := L3.out.lh.hb.c1
  have q2 := L3.out.lh.hb.c2
  have q3 := L3.out.lh.hb.c3
  have q4 := L3.out.lh.hb.c4
  have q5 := L3.out.lh.hb.c5
  have ql := L3.out.lh.hb.lt
  go_wp2_with fail
  refine (HWH.out w2 L3.out).mono ?_
  rintro e9 w3 ⟨rfl, hb3⟩
  have L4 := Lib.hid (L3.out.next hb3)
  clear hb3 L3
  clear q0 q1 q2 q3 q4 q5 ql
  have hlb : Hid (Ls.LRow w3 w3.heap.size A n U F) := Lib.hid L4.out.lh.lr
  obtain ⟨bb, off, rfl, hbl, hcl⟩ := hlb.out hn1
  clear hcl hbl hlb
  have i0 : (0 : Int) < n := by omega
  have HU := Lib.hid hu
  clear hu
  go_upto_region 5 with fail
  go_cut [9, 10, 11, 12] from 9 to 55 (fun p q aa ee wx => aa = .int .i64 0 ∧ ee = .int .i64 er ∧ ∃ bk bc t v, p = .pointer (some ⟨bk, 0, none⟩) ∧ q = .pointer (some ⟨bc, 0, none⟩) ∧ (t.w.n = 0 ∧ t.p.n = pn ∧ t.c.n = cn) ∧ Hid (Lq w wx s d (some ⟨bb, off, none⟩) n U F us o e N b m) ∧ Hid (K2 w3 wx bk bc t v d' G'))
  case first =>
    go_region_held3 (fun W => ((Below w3.heap.size w3 W ∧ True) ∧ w.heap.size < W.heap.size ∧ W.cell? ⟨w.heap.size, 0, none⟩ = some (.slice s.w.a s.w.n s.w.c) ∧ W.cell? ⟨w.heap.size, 1, none⟩ = some (.slice s.p.a s.p.n s.p.c) ∧ W.cell? ⟨w.heap.size, 2, none⟩ = some (.slice (s.u 0).a (s.u 0).n (s.u 0).c) ∧ W.cell? ⟨w.heap.size, 3, none⟩ = some (.slice (s.u 1).a (s.u 1).n (s.u 1).c) ∧ W.cell? ⟨w.heap.size, 4, none⟩ = some (.slice (s.u 2).a (s.u 2).n (s.u 2).c) ∧ W.cell? ⟨w.heap.size, 5, none⟩ = some (.slice s.c.a s.c.n s.c.c) ∧ bb < W.heap.size ∧ W.cell? ⟨bb, off, none⟩ = some (.slice (u 0).a (u 0).n (u 0).c) ∧ W.cell? ⟨bb, off + 1, none⟩ = some (.slice (u 1).a (u 1).n (u 1).c) ∧ W.cell? ⟨bb, off + 2, none⟩ = some (.slice (u 2).a (u 2).n (u 2).c)) ∧ w.heap.size + 1 < W.heap.size ∧ W.cell? ⟨w.heap.size + 1, 0, none⟩ = some (.bool us) ∧ W.cell? ⟨w.heap.size + 1, 1, none⟩ = some (.bool o) ∧ W.cell? ⟨w.heap.size + 1, 2, none⟩ = some (.bool e) ∧ W.cell? ⟨w.heap.size + 1, 3, none⟩ = some (.int .i64 N) ∧ W.cell? ⟨w.heap.size + 1, 4, none⟩ = some (.int .i64 b) ∧ W.cell? ⟨w.heap.size + 1, 5, none⟩ = some (.int .i64 m)) (((with_reducible refine lq_keep u L4.out hn1 HU.out ?_); repeat' (first | with_reducible exact H4.out | with_reducible exact Below.refl _ _ | with_reducible refine bl_set ?_ ?_ _ | with_reducible refine bl_alloc ?_ _ | with_reducible refine bl_drew ?_ | with_reducible exact Nat.le_refl _ | with_reducible exact Nat.le_succ _ | omega))) (first
      | ((go_at_call 11; (with_reducible refine (TK.out (World.drew w3) (L4.out.next (bl_drew (Below.refl _ _)))).mono ?_); rintro e9 w4 ⟨⟨⟨A1, m1, D1⟩, ⟨A2, m2, D2⟩, t4, ⟨A3, m3, D3⟩⟩, v4, rfl, ht, hv, ⟨hn1, hn2, hn3⟩, hb4⟩; obtain rfl : m1 = _ := hn1; obtain rfl : m2 = _ := hn2; obtain rfl : m3 = _ := hn3; dsimp only; have H4 := Lib.hid (bl_call (bl_drew (Below.refl _ _)) hb4); have T4 := Lib.hid ht; have V4 := Lib.hid hv; clear ht hv hb4))
      | ((go_at_call 11; (with_reducible refine (TK.out (World.drew (World.alloc w3 (.cells #[.slice none 0 0, .slice none 0 0, .slice none 0 0, .slice none 0 0, .slice none 0 0, .slice none 0 0] 28))) (L4.out.next (bl_drew (bl_alloc (Below.refl _ _) _)))).mono ?_); rintro e9 w4 ⟨⟨⟨A1, m1, D1⟩, ⟨A2, m2, D2⟩, t4, ⟨A3, m3, D3⟩⟩, v4, rfl, ht, hv, ⟨hn1, hn2, hn3⟩, hb4⟩; obtain rfl : m1 = _ := hn1; obtain rfl : m2 = _ := hn2; obtain rfl : m3 = _ := hn3; dsimp only; have H4 := Lib.hid (bl_call (bl_drew (bl_alloc (Below.refl _ _) _)) hb4); have T4 := Lib.hid ht; have V4 := Lib.hid hv; obtain ⟨z, xa0, xa1, xa2, xa3, xa4, xa5, ya0, ya1, ya2, ya3, ya4, ya5⟩ := old6d hb4; have O6 := Lib.hid (kold6 hb4); clear ht hv hb4))
      | ((go_at_call 11; (with_reducible refine (TK.out (World.drew (World.alloc w3 (.cells #[.slice none 0 0, .slice none 0 0, .slice none 0 0] 25))) (L4.out.next (bl_drew (bl_alloc (Below.refl _ _) _)))).mono ?_); rintro e9 w4 ⟨⟨⟨A1, m1, D1⟩, ⟨A2, m2, D2⟩, t4, ⟨A3, m3, D3⟩⟩, v4, rfl, ht, hv, ⟨hn1, hn2, hn3⟩, hb4⟩; obtain rfl : m1 = _ := hn1; obtain rfl : m2 = _ := hn2; obtain rfl : m3 = _ := hn3; dsimp only; have H4 := Lib.hid (bl_call (bl_drew (bl_alloc (Below.refl _ _) _)) hb4); have T4 := Lib.hid ht; have V4 := Lib.hid hv; obtain ⟨z, xa0, xa1, xa2, ya0, ya1, ya2⟩ := old3d hb4; have O3 := Lib.hid (kold3 hb4); clear ht hv hb4))
      | ((go_at_call 11; (with_reducible refine (TK.out (World.drew (World.alloc (World.alloc w3 (.cells #[.slice none 0 0, .slice none 0 0, .slice none 0 0, .slice none 0 0, .slice none 0 0, .slice none 0 0] 28)) (.cells #[.slice none 0 0, .slice none 0 0, .slice none 0 0] 25))) (L4.out.next (bl_drew (bl_alloc (bl_alloc (Below.refl _ _) _) _)))).mono ?_); rintro e9 w4 ⟨⟨⟨A1, m1, D1⟩, ⟨A2, m2, D2⟩, t4, ⟨A3, m3, D3⟩⟩, v4, rfl, ht, hv, ⟨hn1, hn2, hn3⟩, hb4⟩; obtain rfl : m1 = _ := hn1; obtain rfl : m2 = _ := hn2; obtain rfl : m3 = _ := hn3; dsimp only; have H4 := Lib.hid (bl_call (bl_drew (bl_alloc (bl_alloc (Below.refl _ _) _) _)) hb4); have T4 := Lib.hid ht; have V4 := Lib.hid hv; obtain ⟨⟨z, xb0, xb1, xb2, yb0, yb1, yb2⟩, zz, xa0, xa1, xa2, xa3, xa4, xa5, ya0, ya1, ya2, ya3, ya4, ya5⟩ := old63d hb4; have O63 := Lib.hid (kold63 hb4); clear ht hv hb4))
      | ((go_at_call 11; (with_reducible refine (TK.out (World.drew (World.alloc (World.alloc w3 (.cells #[.slice none 0 0, .slice none 0 0, .slice none 0 0] 25)) (.cells #[.slice none 0 0, .slice none 0 0, .slice none 0 0, .slice none 0 0, .slice none 0 0, .slice none 0 0] 28))) (L4.out.next (bl_drew (bl_alloc (bl_alloc (Below.refl _ _) _) _)))).mono ?_); rintro e9 w4 ⟨⟨⟨A1, m1, D1⟩, ⟨A2, m2, D2⟩, t4, ⟨A3, m3, D3⟩⟩, v4, rfl, ht, hv, ⟨hn1, hn2, hn3⟩, hb4⟩; obtain rfl : m1 = _ := hn1; obtain rfl : m2 = _ := hn2; obtain rfl : m3 = _ := hn3; dsimp only; have H4 := Lib.hid (bl_call (bl_drew (bl_alloc (bl_alloc (Below.refl _ _) _) _)) hb4); have T4 := Lib.hid ht; have V4 := Lib.hid hv; obtain ⟨⟨z, xb0, xb1, xb2, xb3, xb4, xb5, yb0, yb1, yb2, yb3, yb4, yb5⟩, zz, xa0, xa1, xa2, ya0, ya1, ya2⟩ := old36d hb4; have O36 := Lib.hid (kold36 hb4); clear ht hv hb4)))
    all_goals go_wp2_with fail
    all_goals go_meet
    all_goals first
      | with_reducible exact ⟨rfl, rfl, _, _, ⟨⟨A1, _, D1⟩, ⟨A2, _, D2⟩, t4, ⟨A3, _, D3⟩⟩, v4, rfl, rfl, ⟨rfl, rfl, rfl⟩, Lib.hid (L4.out.next (way1 (t := ⟨⟨A1, _, D1⟩, ⟨A2, _, D2⟩, t4, ⟨A3, _, D3⟩⟩) (v := v4) H4.out T4.out V4.out).bel), Lib.hid (way1 (t := ⟨⟨A1, _, D1⟩, ⟨A2, _, D2⟩, t4, ⟨A3, _, D3⟩⟩) (v := v4) H4.out T4.out V4.out)⟩
      | with_reducible exact ⟨rfl, rfl, _, _, ⟨⟨A1, _, D1⟩, ⟨A2, _, D2⟩, t4, ⟨A3, _, D3⟩⟩, v4, rfl, rfl, ⟨rfl, rfl, rfl⟩, Lib.hid (L4.out.next (way2 (t := ⟨⟨A1, _, D1⟩, ⟨A2, _, D2⟩, t4, ⟨A3, _, D3⟩⟩) (v := v4) H4.out T4.out V4.out).bel), Lib.hid (way2 (t := ⟨⟨A1, _, D1⟩, ⟨A2, _, D2⟩, t4, ⟨A3, _, D3⟩⟩) (v := v4) H4.out T4.out V4.out)⟩
      | with_reducible exact ⟨rfl, rfl, _, _, ⟨⟨A1, _, D1⟩, ⟨A2, _, D2⟩, t4, ⟨A3, _, D3⟩⟩, v4, rfl, rfl, ⟨rfl, rfl, rfl⟩, Lib.hid (L4.out.next (way3r (t := ⟨⟨A1, _, D1⟩, ⟨A2, _, D2⟩, t4, ⟨A3, _, D3⟩⟩) (v := v4) H4.out T4.out V4.out O6.out).bel), Lib.hid (way3r (t := ⟨⟨A1, _, D1⟩, ⟨A2, _, D2⟩, t4, ⟨A3, _, D3⟩⟩) (v := v4) H4.out T4.out V4.out O6.out)⟩
      | with_reducible exact ⟨rfl, rfl, _, _, ⟨⟨A1, _, D1⟩, ⟨A2, _, D2⟩, t4, ⟨A3, _, D3⟩⟩, v4, rfl, rfl, ⟨rfl, rfl, rfl⟩, Lib.hid (L4.out.next (way4r (t := ⟨⟨A1, _, D1⟩, ⟨A2, _, D2⟩, t4, ⟨A3, _, D3⟩⟩) (v := v4) H4.out T4.out V4.out O63.out).bel), Lib.hid (way4r (t := ⟨⟨A1, _, D1⟩, ⟨A2, _, D2⟩, t4, ⟨A3, _, D3⟩⟩) (v := v4) H4.out T4.out V4.out O63.out)⟩
      | with_reducible exact ⟨rfl, rfl, _, _, ⟨⟨A1, _, D1⟩, ⟨A2, _, D2⟩, t4, ⟨A3, _, D3⟩⟩, v4, rfl, rfl, ⟨rfl, rfl, rfl⟩, Lib.hid (L4.out.next (way5r (t := ⟨⟨A1, _, D1⟩, ⟨A2, _, D2⟩, t4, ⟨A3, _, D3⟩⟩) (v := v4) H4.out T4.out V4.out O3.out).bel), Lib.hid (way5r (t := ⟨⟨A1, _, D1⟩, ⟨A2, _, D2⟩, t4, ⟨A3, _, D3⟩⟩) (v := v4) H4.out T4.out V4.out O3.out)⟩
      | with_reducible exact ⟨rfl, rfl, _, _, ⟨⟨A1, _, D1⟩, ⟨A2, _, D2⟩, t4, ⟨A3, _, D3⟩⟩, v4, rfl, rfl, ⟨rfl, rfl, rfl⟩, Lib.hid (L4.out.next (way6r (t := ⟨⟨A1, _, D1⟩, ⟨A2, _, D2⟩, t4, ⟨A3, _, D3⟩⟩) (v := v4) H4.out T4.out V4.out O36.out).bel), Lib.hid (way6r (t := ⟨⟨A1, _, D1⟩, ⟨A2, _, D2⟩, t4, ⟨A3, _, D3⟩⟩) (v := v4) H4.out T4.out V4.out O36.out)⟩
  case rest =>
    obtain ⟨rfl, rfl, bk, bc, t, v, rfl, rfl, ⟨hn4, hn5, hn6⟩, L5, K5⟩ := hcut
    clear L4
    obtain ⟨⟨A1, n1, D1⟩, t2, t3, t4⟩ := t
    obtain rfl : n1 = 0 := hn4
    clear hn5 hn6
    have k0 := K5.out.kb.c0
    have kl := K5.out.kb.lt
    dsimp only at k0
    go_wp2
    go_ret
    exact ⟨rfl, L5.out.lh.bel⟩
end
end Go.Proofs.YtcbnefjfoeanoaaGreatDoor.AllocKeeps
