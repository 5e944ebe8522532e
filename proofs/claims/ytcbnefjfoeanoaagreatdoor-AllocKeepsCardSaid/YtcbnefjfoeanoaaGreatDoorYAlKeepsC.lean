/-
  AllocKeeps: what is taken was free; each other object's words are as they were; its own are noughts but for its head; what was whole is whole: for every heap of at most 9 pages and 130 words, every four caches of at most 70 cells of each class, and every head; the table of sizes is tied to the program's text by the card.
-/
import Derived.Test.YtcbnefjfoeanoaaGreatDoorYAlKeepsA
import Derived.Test.YtcbnefjfoeanoaaGreatDoorHpYE
namespace Go.Proofs.YtcbnefjfoeanoaaGreatDoor.AllocKeeps
open Go.Proofs.YtcbnefjfoeanoaaGreatDoor Go.Proofs.YtcbnefjfoeanoaaGreatDoor.Al
open Go.ChangeShapes Go.WideShapes Go.ChangeAt Go.RowKit
set_option maxRecDepth 100000

section
variable (s : Hs) (d : Hd_) (A : Option Addr) (n c : Nat) (U : Nat → Nat → Ls.Sl) (F : Nat → Nat → List Int) (us o e : Bool) (N b m : Int) (w : World)
set_option maxHeartbeats 16000000 in
theorem core_ok (a : Int) (D : Hd_) (G' : Nat → List Int) (nu rm : Nat) (ul : List Int) (hnc : n ≤ c) (hn4' : n ≤ 4) (hu5 : nu ≤ 512) (hwp : s.w.n = 16 * s.p.n) (h64 : s.p.n ≤ 64) (hrm : Cl.bg D.f s.p.n a = (rm : Nat)) (hrb : 1 ≤ rm ∧ 16 ≤ a ∧ a + rm ≤ 16 + 16 * (s.p.n : Int) ∧ N < (rm : Int)) (hzr : ∀ z, a < z → z < a + rm → wd D z = 0) (hul : ∀ y ∈ ul, ¬ Cl.bg d.f s.p.n y = 0 ∧ ¬ y = a ∧ Same4 s.p.n d D y) (u : Nat → Ls.Sl) (hu : U 0 = u) (hf : fewL s U n = true) (hn1 : 0 < n) (hwh : ∀ W, Lq w W s d A n U F us o e N b m → Calls Tryz.prog 16 #[(.agg #[.slice s.w.a s.w.n s.w.c, .slice s.p.a s.p.n s.p.c, .slice (s.u 0).a (s.u 0).n (s.u 0).c, .slice (s.u 1).a (s.u 1).n (s.u 1).c, .slice (s.u 2).a (s.u 2).n (s.u 2).c, .slice s.c.a s.c.n s.c.c]), .slice A n c] W fun e w' => e = .returned (.bool true) ∧ Below W.heap.size W w')  (htk : ∀ W, Lq w W s d A n U F us o e N b m → Calls Tryz.prog 11 #[(.agg #[.slice s.w.a s.w.n s.w.c, .slice s.p.a s.p.n s.p.c, .slice (s.u 0).a (s.u 0).n (s.u 0).c, .slice (s.u 1).a (s.u 1).n (s.u 1).c, .slice (s.u 2).a (s.u 2).n (s.u 2).c, .slice s.c.a s.c.n s.c.c]), (.agg #[.slice (u 0).a (u 0).n (u 0).c, .slice (u 1).a (u 1).n (u 1).c, .slice (u 2).a (u 2).n (u 2).c]), .agg #[.bool us, .bool o, .bool e, .int .i64 N, .int .i64 b, .int .i64 m]] W fun e w' => ∃ (t : Hs) (v : Nat → Ls.Sl), e = .returned (.tuple #[(.agg #[.slice t.w.a t.w.n t.w.c, .slice t.p.a t.p.n t.p.c, .slice (t.u 0).a (t.u 0).n (t.u 0).c, .slice (t.u 1).a (t.u 1).n (t.u 1).c, .slice (t.u 2).a (t.u 2).n (t.u 2).c, .slice t.c.a t.c.n t.c.c]), (.agg #[.slice (v 0).a (v 0).n (v 0).c, .slice (v 1).a (v 1).n (v 1).c, .slice (v 2).a (v 2).n (v 2).c]), .int .i64 a, .int .i64 0]) ∧ Hp w' w'.heap.size t D ∧ Ls.L3 w' w'.heap.size v G' ∧ (t.w.n = s.w.n ∧ t.p.n = s.p.n ∧ t.c.n = s.c.n) ∧ Below W.heap.size W w') (hwb : ∀ W bk t A2 v c2, (t.w.n = s.w.n ∧ t.p.n = s.p.n ∧ t.c.n = s.c.n) → Kq w W A n U F s d us o e N b m bk t D → Ls.LRow W W.heap.size A2 (1 + (n - 1)) (ahead v fun i => U (i + 1)) (ahead G' fun i => F (i + 1)) → Calls Tryz.prog 16 #[(.agg #[.slice t.w.a t.w.n t.w.c, .slice t.p.a t.p.n t.p.c, .slice (t.u 0).a (t.u 0).n (t.u 0).c, .slice (t.u 1).a (t.u 1).n (t.u 1).c, .slice (t.u 2).a (t.u 2).n (t.u 2).c, .slice t.c.a t.c.n t.c.c]), .slice A2 (1 + (n - 1)) c2] W fun e w' => e = .returned (.bool true) ∧ Below W.heap.size W w') (hus : ∀ W bk t, Kq w W A n U F s d us o e N b m bk t D → Calls Tryz.prog 17 #[(.agg #[.slice s.w.a s.w.n s.w.c, .slice s.p.a s.p.n s.p.c, .slice (s.u 0).a (s.u 0).n (s.u 0).c, .slice (s.u 1).a (s.u 1).n (s.u 1).c, .slice (s.u 2).a (s.u 2).n (s.u 2).c, .slice s.c.a s.c.n s.c.c])] W fun e w' => ∃ A3 C3, e = .returned (.slice A3 nu C3) ∧ Row w' w'.heap.size A3 nu ul ∧ Below W.heap.size W w') (hhd : ∀ W bk t, (t.w.n = s.w.n ∧ t.p.n = s.p.n ∧ t.c.n = s.c.n) → Kq w W A n U F s d us o e N b m bk t D → Calls Tryz.prog 19 #[(.agg #[.slice t.w.a t.w.n t.w.c, .slice t.p.a t.p.n t.p.c, .slice (t.u 0).a (t.u 0).n (t.u 0).c, .slice (t.u 1).a (t.u 1).n (t.u 1).c, .slice (t.u 2).a (t.u 2).n (t.u 2).c, .slice t.c.a t.c.n t.c.c]), .int .i64 a] W (HeadOut W (.agg #[.bool us, .bool o, .bool e, .int .i64 N, .int .i64 b, .int .i64 m]) 0)) (huk : ∀ W bk t, (t.w.n = s.w.n ∧ t.p.n = s.p.n ∧ t.c.n = s.c.n) → Kq w W A n U F s d us o e N b m bk t D → Calls Tryz.prog 17 #[(.agg #[.slice t.w.a t.w.n t.w.c, .slice t.p.a t.p.n t.p.c, .slice (t.u 0).a (t.u 0).n (t.u 0).c, .slice (t.u 1).a (t.u 1).n (t.u 1).c, .slice (t.u 2).a (t.u 2).n (t.u 2).c, .slice t.c.a t.c.n t.c.c])] W fun e w' => ∃ A4 C4, e = .returned (.slice A4 (nu + 1) C4) ∧ Below W.heap.size W w') (hn : n ≤ 9223372036854775807) (hz : Cl.Sz w) (hp : Hp w w.heap.size s d) (hl : Ls.LRow w w.heap.size A n U F) : Calls Tryz.prog 4 #[(.agg #[.slice s.w.a s.w.n s.w.c, .slice s.p.a s.p.n s.p.c, .slice (s.u 0).a (s.u 0).n (s.u 0).c, .slice (s.u 1).a (s.u 1).n (s.u 1).c, .slice (s.u 2).a (s.u 2).n (s.u 2).c, .slice s.c.a s.c.n s.c.c]), .slice A n c, .agg #[.bool us, .bool o, .bool e, .int .i64 N, .int .i64 b, .int .i64 m]] w fun e w' => e = .returned (.bool true) ∧ Below w.heap.size w w' := by
  have HZ := Lib.hid hz
  have hz0 := hz.pos
  have HP := Lib.hid hp
  have HL := Lib.hid hl
  have HF := Lib.hid hf
  have WB := Lib.hid hwb
  have US := Lib.hid hus
  have HD := Lib.hid hhd
  have UK := Lib.hid huk
  have HWP := Lib.hid hwp
  have H64 := Lib.hid h64
  have HRM := Lib.hid hrm
  have HRB := Lib.hid hrb
  have HZR := Lib.hid hzr
  have HUS := Lib.hid hul
  have HU5 := Lib.hid hu5
  clear hwb hus hhd huk hwp h64 hrm hrb hzr hul hu5
  have HWH := Lib.hid hwh
  have TK := Lib.hid htk
  clear hz hp hl hf hwh htk
  go_enter Tryz.func4, Tryz.ntmps4
  go_wp2_with fail
  obtain ⟨W1, hW1⟩ : ∃ W1, W1 = (w.alloc (.cells #[.slice s.w.a s.w.n s.w.c, .slice s.p.a s.p.n s.p.c, .slice (s.u 0).a (s.u 0).n (s.u 0).c, .slice (s.u 1).a (s.u 1).n (s.u 1).c, .slice (s.u 2).a (s.u 2).n (s.u 2).c, .slice s.c.a s.c.n s.c.c] 28)).alloc (.cells #[.bool us, .bool o, .bool e, .int .i64 N, .int .i64 b, .int .i64 m] 30) := ⟨_, rfl⟩
  have L1 := Lib.hid (lq_start HP.out HL.out hW1)
  rw [← hW1]
  clear hW1
  refine (Al.awake_any W1 (HZ.out.over L1.out.lh.bel hz0)).mono ?_
  rintro e9 w1 ⟨rfl, hb1⟩
  have L2 := Lib.hid (L1.out.next hb1)
  clear hb1 L1
  have q0 := L2.out.lh.hb.c0
  have q1 := L2.out.lh.hb.c1
  have q2 := L2.out.lh.hb.c2
  have q3 := L2.out.lh.hb.c3
  have q4 := L2.out.lh.hb.c4
  have q5 := L2.out.lh.hb.c5
  have ql := L2.out.lh.hb.lt
  go_wp2_with fail
  refine (few8_any s A _ c U F w1 hn L2.out.lh.lr).mono ?_
  rw [HF.out]
  rintro e9 w2 ⟨rfl, hb2⟩
  have L3 := Lib.hid (L2.out.next hb2)
  clear hb2 L2
  clear q0 q1 q2 q3 q4 q5 ql
  have d1 : decide ((n : Int) < 1) = false := by simp; omega
  have q0 := L3.out.lh.hb.c0
  have q1 := L3.out.lh.hb.c1
  have q2 := L3.out.lh.hb.c2
  have q3 := L3.out.lh.hb.c3
  have q4 := L3.out.lh.hb.c4
  have q5 := L3.out.lh.hb.c5
  have ql := L3.out.lh.hb.lt
  go_wp2_with fail
  refine (HWH.out w2 L3.out).mono ?_
  rintro e9 w3 ⟨rfl, hb3⟩
  have L4 := Lib.hid (L3.out.next hb3)
  clear hb3 L3
  clear q0 q1 q2 q3 q4 q5 ql
  have hlb : Hid (Ls.LRow w3 w3.heap.size A n U F) := Lib.hid L4.out.lh.lr
  obtain ⟨bb, off, rfl, hbl, hcl⟩ := hlb.out hn1
  clear hcl hbl hlb
  have i0 : (0 : Int) < n := by omega
  have HU := Lib.hid hu
  clear hu
  go_upto_region 5 with fail
  go_cut [9, 10, 11, 12] from 9 to 55 (fun p q aa ee wx => aa = .int .i64 a ∧ ee = .int .i64 0 ∧ ∃ bk bc t v, p = .pointer (some ⟨bk, 0, none⟩) ∧ q = .pointer (some ⟨bc, 0, none⟩) ∧ (t.w.n = s.w.n ∧ t.p.n = s.p.n ∧ t.c.n = s.c.n) ∧ Hid (Lq w wx s d (some ⟨bb, off, none⟩) n U F us o e N b m) ∧ Hid (K2 w3 wx bk bc t v D G'))
  case first =>
    go_region_held3 (fun W => ((Below w3.heap.size w3 W ∧ True) ∧ w.heap.size < W.heap.size ∧ W.cell? ⟨w.heap.size, 0, none⟩ = some (.slice s.w.a s.w.n s.w.c) ∧ W.cell? ⟨w.heap.size, 1, none⟩ = some (.slice s.p.a s.p.n s.p.c) ∧ W.cell? ⟨w.heap.size, 2, none⟩ = some (.slice (s.u 0).a (s.u 0).n (s.u 0).c) ∧ W.cell? ⟨w.heap.size, 3, none⟩ = some (.slice (s.u 1).a (s.u 1).n (s.u 1).c) ∧ W.cell? ⟨w.heap.size, 4, none⟩ = some (.slice (s.u 2).a (s.u 2).n (s.u 2).c) ∧ W.cell? ⟨w.heap.size, 5, none⟩ = some (.slice s.c.a s.c.n s.c.c) ∧ bb < W.heap.size ∧ W.cell? ⟨bb, off, none⟩ = some (.slice (u 0).a (u 0).n (u 0).c) ∧ W.cell? ⟨bb, off + 1, none⟩ = some (.slice (u 1).a (u 1).n (u 1).c) ∧ W.cell? ⟨bb, off + 2, none⟩ = some (.slice (u 2).a (u 2).n (u 2).c)) ∧ w.heap.size + 1 < W.heap.size ∧ W.cell? ⟨w.heap.size + 1, 0, none⟩ = some (.bool us) ∧ W.cell? ⟨w.heap.size + 1, 1, none⟩ = some (.bool o) ∧ W.cell? ⟨w.heap.size + 1, 2, none⟩ = some (.bool e) ∧ W.cell? ⟨w.heap.size + 1, 3, none⟩ = some (.int .i64 N) ∧ W.cell? ⟨w.heap.size + 1, 4, none⟩ = some (.int .i64 b) ∧ W.cell? ⟨w.heap.size + 1, 5, none⟩ = some (.int .i64 m)) (((with_reducible refine lq_keep u L4.out hn1 HU.out ?_); repeat' (first | with_reducible exact H4.out | with_reducible exact Below.refl _ _ | with_reducible refine bl_set ?_ ?_ _ | with_reducible refine bl_alloc ?_ _ | with_reducible refine bl_drew ?_ | with_reducible exact Nat.le_refl _ | with_reducible exact Nat.le_succ _ | omega))) (first
      | ((go_at_call 11; (with_reducible refine (TK.out (World.drew w3) (L4.out.next (bl_drew (Below.refl _ _)))).mono ?_); rintro e9 w4 ⟨⟨⟨A1, m1, D1⟩, ⟨A2, m2, D2⟩, t4, ⟨A3, m3, D3⟩⟩, v4, rfl, ht, hv, ⟨hn1, hn2, hn3⟩, hb4⟩; obtain rfl : m1 = _ := hn1; obtain rfl : m2 = _ := hn2; obtain rfl : m3 = _ := hn3; dsimp only; have H4 := Lib.hid (bl_call (bl_drew (Below.refl _ _)) hb4); have T4 := Lib.hid ht; have V4 := Lib.hid hv; clear ht hv hb4))
      | ((go_at_call 11; (with_reducible refine (TK.out (World.drew (World.alloc w3 (.cells #[.slice none 0 0, .slice none 0 0, .slice none 0 0, .slice none 0 0, .slice none 0 0, .slice none 0 0] 28))) (L4.out.next (bl_drew (bl_alloc (Below.refl _ _) _)))).mono ?_); rintro e9 w4 ⟨⟨⟨A1, m1, D1⟩, ⟨A2, m2, D2⟩, t4, ⟨A3, m3, D3⟩⟩, v4, rfl, ht, hv, ⟨hn1, hn2, hn3⟩, hb4⟩; obtain rfl : m1 = _ := hn1; obtain rfl : m2 = _ := hn2; obtain rfl : m3 = _ := hn3; dsimp only; have H4 := Lib.hid (bl_call (bl_drew (bl_alloc (Below.refl _ _) _)) hb4); have T4 := Lib.hid ht; have V4 := Lib.hid hv; obtain ⟨z, xa0, xa1, xa2, xa3, xa4, xa5, ya0, ya1, ya2, ya3, ya4, ya5⟩ := old6d hb4; have O6 := Lib.hid (kold6 hb4); clear ht hv hb4))
      | ((go_at_call 11; (with_reducible refine (TK.out (World.drew (World.alloc w3 (.cells #[.slice none 0 0, .slice none 0 0, .slice none 0 0] 25))) (L4.out.next (bl_drew (bl_alloc (Below.refl _ _) _)))).mono ?_); rintro e9 w4 ⟨⟨⟨A1, m1, D1⟩, ⟨A2, m2, D2⟩, t4, ⟨A3, m3, D3⟩⟩, v4, rfl, ht, hv, ⟨hn1, hn2, hn3⟩, hb4⟩; obtain rfl : m1 = _ := hn1; obtain rfl : m2 = _ := hn2; obtain rfl : m3 = _ := hn3; dsimp only; have H4 := Lib.hid (bl_call (bl_drew (bl_alloc (Below.refl _ _) _)) hb4); have T4 := Lib.hid ht; have V4 := Lib.hid hv; obtain ⟨z, xa0, xa1, xa2, ya0, ya1, ya2⟩ := old3d hb4; have O3 := Lib.hid (kold3 hb4); clear ht hv hb4))
      | ((go_at_call 11; (with_reducible refine (TK.out (World.drew (World.alloc (World.alloc w3 (.cells #[.slice none 0 0, .slice none 0 0, .slice none 0 0, .slice none 0 0, .slice none 0 0, .slice none 0 0] 28)) (.cells #[.slice none 0 0, .slice none 0 0, .slice none 0 0] 25))) (L4.out.next (bl_drew (bl_alloc (bl_alloc (Below.refl _ _) _) _)))).mono ?_); rintro e9 w4 ⟨⟨⟨A1, m1, D1⟩, ⟨A2, m2, D2⟩, t4, ⟨A3, m3, D3⟩⟩, v4, rfl, ht, hv, ⟨hn1, hn2, hn3⟩, hb4⟩; obtain rfl : m1 = _ := hn1; obtain rfl : m2 = _ := hn2; obtain rfl : m3 = _ := hn3; dsimp only; have H4 := Lib.hid (bl_call (bl_drew (bl_alloc (bl_alloc (Below.refl _ _) _) _)) hb4); have T4 := Lib.hid ht; have V4 := Lib.hid hv; obtain ⟨⟨z, xb0, xb1, xb2, yb0, yb1, yb2⟩, zz, xa0, xa1, xa2, xa3, xa4, xa5, ya0, ya1, ya2, ya3, ya4, ya5⟩ := old63d hb4; have O63 := Lib.hid (kold63 hb4); clear ht hv hb4))
      | ((go_at_call 11; (with_reducible refine (TK.out (World.drew (World.alloc (World.alloc w3 (.cells #[.slice none 0 0, .slice none 0 0, .slice none 0 0] 25)) (.cells #[.slice none 0 0, .slice none 0 0, .slice none 0 0, .slice none 0 0, .slice none 0 0, .slice none 0 0] 28))) (L4.out.next (bl_drew (bl_alloc (bl_alloc (Below.refl _ _) _) _)))).mono ?_); rintro e9 w4 ⟨⟨⟨A1, m1, D1⟩, ⟨A2, m2, D2⟩, t4, ⟨A3, m3, D3⟩⟩, v4, rfl, ht, hv, ⟨hn1, hn2, hn3⟩, hb4⟩; obtain rfl : m1 = _ := hn1; obtain rfl : m2 = _ := hn2; obtain rfl : m3 = _ := hn3; dsimp only; have H4 := Lib.hid (bl_call (bl_drew (bl_alloc (bl_alloc (Below.refl _ _) _) _)) hb4); have T4 := Lib.hid ht; have V4 := Lib.hid hv; obtain ⟨⟨z, xb0, xb1, xb2, xb3, xb4, xb5, yb0, yb1, yb2, yb3, yb4, yb5⟩, zz, xa0, xa1, xa2, ya0, ya1, ya2⟩ := old36d hb4; have O36 := Lib.hid (kold36 hb4); clear ht hv hb4)))
    all_goals go_wp2_with fail
    all_goals go_meet
    all_goals first
      | with_reducible exact ⟨rfl, rfl, _, _, ⟨⟨A1, _, D1⟩, ⟨A2, _, D2⟩, t4, ⟨A3, _, D3⟩⟩, v4, rfl, rfl, ⟨rfl, rfl, rfl⟩, Lib.hid (L4.out.next (way1 (t := ⟨⟨A1, _, D1⟩, ⟨A2, _, D2⟩, t4, ⟨A3, _, D3⟩⟩) (v := v4) H4.out T4.out V4.out).bel), Lib.hid (way1 (t := ⟨⟨A1, _, D1⟩, ⟨A2, _, D2⟩, t4, ⟨A3, _, D3⟩⟩) (v := v4) H4.out T4.out V4.out)⟩
      | with_reducible exact ⟨rfl, rfl, _, _, ⟨⟨A1, _, D1⟩, ⟨A2, _, D2⟩, t4, ⟨A3, _, D3⟩⟩, v4, rfl, rfl, ⟨rfl, rfl, rfl⟩, Lib.hid (L4.out.next (way2 (t := ⟨⟨A1, _, D1⟩, ⟨A2, _, D2⟩, t4, ⟨A3, _, D3⟩⟩) (v := v4) H4.out T4.out V4.out).bel), Lib.hid (way2 (t := ⟨⟨A1, _, D1⟩, ⟨A2, _, D2⟩, t4, ⟨A3, _, D3⟩⟩) (v := v4) H4.out T4.out V4.out)⟩
      | with_reducible exact ⟨rfl, rfl, _, _, ⟨⟨A1, _, D1⟩, ⟨A2, _, D2⟩, t4, ⟨A3, _, D3⟩⟩, v4, rfl, rfl, ⟨rfl, rfl, rfl⟩, Lib.hid (L4.out.next (way3r (t := ⟨⟨A1, _, D1⟩, ⟨A2, _, D2⟩, t4, ⟨A3, _, D3⟩⟩) (v := v4) H4.out T4.out V4.out O6.out).bel), Lib.hid (way3r (t := ⟨⟨A1, _, D1⟩, ⟨A2, _, D2⟩, t4, ⟨A3, _, D3⟩⟩) (v := v4) H4.out T4.out V4.out O6.out)⟩
      | with_reducible exact ⟨rfl, rfl, _, _, ⟨⟨A1, _, D1⟩, ⟨A2, _, D2⟩, t4, ⟨A3, _, D3⟩⟩, v4, rfl, rfl, ⟨rfl, rfl, rfl⟩, Lib.hid (L4.out.next (way4r (t := ⟨⟨A1, _, D1⟩, ⟨A2, _, D2⟩, t4, ⟨A3, _, D3⟩⟩) (v := v4) H4.out T4.out V4.out O63.out).bel), Lib.hid (way4r (t := ⟨⟨A1, _, D1⟩, ⟨A2, _, D2⟩, t4, ⟨A3, _, D3⟩⟩) (v := v4) H4.out T4.out V4.out O63.out)⟩
      | with_reducible exact ⟨rfl, rfl, _, _, ⟨⟨A1, _, D1⟩, ⟨A2, _, D2⟩, t4, ⟨A3, _, D3⟩⟩, v4, rfl, rfl, ⟨rfl, rfl, rfl⟩, Lib.hid (L4.out.next (way5r (t := ⟨⟨A1, _, D1⟩, ⟨A2, _, D2⟩, t4, ⟨A3, _, D3⟩⟩) (v := v4) H4.out T4.out V4.out O3.out).bel), Lib.hid (way5r (t := ⟨⟨A1, _, D1⟩, ⟨A2, _, D2⟩, t4, ⟨A3, _, D3⟩⟩) (v := v4) H4.out T4.out V4.out O3.out)⟩
      | with_reducible exact ⟨rfl, rfl, _, _, ⟨⟨A1, _, D1⟩, ⟨A2, _, D2⟩, t4, ⟨A3, _, D3⟩⟩, v4, rfl, rfl, ⟨rfl, rfl, rfl⟩, Lib.hid (L4.out.next (way6r (t := ⟨⟨A1, _, D1⟩, ⟨A2, _, D2⟩, t4, ⟨A3, _, D3⟩⟩) (v := v4) H4.out T4.out V4.out O36.out).bel), Lib.hid (way6r (t := ⟨⟨A1, _, D1⟩, ⟨A2, _, D2⟩, t4, ⟨A3, _, D3⟩⟩) (v := v4) H4.out T4.out V4.out O36.out)⟩
  case rest =>
    obtain ⟨rfl, rfl, bk, bc, t, v, rfl, rfl, ⟨hn4, hn5, hn6⟩, L5, K5⟩ := hcut
    clear L4
    have N0 := Lib.hid (show (t.w.n = s.w.n ∧ t.p.n = s.p.n ∧ t.c.n = s.c.n) from ⟨hn4, hn5, hn6⟩)
    clear hn4 hn5 hn6
    have i1 : (1 : Int) ≤ n := by omega
    have LD := Lib.hid (L5.out.next (below_drawn' (Below.refl _ _) 1))
    have KD := Lib.hid (K5.out.next (below_drawn' (Below.refl _ _) 1))
    have x0 := K5.out.cb.cell 0 (by decide)
    have x1 := K5.out.cb.cell 1 (by decide)
    have x2 := K5.out.cb.cell 2 (by decide)
    have xl := K5.out.cb.lt
    go_upto_region 8 with fail
    go_cut [13] from 65 to 69 (fun r wx => ∃ A2 c2, r = .slice A2 (1 + (n - 1)) c2 ∧ Hid (Kq w wx (some ⟨bb, off, none⟩) n U F s d us o e N b m bk t D ∧ Ls.LRow wx wx.heap.size A2 (1 + (n - 1)) (ahead v fun i => U (i + 1)) (ahead G' fun i => F (i + 1))))
    case first =>
      rcases (show c = 1 ∨ ¬ c = 1 by omega) with hc1 | hc1
      · subst hc1
        go_region_law ((refine step_glue8 (by rfl) (.tmp 66) (.tmp 68) (by rfl) (by rfl) (by rfl) (B := (World.drew wc).heap.size) (u := v) (f := G') KD.out.l3 (Nat.le_refl _) (lrow_tail8 LD.out.lh.lr ?_ ?_) ?_ ?_; (first | rfl | omega); (first | exact fun _ => rfl | (intro h0; exact absurd h0 (by omega))); (first | omega | (simp; omega)); intro A2 c2 w5 hla hbe; have LA := Lib.hid hla; have BE := Lib.hid hbe; clear hla hbe))
        all_goals go_wp2_with fail
        all_goals go_meet
        all_goals first
          | exact ⟨A2, c2, rfl, Lib.hid ⟨kq_of (LD.out.next BE.out) (KD.out.next BE.out), LA.out⟩⟩
          | exact ⟨A2, c2, by rw [show 1 + (n - 1) = 1 by omega], Lib.hid ⟨kq_of (LD.out.next BE.out) (KD.out.next BE.out), by have h9 := LA.out; rw [show 1 + (n - 1) = 1 + 0 by omega]; exact h9⟩⟩
      · skip
        go_region_law ((refine step_glue8 (by rfl) (.tmp 66) (.tmp 68) (by rfl) (by rfl) (by rfl) (B := (World.drew wc).heap.size) (u := v) (f := G') KD.out.l3 (Nat.le_refl _) (lrow_tail8 LD.out.lh.lr ?_ ?_) ?_ ?_; (first | rfl | omega); (first | exact fun _ => rfl | (intro h0; exact absurd h0 (by omega))); (first | omega | (simp; omega)); intro A2 c2 w5 hla hbe; have LA := Lib.hid hla; have BE := Lib.hid hbe; clear hla hbe))
        all_goals go_wp2_with fail
        all_goals go_meet
        all_goals first
          | exact ⟨A2, c2, rfl, Lib.hid ⟨kq_of (LD.out.next BE.out) (KD.out.next BE.out), LA.out⟩⟩
          | exact ⟨A2, c2, by rw [show 1 + (n - 1) = 1 by omega], Lib.hid ⟨kq_of (LD.out.next BE.out) (KD.out.next BE.out), by have h9 := LA.out; rw [show 1 + (n - 1) = 1 + 0 by omega]; exact h9⟩⟩
    case rest =>
      obtain ⟨A2, c2, rfl, HB⟩ := hcut
      clear L5 K5 LD KD x0 x1 x2 xl
      generalize wc = wg at HB ⊢
      have dl : ((t.w.n : Int) != s.w.n) = false := by rw [N0.out.1]; simp
      go_upto_region 9 with fail
      have q0 := (HB.out.1.kb).c0
      have q1 := (HB.out.1.kb).c1
      have q2 := (HB.out.1.kb).c2
      have q3 := (HB.out.1.kb).c3
      have q4 := (HB.out.1.kb).c4
      have q5 := (HB.out.1.kb).c5
      have ql := (HB.out.1.kb).lt
      go_wp2_with fail
      refine (WB.out wg bk t A2 v c2 N0.out HB.out.1 HB.out.2).mono ?_
      rintro e9 w8 ⟨rfl, hb8⟩
      have HQ := Lib.hid (HB.out.1.next hb8)
      clear HB hb8 WB
      clear q0 q1 q2 q3 q4 q5 ql
      have q0 := HQ.out.lq.lh.hb.c0
      have ql := HQ.out.lq.lh.hb.lt
      have p0 := HQ.out.kb.c0
      have pl := HQ.out.kb.lt
      go_upto_region 11 with fail
      clear q0 ql p0 pl dl
      have q0 := (HQ.out.lq.lh.hb).c0
      have q1 := (HQ.out.lq.lh.hb).c1
      have q2 := (HQ.out.lq.lh.hb).c2
      have q3 := (HQ.out.lq.lh.hb).c3
      have q4 := (HQ.out.lq.lh.hb).c4
      have q5 := (HQ.out.lq.lh.hb).c5
      have ql := (HQ.out.lq.lh.hb).lt
      go_wp2_with fail
      refine (US.out _ bk t HQ.out).mono ?_
      rintro e9 w9 ⟨A3, C3, rfl, hr9, hb9⟩
      have KU0 := Lib.hid (show Ku w w9 (some ⟨bb, off, none⟩) n U F s d us o e N b m bk t D A3 nu ul from ⟨HQ.out.next hb9, hr9⟩)
      clear hr9 hb9 HQ US
      clear q0 q1 q2 q3 q4 q5 ql
      have HN : Hid (ul.length = nu) := Lib.hid KU0.out.row.1
      have C1 := Lib.hid (fun (y : Int) W (h : Kq w W (some ⟨bb, off, none⟩) n U F s d us o e N b m bk t D) => (Cl.rbegins_any W.heap.size s.p.a s.p.n s.p.c d.f y W (by have := H64.out; omega) h.lq.lh.hp.pages (Nat.le_refl _)))
      have C2 : Hid (∀ (y : Int) W, Kq w W (some ⟨bb, off, none⟩) n U F s d us o e N b m bk t D → Calls Tryz.prog 18 #[.slice t.p.a t.p.n t.p.c, .int .i64 y] W fun e w' => e = .returned (.int .i64 (Cl.bg D.f s.p.n y)) ∧ Below W.heap.size W w') := Lib.hid (fun y W h => by
        have := Cl.rbegins_any W.heap.size t.p.a t.p.n t.p.c D.f y W (by rw [N0.out.2.1]; have := H64.out; omega) h.kp.pages (Nat.le_refl _)
        exact this.mono fun _ _ hh => by rw [N0.out.2.1] at hh; exact hh)
      go_wp2
      go_loopw [15, 16, 17] (fun i _ _ wr => ∃ k : Nat, k ≤ nu ∧ i = .int .i64 k ∧ Hid (Ku w wr (some ⟨bb, off, none⟩) n U F s d us o e N b m bk t D A3 nu ul)) (fun i _ _ _ => nu - (intOf i).toNat)
      case atStart => exact ⟨0, Nat.zero_le _, rfl, KU0⟩
      case round =>
        obtain ⟨k, hk, rfl, HK⟩ := hrel
        clear KU0
        by_cases hlt : k < nu
        · have dq : decide ((k : Int) < nu) = true := by simp; omega
          have iq0 : (0 : Int) ≤ k := by omega
          have iq1 : (k : Int) < nu := by omega
          obtain ⟨bu, ou, rfl, hbl, hcell⟩ := HK.out.row.2 (by omega)
          obtain ⟨y, hy⟩ : ∃ y, y = ul.getD k 0 := ⟨_, rfl⟩
          have hq1 := hcell k hlt
          rw [← hy] at hq1
          have hyu := HUS.out y (by rw [hy]; exact getD_mem (by have := HN.out; omega))
          have hce := cell_end hyu.1
          have hw16 : 16 * s.p.n ≤ s.w.n := Nat.le_of_eq HWP.out.symm
          have h64 := H64.out
          obtain ⟨B, hB⟩ : ∃ B, B = Cl.bg d.f s.p.n y := ⟨_, rfl⟩
          have D1 := Lib.hid (fun W h => C1.out y W h)
          have D2 := Lib.hid (fun W h => C2.out y W h)
          have HSA := Lib.hid hyu.2.2
          have dya : (y == a) = false := by simp [hyu.2.1]
          rw [HSA.out.bg, ← hB] at D2
          rw [← hB] at hce D1
          have dB : (B != B) = false := by simp
          have HS2 : Hid ((Ku w wr (some ⟨bb, off, none⟩) n U F s d us o e N b m bk t D (some ⟨bu, ou, none⟩) nu ul ∧ True) ∧ bu < wr.heap.size ∧ wr.cell? ⟨bu, ou + k, none⟩ = some (.int .i64 y)) := Lib.hid ⟨⟨HK.out, trivial⟩, hbl, hq1⟩
          have HBE := Lib.hid hB
          have HY := Lib.hid hy
          clear hbl hq1 hcell HK hyu hy hB
          go_upto_region 15 with fail
          go_region_held3 (fun W => ((Ku w W (some ⟨bb, off, none⟩) n U F s d us o e N b m bk t D (some ⟨bu, ou, none⟩) nu ul ∧ True) ∧ bu < W.heap.size ∧ W.cell? ⟨bu, ou + k, none⟩ = some (.int .i64 y)) ∧ bu < W.heap.size ∧ W.cell? ⟨bu, ou + k, none⟩ = some (.int .i64 y) ∧ w.heap.size < W.heap.size ∧ W.cell? ⟨w.heap.size, 1, none⟩ = some (.slice s.p.a s.p.n s.p.c)) (first
            | exact ku_keep1 HS2.out (below_drawn' (Below.refl _ _) 1)
            | exact ku_keep1 (‹((Ku w _ (some ⟨bb, off, none⟩) n U F s d us o e N b m bk t D (some ⟨bu, ou, none⟩) nu ul ∧ True) ∧ _) ∧ _›).1 ‹Below _ _ _›) (first
            | ((go_at_call 18; (with_reducible refine (D1.out _ (‹((Ku w _ (some ⟨bb, off, none⟩) n U F s d us o e N b m bk t D (some ⟨bu, ou, none⟩) nu ul ∧ True) ∧ _) ∧ _›).1.1.1.q).mono ?_); rintro e' w8 ⟨rfl, hb8⟩)))
          have HS3 := Lib.hid (‹((Ku w w8 (some ⟨bb, off, none⟩) n U F s d us o e N b m bk t D (some ⟨bu, ou, none⟩) nu ul ∧ True) ∧ _) ∧ _›).1
          clear HS2 D1
          go_upto_region 16 with fail
          go_region_held3 (fun W => ((Ku w W (some ⟨bb, off, none⟩) n U F s d us o e N b m bk t D (some ⟨bu, ou, none⟩) nu ul ∧ True) ∧ bu < W.heap.size ∧ W.cell? ⟨bu, ou + k, none⟩ = some (.int .i64 y)) ∧ bu < W.heap.size ∧ W.cell? ⟨bu, ou + k, none⟩ = some (.int .i64 y) ∧ bk < W.heap.size ∧ W.cell? ⟨bk, 1, none⟩ = some (.slice t.p.a t.p.n t.p.c)) (first
            | exact ku_keep2 HS3.out (below_drawn' (Below.refl _ _) 1)
            | exact ku_keep2 (‹((Ku w _ (some ⟨bb, off, none⟩) n U F s d us o e N b m bk t D (some ⟨bu, ou, none⟩) nu ul ∧ True) ∧ _) ∧ _›).1 ‹Below _ _ _›) (first
            | ((go_at_call 18; (with_reducible refine (D2.out _ (‹((Ku w _ (some ⟨bb, off, none⟩) n U F s d us o e N b m bk t D (some ⟨bu, ou, none⟩) nu ul ∧ True) ∧ _) ∧ _›).1.1.1.q).mono ?_); rintro e' w9 ⟨rfl, hb9⟩)))
          have HS4 := Lib.hid (‹((Ku w w9 (some ⟨bb, off, none⟩) n U F s d us o e N b m bk t D (some ⟨bu, ou, none⟩) nu ul ∧ True) ∧ _) ∧ _›).1.1.1
          clear HS3 D2
          obtain ⟨bn, rfl⟩ : ∃ bn : Nat, B = bn := ⟨B.toNat, by omega⟩
          have hbn : bn ≤ 2000 := by omega
          have hul5 : nu ≤ 512 := HU5.out
          go_wp2
          go_loopw [17] (fun j wi => ∃ q : Nat, q ≤ bn ∧ j = .int .i64 q ∧ Hid (Ku w wi (some ⟨bb, off, none⟩) n U F s d us o e N b m bk t D (some ⟨bu, ou, none⟩) nu ul)) (fun j _ => bn - (intOf j).toNat)
          case atStart => exact ⟨0, Nat.zero_le _, rfl, HS4⟩
          case round =>
            obtain ⟨q, hq, rfl, HI⟩ := hrel
            clear HS4
            by_cases hlq : q < bn
            · have dj : decide ((q : Int) < bn) = true := by simp; omega
              obtain ⟨i, hi⟩ : ∃ i : Nat, y + (q : Int) - 16 = i := ⟨(y + q - 16).toNat, by omega⟩
              have hin : i < s.w.n := by omega
              obtain ⟨b5, o5, e5, hl5, hc5⟩ := HI.out.row.2 (by omega)
              cases e5
              have g1 := hc5 k hlt
              rw [← HY.out] at g1
              obtain ⟨b6, o6, e6, hl6, hc6⟩ := HI.out.q.lq.lh.hp.words.2 (by omega)
              obtain ⟨b7, o7, e7, hl7, hc7⟩ := HI.out.q.kp.words.2 (by rw [N0.out.1]; omega)
              have g6 := hc6 i hin
              have g7 := hc7 i (by rw [N0.out.1]; exact hin)
              have hsame := HSA.out.wd (y + q) (by omega) (by rw [← HBE.out]; omega)
              unfold wd at hsame
              rw [show (y + (q : Int) - 16).toNat = i by omega] at hsame
              rw [hsame] at g7
              obtain ⟨z, hzz⟩ : ∃ z, z = d.ws.getD i 0 := ⟨_, rfl⟩
              rw [← hzz] at g6 g7
              have q0 := HI.out.q.lq.lh.hb.c0
              have ql := HI.out.q.lq.lh.hb.lt
              have p0 := HI.out.q.kb.c0
              have pl := HI.out.q.kb.lt
              rw [e6] at q0
              rw [e7, N0.out.1] at p0
              have dz : (z != z) = false := by simp
              have i0' : (0 : Int) ≤ i := by omega
              have i1' : (i : Int) < s.w.n := by omega
              have w1' : IntKind.i64.wrap (y + (q : Int)) = y + q := by simp [IntKind.wrap, IntKind.signed, IntKind.bits]; omega
              have w2' : IntKind.i64.wrap (i : Int) = i := by simp [IntKind.wrap, IntKind.signed, IntKind.bits]; omega
              clear hc5 hc6 hc7 e6 e7 hsame hzz hce hw16 h64 hin
              go_wp2_with fail
              go_quiet (fail)
              have HI2 := Lib.hid (HI.out.next (below_drawn' (Below.refl _ _) nq))
              go_wp2
              go_roundw
              case rel => exact ⟨q + 1, by omega, by go_num, HI2⟩
              case measure => simp [intOf]; omega
            · obtain rfl : q = bn := by omega
              have dj : decide ((q : Int) < q) = false := by simp
              go_wp2
              go_roundw
              case rel => exact ⟨k + 1, by omega, by go_num, HI⟩
              case measure => simp [intOf]; omega
        · obtain rfl : k = nu := by omega
          have dq : decide ((k : Int) < k) = false := by simp
          clear hlt
          have HQ := Lib.hid HK.out.q
          clear HK
          go_upto_region 23 with fail
          have q0 := (HQ.out.kb).c0
          have q1 := (HQ.out.kb).c1
          have q2 := (HQ.out.kb).c2
          have q3 := (HQ.out.kb).c3
          have q4 := (HQ.out.kb).c4
          have q5 := (HQ.out.kb).c5
          have ql := (HQ.out.kb).lt
          go_wp2_with fail
          refine (HD.out wr bk t N0.out HQ.out).mono ?_
          rintro e9 w9' ⟨rfl, hb9⟩
          have HQ2 := HQ.out.next hb9
          clear hb9 HQ
          clear q0 q1 q2 q3 q4 q5 ql
          go_upto_region 24 with fail
          obtain ⟨v9, h0⟩ : ∃ W, W = w9'.alloc (.cells #[.bool us, .bool o, .bool e, .int .i64 N, .int .i64 b, .int .i64 m] 30) := ⟨_, rfl⟩
          obtain ⟨by_, h1⟩ : ∃ b, b = w9'.heap.size := ⟨_, rfl⟩
          have HQ3 := Lib.hid (HQ2.next (show Below w9'.heap.size w9' v9 by rw [h0]; exact (Below.refl _ _).alloc (Nat.le_refl _) _))
          have HX : Hid (X6 v9 by_ us o e N b m) := Lib.hid (by rw [h0, h1]; exact X6.new w9' us o e N b m _)
          rw [← h0, ← h1]
          clear h0 h1 HQ2
          have q1 := HQ3.out.kb.c1
          have ql := HQ3.out.kb.lt
          go_wp2_with fail
          refine (C2.out a v9 HQ3.out).mono ?_
          rw [HRM.out]
          rintro e9 w7 ⟨rfl, hb9⟩
          have HQ4 := Lib.hid (HQ3.out.next hb9)
          have HX4 := Lib.hid (HX.out.next hb9)
          clear hb9 HQ3 HX q1 ql
          go_wp2
          go_loopw [21] (fun j wi => ∃ q : Nat, 1 ≤ q ∧ q ≤ rm ∧ j = .int .i64 q ∧ Hid (Kq w wi (some ⟨bb, off, none⟩) n U F s d us o e N b m bk t D ∧ X6 wi by_ us o e N b m)) (fun j _ => rm - (intOf j).toNat)
          case atStart => exact ⟨1, Nat.le_refl _, by have := HRB.out.1; omega, rfl, Lib.hid ⟨HQ4.out, HX4.out⟩⟩
          case round =>
            obtain ⟨q, hq0, hq, rfl, HI⟩ := hrel
            clear HQ4 HX4
            by_cases hlq : q < rm
            · have dj : decide ((q : Int) < rm) = true := by simp; omega
              have hrb := HRB.out
              have h64 := H64.out
              have hrm2 : rm ≤ 2000 := by omega
              have hw16 : 16 * s.p.n ≤ s.w.n := Nat.le_of_eq HWP.out.symm
              obtain ⟨i, hi⟩ : ∃ i : Nat, a + (q : Int) - 16 = i := ⟨(a + q - 16).toNat, by omega⟩
              have hin : i < s.w.n := by omega
              obtain ⟨b7, o7, e7, hl7, hc7⟩ := HI.out.1.kp.words.2 (by rw [N0.out.1]; omega)
              have g7 := hc7 i (by rw [N0.out.1]; exact hin)
              have hzero := HZR.out (a + q) (by omega) (by omega)
              unfold wd at hzero
              rw [show (a + (q : Int) - 16).toNat = i by omega] at hzero
              rw [hzero] at g7
              have p0 := HI.out.1.kb.c0
              have pl := HI.out.1.kb.lt
              rw [e7, N0.out.1] at p0
              have i0' : (0 : Int) ≤ i := by omega
              have i1' : (i : Int) < s.w.n := by omega
              have w1' : IntKind.i64.wrap (a + (q : Int)) = a + q := by simp [IntKind.wrap, IntKind.signed, IntKind.bits]; omega
              have w2' : IntKind.i64.wrap (i : Int) = i := by simp [IntKind.wrap, IntKind.signed, IntKind.bits]; omega
              clear hc7 e7 hzero hw16 h64 hin hrb
              go_wp2
              go_roundw
              case rel => exact ⟨q + 1, by omega, by omega, by go_num, HI⟩
              case measure => simp [intOf]; omega
            · obtain rfl : q = rm := by omega
              have dj : decide ((q : Int) < q) = false := by simp
              have dN : decide (N < (q : Int)) = true := by simp [HRB.out.2.2.2]
              have wK : IntKind.i64.wrap ((k : Int) + 1) = k + 1 := by have := HU5.out; simp [IntKind.wrap, IntKind.signed, IntKind.bits]; omega
              go_upto_region 30 with fail
              have q0 := (HI.out.1.kb).c0
              have q1 := (HI.out.1.kb).c1
              have q2 := (HI.out.1.kb).c2
              have q3 := (HI.out.1.kb).c3
              have q4 := (HI.out.1.kb).c4
              have q5 := (HI.out.1.kb).c5
              have ql := (HI.out.1.kb).lt
              have x0 := (HI.out.1.lq.x).c0
              have x1 := (HI.out.1.lq.x).c1
              have x2 := (HI.out.1.lq.x).c2
              have x3 := (HI.out.1.lq.x).c3
              have x4 := (HI.out.1.lq.x).c4
              have x5 := (HI.out.1.lq.x).c5
              have xl := (HI.out.1.lq.x).lt
              have y0 := (HI.out.2).c0
              have y1 := (HI.out.2).c1
              have y2 := (HI.out.2).c2
              have y3 := (HI.out.2).c3
              have y4 := (HI.out.2).c4
              have y5 := (HI.out.2).c5
              have yl := (HI.out.2).lt
              go_wp2_with fail
              refine (UK.out _ bk t N0.out HI.out.1).mono ?_
              rintro e9 w6 ⟨A4, C4, rfl, hb9⟩
              have HE := Lib.hid (HI.out.1.next hb9)
              clear hb9
              go_wp2
              go_ret
              exact ⟨rfl, HE.out.lq.lh.bel⟩
end
end Go.Proofs.YtcbnefjfoeanoaaGreatDoor.AllocKeeps
