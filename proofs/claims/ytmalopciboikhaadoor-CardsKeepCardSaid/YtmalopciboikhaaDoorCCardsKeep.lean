/-
  CardsKeep: what is dirtied is dirty, what is cleaned is clean; all other cards are as they were, and so are all words: for every heap of at most 9 pages and 130 words; the table of sizes is tied to the program's text by the card.
-/
import Derived.Test.YtmalopciboikhaaDoorHpCG
import Derived.Test.YtmalopciboikhaaDoorHpCH
namespace Go.Proofs.YtmalopciboikhaaDoor.CardsKeep
open Go.Proofs.YtmalopciboikhaaDoor Go.Proofs.YtmalopciboikhaaDoor.Ck
open Go.ChangeShapes Go.WideShapes Go.ChangeAt Go.RowKit
set_option maxRecDepth 100000

section
variable (s : Hs) (d : Hd_) (a : Int) (w : World)
set_option maxHeartbeats 1000000 in
theorem walk_few (hf : fewH s = false) (hz : Cl.Sz w) (hp : Hp w w.heap.size s d) : Calls Tryd.prog 3 #[(.agg #[.slice s.w.a s.w.n s.w.c, .slice s.p.a s.p.n s.p.c, .slice (s.u 0).a (s.u 0).n (s.u 0).c, .slice (s.u 1).a (s.u 1).n (s.u 1).c, .slice (s.u 2).a (s.u 2).n (s.u 2).c, .slice s.c.a s.c.n s.c.c]), .int .i64 a] w fun e w' => e = .returned (.bool true) ∧ Below w.heap.size w w' := by
  have HZ := Lib.hid hz
  have hz0 := hz.pos
  have HP := Lib.hid hp
  have HF := Lib.hid hf
  clear hz hp hf
  go_enter Tryd.func3, Tryd.ntmps3
  go_wp2_with fail
  obtain ⟨W1, hW1⟩ : ∃ W1, W1 = w.alloc (.cells #[.slice s.w.a s.w.n s.w.c, .slice s.p.a s.p.n s.p.c, .slice (s.u 0).a (s.u 0).n (s.u 0).c, .slice (s.u 1).a (s.u 1).n (s.u 1).c, .slice (s.u 2).a (s.u 2).n (s.u 2).c, .slice s.c.a s.c.n s.c.c] 28) := ⟨_, rfl⟩
  have L1 := Lib.hid (lx_start (A := none) (n := 0) (U := (fun _ => Ls.noSl)) (F := noCaches) HP.out (fun h => absurd h (by omega)) hW1)
  rw [← hW1]
  clear hW1
  refine (Ck.awake_any W1 (HZ.out.over L1.out.bel hz0)).mono ?_
  rintro e9 w1 ⟨rfl, hb1⟩
  have L2 := Lib.hid (L1.out.next hb1)
  clear hb1 L1
  have q0 := (L2.out.at (w.heap.size) (s) (d) (by simp)).c0
  have q1 := (L2.out.at (w.heap.size) (s) (d) (by simp)).c1
  have q2 := (L2.out.at (w.heap.size) (s) (d) (by simp)).c2
  have q3 := (L2.out.at (w.heap.size) (s) (d) (by simp)).c3
  have q4 := (L2.out.at (w.heap.size) (s) (d) (by simp)).c4
  have q5 := (L2.out.at (w.heap.size) (s) (d) (by simp)).c5
  have ql := (L2.out.at (w.heap.size) (s) (d) (by simp)).lt
  go_wp2_with fail
  refine (rfew_any s w1).mono ?_
  rw [HF.out]
  rintro e9 w2 ⟨rfl, hb2⟩
  have L3 := Lib.hid (L2.out.next hb2)
  clear hb2 L2
  clear q0 q1 q2 q3 q4 q5 ql
  go_wp2
  go_ret
  exact ⟨rfl, L3.out.bel⟩
set_option maxHeartbeats 1000000 in
theorem core_no (er : Int) (h1 : ¬ er = 0) (hf : fewH s = true) (hO : ∀ W, Lx w W none 0 (fun _ => Ls.noSl) noCaches [(w.heap.size, s, d)] → Calls Tryd.prog 10 #[(.agg #[.slice s.w.a s.w.n s.w.c, .slice s.p.a s.p.n s.p.c, .slice (s.u 0).a (s.u 0).n (s.u 0).c, .slice (s.u 1).a (s.u 1).n (s.u 1).c, .slice (s.u 2).a (s.u 2).n (s.u 2).c, .slice s.c.a s.c.n s.c.c]), .int .i64 a] W fun e w' => e = .returned (.tuple #[.int .i64 0, .int .i64 er]) ∧ Below W.heap.size W w') (hI : ∀ W, Lx w W none 0 (fun _ => Ls.noSl) noCaches [(w.heap.size, s, d)] → Calls Tryd.prog 11 #[(.agg #[.slice s.w.a s.w.n s.w.c, .slice s.p.a s.p.n s.p.c, .slice (s.u 0).a (s.u 0).n (s.u 0).c, .slice (s.u 1).a (s.u 1).n (s.u 1).c, .slice (s.u 2).a (s.u 2).n (s.u 2).c, .slice s.c.a s.c.n s.c.c]), .int .i64 a] W fun e w' => e = .returned (.bool false) ∧ Below W.heap.size W w') (hz : Cl.Sz w) (hp : Hp w w.heap.size s d) : Calls Tryd.prog 3 #[(.agg #[.slice s.w.a s.w.n s.w.c, .slice s.p.a s.p.n s.p.c, .slice (s.u 0).a (s.u 0).n (s.u 0).c, .slice (s.u 1).a (s.u 1).n (s.u 1).c, .slice (s.u 2).a (s.u 2).n (s.u 2).c, .slice s.c.a s.c.n s.c.c]), .int .i64 a] w fun e w' => e = .returned (.bool true) ∧ Below w.heap.size w w' := by
  have HZ := Lib.hid hz
  have hz0 := hz.pos
  have HP := Lib.hid hp
  have HF := Lib.hid hf
  have O1 := Lib.hid hO
  have I1 := Lib.hid hI
  have g1 : (er != 0) = true := by simp [h1]
  clear hz hp hf hO hI h1
  go_enter Tryd.func3, Tryd.ntmps3
  go_wp2_with fail
  obtain ⟨W1, hW1⟩ : ∃ W1, W1 = w.alloc (.cells #[.slice s.w.a s.w.n s.w.c, .slice s.p.a s.p.n s.p.c, .slice (s.u 0).a (s.u 0).n (s.u 0).c, .slice (s.u 1).a (s.u 1).n (s.u 1).c, .slice (s.u 2).a (s.u 2).n (s.u 2).c, .slice s.c.a s.c.n s.c.c] 28) := ⟨_, rfl⟩
  have L1 := Lib.hid (lx_start (A := none) (n := 0) (U := (fun _ => Ls.noSl)) (F := noCaches) HP.out (fun h => absurd h (by omega)) hW1)
  rw [← hW1]
  clear hW1
  refine (Ck.awake_any W1 (HZ.out.over L1.out.bel hz0)).mono ?_
  rintro e9 w1 ⟨rfl, hb1⟩
  have L2 := Lib.hid (L1.out.next hb1)
  clear hb1 L1
  have q0 := (L2.out.at (w.heap.size) (s) (d) (by simp)).c0
  have q1 := (L2.out.at (w.heap.size) (s) (d) (by simp)).c1
  have q2 := (L2.out.at (w.heap.size) (s) (d) (by simp)).c2
  have q3 := (L2.out.at (w.heap.size) (s) (d) (by simp)).c3
  have q4 := (L2.out.at (w.heap.size) (s) (d) (by simp)).c4
  have q5 := (L2.out.at (w.heap.size) (s) (d) (by simp)).c5
  have ql := (L2.out.at (w.heap.size) (s) (d) (by simp)).lt
  go_wp2_with fail
  refine (rfew_any s w1).mono ?_
  rw [HF.out]
  rintro e9 w2 ⟨rfl, hb2⟩
  have L3 := Lib.hid (L2.out.next hb2)
  clear hb2 L2
  clear q0 q1 q2 q3 q4 q5 ql
  have q0 := (L3.out.at (w.heap.size) (s) (d) (by simp)).c0
  have q1 := (L3.out.at (w.heap.size) (s) (d) (by simp)).c1
  have q2 := (L3.out.at (w.heap.size) (s) (d) (by simp)).c2
  have q3 := (L3.out.at (w.heap.size) (s) (d) (by simp)).c3
  have q4 := (L3.out.at (w.heap.size) (s) (d) (by simp)).c4
  have q5 := (L3.out.at (w.heap.size) (s) (d) (by simp)).c5
  have ql := (L3.out.at (w.heap.size) (s) (d) (by simp)).lt
  go_wp2_with fail
  refine (O1.out w2 L3.out).mono ?_
  rintro e9 w3 ⟨rfl, hb9⟩
  have L4 := Lib.hid (L3.out.next hb9)
  clear hb9 L3
  clear q0 q1 q2 q3 q4 q5 ql
  have q0 := (L4.out.at (w.heap.size) (s) (d) (by simp)).c0
  have q1 := (L4.out.at (w.heap.size) (s) (d) (by simp)).c1
  have q2 := (L4.out.at (w.heap.size) (s) (d) (by simp)).c2
  have q3 := (L4.out.at (w.heap.size) (s) (d) (by simp)).c3
  have q4 := (L4.out.at (w.heap.size) (s) (d) (by simp)).c4
  have q5 := (L4.out.at (w.heap.size) (s) (d) (by simp)).c5
  have ql := (L4.out.at (w.heap.size) (s) (d) (by simp)).lt
  go_wp2_with fail
  refine (I1.out w3 L4.out).mono ?_
  rintro e9 w4 ⟨rfl, hb9⟩
  have L5 := Lib.hid (L4.out.next hb9)
  clear hb9 L4
  clear q0 q1 q2 q3 q4 q5 ql
  go_wp2
  go_ret
  exact ⟨rfl, L5.out.bel⟩
set_option maxHeartbeats 4000000 in
theorem core_ok (d1 d2 : Hd_) (kn : Nat) (hk : kn < s.c.n) (hcn : s.c.n ≤ 20) (hwn : s.w.n ≤ 130) (v1 : d1.ws = d.ws) (v2 : d2.ws = d.ws) (u1 : ∀ i, ¬ i = kn → d1.cs i = d.cs i) (u2 : ∀ i, ¬ i = kn → d2.cs i = d.cs i) (hf : fewH s = true) (hO : ∀ W, Lx w W none 0 (fun _ => Ls.noSl) noCaches [(w.heap.size, s, d)] → Calls Tryd.prog 10 #[(.agg #[.slice s.w.a s.w.n s.w.c, .slice s.p.a s.p.n s.p.c, .slice (s.u 0).a (s.u 0).n (s.u 0).c, .slice (s.u 1).a (s.u 1).n (s.u 1).c, .slice (s.u 2).a (s.u 2).n (s.u 2).c, .slice s.c.a s.c.n s.c.c]), .int .i64 a] W fun e w' => e = .returned (.tuple #[.int .i64 (kn : Int), .int .i64 0]) ∧ Below W.heap.size W w') (hD : ∀ W, Lx w W none 0 (fun _ => Ls.noSl) noCaches [(w.heap.size, s, d)] → Calls Tryd.prog 12 #[(.agg #[.slice s.w.a s.w.n s.w.c, .slice s.p.a s.p.n s.p.c, .slice (s.u 0).a (s.u 0).n (s.u 0).c, .slice (s.u 1).a (s.u 1).n (s.u 1).c, .slice (s.u 2).a (s.u 2).n (s.u 2).c, .slice s.c.a s.c.n s.c.c]), .int .i64 a] W fun e w' => ∃ t : Hs, e = .returned (.tuple #[(.agg #[.slice t.w.a t.w.n t.w.c, .slice t.p.a t.p.n t.p.c, .slice (t.u 0).a (t.u 0).n (t.u 0).c, .slice (t.u 1).a (t.u 1).n (t.u 1).c, .slice (t.u 2).a (t.u 2).n (t.u 2).c, .slice t.c.a t.c.n t.c.c]), .int .i64 0]) ∧ Hp w' w'.heap.size t d1 ∧ Same3 s t ∧ Below W.heap.size W w') (hC : ∀ W b1 t1, Same3 s t1 → Lx w W none 0 (fun _ => Ls.noSl) noCaches [(b1, t1, d1), (w.heap.size, s, d)] → Calls Tryd.prog 13 #[(.agg #[.slice t1.w.a t1.w.n t1.w.c, .slice t1.p.a t1.p.n t1.p.c, .slice (t1.u 0).a (t1.u 0).n (t1.u 0).c, .slice (t1.u 1).a (t1.u 1).n (t1.u 1).c, .slice (t1.u 2).a (t1.u 2).n (t1.u 2).c, .slice t1.c.a t1.c.n t1.c.c]), .int .i64 (kn : Int)] W fun e w' => ∃ t : Hs, e = .returned (.tuple #[(.agg #[.slice t.w.a t.w.n t.w.c, .slice t.p.a t.p.n t.p.c, .slice (t.u 0).a (t.u 0).n (t.u 0).c, .slice (t.u 1).a (t.u 1).n (t.u 1).c, .slice (t.u 2).a (t.u 2).n (t.u 2).c, .slice t.c.a t.c.n t.c.c]), .int .i64 0]) ∧ Hp w' w'.heap.size t d2 ∧ Same3 s t ∧ Below W.heap.size W w') (hI1 : ∀ W b1 t1 b2 t2, Same3 s t1 → Lx w W none 0 (fun _ => Ls.noSl) noCaches [(b2, t2, d2), (b1, t1, d1), (w.heap.size, s, d)] → Calls Tryd.prog 11 #[(.agg #[.slice t1.w.a t1.w.n t1.w.c, .slice t1.p.a t1.p.n t1.p.c, .slice (t1.u 0).a (t1.u 0).n (t1.u 0).c, .slice (t1.u 1).a (t1.u 1).n (t1.u 1).c, .slice (t1.u 2).a (t1.u 2).n (t1.u 2).c, .slice t1.c.a t1.c.n t1.c.c]), .int .i64 a] W fun e w' => e = .returned (.bool true) ∧ Below W.heap.size W w') (hI2 : ∀ W b1 t1 b2 t2, Same3 s t2 → Lx w W none 0 (fun _ => Ls.noSl) noCaches [(b2, t2, d2), (b1, t1, d1), (w.heap.size, s, d)] → Calls Tryd.prog 11 #[(.agg #[.slice t2.w.a t2.w.n t2.w.c, .slice t2.p.a t2.p.n t2.p.c, .slice (t2.u 0).a (t2.u 0).n (t2.u 0).c, .slice (t2.u 1).a (t2.u 1).n (t2.u 1).c, .slice (t2.u 2).a (t2.u 2).n (t2.u 2).c, .slice t2.c.a t2.c.n t2.c.c]), .int .i64 a] W fun e w' => e = .returned (.bool false) ∧ Below W.heap.size W w') (hz : Cl.Sz w) (hp : Hp w w.heap.size s d) : Calls Tryd.prog 3 #[(.agg #[.slice s.w.a s.w.n s.w.c, .slice s.p.a s.p.n s.p.c, .slice (s.u 0).a (s.u 0).n (s.u 0).c, .slice (s.u 1).a (s.u 1).n (s.u 1).c, .slice (s.u 2).a (s.u 2).n (s.u 2).c, .slice s.c.a s.c.n s.c.c]), .int .i64 a] w fun e w' => e = .returned (.bool true) ∧ Below w.heap.size w w' := by
  obtain ⟨sw, sp, su, ⟨ca, cn, cc⟩⟩ := s
  dsimp only at hk hcn hwn
  obtain ⟨bs, os, ea, _, _⟩ := hp.cards (show 0 < cn by omega)
  dsimp only at ea
  subst ea
  have HZ := Lib.hid hz
  have hz0 := hz.pos
  have HP := Lib.hid hp
  have HF := Lib.hid hf
  have OX := Lib.hid hO
  have DX := Lib.hid hD
  have CX := Lib.hid hC
  have I1X := Lib.hid hI1
  have I2X := Lib.hid hI2
  have V1 := Lib.hid v1
  have V2 := Lib.hid v2
  have U1 := Lib.hid u1
  have U2 := Lib.hid u2
  clear hz hp hf v1 v2 u1 u2 hO hD hC hI1 hI2
  go_enter Tryd.func3, Tryd.ntmps3
  go_wp2_with fail
  obtain ⟨W1, hW1⟩ : ∃ W1, W1 = w.alloc (.cells #[.slice (⟨sw, sp, su, ⟨some ⟨bs, os, none⟩, cn, cc⟩⟩ : Hs).w.a (⟨sw, sp, su, ⟨some ⟨bs, os, none⟩, cn, cc⟩⟩ : Hs).w.n (⟨sw, sp, su, ⟨some ⟨bs, os, none⟩, cn, cc⟩⟩ : Hs).w.c, .slice (⟨sw, sp, su, ⟨some ⟨bs, os, none⟩, cn, cc⟩⟩ : Hs).p.a (⟨sw, sp, su, ⟨some ⟨bs, os, none⟩, cn, cc⟩⟩ : Hs).p.n (⟨sw, sp, su, ⟨some ⟨bs, os, none⟩, cn, cc⟩⟩ : Hs).p.c, .slice ((⟨sw, sp, su, ⟨some ⟨bs, os, none⟩, cn, cc⟩⟩ : Hs).u 0).a ((⟨sw, sp, su, ⟨some ⟨bs, os, none⟩, cn, cc⟩⟩ : Hs).u 0).n ((⟨sw, sp, su, ⟨some ⟨bs, os, none⟩, cn, cc⟩⟩ : Hs).u 0).c, .slice ((⟨sw, sp, su, ⟨some ⟨bs, os, none⟩, cn, cc⟩⟩ : Hs).u 1).a ((⟨sw, sp, su, ⟨some ⟨bs, os, none⟩, cn, cc⟩⟩ : Hs).u 1).n ((⟨sw, sp, su, ⟨some ⟨bs, os, none⟩, cn, cc⟩⟩ : Hs).u 1).c, .slice ((⟨sw, sp, su, ⟨some ⟨bs, os, none⟩, cn, cc⟩⟩ : Hs).u 2).a ((⟨sw, sp, su, ⟨some ⟨bs, os, none⟩, cn, cc⟩⟩ : Hs).u 2).n ((⟨sw, sp, su, ⟨some ⟨bs, os, none⟩, cn, cc⟩⟩ : Hs).u 2).c, .slice (⟨sw, sp, su, ⟨some ⟨bs, os, none⟩, cn, cc⟩⟩ : Hs).c.a (⟨sw, sp, su, ⟨some ⟨bs, os, none⟩, cn, cc⟩⟩ : Hs).c.n (⟨sw, sp, su, ⟨some ⟨bs, os, none⟩, cn, cc⟩⟩ : Hs).c.c] 28) := ⟨_, rfl⟩
  dsimp only at hW1
  have L1 := Lib.hid (lx_start (A := none) (n := 0) (U := (fun _ => Ls.noSl)) (F := noCaches) HP.out (fun h => absurd h (by omega)) hW1)
  rw [← hW1]
  clear hW1
  refine (Ck.awake_any W1 (HZ.out.over L1.out.bel hz0)).mono ?_
  rintro e9 w1 ⟨rfl, hb1⟩
  have L2 := Lib.hid (L1.out.next hb1)
  clear hb1 L1
  have q0 := (L2.out.at (w.heap.size) ((⟨sw, sp, su, ⟨some ⟨bs, os, none⟩, cn, cc⟩⟩ : Hs)) (d) (by simp)).c0
  have q1 := (L2.out.at (w.heap.size) ((⟨sw, sp, su, ⟨some ⟨bs, os, none⟩, cn, cc⟩⟩ : Hs)) (d) (by simp)).c1
  have q2 := (L2.out.at (w.heap.size) ((⟨sw, sp, su, ⟨some ⟨bs, os, none⟩, cn, cc⟩⟩ : Hs)) (d) (by simp)).c2
  have q3 := (L2.out.at (w.heap.size) ((⟨sw, sp, su, ⟨some ⟨bs, os, none⟩, cn, cc⟩⟩ : Hs)) (d) (by simp)).c3
  have q4 := (L2.out.at (w.heap.size) ((⟨sw, sp, su, ⟨some ⟨bs, os, none⟩, cn, cc⟩⟩ : Hs)) (d) (by simp)).c4
  have q5 := (L2.out.at (w.heap.size) ((⟨sw, sp, su, ⟨some ⟨bs, os, none⟩, cn, cc⟩⟩ : Hs)) (d) (by simp)).c5
  have ql := (L2.out.at (w.heap.size) ((⟨sw, sp, su, ⟨some ⟨bs, os, none⟩, cn, cc⟩⟩ : Hs)) (d) (by simp)).lt
  dsimp only at q0 q1 q2 q3 q4 q5
  go_wp2_with fail
  refine (rfew_any (⟨sw, sp, su, ⟨some ⟨bs, os, none⟩, cn, cc⟩⟩ : Hs) w1).mono ?_
  rw [HF.out]
  rintro e9 w2 ⟨rfl, hb2⟩
  have L3 := Lib.hid (L2.out.next hb2)
  clear hb2 L2
  clear q0 q1 q2 q3 q4 q5 ql
  have q0 := (L3.out.at (w.heap.size) ((⟨sw, sp, su, ⟨some ⟨bs, os, none⟩, cn, cc⟩⟩ : Hs)) (d) (by simp)).c0
  have q1 := (L3.out.at (w.heap.size) ((⟨sw, sp, su, ⟨some ⟨bs, os, none⟩, cn, cc⟩⟩ : Hs)) (d) (by simp)).c1
  have q2 := (L3.out.at (w.heap.size) ((⟨sw, sp, su, ⟨some ⟨bs, os, none⟩, cn, cc⟩⟩ : Hs)) (d) (by simp)).c2
  have q3 := (L3.out.at (w.heap.size) ((⟨sw, sp, su, ⟨some ⟨bs, os, none⟩, cn, cc⟩⟩ : Hs)) (d) (by simp)).c3
  have q4 := (L3.out.at (w.heap.size) ((⟨sw, sp, su, ⟨some ⟨bs, os, none⟩, cn, cc⟩⟩ : Hs)) (d) (by simp)).c4
  have q5 := (L3.out.at (w.heap.size) ((⟨sw, sp, su, ⟨some ⟨bs, os, none⟩, cn, cc⟩⟩ : Hs)) (d) (by simp)).c5
  have ql := (L3.out.at (w.heap.size) ((⟨sw, sp, su, ⟨some ⟨bs, os, none⟩, cn, cc⟩⟩ : Hs)) (d) (by simp)).lt
  dsimp only at q0 q1 q2 q3 q4 q5
  go_wp2_with fail
  refine (OX.out w2 L3.out).mono ?_
  rintro e9 w3 ⟨rfl, hb9⟩
  have L4 := Lib.hid (L3.out.next hb9)
  clear hb9 L3
  clear q0 q1 q2 q3 q4 q5 ql
  have q0 := (L4.out.at (w.heap.size) ((⟨sw, sp, su, ⟨some ⟨bs, os, none⟩, cn, cc⟩⟩ : Hs)) (d) (by simp)).c0
  have q1 := (L4.out.at (w.heap.size) ((⟨sw, sp, su, ⟨some ⟨bs, os, none⟩, cn, cc⟩⟩ : Hs)) (d) (by simp)).c1
  have q2 := (L4.out.at (w.heap.size) ((⟨sw, sp, su, ⟨some ⟨bs, os, none⟩, cn, cc⟩⟩ : Hs)) (d) (by simp)).c2
  have q3 := (L4.out.at (w.heap.size) ((⟨sw, sp, su, ⟨some ⟨bs, os, none⟩, cn, cc⟩⟩ : Hs)) (d) (by simp)).c3
  have q4 := (L4.out.at (w.heap.size) ((⟨sw, sp, su, ⟨some ⟨bs, os, none⟩, cn, cc⟩⟩ : Hs)) (d) (by simp)).c4
  have q5 := (L4.out.at (w.heap.size) ((⟨sw, sp, su, ⟨some ⟨bs, os, none⟩, cn, cc⟩⟩ : Hs)) (d) (by simp)).c5
  have ql := (L4.out.at (w.heap.size) ((⟨sw, sp, su, ⟨some ⟨bs, os, none⟩, cn, cc⟩⟩ : Hs)) (d) (by simp)).lt
  dsimp only at q0 q1 q2 q3 q4 q5
  go_wp2_with fail
  refine (DX.out w3 L4.out).mono ?_
  rintro e9 w9 ⟨⟨xw1, xp1, xu1, ⟨xa1, xn1, xc1⟩⟩, rfl, hp9, hl9, hb9⟩
  obtain ⟨y1, y2, y3⟩ := hl9
  dsimp only at y1 y2 y3
  obtain rfl : cn = xn1 := y3.symm
  obtain ⟨g1, o1, ea, _, _⟩ := hp9.cards (show 0 < cn by omega)
  dsimp only at ea
  subst ea
  have N1 : Hid (Same3 (⟨sw, sp, su, ⟨some ⟨bs, os, none⟩, cn, cc⟩⟩ : Hs) (⟨xw1, xp1, xu1, ⟨some ⟨g1, o1, none⟩, cn, xc1⟩⟩ : Hs)) := Lib.hid ⟨y1, y2, rfl⟩
  have h6 := L4.out.add (nw_new (ty := 28) hb9 hp9)
  dsimp only at h6
  have L5 := Lib.hid h6
  clear hp9 y1 y2 hb9 h6 L4
  clear q0 q1 q2 q3 q4 q5 ql
  go_upto_region 9 with fail
  obtain ⟨v5, h0⟩ : ∃ W, W = w9.alloc (.cells #[.slice (⟨xw1, xp1, xu1, ⟨some ⟨g1, o1, none⟩, cn, xc1⟩⟩ : Hs).w.a (⟨xw1, xp1, xu1, ⟨some ⟨g1, o1, none⟩, cn, xc1⟩⟩ : Hs).w.n (⟨xw1, xp1, xu1, ⟨some ⟨g1, o1, none⟩, cn, xc1⟩⟩ : Hs).w.c, .slice (⟨xw1, xp1, xu1, ⟨some ⟨g1, o1, none⟩, cn, xc1⟩⟩ : Hs).p.a (⟨xw1, xp1, xu1, ⟨some ⟨g1, o1, none⟩, cn, xc1⟩⟩ : Hs).p.n (⟨xw1, xp1, xu1, ⟨some ⟨g1, o1, none⟩, cn, xc1⟩⟩ : Hs).p.c, .slice ((⟨xw1, xp1, xu1, ⟨some ⟨g1, o1, none⟩, cn, xc1⟩⟩ : Hs).u 0).a ((⟨xw1, xp1, xu1, ⟨some ⟨g1, o1, none⟩, cn, xc1⟩⟩ : Hs).u 0).n ((⟨xw1, xp1, xu1, ⟨some ⟨g1, o1, none⟩, cn, xc1⟩⟩ : Hs).u 0).c, .slice ((⟨xw1, xp1, xu1, ⟨some ⟨g1, o1, none⟩, cn, xc1⟩⟩ : Hs).u 1).a ((⟨xw1, xp1, xu1, ⟨some ⟨g1, o1, none⟩, cn, xc1⟩⟩ : Hs).u 1).n ((⟨xw1, xp1, xu1, ⟨some ⟨g1, o1, none⟩, cn, xc1⟩⟩ : Hs).u 1).c, .slice ((⟨xw1, xp1, xu1, ⟨some ⟨g1, o1, none⟩, cn, xc1⟩⟩ : Hs).u 2).a ((⟨xw1, xp1, xu1, ⟨some ⟨g1, o1, none⟩, cn, xc1⟩⟩ : Hs).u 2).n ((⟨xw1, xp1, xu1, ⟨some ⟨g1, o1, none⟩, cn, xc1⟩⟩ : Hs).u 2).c, .slice (⟨xw1, xp1, xu1, ⟨some ⟨g1, o1, none⟩, cn, xc1⟩⟩ : Hs).c.a (⟨xw1, xp1, xu1, ⟨some ⟨g1, o1, none⟩, cn, xc1⟩⟩ : Hs).c.n (⟨xw1, xp1, xu1, ⟨some ⟨g1, o1, none⟩, cn, xc1⟩⟩ : Hs).c.c] 28) := ⟨_, rfl⟩
  obtain ⟨b1, h1⟩ : ∃ b, b = w9.heap.size := ⟨_, rfl⟩
  dsimp only at h0
  rw [← h0, ← h1] at L5
  rw [← h0, ← h1]
  clear h0 h1
  have q0 := (L5.out.at (b1) ((⟨xw1, xp1, xu1, ⟨some ⟨g1, o1, none⟩, cn, xc1⟩⟩ : Hs)) (d1) (by simp)).c0
  have q1 := (L5.out.at (b1) ((⟨xw1, xp1, xu1, ⟨some ⟨g1, o1, none⟩, cn, xc1⟩⟩ : Hs)) (d1) (by simp)).c1
  have q2 := (L5.out.at (b1) ((⟨xw1, xp1, xu1, ⟨some ⟨g1, o1, none⟩, cn, xc1⟩⟩ : Hs)) (d1) (by simp)).c2
  have q3 := (L5.out.at (b1) ((⟨xw1, xp1, xu1, ⟨some ⟨g1, o1, none⟩, cn, xc1⟩⟩ : Hs)) (d1) (by simp)).c3
  have q4 := (L5.out.at (b1) ((⟨xw1, xp1, xu1, ⟨some ⟨g1, o1, none⟩, cn, xc1⟩⟩ : Hs)) (d1) (by simp)).c4
  have q5 := (L5.out.at (b1) ((⟨xw1, xp1, xu1, ⟨some ⟨g1, o1, none⟩, cn, xc1⟩⟩ : Hs)) (d1) (by simp)).c5
  have ql := (L5.out.at (b1) ((⟨xw1, xp1, xu1, ⟨some ⟨g1, o1, none⟩, cn, xc1⟩⟩ : Hs)) (d1) (by simp)).lt
  dsimp only at q0 q1 q2 q3 q4 q5
  go_wp2_with fail
  refine (CX.out v5 b1 (⟨xw1, xp1, xu1, ⟨some ⟨g1, o1, none⟩, cn, xc1⟩⟩ : Hs) N1.out L5.out).mono ?_
  rintro e9 w9 ⟨⟨xw2, xp2, xu2, ⟨xa2, xn2, xc2⟩⟩, rfl, hp9, hl9, hb9⟩
  obtain ⟨y1, y2, y3⟩ := hl9
  dsimp only at y1 y2 y3
  obtain rfl : cn = xn2 := y3.symm
  obtain ⟨g2, o2, ea, _, _⟩ := hp9.cards (show 0 < cn by omega)
  dsimp only at ea
  subst ea
  have N2 : Hid (Same3 (⟨sw, sp, su, ⟨some ⟨bs, os, none⟩, cn, cc⟩⟩ : Hs) (⟨xw2, xp2, xu2, ⟨some ⟨g2, o2, none⟩, cn, xc2⟩⟩ : Hs)) := Lib.hid ⟨y1, y2, rfl⟩
  have h6 := L5.out.add (nw_new (ty := 28) hb9 hp9)
  dsimp only at h6
  have L6 := Lib.hid h6
  clear hp9 y1 y2 hb9 h6 L5
  clear q0 q1 q2 q3 q4 q5 ql
  go_upto_region 10 with fail
  obtain ⟨v6, h0⟩ : ∃ W, W = w9.alloc (.cells #[.slice (⟨xw2, xp2, xu2, ⟨some ⟨g2, o2, none⟩, cn, xc2⟩⟩ : Hs).w.a (⟨xw2, xp2, xu2, ⟨some ⟨g2, o2, none⟩, cn, xc2⟩⟩ : Hs).w.n (⟨xw2, xp2, xu2, ⟨some ⟨g2, o2, none⟩, cn, xc2⟩⟩ : Hs).w.c, .slice (⟨xw2, xp2, xu2, ⟨some ⟨g2, o2, none⟩, cn, xc2⟩⟩ : Hs).p.a (⟨xw2, xp2, xu2, ⟨some ⟨g2, o2, none⟩, cn, xc2⟩⟩ : Hs).p.n (⟨xw2, xp2, xu2, ⟨some ⟨g2, o2, none⟩, cn, xc2⟩⟩ : Hs).p.c, .slice ((⟨xw2, xp2, xu2, ⟨some ⟨g2, o2, none⟩, cn, xc2⟩⟩ : Hs).u 0).a ((⟨xw2, xp2, xu2, ⟨some ⟨g2, o2, none⟩, cn, xc2⟩⟩ : Hs).u 0).n ((⟨xw2, xp2, xu2, ⟨some ⟨g2, o2, none⟩, cn, xc2⟩⟩ : Hs).u 0).c, .slice ((⟨xw2, xp2, xu2, ⟨some ⟨g2, o2, none⟩, cn, xc2⟩⟩ : Hs).u 1).a ((⟨xw2, xp2, xu2, ⟨some ⟨g2, o2, none⟩, cn, xc2⟩⟩ : Hs).u 1).n ((⟨xw2, xp2, xu2, ⟨some ⟨g2, o2, none⟩, cn, xc2⟩⟩ : Hs).u 1).c, .slice ((⟨xw2, xp2, xu2, ⟨some ⟨g2, o2, none⟩, cn, xc2⟩⟩ : Hs).u 2).a ((⟨xw2, xp2, xu2, ⟨some ⟨g2, o2, none⟩, cn, xc2⟩⟩ : Hs).u 2).n ((⟨xw2, xp2, xu2, ⟨some ⟨g2, o2, none⟩, cn, xc2⟩⟩ : Hs).u 2).c, .slice (⟨xw2, xp2, xu2, ⟨some ⟨g2, o2, none⟩, cn, xc2⟩⟩ : Hs).c.a (⟨xw2, xp2, xu2, ⟨some ⟨g2, o2, none⟩, cn, xc2⟩⟩ : Hs).c.n (⟨xw2, xp2, xu2, ⟨some ⟨g2, o2, none⟩, cn, xc2⟩⟩ : Hs).c.c] 28) := ⟨_, rfl⟩
  obtain ⟨b2, h1⟩ : ∃ b, b = w9.heap.size := ⟨_, rfl⟩
  dsimp only at h0
  rw [← h0, ← h1] at L6
  rw [← h0, ← h1]
  clear h0 h1
  have q0 := (L6.out.at (b1) ((⟨xw1, xp1, xu1, ⟨some ⟨g1, o1, none⟩, cn, xc1⟩⟩ : Hs)) (d1) (by simp)).c0
  have q1 := (L6.out.at (b1) ((⟨xw1, xp1, xu1, ⟨some ⟨g1, o1, none⟩, cn, xc1⟩⟩ : Hs)) (d1) (by simp)).c1
  have q2 := (L6.out.at (b1) ((⟨xw1, xp1, xu1, ⟨some ⟨g1, o1, none⟩, cn, xc1⟩⟩ : Hs)) (d1) (by simp)).c2
  have q3 := (L6.out.at (b1) ((⟨xw1, xp1, xu1, ⟨some ⟨g1, o1, none⟩, cn, xc1⟩⟩ : Hs)) (d1) (by simp)).c3
  have q4 := (L6.out.at (b1) ((⟨xw1, xp1, xu1, ⟨some ⟨g1, o1, none⟩, cn, xc1⟩⟩ : Hs)) (d1) (by simp)).c4
  have q5 := (L6.out.at (b1) ((⟨xw1, xp1, xu1, ⟨some ⟨g1, o1, none⟩, cn, xc1⟩⟩ : Hs)) (d1) (by simp)).c5
  have ql := (L6.out.at (b1) ((⟨xw1, xp1, xu1, ⟨some ⟨g1, o1, none⟩, cn, xc1⟩⟩ : Hs)) (d1) (by simp)).lt
  dsimp only at q0 q1 q2 q3 q4 q5
  go_wp2_with fail
  refine (I1X.out v6 b1 (⟨xw1, xp1, xu1, ⟨some ⟨g1, o1, none⟩, cn, xc1⟩⟩ : Hs) b2 (⟨xw2, xp2, xu2, ⟨some ⟨g2, o2, none⟩, cn, xc2⟩⟩ : Hs) N1.out L6.out).mono ?_
  rintro e9 w7 ⟨rfl, hb9⟩
  have L7 := Lib.hid (L6.out.next hb9)
  clear hb9 L6
  clear q0 q1 q2 q3 q4 q5 ql
  have q0 := (L7.out.at (b2) ((⟨xw2, xp2, xu2, ⟨some ⟨g2, o2, none⟩, cn, xc2⟩⟩ : Hs)) (d2) (by simp)).c0
  have q1 := (L7.out.at (b2) ((⟨xw2, xp2, xu2, ⟨some ⟨g2, o2, none⟩, cn, xc2⟩⟩ : Hs)) (d2) (by simp)).c1
  have q2 := (L7.out.at (b2) ((⟨xw2, xp2, xu2, ⟨some ⟨g2, o2, none⟩, cn, xc2⟩⟩ : Hs)) (d2) (by simp)).c2
  have q3 := (L7.out.at (b2) ((⟨xw2, xp2, xu2, ⟨some ⟨g2, o2, none⟩, cn, xc2⟩⟩ : Hs)) (d2) (by simp)).c3
  have q4 := (L7.out.at (b2) ((⟨xw2, xp2, xu2, ⟨some ⟨g2, o2, none⟩, cn, xc2⟩⟩ : Hs)) (d2) (by simp)).c4
  have q5 := (L7.out.at (b2) ((⟨xw2, xp2, xu2, ⟨some ⟨g2, o2, none⟩, cn, xc2⟩⟩ : Hs)) (d2) (by simp)).c5
  have ql := (L7.out.at (b2) ((⟨xw2, xp2, xu2, ⟨some ⟨g2, o2, none⟩, cn, xc2⟩⟩ : Hs)) (d2) (by simp)).lt
  dsimp only at q0 q1 q2 q3 q4 q5
  go_wp2_with fail
  refine (I2X.out w7 b1 (⟨xw1, xp1, xu1, ⟨some ⟨g1, o1, none⟩, cn, xc1⟩⟩ : Hs) b2 (⟨xw2, xp2, xu2, ⟨some ⟨g2, o2, none⟩, cn, xc2⟩⟩ : Hs) N2.out L7.out).mono ?_
  rintro e9 w8 ⟨rfl, hb9⟩
  have L8 := Lib.hid (L7.out.next hb9)
  clear hb9 L7
  clear q0 q1 q2 q3 q4 q5 ql
  have q5 := (L8.out.at (b1) (⟨xw1, xp1, xu1, ⟨some ⟨g1, o1, none⟩, cn, xc1⟩⟩ : Hs) d1 (by simp)).c5
  have ql := (L8.out.at (b1) (⟨xw1, xp1, xu1, ⟨some ⟨g1, o1, none⟩, cn, xc1⟩⟩ : Hs) d1 (by simp)).lt
  dsimp only at q5
  have r5 := (L8.out.at (b2) (⟨xw2, xp2, xu2, ⟨some ⟨g2, o2, none⟩, cn, xc2⟩⟩ : Hs) d2 (by simp)).c5
  have rl := (L8.out.at (b2) (⟨xw2, xp2, xu2, ⟨some ⟨g2, o2, none⟩, cn, xc2⟩⟩ : Hs) d2 (by simp)).lt
  dsimp only at r5
  have p5 := (L8.out.at (w.heap.size) (⟨sw, sp, su, ⟨some ⟨bs, os, none⟩, cn, cc⟩⟩ : Hs) d (by simp)).c5
  have pl := (L8.out.at (w.heap.size) (⟨sw, sp, su, ⟨some ⟨bs, os, none⟩, cn, cc⟩⟩ : Hs) d (by simp)).lt
  dsimp only at p5
  go_wp2
  go_loopw [13] (fun i wr => ∃ q : Nat, q ≤ cn ∧ i = .int .i64 q ∧ Hid (Lx w wr none 0 (fun _ => Ls.noSl) noCaches [(b2, (⟨xw2, xp2, xu2, ⟨some ⟨g2, o2, none⟩, cn, xc2⟩⟩ : Hs), d2), (b1, (⟨xw1, xp1, xu1, ⟨some ⟨g1, o1, none⟩, cn, xc1⟩⟩ : Hs), d1), (w.heap.size, (⟨sw, sp, su, ⟨some ⟨bs, os, none⟩, cn, cc⟩⟩ : Hs), d)])) (fun i _ => cn - (intOf i).toNat)
  case atStart => exact ⟨0, by omega, rfl, L8⟩
  case round =>
    obtain ⟨q, hq, rfl, HA⟩ := hrel
    clear q5 ql r5 rl p5 pl
    have q5 := (HA.out.at (b1) (⟨xw1, xp1, xu1, ⟨some ⟨g1, o1, none⟩, cn, xc1⟩⟩ : Hs) d1 (by simp)).c5
    have ql := (HA.out.at (b1) (⟨xw1, xp1, xu1, ⟨some ⟨g1, o1, none⟩, cn, xc1⟩⟩ : Hs) d1 (by simp)).lt
    dsimp only at q5
    have r5 := (HA.out.at (b2) (⟨xw2, xp2, xu2, ⟨some ⟨g2, o2, none⟩, cn, xc2⟩⟩ : Hs) d2 (by simp)).c5
    have rl := (HA.out.at (b2) (⟨xw2, xp2, xu2, ⟨some ⟨g2, o2, none⟩, cn, xc2⟩⟩ : Hs) d2 (by simp)).lt
    dsimp only at r5
    have p5 := (HA.out.at (w.heap.size) (⟨sw, sp, su, ⟨some ⟨bs, os, none⟩, cn, cc⟩⟩ : Hs) d (by simp)).c5
    have pl := (HA.out.at (w.heap.size) (⟨sw, sp, su, ⟨some ⟨bs, os, none⟩, cn, cc⟩⟩ : Hs) d (by simp)).lt
    dsimp only at p5
    by_cases hlt : q < cn
    · have i0 : (0 : Int) ≤ q := by omega
      have i1 : (q : Int) < cn := by omega
      have i2 : decide ((q : Int) < cn) = true := decide_eq_true i1
      have wi : IntKind.i64.wrap (q : Int) = q := by simp [IntKind.wrap, IntKind.signed, IntKind.bits]; omega
      by_cases he : q = kn
      · have dn : ((q : Int) != (kn : Int)) = false := by simp [he]
        have dn2 : (q != kn) = false := by simp [he]
        clear he
        go_wp2
        go_quiet (fail)
        have HB := Lib.hid (HA.out.next (below_drawn' (Below.refl _ _) nq))
        go_wp2
        go_roundw
        case rel => exact ⟨q + 1, by omega, by go_num, HB⟩
        case measure => simp [intOf]; omega
      · have dn : ((q : Int) != (kn : Int)) = true := by simp; omega
        have dn2 : (q != kn) = true := by simp [he]
        obtain ⟨c, hc⟩ : ∃ c, c = d.cs q := ⟨_, rfl⟩
        obtain ⟨b', off, e, hl1, hc1⟩ := (HA.out.hp b1 (⟨xw1, xp1, xu1, ⟨some ⟨g1, o1, none⟩, cn, xc1⟩⟩ : Hs) d1 (by simp)).cards (show 0 < cn by omega)
        cases e
        have x1 := hc1 q hlt
        rw [U1.out q he, ← hc] at x1
        obtain ⟨b', off, e, hl2, hc2⟩ := (HA.out.hp b2 (⟨xw2, xp2, xu2, ⟨some ⟨g2, o2, none⟩, cn, xc2⟩⟩ : Hs) d2 (by simp)).cards (show 0 < cn by omega)
        cases e
        have x2 := hc2 q hlt
        rw [U2.out q he, ← hc] at x2
        obtain ⟨b', off, e, hl3, hc3⟩ := (HA.out.hp (w.heap.size) (⟨sw, sp, su, ⟨some ⟨bs, os, none⟩, cn, cc⟩⟩ : Hs) d (by simp)).cards (show 0 < cn by omega)
        cases e
        have x3 := hc3 q hlt
        rw [← hc] at x3
        have cc0 : (c != c) = false := by simp
        clear hc hc1 hc2 hc3 he
        go_wp2
        go_quiet (fail)
        have HB := Lib.hid (HA.out.next (below_drawn' (Below.refl _ _) nq))
        go_wp2
        go_roundw
        case rel => exact ⟨q + 1, by omega, by go_num, HB⟩
        case measure => simp [intOf]; omega
    · obtain rfl : cn = q := by omega
      have i2 : decide ((cn : Int) < cn) = false := by simp
      have P1 := Lib.hid ((HA.out.hp b1 (⟨xw1, xp1, xu1, ⟨some ⟨g1, o1, none⟩, cn, xc1⟩⟩ : Hs) d1 (by simp)).words)
      have P2 := Lib.hid ((HA.out.hp b2 (⟨xw2, xp2, xu2, ⟨some ⟨g2, o2, none⟩, cn, xc2⟩⟩ : Hs) d2 (by simp)).words)
      have P3 := Lib.hid ((HA.out.hp (w.heap.size) (⟨sw, sp, su, ⟨some ⟨bs, os, none⟩, cn, cc⟩⟩ : Hs) d (by simp)).words)
      have p0 := (HA.out.at (w.heap.size) (⟨sw, sp, su, ⟨some ⟨bs, os, none⟩, cn, cc⟩⟩ : Hs) d (by simp)).c0
      have q0 := (HA.out.at b1 (⟨xw1, xp1, xu1, ⟨some ⟨g1, o1, none⟩, cn, xc1⟩⟩ : Hs) d1 (by simp)).c0
      have hx1 : xw1.n ≤ 4000000 := by have h1 := N1.out.1; dsimp only at h1; omega
      have hx2 : xw2.n ≤ 4000000 := by have h1 := N2.out.1; dsimp only at h1; omega
      dsimp only at p0 q0
      go_wp2_with fail
      refine (Ls.ints_any _ _ xw1.a sw.a xw1.n sw.n xw1.c sw.c d1.ws d.ws _ hx1 (by omega) P1.out P3.out).mono ?_
      rw [decide_eq_true V1.out]
      rintro e9 w9 ⟨rfl, dd, rfl⟩
      have HB := Lib.hid (HA.out.next (below_drawn' (Below.refl _ _) dd))
      clear p0 q0 q5 ql r5 rl p5 pl HA P1 P2 P3
      generalize wr.drewN dd = w5 at HB ⊢
      have P2 := Lib.hid ((HB.out.hp b2 (⟨xw2, xp2, xu2, ⟨some ⟨g2, o2, none⟩, cn, xc2⟩⟩ : Hs) d2 (by simp)).words)
      have P3 := Lib.hid ((HB.out.hp (w.heap.size) (⟨sw, sp, su, ⟨some ⟨bs, os, none⟩, cn, cc⟩⟩ : Hs) d (by simp)).words)
      have p0 := (HB.out.at (w.heap.size) (⟨sw, sp, su, ⟨some ⟨bs, os, none⟩, cn, cc⟩⟩ : Hs) d (by simp)).c0
      have pl := (HB.out.at (w.heap.size) (⟨sw, sp, su, ⟨some ⟨bs, os, none⟩, cn, cc⟩⟩ : Hs) d (by simp)).lt
      have r0 := (HB.out.at b2 (⟨xw2, xp2, xu2, ⟨some ⟨g2, o2, none⟩, cn, xc2⟩⟩ : Hs) d2 (by simp)).c0
      have rl := (HB.out.at b2 (⟨xw2, xp2, xu2, ⟨some ⟨g2, o2, none⟩, cn, xc2⟩⟩ : Hs) d2 (by simp)).lt
      dsimp only at p0 r0
      go_wp2_with fail
      refine (Ls.ints_any _ _ xw2.a sw.a xw2.n sw.n xw2.c sw.c d2.ws d.ws _ hx2 (by omega) P2.out P3.out).mono ?_
      rw [decide_eq_true V2.out]
      rintro e9 w9 ⟨rfl, dd, rfl⟩
      have HE := Lib.hid (HB.out.next (below_drawn' (Below.refl _ _) dd)).bel
      clear p0 pl r0 rl HB P2 P3
      go_wp2
      go_ret
      exact ⟨rfl, HE.out⟩
end
theorem walk (s : Hs) (d : Hd_) (a : Int) (w : World) (hz : Cl.Sz w) (hp : Hp w w.heap.size s d) (hv : Fit64 d.ws) (_ : s.p.n ≤ s.p.c) (ha : (Lit.int .i64 a).wf = true) :
    Calls Tryd.prog 3 #[(.agg #[.slice s.w.a s.w.n s.w.c, .slice s.p.a s.p.n s.p.c, .slice (s.u 0).a (s.u 0).n (s.u 0).c, .slice (s.u 1).a (s.u 1).n (s.u 1).c, .slice (s.u 2).a (s.u 2).n (s.u 2).c, .slice s.c.a s.c.n s.c.c]), .int .i64 a] w fun e w' => e = .returned (.bool true) ∧ Below w.heap.size w w' := by
  cases hf : fewH s
  · exact walk_few s d a w hf hz hp
  have hfi := fine_few hf hp hv
  have hz0 := hz.pos
  have hfp := few_parts hf
  have ha2 := (wf_bounds ha).2
  have hO := fun (W : World) (h : Lx w W none 0 (fun _ => Ls.noSl) noCaches [(w.heap.size, s, d)]) => of_any s d W a (h.hp w.heap.size s d (by simp)) (hz.over h.bel hz0) hfi ha2
  by_cases e1 : ofE s d a = 0
  · obtain ⟨m1, a1, a3, i1, i2⟩ := ofE_is e1
    rw [e1, i1] at hO
    have c1 : ∀ t, Same3 s t → clE t (ck d (ofK a) true) (ofK a) = 0 := fun t n1 => by
      rw [clE_ck n1]
      unfold clE
      rw [if_neg (by rw [m1]; decide), if_pos (by omega)]
    refine core_ok s d a w (ck d (ofK a) true) (ck (ck d (ofK a) true) (ofK a) false) (ofK a) i2 hfp.2.2.1 hfp.1 rfl rfl (fun i hi => by rw [ck_at, if_neg hi]) (fun i hi => by rw [ck_at, if_neg hi, ck_at, if_neg hi]) hf hO
      (fun W h => dirty_turn s d W a (h.hp w.heap.size s d (by simp)) (hz.over h.bel hz0) hfi ha2 e1)
      (fun W b1 t1 n1 h => (clean_turn t1 (ck d (ofK a) true) W (ofK a) (h.hp b1 t1 (ck d (ofK a) true) (by simp)) (hz.over h.bel hz0) (fine_ck n1 hfi _ _) (c1 t1 n1)).mono fun e w' ⟨t, h1, h2, h3, h4⟩ => ⟨t, h1, h2, ⟨h3.1.trans n1.1, h3.2.1.trans n1.2.1, h3.2.2.trans n1.2.2⟩, h4⟩)
      (fun W b1 t1 b2 t2 n1 h => ?_) (fun W b1 t1 b2 t2 n2 h => ?_) hz hp
    · have := is_any t1 (ck d (ofK a) true) W a (h.hp b1 t1 (ck d (ofK a) true) (by simp)) (hz.over h.bel hz0) (fine_ck n1 hfi _ _) ha2
      rwa [show isB t1 (ck d (ofK a) true) a = true by
        unfold isB
        rw [ofE_ck n1, e1, ck_at, if_pos rfl]
        rfl] at this
    · have := is_any t2 (ck (ck d (ofK a) true) (ofK a) false) W a (h.hp b2 t2 (ck (ck d (ofK a) true) (ofK a) false) (by simp)) (hz.over h.bel hz0) (fine_ck (s := s) n2 (fine_ck (s := s) ⟨rfl, rfl, rfl⟩ hfi _ _) _ _) ha2
      rwa [show isB t2 (ck (ck d (ofK a) true) (ofK a) false) a = false by
        unfold isB
        rw [ck_at, if_pos rfl]
        exact Bool.and_false _] at this
  · rw [show ofN s d a = 0 from if_neg e1] at hO
    refine core_no s d a w _ e1 hf hO (fun W h => ?_) hz hp
    have := is_any s d W a (h.hp w.heap.size s d (by simp)) (hz.over h.bel hz0) hfi ha2
    rwa [show isB s d a = false by unfold isB; rw [decide_eq_false e1, Bool.false_and]] at this
-- the frame (hp10frame.py)
set_option maxRecDepth 100000 in
theorem lifted (os : Os) (started : os.Started) (H : Type) (enc : TypeId × Value → H) :
    ReturnsInHanded {} Tryd.checked os 3 .any (fun w args => (Rows.cardsKeepSpec.pre enc Tryd.prog Tryd.f3 [] false w args ∧ laidMetH Tryd.prog laidSizes w) ∧ sizedMet enc Tryd.prog Tryd.f3 (OpenSpec.ofChange Rows.cardsKeepSpec) false w args)
      (Rows.cardsKeepSpec.post enc Tryd.prog Tryd.f3 false true false false) := by
  refine returnsInHanded_of_change_and (C := Tryd.checked) (X := fun w _ => laidMetH Tryd.prog laidSizes w) (fun _ _ _ hh h => h.of_heap hh) own started (by kernel_rfl) Tryd.func3
    (ChangeSpec.witness_shaped (enc := enc) (C := Tryd.checked) (os := os) (X := fun w _ => laidMetH Tryd.prog laidSizes w) false (World.doorLaid Tryd.prog 400 os) #[.agg #[.slice none 0 0, .slice none 0 0, .slice none 0 0, .slice none 0 0, .slice none 0 0, .slice none 0 0], .int .i64 0] 8 rfl (World.shaped_of_RefB (by kernel_rfl) (by kernel_rfl)) (by kernel_rfl) (by kernel_rfl) (by kernel_rfl) (door_met os _)) ?_
  intro W base args ds gs before hval0 hW _ _ hL _
  have hval : ∀ (j : Nat) t v, Tryd.f3.params[j]? = some t → args[j]? = some v → Value.okWide Tryd.prog W .any base t v := hval0
  have hW' := hW
  obtain ⟨p, q, hA0, hV, rfl, hfz, hnd⟩ := hW
  have hA : DataW.TrodAll enc Tryd.prog W 0 (fun _ => true) true Tryd.f3.params.toList args.toList ds p := hA0
  rw [Tryd.params3] at hA hval
  obtain ⟨v0, vs0, d0, ds0, p0, q0, hargs, rfl, rfl, h0, r0⟩ := trodAll_cons hA
  obtain ⟨v1, vs1, d1, ds1, p1, q1, rfl, rfl, rfl, h1, r1⟩ := trodAll_cons r0
  obtain ⟨rfl, rfl, rfl⟩ := trodAll_nil r1
  obtain rfl : args = #[v0, v1] := by cases args; simp_all
  obtain ⟨rfl, rfl⟩ := trodVars_none hV
  have k0 := h0
  have lt0 : ∀ x ∈ p0, x.block < W.heap.size := by obtain ⟨m, hm⟩ := k0; exact DataW.trod_lt m _ _ _ hm
  obtain ⟨s0, z0, rfl, w0, f0, b0⟩ := heap_of8 (hval 0 28 v0 rfl rfl) h0
  obtain ⟨a1, rfl, rfl, rfl, w1⟩ := open_int Tryd.underlying3 (hval 1 3 v1 rfl rfl) h1
  clear hA0 hval0
  refine (walk s0 z0 a1 W (of_laid hL) w0 f0 b0 w1).mono fun e W' ⟨he, bel⟩ => ?_
  subst he
  exact ⟨_, rfl, _, _, _, [], _, [], hW', trodAll_mk1 (shut_bool Tryd.underlying4 _), (trodAll_cons_mk (Below.trod laidOut (by kernel_rfl) (of_decide_eq_true (by kernel_rfl)) k0 bel lt0) (trodAll_cons_mk (shut_int Tryd.underlying3 w1) trodAll_mk0)), rfl, bel.frame _, fun h => by cases h⟩

theorem over : Rows.CardsKeepSaid :=
  OpenClaim.holds_of_wide 3 Tryd.f3 rfl rfl rfl rfl rfl rfl rfl ⟨rfl, rfl, rfl, rfl, rfl⟩ rfl rfl rfl rfl rfl (by kernel_rfl) Tryd.func3 (by kernel_rfl)
    (of_decide_eq_true (by kernel_rfl)) (by unfold Func.isWrapper; first | (rw [if_pos (by decide +kernel)]; kernel_rfl) | (rw [if_neg (by decide +kernel)]; exact ⟨rfl, rfl⟩))
    (fun os started H enc _ => lifted os started H enc)

/-- The statement: the card. -/
theorem proved : Rows.CardsKeepCardSaid :=
  Claim7.holds_tied_plain_at .later [] [.data] true Rows.cardsKeepCard.stood.harness false
    over (fun _ h => by cases h) (by kernel_rfl) (fun _ h => by cases h) cardsKeep_row_tie rfl ⟨rfl, rfl⟩ (by kernel_rfl) rfl
    (fun f fn hf hfn => by
      obtain rfl : f = 3 := Option.some.inj ((show Tryd.prog.funcNamed "ragpicker/ragpickerlaw10.CardsKeep" = some 3 by kernel_rfl).symm.trans hf) |>.symm
      obtain rfl : fn = Tryd.f3 := (Option.some.inj (Tryd.func3.symm.trans hfn)).symm
      exact ⟨by kernel_rfl, fun j t ht => by
        rw [Tryd.params3] at ht
        have hm : t ∈ [28, 3] := by simpa using Array.mem_of_getElem? ht
        have hall : ([28, 3].all fun u => !Tryd.prog.wantsStandIn u) = true := by kernel_rfl
        exact (show Tryd.prog.wantsStandIn t = false by simpa using List.all_eq_true.1 hall t hm)⟩)
    (by kernel_rfl)
#print axioms proved
end Go.Proofs.YtmalopciboikhaaDoor.CardsKeep
