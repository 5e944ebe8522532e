/-
  AllocTwice: two objects that are taken, one behind the other, lie apart: no word is both's: for every heap of at most 9 pages and 130 words, every cache of at most 70 cells of each class, and any two numbers of fields; the table of sizes is tied to the program's text by the card.
-/
import Derived.Test.YthgcaehhjiccbaaGreatDoorHpZS
namespace Go.Proofs.YthgcaehhjiccbaaGreatDoor.AllocTwice
open Go.Proofs.YthgcaehhjiccbaaGreatDoor Go.Proofs.YthgcaehhjiccbaaGreatDoor.Al
open Go.ChangeShapes Go.WideShapes Go.ChangeAt Go.RowKit
set_option maxRecDepth 100000

section
variable (s : Hs) (d : Hd_) (u : Nat → Ls.Sl) (G : Nat → List Int) (x y : Int) (w : World)
theorem walk_few (hf : fewL s (fun _ => u) 1 = false) (hz : Cl.Sz w) (hp : Hp w w.heap.size s d) (l3 : Ls.L3 w w.heap.size u G) : Calls Tryz.prog 8 #[(.agg #[.slice s.w.a s.w.n s.w.c, .slice s.p.a s.p.n s.p.c, .slice (s.u 0).a (s.u 0).n (s.u 0).c, .slice (s.u 1).a (s.u 1).n (s.u 1).c, .slice (s.u 2).a (s.u 2).n (s.u 2).c, .slice s.c.a s.c.n s.c.c]), (.agg #[.slice (u 0).a (u 0).n (u 0).c, .slice (u 1).a (u 1).n (u 1).c, .slice (u 2).a (u 2).n (u 2).c]), .int .i64 x, .int .i64 y] w fun e w' => e = .returned (.bool true) ∧ Below w.heap.size w w' := by
  have HZ := Lib.hid hz
  have hz0 := hz.pos
  have HP := Lib.hid hp
  have HL := Lib.hid l3
  have HF := Lib.hid hf
  clear hz hp l3 hf
  go_enter Tryz.func8, Tryz.ntmps8
  go_wp2_with fail
  obtain ⟨W1, hW1⟩ : ∃ W1, W1 = (w.alloc (.cells #[.slice s.w.a s.w.n s.w.c, .slice s.p.a s.p.n s.p.c, .slice (s.u 0).a (s.u 0).n (s.u 0).c, .slice (s.u 1).a (s.u 1).n (s.u 1).c, .slice (s.u 2).a (s.u 2).n (s.u 2).c, .slice s.c.a s.c.n s.c.c] 28)).alloc (.cells #[.slice (u 0).a (u 0).n (u 0).c, .slice (u 1).a (u 1).n (u 1).c, .slice (u 2).a (u 2).n (u 2).c] 25) := ⟨_, rfl⟩
  have L1 := Lib.hid (lw_start HP.out HL.out hW1)
  rw [← hW1]
  clear hW1
  refine (Al.awake_any W1 (HZ.out.over L1.out.bel hz0)).mono ?_
  rintro e9 w1 ⟨rfl, hb1⟩
  have L2 := Lib.hid (L1.out.next hb1)
  clear hb1 L1
  have q0 := L2.out.hb.c0
  have q1 := L2.out.hb.c1
  have q2 := L2.out.hb.c2
  have q3 := L2.out.hb.c3
  have q4 := L2.out.hb.c4
  have q5 := L2.out.hb.c5
  have ql := L2.out.hb.lt
  have p0 := L2.out.cb.cell 0 (by decide)
  have p1 := L2.out.cb.cell 1 (by decide)
  have p2 := L2.out.cb.cell 2 (by decide)
  have pl := L2.out.cb.lt
  go_wp2_with fail
  have b2 := (Below.refl w1.heap.size w1).alloc (Nat.le_refl _) (.cells #[.slice (u 0).a (u 0).n (u 0).c, .slice (u 1).a (u 1).n (u 1).c, .slice (u 2).a (u 2).n (u 2).c] 25)
  refine (few8_any s (some ⟨w1.heap.size, 0, none⟩) 1 1 (fun _ => u) (fun _ => G) (w1.alloc (.cells #[.slice (u 0).a (u 0).n (u 0).c, .slice (u 1).a (u 1).n (u 1).c, .slice (u 2).a (u 2).n (u 2).c] 25)) (by omega) (lrow_of (own_one w1 u) (by simp) (fun _ _ => L2.out.l3.next b2))).mono ?_
  rw [HF.out]
  rintro e9 w2 ⟨rfl, hb2⟩
  have L3 := Lib.hid ((L2.out.next b2).next hb2)
  clear b2 hb2 L2
  clear q0 q1 q2 q3 q4 q5 ql p0 p1 p2 pl
  go_wp2
  go_ret
  exact ⟨rfl, L3.out.bel⟩
set_option maxHeartbeats 1000000 in
theorem core_err (a er1 : Int) (w1 p1 c1 : Nat) (d1 : Hd_) (G1 : Nat → List Int) (hc1 : ∀ W, Lw w W s d u G → Calls Tryz.prog 20 #[(.agg #[.slice s.w.a s.w.n s.w.c, .slice s.p.a s.p.n s.p.c, .slice (s.u 0).a (s.u 0).n (s.u 0).c, .slice (s.u 1).a (s.u 1).n (s.u 1).c, .slice (s.u 2).a (s.u 2).n (s.u 2).c, .slice s.c.a s.c.n s.c.c]), (.agg #[.slice (u 0).a (u 0).n (u 0).c, .slice (u 1).a (u 1).n (u 1).c, .slice (u 2).a (u 2).n (u 2).c]), .agg #[.bool true, .bool false, .bool false, .int .i64 x, .int .i64 0, .int .i64 0]] W (TkO W a er1 w1 p1 c1 d1 G1)) (hf : fewL s (fun _ => u) 1 = true) (h0 : ¬ er1 = 0) (hz : Cl.Sz w) (hp : Hp w w.heap.size s d) (l3 : Ls.L3 w w.heap.size u G) : Calls Tryz.prog 8 #[(.agg #[.slice s.w.a s.w.n s.w.c, .slice s.p.a s.p.n s.p.c, .slice (s.u 0).a (s.u 0).n (s.u 0).c, .slice (s.u 1).a (s.u 1).n (s.u 1).c, .slice (s.u 2).a (s.u 2).n (s.u 2).c, .slice s.c.a s.c.n s.c.c]), (.agg #[.slice (u 0).a (u 0).n (u 0).c, .slice (u 1).a (u 1).n (u 1).c, .slice (u 2).a (u 2).n (u 2).c]), .int .i64 x, .int .i64 y] w fun e w' => e = .returned (.bool true) ∧ Below w.heap.size w w' := by
  have HZ := Lib.hid hz
  have hz0 := hz.pos
  have HP := Lib.hid hp
  have HL := Lib.hid l3
  have HF := Lib.hid hf
  have C1 := Lib.hid hc1
  have d0 : (er1 != 0) = true := by simp [h0]
  clear h0
  clear hz hp l3 hf hc1
  go_enter Tryz.func8, Tryz.ntmps8
  go_wp2_with fail
  obtain ⟨W1, hW1⟩ : ∃ W1, W1 = (w.alloc (.cells #[.slice s.w.a s.w.n s.w.c, .slice s.p.a s.p.n s.p.c, .slice (s.u 0).a (s.u 0).n (s.u 0).c, .slice (s.u 1).a (s.u 1).n (s.u 1).c, .slice (s.u 2).a (s.u 2).n (s.u 2).c, .slice s.c.a s.c.n s.c.c] 28)).alloc (.cells #[.slice (u 0).a (u 0).n (u 0).c, .slice (u 1).a (u 1).n (u 1).c, .slice (u 2).a (u 2).n (u 2).c] 25) := ⟨_, rfl⟩
  have L1 := Lib.hid (lw_start HP.out HL.out hW1)
  rw [← hW1]
  clear hW1
  refine (Al.awake_any W1 (HZ.out.over L1.out.bel hz0)).mono ?_
  rintro e9 w1 ⟨rfl, hb1⟩
  have L2 := Lib.hid (L1.out.next hb1)
  clear hb1 L1
  have q0 := L2.out.hb.c0
  have q1 := L2.out.hb.c1
  have q2 := L2.out.hb.c2
  have q3 := L2.out.hb.c3
  have q4 := L2.out.hb.c4
  have q5 := L2.out.hb.c5
  have ql := L2.out.hb.lt
  have p0 := L2.out.cb.cell 0 (by decide)
  have p1 := L2.out.cb.cell 1 (by decide)
  have p2 := L2.out.cb.cell 2 (by decide)
  have pl := L2.out.cb.lt
  go_wp2_with fail
  have b2 := (Below.refl w1.heap.size w1).alloc (Nat.le_refl _) (.cells #[.slice (u 0).a (u 0).n (u 0).c, .slice (u 1).a (u 1).n (u 1).c, .slice (u 2).a (u 2).n (u 2).c] 25)
  refine (few8_any s (some ⟨w1.heap.size, 0, none⟩) 1 1 (fun _ => u) (fun _ => G) (w1.alloc (.cells #[.slice (u 0).a (u 0).n (u 0).c, .slice (u 1).a (u 1).n (u 1).c, .slice (u 2).a (u 2).n (u 2).c] 25)) (by omega) (lrow_of (own_one w1 u) (by simp) (fun _ _ => L2.out.l3.next b2))).mono ?_
  rw [HF.out]
  rintro e9 w2 ⟨rfl, hb2⟩
  have L3 := Lib.hid ((L2.out.next b2).next hb2)
  clear b2 hb2 L2
  clear q0 q1 q2 q3 q4 q5 ql p0 p1 p2 pl
  have q0 := L3.out.hb.c0
  have q1 := L3.out.hb.c1
  have q2 := L3.out.hb.c2
  have q3 := L3.out.hb.c3
  have q4 := L3.out.hb.c4
  have q5 := L3.out.hb.c5
  have ql := L3.out.hb.lt
  have p0 := L3.out.cb.cell 0 (by decide)
  have p1 := L3.out.cb.cell 1 (by decide)
  have p2 := L3.out.cb.cell 2 (by decide)
  have pl := L3.out.cb.lt
  go_wp2_with fail
  refine (C1.out w2 L3.out).mono ?_
  rintro e9 w4 ⟨⟨⟨A1, n1, D1⟩, ⟨A2, n2, D2⟩, t4, ⟨A3, n3, D3⟩⟩, v, rfl, ht, hv4, ⟨hn1, hn2, hn3⟩, hb4⟩
  obtain rfl : n1 = _ := hn1
  obtain rfl : n2 = _ := hn2
  obtain rfl : n3 = _ := hn3
  dsimp only
  have L4 := Lib.hid (L3.out.next hb4)
  have T4 := Lib.hid ht
  have V4 := Lib.hid hv4
  clear ht hv4 hb4 L3
  clear q0 q1 q2 q3 q4 q5 ql p0 p1 p2 pl
  have b5 := (Below.refl w4.heap.size w4).alloc (Nat.le_refl _) (.cells #[.slice A1 n1 D1, .slice A2 n2 D2, .slice (t4 0).a (t4 0).n (t4 0).c, .slice (t4 1).a (t4 1).n (t4 1).c, .slice (t4 2).a (t4 2).n (t4 2).c, .slice A3 n3 D3] 28)
  have b6 := (Below.refl (w4.alloc (.cells #[.slice A1 n1 D1, .slice A2 n2 D2, .slice (t4 0).a (t4 0).n (t4 0).c, .slice (t4 1).a (t4 1).n (t4 1).c, .slice (t4 2).a (t4 2).n (t4 2).c, .slice A3 n3 D3] 28)).heap.size (w4.alloc (.cells #[.slice A1 n1 D1, .slice A2 n2 D2, .slice (t4 0).a (t4 0).n (t4 0).c, .slice (t4 1).a (t4 1).n (t4 1).c, .slice (t4 2).a (t4 2).n (t4 2).c, .slice A3 n3 D3] 28))).alloc (Nat.le_refl _) (.cells #[.slice (v 0).a (v 0).n (v 0).c, .slice (v 1).a (v 1).n (v 1).c, .slice (v 2).a (v 2).n (v 2).c] 25)
  have L5 := Lib.hid ((L4.out.next b5).next b6)
  have K5 := Lib.hid ((HBox.new w4 ⟨⟨A1, n1, D1⟩, ⟨A2, n2, D2⟩, t4, ⟨A3, n3, D3⟩⟩ 28).next b6)
  have P5 := Lib.hid ((T4.out.next b5).next b6)
  have V5 := Lib.hid ((V4.out.next b5).next b6)
  have D5 : Hid (Ls.Box3 ((w4.alloc (.cells #[.slice A1 n1 D1, .slice A2 n2 D2, .slice (t4 0).a (t4 0).n (t4 0).c, .slice (t4 1).a (t4 1).n (t4 1).c, .slice (t4 2).a (t4 2).n (t4 2).c, .slice A3 n3 D3] 28)).alloc (.cells #[.slice (v 0).a (v 0).n (v 0).c, .slice (v 1).a (v 1).n (v 1).c, .slice (v 2).a (v 2).n (v 2).c] 25)) (w4.heap.size + 1) v) := Lib.hid (by have := Ls.Box3.new (w4.alloc (.cells #[.slice A1 n1 D1, .slice A2 n2 D2, .slice (t4 0).a (t4 0).n (t4 0).c, .slice (t4 1).a (t4 1).n (t4 1).c, .slice (t4 2).a (t4 2).n (t4 2).c, .slice A3 n3 D3] 28)) v 25; rwa [World.size_alloc] at this)
  clear b5 b6 L4 T4 V4
  go_wp2
  go_ret
  exact ⟨rfl, L5.out.bel⟩
set_option maxHeartbeats 1000000 in
theorem core_err2 (a : Int) (w1 p1 c1 : Nat) (d1 : Hd_) (G1 : Nat → List Int) (hc1 : ∀ W, Lw w W s d u G → Calls Tryz.prog 20 #[(.agg #[.slice s.w.a s.w.n s.w.c, .slice s.p.a s.p.n s.p.c, .slice (s.u 0).a (s.u 0).n (s.u 0).c, .slice (s.u 1).a (s.u 1).n (s.u 1).c, .slice (s.u 2).a (s.u 2).n (s.u 2).c, .slice s.c.a s.c.n s.c.c]), (.agg #[.slice (u 0).a (u 0).n (u 0).c, .slice (u 1).a (u 1).n (u 1).c, .slice (u 2).a (u 2).n (u 2).c]), .agg #[.bool true, .bool false, .bool false, .int .i64 x, .int .i64 0, .int .i64 0]] W (TkO W a 0 w1 p1 c1 d1 G1)) (hf : fewL s (fun _ => u) 1 = true) (b er2 : Int) (w2 p2 c2 : Nat) (d2 : Hd_) (G2 : Nat → List Int) (hc2 : ∀ (W : World) (t : Hs) (v : Nat → Ls.Sl), Hp W W.heap.size t d1 → Ls.L3 W W.heap.size v G1 → (t.w.n = w1 ∧ t.p.n = p1 ∧ t.c.n = c1) → Below w.heap.size w W → Calls Tryz.prog 20 #[(.agg #[.slice t.w.a t.w.n t.w.c, .slice t.p.a t.p.n t.p.c, .slice (t.u 0).a (t.u 0).n (t.u 0).c, .slice (t.u 1).a (t.u 1).n (t.u 1).c, .slice (t.u 2).a (t.u 2).n (t.u 2).c, .slice t.c.a t.c.n t.c.c]), (.agg #[.slice (v 0).a (v 0).n (v 0).c, .slice (v 1).a (v 1).n (v 1).c, .slice (v 2).a (v 2).n (v 2).c]), .agg #[.bool true, .bool false, .bool false, .int .i64 y, .int .i64 0, .int .i64 0]] W (TkO W b er2 w2 p2 c2 d2 G2)) (h0 : ¬ er2 = 0) (hz : Cl.Sz w) (hp : Hp w w.heap.size s d) (l3 : Ls.L3 w w.heap.size u G) : Calls Tryz.prog 8 #[(.agg #[.slice s.w.a s.w.n s.w.c, .slice s.p.a s.p.n s.p.c, .slice (s.u 0).a (s.u 0).n (s.u 0).c, .slice (s.u 1).a (s.u 1).n (s.u 1).c, .slice (s.u 2).a (s.u 2).n (s.u 2).c, .slice s.c.a s.c.n s.c.c]), (.agg #[.slice (u 0).a (u 0).n (u 0).c, .slice (u 1).a (u 1).n (u 1).c, .slice (u 2).a (u 2).n (u 2).c]), .int .i64 x, .int .i64 y] w fun e w' => e = .returned (.bool true) ∧ Below w.heap.size w w' := by
  have HZ := Lib.hid hz
  have hz0 := hz.pos
  have HP := Lib.hid hp
  have HL := Lib.hid l3
  have HF := Lib.hid hf
  have C1 := Lib.hid hc1
  have d0 : (er2 != 0) = true := by simp [h0]
  clear h0
  clear hz hp l3 hf hc1
  have C2 := Lib.hid hc2
  clear hc2
  go_enter Tryz.func8, Tryz.ntmps8
  go_wp2_with fail
  obtain ⟨W1, hW1⟩ : ∃ W1, W1 = (w.alloc (.cells #[.slice s.w.a s.w.n s.w.c, .slice s.p.a s.p.n s.p.c, .slice (s.u 0).a (s.u 0).n (s.u 0).c, .slice (s.u 1).a (s.u 1).n (s.u 1).c, .slice (s.u 2).a (s.u 2).n (s.u 2).c, .slice s.c.a s.c.n s.c.c] 28)).alloc (.cells #[.slice (u 0).a (u 0).n (u 0).c, .slice (u 1).a (u 1).n (u 1).c, .slice (u 2).a (u 2).n (u 2).c] 25) := ⟨_, rfl⟩
  have L1 := Lib.hid (lw_start HP.out HL.out hW1)
  rw [← hW1]
  clear hW1
  refine (Al.awake_any W1 (HZ.out.over L1.out.bel hz0)).mono ?_
  rintro e9 w1 ⟨rfl, hb1⟩
  have L2 := Lib.hid (L1.out.next hb1)
  clear hb1 L1
  have q0 := L2.out.hb.c0
  have q1 := L2.out.hb.c1
  have q2 := L2.out.hb.c2
  have q3 := L2.out.hb.c3
  have q4 := L2.out.hb.c4
  have q5 := L2.out.hb.c5
  have ql := L2.out.hb.lt
  have p0 := L2.out.cb.cell 0 (by decide)
  have p1 := L2.out.cb.cell 1 (by decide)
  have p2 := L2.out.cb.cell 2 (by decide)
  have pl := L2.out.cb.lt
  go_wp2_with fail
  have b2 := (Below.refl w1.heap.size w1).alloc (Nat.le_refl _) (.cells #[.slice (u 0).a (u 0).n (u 0).c, .slice (u 1).a (u 1).n (u 1).c, .slice (u 2).a (u 2).n (u 2).c] 25)
  refine (few8_any s (some ⟨w1.heap.size, 0, none⟩) 1 1 (fun _ => u) (fun _ => G) (w1.alloc (.cells #[.slice (u 0).a (u 0).n (u 0).c, .slice (u 1).a (u 1).n (u 1).c, .slice (u 2).a (u 2).n (u 2).c] 25)) (by omega) (lrow_of (own_one w1 u) (by simp) (fun _ _ => L2.out.l3.next b2))).mono ?_
  rw [HF.out]
  rintro e9 w2 ⟨rfl, hb2⟩
  have L3 := Lib.hid ((L2.out.next b2).next hb2)
  clear b2 hb2 L2
  clear q0 q1 q2 q3 q4 q5 ql p0 p1 p2 pl
  have q0 := L3.out.hb.c0
  have q1 := L3.out.hb.c1
  have q2 := L3.out.hb.c2
  have q3 := L3.out.hb.c3
  have q4 := L3.out.hb.c4
  have q5 := L3.out.hb.c5
  have ql := L3.out.hb.lt
  have p0 := L3.out.cb.cell 0 (by decide)
  have p1 := L3.out.cb.cell 1 (by decide)
  have p2 := L3.out.cb.cell 2 (by decide)
  have pl := L3.out.cb.lt
  go_wp2_with fail
  refine (C1.out w2 L3.out).mono ?_
  rintro e9 w4 ⟨⟨⟨A1, n1, D1⟩, ⟨A2, n2, D2⟩, t4, ⟨A3, n3, D3⟩⟩, v, rfl, ht, hv4, ⟨hn1, hn2, hn3⟩, hb4⟩
  obtain rfl : n1 = _ := hn1
  obtain rfl : n2 = _ := hn2
  obtain rfl : n3 = _ := hn3
  dsimp only
  have L4 := Lib.hid (L3.out.next hb4)
  have T4 := Lib.hid ht
  have V4 := Lib.hid hv4
  clear ht hv4 hb4 L3
  clear q0 q1 q2 q3 q4 q5 ql p0 p1 p2 pl
  have b5 := (Below.refl w4.heap.size w4).alloc (Nat.le_refl _) (.cells #[.slice A1 n1 D1, .slice A2 n2 D2, .slice (t4 0).a (t4 0).n (t4 0).c, .slice (t4 1).a (t4 1).n (t4 1).c, .slice (t4 2).a (t4 2).n (t4 2).c, .slice A3 n3 D3] 28)
  have b6 := (Below.refl (w4.alloc (.cells #[.slice A1 n1 D1, .slice A2 n2 D2, .slice (t4 0).a (t4 0).n (t4 0).c, .slice (t4 1).a (t4 1).n (t4 1).c, .slice (t4 2).a (t4 2).n (t4 2).c, .slice A3 n3 D3] 28)).heap.size (w4.alloc (.cells #[.slice A1 n1 D1, .slice A2 n2 D2, .slice (t4 0).a (t4 0).n (t4 0).c, .slice (t4 1).a (t4 1).n (t4 1).c, .slice (t4 2).a (t4 2).n (t4 2).c, .slice A3 n3 D3] 28))).alloc (Nat.le_refl _) (.cells #[.slice (v 0).a (v 0).n (v 0).c, .slice (v 1).a (v 1).n (v 1).c, .slice (v 2).a (v 2).n (v 2).c] 25)
  have L5 := Lib.hid ((L4.out.next b5).next b6)
  have K5 := Lib.hid ((HBox.new w4 ⟨⟨A1, n1, D1⟩, ⟨A2, n2, D2⟩, t4, ⟨A3, n3, D3⟩⟩ 28).next b6)
  have P5 := Lib.hid ((T4.out.next b5).next b6)
  have V5 := Lib.hid ((V4.out.next b5).next b6)
  have D5 : Hid (Ls.Box3 ((w4.alloc (.cells #[.slice A1 n1 D1, .slice A2 n2 D2, .slice (t4 0).a (t4 0).n (t4 0).c, .slice (t4 1).a (t4 1).n (t4 1).c, .slice (t4 2).a (t4 2).n (t4 2).c, .slice A3 n3 D3] 28)).alloc (.cells #[.slice (v 0).a (v 0).n (v 0).c, .slice (v 1).a (v 1).n (v 1).c, .slice (v 2).a (v 2).n (v 2).c] 25)) (w4.heap.size + 1) v) := Lib.hid (by have := Ls.Box3.new (w4.alloc (.cells #[.slice A1 n1 D1, .slice A2 n2 D2, .slice (t4 0).a (t4 0).n (t4 0).c, .slice (t4 1).a (t4 1).n (t4 1).c, .slice (t4 2).a (t4 2).n (t4 2).c, .slice A3 n3 D3] 28)) v 25; rwa [World.size_alloc] at this)
  clear b5 b6 L4 T4 V4
  have k0 := K5.out.c0
  have k1 := K5.out.c1
  have k2 := K5.out.c2
  have k3 := K5.out.c3
  have k4 := K5.out.c4
  have k5 := K5.out.c5
  have kl := K5.out.lt
  dsimp only at k0 k1 k2 k3 k4 k5
  have r0 := D5.out.cell 0 (by decide)
  have r1 := D5.out.cell 1 (by decide)
  have r2 := D5.out.cell 2 (by decide)
  have rl := D5.out.lt
  go_wp2_with fail
  refine (C2.out _ _ v P5.out V5.out ⟨rfl, rfl, rfl⟩ L5.out.bel).mono ?_
  rintro e9 w6 ⟨⟨⟨E1, m1, H1⟩, ⟨E2, m2, H2⟩, t6, ⟨E3, m3, H3⟩⟩, v6, rfl, ht6, _, ⟨hm1, hm2, hm3⟩, hb6⟩
  obtain rfl : m1 = _ := hm1
  obtain rfl : m2 = _ := hm2
  obtain rfl : m3 = _ := hm3
  dsimp only
  have b7 := (Below.refl w6.heap.size w6).alloc (Nat.le_refl _) (.cells #[.slice E1 m1 H1, .slice E2 m2 H2, .slice (t6 0).a (t6 0).n (t6 0).c, .slice (t6 1).a (t6 1).n (t6 1).c, .slice (t6 2).a (t6 2).n (t6 2).c, .slice E3 m3 H3] 28)
  have b8 := (Below.refl (w6.alloc (.cells #[.slice E1 m1 H1, .slice E2 m2 H2, .slice (t6 0).a (t6 0).n (t6 0).c, .slice (t6 1).a (t6 1).n (t6 1).c, .slice (t6 2).a (t6 2).n (t6 2).c, .slice E3 m3 H3] 28)).heap.size (w6.alloc (.cells #[.slice E1 m1 H1, .slice E2 m2 H2, .slice (t6 0).a (t6 0).n (t6 0).c, .slice (t6 1).a (t6 1).n (t6 1).c, .slice (t6 2).a (t6 2).n (t6 2).c, .slice E3 m3 H3] 28))).alloc (Nat.le_refl _) (.cells #[.slice (v6 0).a (v6 0).n (v6 0).c, .slice (v6 1).a (v6 1).n (v6 1).c, .slice (v6 2).a (v6 2).n (v6 2).c] 25)
  have L6 := Lib.hid (((L5.out.next hb6).next b7).next b8)
  have M6 := Lib.hid ((HBox.new w6 ⟨⟨E1, m1, H1⟩, ⟨E2, m2, H2⟩, t6, ⟨E3, m3, H3⟩⟩ 28).next b8)
  have Q6 := Lib.hid ((ht6.next b7).next b8)
  clear hb6 b7 b8 ht6 L5 K5 P5 V5 D5 k0 k1 k2 k3 k4 k5 kl r0 r1 r2 rl
  go_wp2
  go_ret
  exact ⟨rfl, L6.out.bel⟩
set_option maxHeartbeats 2000000 in
theorem core_ok (a : Int) (w1 p1 c1 : Nat) (d1 : Hd_) (G1 : Nat → List Int) (hc1 : ∀ W, Lw w W s d u G → Calls Tryz.prog 20 #[(.agg #[.slice s.w.a s.w.n s.w.c, .slice s.p.a s.p.n s.p.c, .slice (s.u 0).a (s.u 0).n (s.u 0).c, .slice (s.u 1).a (s.u 1).n (s.u 1).c, .slice (s.u 2).a (s.u 2).n (s.u 2).c, .slice s.c.a s.c.n s.c.c]), (.agg #[.slice (u 0).a (u 0).n (u 0).c, .slice (u 1).a (u 1).n (u 1).c, .slice (u 2).a (u 2).n (u 2).c]), .agg #[.bool true, .bool false, .bool false, .int .i64 x, .int .i64 0, .int .i64 0]] W (TkO W a 0 w1 p1 c1 d1 G1)) (hf : fewL s (fun _ => u) 1 = true) (b : Int) (w2 p2 c2 : Nat) (d2 : Hd_) (G2 : Nat → List Int) (hc2 : ∀ (W : World) (t : Hs) (v : Nat → Ls.Sl), Hp W W.heap.size t d1 → Ls.L3 W W.heap.size v G1 → (t.w.n = w1 ∧ t.p.n = p1 ∧ t.c.n = c1) → Below w.heap.size w W → Calls Tryz.prog 20 #[(.agg #[.slice t.w.a t.w.n t.w.c, .slice t.p.a t.p.n t.p.c, .slice (t.u 0).a (t.u 0).n (t.u 0).c, .slice (t.u 1).a (t.u 1).n (t.u 1).c, .slice (t.u 2).a (t.u 2).n (t.u 2).c, .slice t.c.a t.c.n t.c.c]), (.agg #[.slice (v 0).a (v 0).n (v 0).c, .slice (v 1).a (v 1).n (v 1).c, .slice (v 2).a (v 2).n (v 2).c]), .agg #[.bool true, .bool false, .bool false, .int .i64 y, .int .i64 0, .int .i64 0]] W (TkO W b 0 w2 p2 c2 d2 G2)) (ha : ∀ (W : World) (t : Hs), Hp W W.heap.size t d2 → (t.w.n = w2 ∧ t.p.n = p2 ∧ t.c.n = c2) → Below w.heap.size w W → Calls Tryz.prog 27 #[(.agg #[.slice t.w.a t.w.n t.w.c, .slice t.p.a t.p.n t.p.c, .slice (t.u 0).a (t.u 0).n (t.u 0).c, .slice (t.u 1).a (t.u 1).n (t.u 1).c, .slice (t.u 2).a (t.u 2).n (t.u 2).c, .slice t.c.a t.c.n t.c.c]), .int .i64 a] W (HeadOut W (.agg #[.bool true, .bool false, .bool false, .int .i64 x, .int .i64 0, .int .i64 0]) 0)) (hb : ∀ (W : World) (t : Hs), Hp W W.heap.size t d2 → (t.w.n = w2 ∧ t.p.n = p2 ∧ t.c.n = c2) → Below w.heap.size w W → Calls Tryz.prog 27 #[(.agg #[.slice t.w.a t.w.n t.w.c, .slice t.p.a t.p.n t.p.c, .slice (t.u 0).a (t.u 0).n (t.u 0).c, .slice (t.u 1).a (t.u 1).n (t.u 1).c, .slice (t.u 2).a (t.u 2).n (t.u 2).c, .slice t.c.a t.c.n t.c.c]), .int .i64 b] W (HeadOut W (.agg #[.bool true, .bool false, .bool false, .int .i64 y, .int .i64 0, .int .i64 0]) 0)) (ab : 0 ≤ a ∧ a ≤ 5000 ∧ 0 ≤ b ∧ b ≤ 5000 ∧ 0 ≤ x ∧ x ≤ 100 ∧ 0 ≤ y ∧ y ≤ 100) (hapart : a + x < b ∨ b + y < a) (hz : Cl.Sz w) (hp : Hp w w.heap.size s d) (l3 : Ls.L3 w w.heap.size u G) : Calls Tryz.prog 8 #[(.agg #[.slice s.w.a s.w.n s.w.c, .slice s.p.a s.p.n s.p.c, .slice (s.u 0).a (s.u 0).n (s.u 0).c, .slice (s.u 1).a (s.u 1).n (s.u 1).c, .slice (s.u 2).a (s.u 2).n (s.u 2).c, .slice s.c.a s.c.n s.c.c]), (.agg #[.slice (u 0).a (u 0).n (u 0).c, .slice (u 1).a (u 1).n (u 1).c, .slice (u 2).a (u 2).n (u 2).c]), .int .i64 x, .int .i64 y] w fun e w' => e = .returned (.bool true) ∧ Below w.heap.size w w' := by
  have HZ := Lib.hid hz
  have hz0 := hz.pos
  have HP := Lib.hid hp
  have HL := Lib.hid l3
  have HF := Lib.hid hf
  have C1 := Lib.hid hc1
  clear hz hp l3 hf hc1
  have C2 := Lib.hid hc2
  clear hc2
  have HA := Lib.hid ha
  have HB := Lib.hid hb
  obtain ⟨a0, a1, b0, b1, x0, x1, y0, y1⟩ := ab
  have HAP := Lib.hid hapart
  clear ha hb hapart
  go_enter Tryz.func8, Tryz.ntmps8
  go_wp2_with fail
  obtain ⟨W1, hW1⟩ : ∃ W1, W1 = (w.alloc (.cells #[.slice s.w.a s.w.n s.w.c, .slice s.p.a s.p.n s.p.c, .slice (s.u 0).a (s.u 0).n (s.u 0).c, .slice (s.u 1).a (s.u 1).n (s.u 1).c, .slice (s.u 2).a (s.u 2).n (s.u 2).c, .slice s.c.a s.c.n s.c.c] 28)).alloc (.cells #[.slice (u 0).a (u 0).n (u 0).c, .slice (u 1).a (u 1).n (u 1).c, .slice (u 2).a (u 2).n (u 2).c] 25) := ⟨_, rfl⟩
  have L1 := Lib.hid (lw_start HP.out HL.out hW1)
  rw [← hW1]
  clear hW1
  refine (Al.awake_any W1 (HZ.out.over L1.out.bel hz0)).mono ?_
  rintro e9 w1 ⟨rfl, hb1⟩
  have L2 := Lib.hid (L1.out.next hb1)
  clear hb1 L1
  have q0 := L2.out.hb.c0
  have q1 := L2.out.hb.c1
  have q2 := L2.out.hb.c2
  have q3 := L2.out.hb.c3
  have q4 := L2.out.hb.c4
  have q5 := L2.out.hb.c5
  have ql := L2.out.hb.lt
  have p0 := L2.out.cb.cell 0 (by decide)
  have p1 := L2.out.cb.cell 1 (by decide)
  have p2 := L2.out.cb.cell 2 (by decide)
  have pl := L2.out.cb.lt
  go_wp2_with fail
  have b2 := (Below.refl w1.heap.size w1).alloc (Nat.le_refl _) (.cells #[.slice (u 0).a (u 0).n (u 0).c, .slice (u 1).a (u 1).n (u 1).c, .slice (u 2).a (u 2).n (u 2).c] 25)
  refine (few8_any s (some ⟨w1.heap.size, 0, none⟩) 1 1 (fun _ => u) (fun _ => G) (w1.alloc (.cells #[.slice (u 0).a (u 0).n (u 0).c, .slice (u 1).a (u 1).n (u 1).c, .slice (u 2).a (u 2).n (u 2).c] 25)) (by omega) (lrow_of (own_one w1 u) (by simp) (fun _ _ => L2.out.l3.next b2))).mono ?_
  rw [HF.out]
  rintro e9 w2 ⟨rfl, hb2⟩
  have L3 := Lib.hid ((L2.out.next b2).next hb2)
  clear b2 hb2 L2
  clear q0 q1 q2 q3 q4 q5 ql p0 p1 p2 pl
  have q0 := L3.out.hb.c0
  have q1 := L3.out.hb.c1
  have q2 := L3.out.hb.c2
  have q3 := L3.out.hb.c3
  have q4 := L3.out.hb.c4
  have q5 := L3.out.hb.c5
  have ql := L3.out.hb.lt
  have p0 := L3.out.cb.cell 0 (by decide)
  have p1 := L3.out.cb.cell 1 (by decide)
  have p2 := L3.out.cb.cell 2 (by decide)
  have pl := L3.out.cb.lt
  go_wp2_with fail
  refine (C1.out w2 L3.out).mono ?_
  rintro e9 w4 ⟨⟨⟨A1, n1, D1⟩, ⟨A2, n2, D2⟩, t4, ⟨A3, n3, D3⟩⟩, v, rfl, ht, hv4, ⟨hn1, hn2, hn3⟩, hb4⟩
  obtain rfl : n1 = _ := hn1
  obtain rfl : n2 = _ := hn2
  obtain rfl : n3 = _ := hn3
  dsimp only
  have L4 := Lib.hid (L3.out.next hb4)
  have T4 := Lib.hid ht
  have V4 := Lib.hid hv4
  clear ht hv4 hb4 L3
  clear q0 q1 q2 q3 q4 q5 ql p0 p1 p2 pl
  have b5 := (Below.refl w4.heap.size w4).alloc (Nat.le_refl _) (.cells #[.slice A1 n1 D1, .slice A2 n2 D2, .slice (t4 0).a (t4 0).n (t4 0).c, .slice (t4 1).a (t4 1).n (t4 1).c, .slice (t4 2).a (t4 2).n (t4 2).c, .slice A3 n3 D3] 28)
  have b6 := (Below.refl (w4.alloc (.cells #[.slice A1 n1 D1, .slice A2 n2 D2, .slice (t4 0).a (t4 0).n (t4 0).c, .slice (t4 1).a (t4 1).n (t4 1).c, .slice (t4 2).a (t4 2).n (t4 2).c, .slice A3 n3 D3] 28)).heap.size (w4.alloc (.cells #[.slice A1 n1 D1, .slice A2 n2 D2, .slice (t4 0).a (t4 0).n (t4 0).c, .slice (t4 1).a (t4 1).n (t4 1).c, .slice (t4 2).a (t4 2).n (t4 2).c, .slice A3 n3 D3] 28))).alloc (Nat.le_refl _) (.cells #[.slice (v 0).a (v 0).n (v 0).c, .slice (v 1).a (v 1).n (v 1).c, .slice (v 2).a (v 2).n (v 2).c] 25)
  have L5 := Lib.hid ((L4.out.next b5).next b6)
  have K5 := Lib.hid ((HBox.new w4 ⟨⟨A1, n1, D1⟩, ⟨A2, n2, D2⟩, t4, ⟨A3, n3, D3⟩⟩ 28).next b6)
  have P5 := Lib.hid ((T4.out.next b5).next b6)
  have V5 := Lib.hid ((V4.out.next b5).next b6)
  have D5 : Hid (Ls.Box3 ((w4.alloc (.cells #[.slice A1 n1 D1, .slice A2 n2 D2, .slice (t4 0).a (t4 0).n (t4 0).c, .slice (t4 1).a (t4 1).n (t4 1).c, .slice (t4 2).a (t4 2).n (t4 2).c, .slice A3 n3 D3] 28)).alloc (.cells #[.slice (v 0).a (v 0).n (v 0).c, .slice (v 1).a (v 1).n (v 1).c, .slice (v 2).a (v 2).n (v 2).c] 25)) (w4.heap.size + 1) v) := Lib.hid (by have := Ls.Box3.new (w4.alloc (.cells #[.slice A1 n1 D1, .slice A2 n2 D2, .slice (t4 0).a (t4 0).n (t4 0).c, .slice (t4 1).a (t4 1).n (t4 1).c, .slice (t4 2).a (t4 2).n (t4 2).c, .slice A3 n3 D3] 28)) v 25; rwa [World.size_alloc] at this)
  clear b5 b6 L4 T4 V4
  have k0 := K5.out.c0
  have k1 := K5.out.c1
  have k2 := K5.out.c2
  have k3 := K5.out.c3
  have k4 := K5.out.c4
  have k5 := K5.out.c5
  have kl := K5.out.lt
  dsimp only at k0 k1 k2 k3 k4 k5
  have r0 := D5.out.cell 0 (by decide)
  have r1 := D5.out.cell 1 (by decide)
  have r2 := D5.out.cell 2 (by decide)
  have rl := D5.out.lt
  go_wp2_with fail
  refine (C2.out _ _ v P5.out V5.out ⟨rfl, rfl, rfl⟩ L5.out.bel).mono ?_
  rintro e9 w6 ⟨⟨⟨E1, m1, H1⟩, ⟨E2, m2, H2⟩, t6, ⟨E3, m3, H3⟩⟩, v6, rfl, ht6, _, ⟨hm1, hm2, hm3⟩, hb6⟩
  obtain rfl : m1 = _ := hm1
  obtain rfl : m2 = _ := hm2
  obtain rfl : m3 = _ := hm3
  dsimp only
  have b7 := (Below.refl w6.heap.size w6).alloc (Nat.le_refl _) (.cells #[.slice E1 m1 H1, .slice E2 m2 H2, .slice (t6 0).a (t6 0).n (t6 0).c, .slice (t6 1).a (t6 1).n (t6 1).c, .slice (t6 2).a (t6 2).n (t6 2).c, .slice E3 m3 H3] 28)
  have b8 := (Below.refl (w6.alloc (.cells #[.slice E1 m1 H1, .slice E2 m2 H2, .slice (t6 0).a (t6 0).n (t6 0).c, .slice (t6 1).a (t6 1).n (t6 1).c, .slice (t6 2).a (t6 2).n (t6 2).c, .slice E3 m3 H3] 28)).heap.size (w6.alloc (.cells #[.slice E1 m1 H1, .slice E2 m2 H2, .slice (t6 0).a (t6 0).n (t6 0).c, .slice (t6 1).a (t6 1).n (t6 1).c, .slice (t6 2).a (t6 2).n (t6 2).c, .slice E3 m3 H3] 28))).alloc (Nat.le_refl _) (.cells #[.slice (v6 0).a (v6 0).n (v6 0).c, .slice (v6 1).a (v6 1).n (v6 1).c, .slice (v6 2).a (v6 2).n (v6 2).c] 25)
  have L6 := Lib.hid (((L5.out.next hb6).next b7).next b8)
  have M6 := Lib.hid ((HBox.new w6 ⟨⟨E1, m1, H1⟩, ⟨E2, m2, H2⟩, t6, ⟨E3, m3, H3⟩⟩ 28).next b8)
  have Q6 := Lib.hid ((ht6.next b7).next b8)
  clear hb6 b7 b8 ht6 L5 K5 P5 V5 D5 k0 k1 k2 k3 k4 k5 kl r0 r1 r2 rl
  have k0 := M6.out.c0
  have k1 := M6.out.c1
  have k2 := M6.out.c2
  have k3 := M6.out.c3
  have k4 := M6.out.c4
  have k5 := M6.out.c5
  have kl := M6.out.lt
  dsimp only at k0 k1 k2 k3 k4 k5
  go_wp2_with fail
  refine (HA.out _ _ Q6.out ⟨rfl, rfl, rfl⟩ L6.out.bel).mono ?_
  rintro e9 w8 ⟨rfl, hb8⟩
  have b9 := (Below.refl w8.heap.size w8).alloc (Nat.le_refl _) (.cells #[.bool true, .bool false, .bool false, .int .i64 x, .int .i64 0, .int .i64 0] 30)
  have L8 := Lib.hid ((L6.out.next hb8).next b9)
  have M8 := Lib.hid ((M6.out.next hb8).next b9)
  have Q8 := Lib.hid ((Q6.out.next hb8).next b9)
  have Y8 := Lib.hid (X6.new w8 true false false x 0 0 30)
  clear hb8 b9 L6 M6 Q6
  clear k0 k1 k2 k3 k4 k5 kl
  have k0 := M8.out.c0
  have k1 := M8.out.c1
  have k2 := M8.out.c2
  have k3 := M8.out.c3
  have k4 := M8.out.c4
  have k5 := M8.out.c5
  have kl := M8.out.lt
  dsimp only at k0 k1 k2 k3 k4 k5
  go_wp2_with fail
  refine (HB.out _ _ Q8.out ⟨rfl, rfl, rfl⟩ L8.out.bel).mono ?_
  rintro e9 w9 ⟨rfl, hb9⟩
  have b9 := (Below.refl w9.heap.size w9).alloc (Nat.le_refl _) (.cells #[.bool true, .bool false, .bool false, .int .i64 y, .int .i64 0, .int .i64 0] 30)
  have L9 := Lib.hid ((L8.out.next hb9).next b9)
  have Y9 := Lib.hid ((Y8.out.next hb9).next b9)
  have Z9 := Lib.hid (X6.new w9 true false false y 0 0 30)
  clear hb9 b9 L8 M8 Q8 Y8
  clear k0 k1 k2 k3 k4 k5 kl
  have e3 := Y9.out.c3
  have el := Y9.out.lt
  have f3 := Z9.out.c3
  have fl := Z9.out.lt
  have dx : (x == x) = true := by simp
  have dy : (y == y) = true := by simp
  by_cases hlt : a + x < b
  · have d1 : decide (a + x < b) = true := decide_eq_true hlt
    clear hlt
    go_wp2
    go_ret
    exact ⟨rfl, L9.out.bel⟩
  · have d1 : decide (a + x < b) = false := decide_eq_false hlt
    have d2 : decide (b + y < a) = true := decide_eq_true (HAP.out.resolve_left hlt)
    clear hlt
    go_wp2
    go_ret
    exact ⟨rfl, L9.out.bel⟩
end
theorem may_lens {s t : Hs} (d : Hd_) (m : Nat) (F : Nat → Nat → List Int) (h : t.w.n = s.w.n ∧ t.p.n = s.p.n ∧ t.c.n = s.c.n) : mayH t d m F = mayH s d m F := by
  unfold mayH firstB
  rw [h.1, h.2.1, h.2.2]
theorem tkR_lens {s t : Hs} (d : Hd_) (G : Nat → List Int) (u o e : Bool) (N b m : Int) (h : t.w.n = s.w.n ∧ t.p.n = s.p.n ∧ t.c.n = s.c.n) : tkR t d G u o e N b m = tkR s d G u o e N b m := by
  unfold tkR argE
  rw [may_lens d 1 _ h, h.1, h.2.1, h.2.2]
theorem head_gen {w : World} {s : Hs} {d2 : Hd_} {G2 : Nat → List Int} {B : Nat} {a x : Int} (hz : Cl.Sz w) (hz0 : 0 < w.heap.size) (hm : mayH s d2 1 (fun _ => G2) = true) (hc : ¬ Cl.bg d2.f s.p.n a = 0) (hw : wd d2 a = Hd.word true false false x 0 0) (hx : Hd.mayB true false false x 0 0 = true) (hL : ∀ t : Hs, (t.w.n = s.w.n ∧ t.p.n = s.p.n ∧ t.c.n = s.c.n) → Lite t d2 G2 B) (hB : B ≤ 900) :
    ∀ (W : World) (t : Hs), Hp W W.heap.size t d2 → (t.w.n = s.w.n ∧ t.p.n = s.p.n ∧ t.c.n = s.c.n) → Below w.heap.size w W → Calls Tryz.prog 27 #[(.agg #[.slice t.w.a t.w.n t.w.c, .slice t.p.a t.p.n t.p.c, .slice (t.u 0).a (t.u 0).n (t.u 0).c, .slice (t.u 1).a (t.u 1).n (t.u 1).c, .slice (t.u 2).a (t.u 2).n (t.u 2).c, .slice t.c.a t.c.n t.c.c]), .int .i64 a] W (HeadOut W (.agg #[.bool true, .bool false, .bool false, .int .i64 x, .int .i64 0, .int .i64 0]) 0) := fun W t ht hn hb => by
  have hm0 : mayB0 t d2 = true := may0_of (by rw [may_lens d2 1 _ hn]; exact hm)
  have hf := ((hL t hn).fineT (u := fun j => ⟨none, (G2 j).length, 0⟩) (by omega) ht.free.len (fun _ _ => rfl)).fine
  have hh := took_head (s := t) hm0 (by rw [hn.2.1]; exact hc) hw hx
  have := phead_any t d2 a W ht (hz.over hb hz0) hf
  rwa [hh.2, hh.1] at this
theorem fits_in {s : Hs} {d : Hd_} {G : Nat → List Int} {a x : Int} (hm : mayH s d 1 (fun _ => G) = true) (hc : ¬ Cl.bg d.f s.p.n a = 0) (hw : wd d a = Hd.word true false false x 0 0) (hx : Hd.mayB true false false x 0 0 = true) : x < Cl.bg d.f s.p.n a := by
  obtain ⟨p1, _, _, p4, _, _⟩ := Hd.word_parts hx
  have h1 := used_fits hc (List.all_eq_true.1 (mayH_all hm).2.1 a (mem_allS.2 hc)) (by rw [hw]; exact p1)
  rw [hw] at h1
  have h2 : nOf (Hd.word true false false x 0 0) = x := p4
  omega
theorem walk (s : Hs) (d : Hd_) (u : Nat → Ls.Sl) (G : Nat → List Int) (x y : Int) (w : World) (hz : Cl.Sz w) (hp : Hp w w.heap.size s d) (hv : Fit64 d.ws) (_ : s.p.n ≤ s.p.c) (l3 : Ls.L3 w w.heap.size u G) (_ : (Lit.int .i64 x).wf = true) (_ : (Lit.int .i64 y).wf = true) :
    Calls Tryz.prog 8 #[(.agg #[.slice s.w.a s.w.n s.w.c, .slice s.p.a s.p.n s.p.c, .slice (s.u 0).a (s.u 0).n (s.u 0).c, .slice (s.u 1).a (s.u 1).n (s.u 1).c, .slice (s.u 2).a (s.u 2).n (s.u 2).c, .slice s.c.a s.c.n s.c.c]), (.agg #[.slice (u 0).a (u 0).n (u 0).c, .slice (u 1).a (u 1).n (u 1).c, .slice (u 2).a (u 2).n (u 2).c]), .int .i64 x, .int .i64 y] w fun e w' => e = .returned (.bool true) ∧ Below w.heap.size w w' := by
  cases hf : fewL s (fun _ => u) 1
  · exact walk_few s d u G x y w hf hz hp l3
  · have hz0 := hz.pos
    have hl := lite_few hf hp l3 hv
    have hfT := hl.fineT (by decide) hp.free.len l3.len
    have c1 := take_tko hz hz0 hfT true false false x 0 0
    rcases tkR_split s d G true false false x 0 0 with ⟨h0, h1, _⟩ | ⟨q, hm, hx, _, hN, hq, e1⟩
    · exact core_err s d u G x y w _ _ _ _ _ _ _ c1 hf h0 hz hp l3
    · rw [e1] at c1
      have hws := hp.words.1
      have hok0 : Okay s.p.n d G 0 (fun _ => G) := (okay_iff.1 (by rw [ahead_one]; exact hm)).2
      have T0 := takeO_some (r := 0) (R := fun _ => G) hq
      have T1 := took (t := s) hws hm hx hN hq rfl rfl rfl
      have hwp := (fit_first (mayH_all hm).1).wp
      have hL1 : ∀ t : Hs, (t.w.n = s.w.n ∧ t.p.n = s.p.n ∧ t.c.n = s.c.n) → Lite t (beginD q.1 s.p.n q.2.2 (Hd.word true false false x 0 0)) q.2.1 78 := fun t ht => hl.took hx hq (T0.cell hok0) (by rw [T0.len, hws, hwp]) ht.1 ht.2.1 ht.2.2
      have hm1 : mayH s (beginD q.1 s.p.n q.2.2 (Hd.word true false false x 0 0)) 1 (fun _ => q.2.1) = true := by
        have := T1.may 0 (fun _ => q.2.1) (by
          have e : ahead G (fun _ => q.2.1) 0 = G := rfl
          have h2 := okay_iff (s := s) (d := d) (G := G) (r := 0) (R := fun _ => q.2.1)
          exact h2.2 ⟨(mayH_all hm).1, ⟨hok0.may, hok0.cell, hok0.fF, hok0.fG, fun i hi => absurd hi (by omega), fun z => by have := hok0.one z; unfold told at this ⊢; simpa [Ls.allOf] using this⟩⟩)
        rwa [show ahead (⟨0, s.w.n, s.p.n, s.c.n, beginD q.1 s.p.n q.2.2 (Hd.word true false false x 0 0), q.2.1, q.2.2⟩ : Tk).G (fun _ => q.2.1) = fun _ => q.2.1 from ahead_one q.2.1] at this
      obtain ⟨d1, hd1⟩ : ∃ d1, d1 = beginD q.1 s.p.n q.2.2 (Hd.word true false false x 0 0) := ⟨_, rfl⟩
      rw [← hd1] at c1 hL1 hm1 T1
      have c2 : ∀ (W : World) (t : Hs) (v : Nat → Ls.Sl), Hp W W.heap.size t d1 → Ls.L3 W W.heap.size v q.2.1 → (t.w.n = s.w.n ∧ t.p.n = s.p.n ∧ t.c.n = s.c.n) → Below w.heap.size w W → Calls Tryz.prog 20 #[(.agg #[.slice t.w.a t.w.n t.w.c, .slice t.p.a t.p.n t.p.c, .slice (t.u 0).a (t.u 0).n (t.u 0).c, .slice (t.u 1).a (t.u 1).n (t.u 1).c, .slice (t.u 2).a (t.u 2).n (t.u 2).c, .slice t.c.a t.c.n t.c.c]), (.agg #[.slice (v 0).a (v 0).n (v 0).c, .slice (v 1).a (v 1).n (v 1).c, .slice (v 2).a (v 2).n (v 2).c]), .agg #[.bool true, .bool false, .bool false, .int .i64 y, .int .i64 0, .int .i64 0]] W (TakeOut W (tkR s d1 q.2.1 true false false y 0 0)) := fun W t v ht hv1 hn hb => by
        have := ptake_any t v d1 q.2.1 true false false y 0 0 W ht hv1 (hz.over hb hz0) ((hL1 t hn).fineT (by decide) ht.free.len hv1.len)
        rwa [tkR_lens d1 q.2.1 true false false y 0 0 hn] at this
      rcases tkR_split s d1 q.2.1 true false false y 0 0 with ⟨g0, g1, _⟩ | ⟨q2, _, hx2, _, hN2, hq2, e2⟩
      · exact core_err2 s d u G x y w _ _ _ _ _ _ c1 hf _ _ _ _ _ _ _ c2 g0 hz hp l3
      · rw [e2] at c2
        have hws1 : d1.ws.length = s.w.n := T1.len.trans hws
        have T2 := took (t := s) hws1 hm1 hx2 hN2 hq2 rfl rfl rfl
        have hok1 : Okay s.p.n d1 q.2.1 0 (fun _ => q.2.1) := (okay_iff.1 (by rw [ahead_one]; exact hm1)).2
        have T3 := takeO_some (r := 0) (R := fun _ => q.2.1) hq2
        have hm2 : mayH s (beginD q2.1 s.p.n q2.2.2 (Hd.word true false false y 0 0)) 1 (fun _ => q2.2.1) = true := by
          have := T2.may 0 (fun _ => q2.2.1) ((okay_iff (s := s) (d := d1) (G := q.2.1) (r := 0) (R := fun _ => q2.2.1)).2 ⟨(mayH_all hm1).1, ⟨hok1.may, hok1.cell, hok1.fF, hok1.fG, fun i hi => absurd hi (by omega), fun z => by have := hok1.one z; unfold told at this ⊢; simpa [Ls.allOf] using this⟩⟩)
          rwa [show ahead (⟨0, s.w.n, s.p.n, s.c.n, beginD q2.1 s.p.n q2.2.2 (Hd.word true false false y 0 0), q2.2.1, q2.2.2⟩ : Tk).G (fun _ => q2.2.1) = fun _ => q2.2.1 from ahead_one q2.2.1] at this
        have hL2 : ∀ t : Hs, (t.w.n = s.w.n ∧ t.p.n = s.p.n ∧ t.c.n = s.c.n) → Lite t (beginD q2.1 s.p.n q2.2.2 (Hd.word true false false y 0 0)) q2.2.1 86 := fun t ht => (hL1 s ⟨rfl, rfl, rfl⟩).took hx2 hq2 (T3.cell hok1) (by rw [T3.len, hws1, hwp]) ht.1 ht.2.1 ht.2.2
        have p1 := (Hd.word_parts hx).1
        have hwx : ¬ wd d1 q.2.2 = 0 := by rw [T1.word]; intro e0; rw [e0] at p1; omega
        obtain ⟨hne, hs4⟩ := T2.keeps q.2.2 T1.cell hwx
        obtain ⟨d2, hd2⟩ : ∃ d2, d2 = beginD q2.1 s.p.n q2.2.2 (Hd.word true false false y 0 0) := ⟨_, rfl⟩
        have hca : ¬ Cl.bg d2.f s.p.n q.2.2 = 0 := by rw [hd2]; intro e0; exact T1.cell (hs4.bg.symm.trans e0)
        have hcb : ¬ Cl.bg d2.f s.p.n q2.2.2 = 0 := by rw [hd2]; exact T2.cell
        have ge := cell_end T1.cell
        have hwa : wd d2 q.2.2 = Hd.word true false false x 0 0 := by rw [hd2]; exact (hs4.wd q.2.2 (Int.le_refl _) (by have : 2 ≤ Cl.bg d1.f s.p.n q.2.2 := ge.2.1; omega)).trans T1.word
        have hwb : wd d2 q2.2.2 = Hd.word true false false y 0 0 := by rw [hd2]; exact T2.word
        rw [← hd2] at c2 hm2 hL2
        have fx := fits_in hm2 hca hwa hx
        have fy := fits_in hm2 hcb hwb hx2
        have o1 := cells_off hca hcb (fun e => hne e.symm)
        have o2 := cells_off hcb hca hne
        have ea := cell_end hca
        have eb := cell_end hcb
        have hpn : s.p.n ≤ 9 := hl.p
        have x1 := class_cases hN
        have y1 := class_cases hN2
        exact core_ok s d u G x y w q.2.2 _ _ _ d1 q.2.1 c1 hf q2.2.2 s.w.n s.p.n s.c.n d2 q2.2.1 c2 (head_gen hz hz0 hm2 hca hwa hx hL2 (by decide)) (head_gen hz hz0 hm2 hcb hwb hx2 hL2 (by decide)) (by omega) (by omega) hz hp l3
-- the frame (hpframe.py)
set_option maxRecDepth 100000 in
theorem lifted (os : Os) (started : os.Started) (H : Type) (enc : TypeId × Value → H) :
    ReturnsInHanded {} Tryz.checked os 8 .any (fun w args => (Rows.allocTwiceSpec.pre enc Tryz.prog Tryz.f8 [] false w args ∧ laidMetH Tryz.prog laidSizes w) ∧ sizedMet enc Tryz.prog Tryz.f8 (OpenSpec.ofChange Rows.allocTwiceSpec) false w args)
      (Rows.allocTwiceSpec.post enc Tryz.prog Tryz.f8 false true false false) := by
  refine returnsInHanded_of_change_and (C := Tryz.checked) (X := fun w _ => laidMetH Tryz.prog laidSizes w) (fun _ _ _ hh h => h.of_heap hh) own started (by kernel_rfl) Tryz.func8
    (ChangeSpec.witness_shaped (enc := enc) (C := Tryz.checked) (os := os) (X := fun w _ => laidMetH Tryz.prog laidSizes w) false (World.doorLaid Tryz.prog 400 os) #[.agg #[.slice none 0 0, .slice none 0 0, .slice none 0 0, .slice none 0 0, .slice none 0 0, .slice none 0 0], .agg #[.slice none 0 0, .slice none 0 0, .slice none 0 0], .int .i64 0, .int .i64 0] 8 rfl (World.shaped_of_RefB (by kernel_rfl) (by kernel_rfl)) (by kernel_rfl) (by kernel_rfl) (by kernel_rfl) (door_met os _)) ?_
  intro W base args ds gs before hval0 hW _ _ hL _
  have hval : ∀ (j : Nat) t v, Tryz.f8.params[j]? = some t → args[j]? = some v → Value.okWide Tryz.prog W .any base t v := hval0
  have hW' := hW
  obtain ⟨p, q, hA0, hV, rfl, hfz, hnd⟩ := hW
  have hA : DataW.TrodAll enc Tryz.prog W 0 (fun _ => true) true Tryz.f8.params.toList args.toList ds p := hA0
  rw [Tryz.params8] at hA hval
  obtain ⟨v0, vs0, d0, ds0, p0, q0, hargs, rfl, rfl, h0, r0⟩ := trodAll_cons hA
  obtain ⟨v1, vs1, d1, ds1, p1, q1, rfl, rfl, rfl, h1, r1⟩ := trodAll_cons r0
  obtain ⟨v2, vs2, d2, ds2, p2, q2, rfl, rfl, rfl, h2, r2⟩ := trodAll_cons r1
  obtain ⟨v3, vs3, d3, ds3, p3, q3, rfl, rfl, rfl, h3, r3⟩ := trodAll_cons r2
  obtain ⟨rfl, rfl, rfl⟩ := trodAll_nil r3
  obtain rfl : args = #[v0, v1, v2, v3] := by cases args; simp_all
  obtain ⟨rfl, rfl⟩ := trodVars_none hV
  have k0 := h0
  have lt0 : ∀ x ∈ p0, x.block < W.heap.size := by obtain ⟨m, hm⟩ := k0; exact DataW.trod_lt m _ _ _ hm
  obtain ⟨s0, z0, rfl, w0, f0, b0⟩ := heap_of8 (hval 0 28 v0 rfl rfl) h0
  have k1 := h1
  have lt1 : ∀ x ∈ p1, x.block < W.heap.size := by obtain ⟨m, hm⟩ := k1; exact DataW.trod_lt m _ _ _ hm
  obtain ⟨u1, z1, rfl, w1, b1⟩ := lists_of (hval 1 25 v1 rfl rfl) h1
  obtain ⟨a2, rfl, rfl, rfl, w2⟩ := open_int Tryz.underlying3 (hval 2 3 v2 rfl rfl) h2
  obtain ⟨a3, rfl, rfl, rfl, w3⟩ := open_int Tryz.underlying3 (hval 3 3 v3 rfl rfl) h3
  clear hA0 hval0
  refine (walk s0 z0 u1 z1 a2 a3 W (of_laid hL) w0 f0 b0 w1 w2 w3).mono fun e W' ⟨he, bel⟩ => ?_
  subst he
  exact ⟨_, rfl, _, _, _, [], _, [], hW', trodAll_mk1 (shut_bool Tryz.underlying4 _), (trodAll_cons_mk (Below.trod laidOut (by kernel_rfl) (of_decide_eq_true (by kernel_rfl)) k0 bel lt0) (trodAll_cons_mk (Below.trod laidOut (by kernel_rfl) (of_decide_eq_true (by kernel_rfl)) k1 bel lt1) (trodAll_cons_mk (shut_int Tryz.underlying3 w2) (trodAll_cons_mk (shut_int Tryz.underlying3 w3) trodAll_mk0)))), rfl, bel.frame _, fun h => by cases h⟩

theorem over : Rows.AllocTwiceSaid :=
  OpenClaim.holds_of_wide 8 Tryz.f8 rfl rfl rfl rfl rfl rfl rfl ⟨rfl, rfl, rfl, rfl, rfl⟩ rfl rfl rfl rfl rfl (by kernel_rfl) Tryz.func8 (by kernel_rfl)
    (of_decide_eq_true (by kernel_rfl)) (by unfold Func.isWrapper; first | (rw [if_pos (by decide +kernel)]; kernel_rfl) | (rw [if_neg (by decide +kernel)]; exact ⟨rfl, rfl⟩))
    (fun os started H enc _ => lifted os started H enc)

/-- The statement: the card. -/
theorem proved : Rows.AllocTwiceCardSaid :=
  Claim7.holds_tied_plain_at .later [] [.data] true Rows.allocTwiceCard.stood.harness false
    over (fun _ h => by cases h) (by kernel_rfl) (fun _ h => by cases h) allocTwice_row_tie rfl ⟨rfl, rfl⟩ (by kernel_rfl) rfl
    (fun f fn hf hfn => by
      obtain rfl : f = 8 := Option.some.inj ((show Tryz.prog.funcNamed "ragpicker/ragpickerlaw08.AllocTwice" = some 8 by kernel_rfl).symm.trans hf) |>.symm
      obtain rfl : fn = Tryz.f8 := (Option.some.inj (Tryz.func8.symm.trans hfn)).symm
      exact ⟨by kernel_rfl, fun j t ht => by
        rw [Tryz.params8] at ht
        have hm : t ∈ [28, 25, 3, 3] := by simpa using Array.mem_of_getElem? ht
        have hall : ([28, 25, 3, 3].all fun u => !Tryz.prog.wantsStandIn u) = true := by kernel_rfl
        exact (show Tryz.prog.wantsStandIn t = false by simpa using List.all_eq_true.1 hall t hm)⟩)
    (by kernel_rfl)
#print axioms proved
end Go.Proofs.YthgcaehhjiccbaaGreatDoor.AllocTwice
