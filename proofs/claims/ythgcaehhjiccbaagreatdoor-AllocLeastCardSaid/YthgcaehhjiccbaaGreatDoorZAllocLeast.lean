/-
  AllocLeast: what is taken has the least room that fits: its class's, or as many pages as it needs; it is taken of the cache, where that has a cell: for every heap of at most 9 pages and 130 words, every cache of at most 70 cells of each class, and every number of fields; the table of sizes is tied to the program's text by the card.
-/
import Derived.Test.YthgcaehhjiccbaaGreatDoorHpZS
namespace Go.Proofs.YthgcaehhjiccbaaGreatDoor.AllocLeast
open Go.Proofs.YthgcaehhjiccbaaGreatDoor Go.Proofs.YthgcaehhjiccbaaGreatDoor.Al
open Go.ChangeShapes Go.WideShapes Go.ChangeAt Go.RowKit
set_option maxRecDepth 100000

section
variable (s : Hs) (d : Hd_) (u : Nat → Ls.Sl) (G : Nat → List Int) (N : Int) (w : World)
theorem walk_few (hf : fewL s (fun _ => u) 1 = false) (hz : Cl.Sz w) (hp : Hp w w.heap.size s d) (l3 : Ls.L3 w w.heap.size u G) : Calls Tryz.prog 7 #[(.agg #[.slice s.w.a s.w.n s.w.c, .slice s.p.a s.p.n s.p.c, .slice (s.u 0).a (s.u 0).n (s.u 0).c, .slice (s.u 1).a (s.u 1).n (s.u 1).c, .slice (s.u 2).a (s.u 2).n (s.u 2).c, .slice s.c.a s.c.n s.c.c]), (.agg #[.slice (u 0).a (u 0).n (u 0).c, .slice (u 1).a (u 1).n (u 1).c, .slice (u 2).a (u 2).n (u 2).c]), .int .i64 N] w fun e w' => e = .returned (.bool true) ∧ Below w.heap.size w w' := by
  have HZ := Lib.hid hz
  have hz0 := hz.pos
  have HP := Lib.hid hp
  have HL := Lib.hid l3
  have HF := Lib.hid hf
  clear hz hp l3 hf
  go_enter Tryz.func7, Tryz.ntmps7
  go_wp2_with fail
  obtain ⟨W1, hW1⟩ : ∃ W1, W1 = (w.alloc (.cells #[.slice s.w.a s.w.n s.w.c, .slice s.p.a s.p.n s.p.c, .slice (s.u 0).a (s.u 0).n (s.u 0).c, .slice (s.u 1).a (s.u 1).n (s.u 1).c, .slice (s.u 2).a (s.u 2).n (s.u 2).c, .slice s.c.a s.c.n s.c.c] 28)).alloc (.cells #[.slice (u 0).a (u 0).n (u 0).c, .slice (u 1).a (u 1).n (u 1).c, .slice (u 2).a (u 2).n (u 2).c] 25) := ⟨_, rfl⟩
  have L1 := Lib.hid (lw_start HP.out HL.out hW1)
  rw [← hW1]
  clear hW1
  refine (Al.awake_any W1 (HZ.out.over L1.out.bel hz0)).mono ?_
  rintro e9 w1 ⟨rfl, hb1⟩
  have L2 := Lib.hid (L1.out.next hb1)
  clear hb1 L1
  have q0 := L2.out.hb.c0
  have q1 := L2.out.hb.c1
  have q2 := L2.out.hb.c2
  have q3 := L2.out.hb.c3
  have q4 := L2.out.hb.c4
  have q5 := L2.out.hb.c5
  have ql := L2.out.hb.lt
  have p0 := L2.out.cb.cell 0 (by decide)
  have p1 := L2.out.cb.cell 1 (by decide)
  have p2 := L2.out.cb.cell 2 (by decide)
  have pl := L2.out.cb.lt
  go_wp2_with fail
  have b2 := (Below.refl w1.heap.size w1).alloc (Nat.le_refl _) (.cells #[.slice (u 0).a (u 0).n (u 0).c, .slice (u 1).a (u 1).n (u 1).c, .slice (u 2).a (u 2).n (u 2).c] 25)
  refine (few8_any s (some ⟨w1.heap.size, 0, none⟩) 1 1 (fun _ => u) (fun _ => G) (w1.alloc (.cells #[.slice (u 0).a (u 0).n (u 0).c, .slice (u 1).a (u 1).n (u 1).c, .slice (u 2).a (u 2).n (u 2).c] 25)) (by omega) (lrow_of (own_one w1 u) (by simp) (fun _ _ => L2.out.l3.next b2))).mono ?_
  rw [HF.out]
  rintro e9 w2 ⟨rfl, hb2⟩
  have L3 := Lib.hid ((L2.out.next b2).next hb2)
  clear b2 hb2 L2
  clear q0 q1 q2 q3 q4 q5 ql p0 p1 p2 pl
  go_wp2
  go_ret
  exact ⟨rfl, L3.out.bel⟩
set_option maxHeartbeats 1000000 in
theorem core_err (a er : Int) (w1 p1 c1 : Nat) (d1 : Hd_) (G1 : Nat → List Int) (hc1 : ∀ W, Lw w W s d u G → Calls Tryz.prog 20 #[(.agg #[.slice s.w.a s.w.n s.w.c, .slice s.p.a s.p.n s.p.c, .slice (s.u 0).a (s.u 0).n (s.u 0).c, .slice (s.u 1).a (s.u 1).n (s.u 1).c, .slice (s.u 2).a (s.u 2).n (s.u 2).c, .slice s.c.a s.c.n s.c.c]), (.agg #[.slice (u 0).a (u 0).n (u 0).c, .slice (u 1).a (u 1).n (u 1).c, .slice (u 2).a (u 2).n (u 2).c]), .agg #[.bool true, .bool false, .bool false, .int .i64 N, .int .i64 0, .int .i64 0]] W (TkO W a er w1 p1 c1 d1 G1)) (hf : fewL s (fun _ => u) 1 = true) (h0 : ¬ er = 0) (hz : Cl.Sz w) (hp : Hp w w.heap.size s d) (l3 : Ls.L3 w w.heap.size u G) : Calls Tryz.prog 7 #[(.agg #[.slice s.w.a s.w.n s.w.c, .slice s.p.a s.p.n s.p.c, .slice (s.u 0).a (s.u 0).n (s.u 0).c, .slice (s.u 1).a (s.u 1).n (s.u 1).c, .slice (s.u 2).a (s.u 2).n (s.u 2).c, .slice s.c.a s.c.n s.c.c]), (.agg #[.slice (u 0).a (u 0).n (u 0).c, .slice (u 1).a (u 1).n (u 1).c, .slice (u 2).a (u 2).n (u 2).c]), .int .i64 N] w fun e w' => e = .returned (.bool true) ∧ Below w.heap.size w w' := by
  have HZ := Lib.hid hz
  have hz0 := hz.pos
  have HP := Lib.hid hp
  have HL := Lib.hid l3
  have HF := Lib.hid hf
  have C1 := Lib.hid hc1
  have d0 : (er != 0) = true := by simp [h0]
  clear h0
  clear hz hp l3 hf hc1
  go_enter Tryz.func7, Tryz.ntmps7
  go_wp2_with fail
  obtain ⟨W1, hW1⟩ : ∃ W1, W1 = (w.alloc (.cells #[.slice s.w.a s.w.n s.w.c, .slice s.p.a s.p.n s.p.c, .slice (s.u 0).a (s.u 0).n (s.u 0).c, .slice (s.u 1).a (s.u 1).n (s.u 1).c, .slice (s.u 2).a (s.u 2).n (s.u 2).c, .slice s.c.a s.c.n s.c.c] 28)).alloc (.cells #[.slice (u 0).a (u 0).n (u 0).c, .slice (u 1).a (u 1).n (u 1).c, .slice (u 2).a (u 2).n (u 2).c] 25) := ⟨_, rfl⟩
  have L1 := Lib.hid (lw_start HP.out HL.out hW1)
  rw [← hW1]
  clear hW1
  refine (Al.awake_any W1 (HZ.out.over L1.out.bel hz0)).mono ?_
  rintro e9 w1 ⟨rfl, hb1⟩
  have L2 := Lib.hid (L1.out.next hb1)
  clear hb1 L1
  have q0 := L2.out.hb.c0
  have q1 := L2.out.hb.c1
  have q2 := L2.out.hb.c2
  have q3 := L2.out.hb.c3
  have q4 := L2.out.hb.c4
  have q5 := L2.out.hb.c5
  have ql := L2.out.hb.lt
  have p0 := L2.out.cb.cell 0 (by decide)
  have p1 := L2.out.cb.cell 1 (by decide)
  have p2 := L2.out.cb.cell 2 (by decide)
  have pl := L2.out.cb.lt
  go_wp2_with fail
  have b2 := (Below.refl w1.heap.size w1).alloc (Nat.le_refl _) (.cells #[.slice (u 0).a (u 0).n (u 0).c, .slice (u 1).a (u 1).n (u 1).c, .slice (u 2).a (u 2).n (u 2).c] 25)
  refine (few8_any s (some ⟨w1.heap.size, 0, none⟩) 1 1 (fun _ => u) (fun _ => G) (w1.alloc (.cells #[.slice (u 0).a (u 0).n (u 0).c, .slice (u 1).a (u 1).n (u 1).c, .slice (u 2).a (u 2).n (u 2).c] 25)) (by omega) (lrow_of (own_one w1 u) (by simp) (fun _ _ => L2.out.l3.next b2))).mono ?_
  rw [HF.out]
  rintro e9 w2 ⟨rfl, hb2⟩
  have L3 := Lib.hid ((L2.out.next b2).next hb2)
  clear b2 hb2 L2
  clear q0 q1 q2 q3 q4 q5 ql p0 p1 p2 pl
  have q0 := L3.out.hb.c0
  have q1 := L3.out.hb.c1
  have q2 := L3.out.hb.c2
  have q3 := L3.out.hb.c3
  have q4 := L3.out.hb.c4
  have q5 := L3.out.hb.c5
  have ql := L3.out.hb.lt
  have p0 := L3.out.cb.cell 0 (by decide)
  have p1 := L3.out.cb.cell 1 (by decide)
  have p2 := L3.out.cb.cell 2 (by decide)
  have pl := L3.out.cb.lt
  go_wp2_with fail
  refine (C1.out w2 L3.out).mono ?_
  rintro e9 w4 ⟨⟨⟨A1, n1, D1⟩, ⟨A2, n2, D2⟩, t4, ⟨A3, n3, D3⟩⟩, v, rfl, ht, hv4, ⟨hn1, hn2, hn3⟩, hb4⟩
  obtain rfl : n1 = _ := hn1
  obtain rfl : n2 = _ := hn2
  obtain rfl : n3 = _ := hn3
  dsimp only
  have L4 := Lib.hid (L3.out.next hb4)
  have T4 := Lib.hid ht
  have V4 := Lib.hid hv4
  clear ht hv4 hb4 L3
  clear q0 q1 q2 q3 q4 q5 ql p0 p1 p2 pl
  have b5 := (Below.refl w4.heap.size w4).alloc (Nat.le_refl _) (.cells #[.slice A1 n1 D1, .slice A2 n2 D2, .slice (t4 0).a (t4 0).n (t4 0).c, .slice (t4 1).a (t4 1).n (t4 1).c, .slice (t4 2).a (t4 2).n (t4 2).c, .slice A3 n3 D3] 28)
  have b6 := (Below.refl (w4.alloc (.cells #[.slice A1 n1 D1, .slice A2 n2 D2, .slice (t4 0).a (t4 0).n (t4 0).c, .slice (t4 1).a (t4 1).n (t4 1).c, .slice (t4 2).a (t4 2).n (t4 2).c, .slice A3 n3 D3] 28)).heap.size (w4.alloc (.cells #[.slice A1 n1 D1, .slice A2 n2 D2, .slice (t4 0).a (t4 0).n (t4 0).c, .slice (t4 1).a (t4 1).n (t4 1).c, .slice (t4 2).a (t4 2).n (t4 2).c, .slice A3 n3 D3] 28))).alloc (Nat.le_refl _) (.cells #[.slice (v 0).a (v 0).n (v 0).c, .slice (v 1).a (v 1).n (v 1).c, .slice (v 2).a (v 2).n (v 2).c] 25)
  have L5 := Lib.hid ((L4.out.next b5).next b6)
  have K5 := Lib.hid ((HBox.new w4 ⟨⟨A1, n1, D1⟩, ⟨A2, n2, D2⟩, t4, ⟨A3, n3, D3⟩⟩ 28).next b6)
  have P5 := Lib.hid ((T4.out.next b5).next b6)
  have V5 := Lib.hid ((V4.out.next b5).next b6)
  have D5 : Hid (Ls.Box3 ((w4.alloc (.cells #[.slice A1 n1 D1, .slice A2 n2 D2, .slice (t4 0).a (t4 0).n (t4 0).c, .slice (t4 1).a (t4 1).n (t4 1).c, .slice (t4 2).a (t4 2).n (t4 2).c, .slice A3 n3 D3] 28)).alloc (.cells #[.slice (v 0).a (v 0).n (v 0).c, .slice (v 1).a (v 1).n (v 1).c, .slice (v 2).a (v 2).n (v 2).c] 25)) (w4.heap.size + 1) v) := Lib.hid (by have := Ls.Box3.new (w4.alloc (.cells #[.slice A1 n1 D1, .slice A2 n2 D2, .slice (t4 0).a (t4 0).n (t4 0).c, .slice (t4 1).a (t4 1).n (t4 1).c, .slice (t4 2).a (t4 2).n (t4 2).c, .slice A3 n3 D3] 28)) v 25; rwa [World.size_alloc] at this)
  go_wp2
  go_ret
  exact ⟨rfl, L5.out.bel⟩
set_option maxHeartbeats 1000000 in
theorem core_large (a m : Int) (w1 p1 c1 : Nat) (d1 : Hd_) (hc1 : ∀ W, Lw w W s d u G → Calls Tryz.prog 20 #[(.agg #[.slice s.w.a s.w.n s.w.c, .slice s.p.a s.p.n s.p.c, .slice (s.u 0).a (s.u 0).n (s.u 0).c, .slice (s.u 1).a (s.u 1).n (s.u 1).c, .slice (s.u 2).a (s.u 2).n (s.u 2).c, .slice s.c.a s.c.n s.c.c]), (.agg #[.slice (u 0).a (u 0).n (u 0).c, .slice (u 1).a (u 1).n (u 1).c, .slice (u 2).a (u 2).n (u 2).c]), .agg #[.bool true, .bool false, .bool false, .int .i64 N, .int .i64 0, .int .i64 0]] W (TkO W a 0 w1 p1 c1 d1 G)) (hf : fewL s (fun _ => u) 1 = true) (hpn : p1 ≤ 9) (hN : Cl.classErr N = 0) (hcl : Cl.classOf N = 3) (hm : Cl.runOf N = m) (hm1 : 1 ≤ m ∧ m ≤ 4) (hr0 : Cl.runErr N = 0) (hbg : Cl.bg d1.f p1 a = 16 * m) (hun : ∀ j, j < 3 → (G j).length ≤ 1000) (hz : Cl.Sz w) (hp : Hp w w.heap.size s d) (l3 : Ls.L3 w w.heap.size u G) : Calls Tryz.prog 7 #[(.agg #[.slice s.w.a s.w.n s.w.c, .slice s.p.a s.p.n s.p.c, .slice (s.u 0).a (s.u 0).n (s.u 0).c, .slice (s.u 1).a (s.u 1).n (s.u 1).c, .slice (s.u 2).a (s.u 2).n (s.u 2).c, .slice s.c.a s.c.n s.c.c]), (.agg #[.slice (u 0).a (u 0).n (u 0).c, .slice (u 1).a (u 1).n (u 1).c, .slice (u 2).a (u 2).n (u 2).c]), .int .i64 N] w fun e w' => e = .returned (.bool true) ∧ Below w.heap.size w w' := by
  have HZ := Lib.hid hz
  have hz0 := hz.pos
  have HP := Lib.hid hp
  have HL := Lib.hid l3
  have HBG := Lib.hid hbg
  have HO : Hid (∀ W, Calls Tryz.prog 29 #[.int .i64 N] W fun e w' => e = .returned (.tuple #[.int .i64 3, .int .i64 0]) ∧ W = w') := Lib.hid (fun W => by have := Cl.rof_of N W; rwa [hN, hcl] at this)
  have HRU : Hid (∀ W, Calls Tryz.prog 30 #[.int .i64 N] W fun e w' => e = .returned (.tuple #[.int .i64 m, .int .i64 0]) ∧ W = w') := Lib.hid (fun W => by have := Cl.rrun_of N W; rwa [hm, hr0] at this)
  have HPN := Lib.hid hpn
  have HUN := Lib.hid hun
  have m1 := hm1.1
  have m4 := hm1.2
  clear hbg hpn hN hcl hm hr0 hun hm1
  have HF := Lib.hid hf
  have C1 := Lib.hid hc1
  clear hz hp l3 hf hc1
  go_enter Tryz.func7, Tryz.ntmps7
  go_wp2_with fail
  obtain ⟨W1, hW1⟩ : ∃ W1, W1 = (w.alloc (.cells #[.slice s.w.a s.w.n s.w.c, .slice s.p.a s.p.n s.p.c, .slice (s.u 0).a (s.u 0).n (s.u 0).c, .slice (s.u 1).a (s.u 1).n (s.u 1).c, .slice (s.u 2).a (s.u 2).n (s.u 2).c, .slice s.c.a s.c.n s.c.c] 28)).alloc (.cells #[.slice (u 0).a (u 0).n (u 0).c, .slice (u 1).a (u 1).n (u 1).c, .slice (u 2).a (u 2).n (u 2).c] 25) := ⟨_, rfl⟩
  have L1 := Lib.hid (lw_start HP.out HL.out hW1)
  rw [← hW1]
  clear hW1
  refine (Al.awake_any W1 (HZ.out.over L1.out.bel hz0)).mono ?_
  rintro e9 w1 ⟨rfl, hb1⟩
  have L2 := Lib.hid (L1.out.next hb1)
  clear hb1 L1
  have q0 := L2.out.hb.c0
  have q1 := L2.out.hb.c1
  have q2 := L2.out.hb.c2
  have q3 := L2.out.hb.c3
  have q4 := L2.out.hb.c4
  have q5 := L2.out.hb.c5
  have ql := L2.out.hb.lt
  have p0 := L2.out.cb.cell 0 (by decide)
  have p1 := L2.out.cb.cell 1 (by decide)
  have p2 := L2.out.cb.cell 2 (by decide)
  have pl := L2.out.cb.lt
  go_wp2_with fail
  have b2 := (Below.refl w1.heap.size w1).alloc (Nat.le_refl _) (.cells #[.slice (u 0).a (u 0).n (u 0).c, .slice (u 1).a (u 1).n (u 1).c, .slice (u 2).a (u 2).n (u 2).c] 25)
  refine (few8_any s (some ⟨w1.heap.size, 0, none⟩) 1 1 (fun _ => u) (fun _ => G) (w1.alloc (.cells #[.slice (u 0).a (u 0).n (u 0).c, .slice (u 1).a (u 1).n (u 1).c, .slice (u 2).a (u 2).n (u 2).c] 25)) (by omega) (lrow_of (own_one w1 u) (by simp) (fun _ _ => L2.out.l3.next b2))).mono ?_
  rw [HF.out]
  rintro e9 w2 ⟨rfl, hb2⟩
  have L3 := Lib.hid ((L2.out.next b2).next hb2)
  clear b2 hb2 L2
  clear q0 q1 q2 q3 q4 q5 ql p0 p1 p2 pl
  have q0 := L3.out.hb.c0
  have q1 := L3.out.hb.c1
  have q2 := L3.out.hb.c2
  have q3 := L3.out.hb.c3
  have q4 := L3.out.hb.c4
  have q5 := L3.out.hb.c5
  have ql := L3.out.hb.lt
  have p0 := L3.out.cb.cell 0 (by decide)
  have p1 := L3.out.cb.cell 1 (by decide)
  have p2 := L3.out.cb.cell 2 (by decide)
  have pl := L3.out.cb.lt
  go_wp2_with fail
  refine (C1.out w2 L3.out).mono ?_
  rintro e9 w4 ⟨⟨⟨A1, n1, D1⟩, ⟨A2, n2, D2⟩, t4, ⟨A3, n3, D3⟩⟩, v, rfl, ht, hv4, ⟨hn1, hn2, hn3⟩, hb4⟩
  obtain rfl : n1 = _ := hn1
  obtain rfl : n2 = _ := hn2
  obtain rfl : n3 = _ := hn3
  dsimp only
  have L4 := Lib.hid (L3.out.next hb4)
  have T4 := Lib.hid ht
  have V4 := Lib.hid hv4
  clear ht hv4 hb4 L3
  clear q0 q1 q2 q3 q4 q5 ql p0 p1 p2 pl
  have b5 := (Below.refl w4.heap.size w4).alloc (Nat.le_refl _) (.cells #[.slice A1 n1 D1, .slice A2 n2 D2, .slice (t4 0).a (t4 0).n (t4 0).c, .slice (t4 1).a (t4 1).n (t4 1).c, .slice (t4 2).a (t4 2).n (t4 2).c, .slice A3 n3 D3] 28)
  have b6 := (Below.refl (w4.alloc (.cells #[.slice A1 n1 D1, .slice A2 n2 D2, .slice (t4 0).a (t4 0).n (t4 0).c, .slice (t4 1).a (t4 1).n (t4 1).c, .slice (t4 2).a (t4 2).n (t4 2).c, .slice A3 n3 D3] 28)).heap.size (w4.alloc (.cells #[.slice A1 n1 D1, .slice A2 n2 D2, .slice (t4 0).a (t4 0).n (t4 0).c, .slice (t4 1).a (t4 1).n (t4 1).c, .slice (t4 2).a (t4 2).n (t4 2).c, .slice A3 n3 D3] 28))).alloc (Nat.le_refl _) (.cells #[.slice (v 0).a (v 0).n (v 0).c, .slice (v 1).a (v 1).n (v 1).c, .slice (v 2).a (v 2).n (v 2).c] 25)
  have L5 := Lib.hid ((L4.out.next b5).next b6)
  have K5 := Lib.hid ((HBox.new w4 ⟨⟨A1, n1, D1⟩, ⟨A2, n2, D2⟩, t4, ⟨A3, n3, D3⟩⟩ 28).next b6)
  have P5 := Lib.hid ((T4.out.next b5).next b6)
  have V5 := Lib.hid ((V4.out.next b5).next b6)
  have D5 : Hid (Ls.Box3 ((w4.alloc (.cells #[.slice A1 n1 D1, .slice A2 n2 D2, .slice (t4 0).a (t4 0).n (t4 0).c, .slice (t4 1).a (t4 1).n (t4 1).c, .slice (t4 2).a (t4 2).n (t4 2).c, .slice A3 n3 D3] 28)).alloc (.cells #[.slice (v 0).a (v 0).n (v 0).c, .slice (v 1).a (v 1).n (v 1).c, .slice (v 2).a (v 2).n (v 2).c] 25)) (w4.heap.size + 1) v) := Lib.hid (by have := Ls.Box3.new (w4.alloc (.cells #[.slice A1 n1 D1, .slice A2 n2 D2, .slice (t4 0).a (t4 0).n (t4 0).c, .slice (t4 1).a (t4 1).n (t4 1).c, .slice (t4 2).a (t4 2).n (t4 2).c, .slice A3 n3 D3] 28)) v 25; rwa [World.size_alloc] at this)
  clear b5 b6 L4 T4 V4
  have k1 := K5.out.c1
  have kl := K5.out.lt
  dsimp only at k1
  go_wp2_with fail
  obtain ⟨W5, hW5⟩ : ∃ W5, W5 = (w4.alloc (.cells #[.slice A1 n1 D1, .slice A2 n2 D2, .slice (t4 0).a (t4 0).n (t4 0).c, .slice (t4 1).a (t4 1).n (t4 1).c, .slice (t4 2).a (t4 2).n (t4 2).c, .slice A3 n3 D3] 28)).alloc (.cells #[.slice (v 0).a (v 0).n (v 0).c, .slice (v 1).a (v 1).n (v 1).c, .slice (v 2).a (v 2).n (v 2).c] 25) := ⟨_, rfl⟩
  rw [← hW5] at L5 K5 P5 V5 D5 k1 kl ⊢
  clear hW5
  refine (HO.out W5).mono ?_
  rintro e9 w5 ⟨rfl, rfl⟩
  go_wp2_with fail
  refine (Cl.rbegins_any W5.heap.size A2 n2 D2 d1.f a W5 (by have := HPN.out; omega) P5.out.pages (Nat.le_refl _)).mono ?_
  rw [HBG.out]
  rintro e9 w6 ⟨rfl, hb6⟩
  have L6 := Lib.hid (L5.out.next hb6)
  have K6 := Lib.hid (K5.out.next hb6)
  have P6 := Lib.hid (P5.out.next hb6)
  have V6 := Lib.hid (V5.out.next hb6)
  have D6 := Lib.hid (D5.out.next hb6)
  clear hb6 L5 K5 P5 V5 D5 k1 kl
  have p0 := L6.out.cb.cell 0 (by decide)
  have p1 := L6.out.cb.cell 1 (by decide)
  have p2 := L6.out.cb.cell 2 (by decide)
  have pl := L6.out.cb.lt
  have r0 := D6.out.cell 0 (by decide)
  have r1 := D6.out.cell 1 (by decide)
  have r2 := D6.out.cell 2 (by decide)
  have rl := D6.out.lt
  go_wp2_with fail
  refine (HRU.out w6).mono ?_
  rintro e9 w7 ⟨rfl, rfl⟩
  go_wp2_with fail
  refine (Ls.same_any w6.heap.size w6.heap.size u v G G w6 L6.out.l3 (Nat.le_refl _) V6.out (Nat.le_refl _) (fun j hj => by have := L6.out.l3.len j hj; have := HUN.out j hj; omega) (fun j hj => by have := V6.out.len j hj; have := HUN.out j hj; omega)).mono ?_
  rw [decide_eq_true (show Ls.sameUp G G 3 from fun _ _ => rfl)]
  rintro e9 w8 ⟨rfl, hb8⟩
  have L8 := Lib.hid (L6.out.next hb8)
  clear hb8 L6 K6 P6 V6 D6
  go_wp2
  go_ret
  exact ⟨rfl, L8.out.bel⟩
set_option maxHeartbeats 1000000 in
theorem core_empty0 (a : Int) (w1 p1 c1 : Nat) (d1 : Hd_) (G1 : Nat → List Int) (hc1 : ∀ W, Lw w W s d u G → Calls Tryz.prog 20 #[(.agg #[.slice s.w.a s.w.n s.w.c, .slice s.p.a s.p.n s.p.c, .slice (s.u 0).a (s.u 0).n (s.u 0).c, .slice (s.u 1).a (s.u 1).n (s.u 1).c, .slice (s.u 2).a (s.u 2).n (s.u 2).c, .slice s.c.a s.c.n s.c.c]), (.agg #[.slice (u 0).a (u 0).n (u 0).c, .slice (u 1).a (u 1).n (u 1).c, .slice (u 2).a (u 2).n (u 2).c]), .agg #[.bool true, .bool false, .bool false, .int .i64 N, .int .i64 0, .int .i64 0]] W (TkO W a 0 w1 p1 c1 d1 G1)) (hf : fewL s (fun _ => u) 1 = true) (hpn : p1 ≤ 9) (hN : Cl.classErr N = 0) (hcl : Cl.classOf N = 0) (hbg : Cl.bg d1.f p1 a = 2) (hG : (G 0).length = 0) (hG1 : (G1 0).length ≤ 1) (hz : Cl.Sz w) (hp : Hp w w.heap.size s d) (l3 : Ls.L3 w w.heap.size u G) : Calls Tryz.prog 7 #[(.agg #[.slice s.w.a s.w.n s.w.c, .slice s.p.a s.p.n s.p.c, .slice (s.u 0).a (s.u 0).n (s.u 0).c, .slice (s.u 1).a (s.u 1).n (s.u 1).c, .slice (s.u 2).a (s.u 2).n (s.u 2).c, .slice s.c.a s.c.n s.c.c]), (.agg #[.slice (u 0).a (u 0).n (u 0).c, .slice (u 1).a (u 1).n (u 1).c, .slice (u 2).a (u 2).n (u 2).c]), .int .i64 N] w fun e w' => e = .returned (.bool true) ∧ Below w.heap.size w w' := by
  have HZ := Lib.hid hz
  have hz0 := hz.pos
  have HP := Lib.hid hp
  have HL := Lib.hid l3
  have HBG := Lib.hid hbg
  have HO : Hid (∀ W, Calls Tryz.prog 29 #[.int .i64 N] W fun e w' => e = .returned (.tuple #[.int .i64 0, .int .i64 0]) ∧ W = w') := Lib.hid (fun W => by have := Cl.rof_of N W; rwa [hN, hcl] at this)
  have HWD : Hid (∀ W, Calls Tryz.prog 32 #[.int .i64 0] W fun e w' => e = .returned (.int .i64 2) ∧ W = w') := Lib.hid (fun W => Cl.rwords_is (show Cl.wordsOf 0 = 2 by decide) W)
  have HPN := Lib.hid hpn
  have HG := Lib.hid hG
  have HG1 := Lib.hid hG1
  clear hbg hpn hN hcl hG hG1
  have HF := Lib.hid hf
  have C1 := Lib.hid hc1
  clear hz hp l3 hf hc1
  go_enter Tryz.func7, Tryz.ntmps7
  go_wp2_with fail
  obtain ⟨W1, hW1⟩ : ∃ W1, W1 = (w.alloc (.cells #[.slice s.w.a s.w.n s.w.c, .slice s.p.a s.p.n s.p.c, .slice (s.u 0).a (s.u 0).n (s.u 0).c, .slice (s.u 1).a (s.u 1).n (s.u 1).c, .slice (s.u 2).a (s.u 2).n (s.u 2).c, .slice s.c.a s.c.n s.c.c] 28)).alloc (.cells #[.slice (u 0).a (u 0).n (u 0).c, .slice (u 1).a (u 1).n (u 1).c, .slice (u 2).a (u 2).n (u 2).c] 25) := ⟨_, rfl⟩
  have L1 := Lib.hid (lw_start HP.out HL.out hW1)
  rw [← hW1]
  clear hW1
  refine (Al.awake_any W1 (HZ.out.over L1.out.bel hz0)).mono ?_
  rintro e9 w1 ⟨rfl, hb1⟩
  have L2 := Lib.hid (L1.out.next hb1)
  clear hb1 L1
  have q0 := L2.out.hb.c0
  have q1 := L2.out.hb.c1
  have q2 := L2.out.hb.c2
  have q3 := L2.out.hb.c3
  have q4 := L2.out.hb.c4
  have q5 := L2.out.hb.c5
  have ql := L2.out.hb.lt
  have p0 := L2.out.cb.cell 0 (by decide)
  have p1 := L2.out.cb.cell 1 (by decide)
  have p2 := L2.out.cb.cell 2 (by decide)
  have pl := L2.out.cb.lt
  go_wp2_with fail
  have b2 := (Below.refl w1.heap.size w1).alloc (Nat.le_refl _) (.cells #[.slice (u 0).a (u 0).n (u 0).c, .slice (u 1).a (u 1).n (u 1).c, .slice (u 2).a (u 2).n (u 2).c] 25)
  refine (few8_any s (some ⟨w1.heap.size, 0, none⟩) 1 1 (fun _ => u) (fun _ => G) (w1.alloc (.cells #[.slice (u 0).a (u 0).n (u 0).c, .slice (u 1).a (u 1).n (u 1).c, .slice (u 2).a (u 2).n (u 2).c] 25)) (by omega) (lrow_of (own_one w1 u) (by simp) (fun _ _ => L2.out.l3.next b2))).mono ?_
  rw [HF.out]
  rintro e9 w2 ⟨rfl, hb2⟩
  have L3 := Lib.hid ((L2.out.next b2).next hb2)
  clear b2 hb2 L2
  clear q0 q1 q2 q3 q4 q5 ql p0 p1 p2 pl
  have q0 := L3.out.hb.c0
  have q1 := L3.out.hb.c1
  have q2 := L3.out.hb.c2
  have q3 := L3.out.hb.c3
  have q4 := L3.out.hb.c4
  have q5 := L3.out.hb.c5
  have ql := L3.out.hb.lt
  have p0 := L3.out.cb.cell 0 (by decide)
  have p1 := L3.out.cb.cell 1 (by decide)
  have p2 := L3.out.cb.cell 2 (by decide)
  have pl := L3.out.cb.lt
  go_wp2_with fail
  refine (C1.out w2 L3.out).mono ?_
  rintro e9 w4 ⟨⟨⟨A1, n1, D1⟩, ⟨A2, n2, D2⟩, t4, ⟨A3, n3, D3⟩⟩, v, rfl, ht, hv4, ⟨hn1, hn2, hn3⟩, hb4⟩
  obtain rfl : n1 = _ := hn1
  obtain rfl : n2 = _ := hn2
  obtain rfl : n3 = _ := hn3
  dsimp only
  have L4 := Lib.hid (L3.out.next hb4)
  have T4 := Lib.hid ht
  have V4 := Lib.hid hv4
  clear ht hv4 hb4 L3
  clear q0 q1 q2 q3 q4 q5 ql p0 p1 p2 pl
  have b5 := (Below.refl w4.heap.size w4).alloc (Nat.le_refl _) (.cells #[.slice A1 n1 D1, .slice A2 n2 D2, .slice (t4 0).a (t4 0).n (t4 0).c, .slice (t4 1).a (t4 1).n (t4 1).c, .slice (t4 2).a (t4 2).n (t4 2).c, .slice A3 n3 D3] 28)
  have b6 := (Below.refl (w4.alloc (.cells #[.slice A1 n1 D1, .slice A2 n2 D2, .slice (t4 0).a (t4 0).n (t4 0).c, .slice (t4 1).a (t4 1).n (t4 1).c, .slice (t4 2).a (t4 2).n (t4 2).c, .slice A3 n3 D3] 28)).heap.size (w4.alloc (.cells #[.slice A1 n1 D1, .slice A2 n2 D2, .slice (t4 0).a (t4 0).n (t4 0).c, .slice (t4 1).a (t4 1).n (t4 1).c, .slice (t4 2).a (t4 2).n (t4 2).c, .slice A3 n3 D3] 28))).alloc (Nat.le_refl _) (.cells #[.slice (v 0).a (v 0).n (v 0).c, .slice (v 1).a (v 1).n (v 1).c, .slice (v 2).a (v 2).n (v 2).c] 25)
  have L5 := Lib.hid ((L4.out.next b5).next b6)
  have K5 := Lib.hid ((HBox.new w4 ⟨⟨A1, n1, D1⟩, ⟨A2, n2, D2⟩, t4, ⟨A3, n3, D3⟩⟩ 28).next b6)
  have P5 := Lib.hid ((T4.out.next b5).next b6)
  have V5 := Lib.hid ((V4.out.next b5).next b6)
  have D5 : Hid (Ls.Box3 ((w4.alloc (.cells #[.slice A1 n1 D1, .slice A2 n2 D2, .slice (t4 0).a (t4 0).n (t4 0).c, .slice (t4 1).a (t4 1).n (t4 1).c, .slice (t4 2).a (t4 2).n (t4 2).c, .slice A3 n3 D3] 28)).alloc (.cells #[.slice (v 0).a (v 0).n (v 0).c, .slice (v 1).a (v 1).n (v 1).c, .slice (v 2).a (v 2).n (v 2).c] 25)) (w4.heap.size + 1) v) := Lib.hid (by have := Ls.Box3.new (w4.alloc (.cells #[.slice A1 n1 D1, .slice A2 n2 D2, .slice (t4 0).a (t4 0).n (t4 0).c, .slice (t4 1).a (t4 1).n (t4 1).c, .slice (t4 2).a (t4 2).n (t4 2).c, .slice A3 n3 D3] 28)) v 25; rwa [World.size_alloc] at this)
  clear b5 b6 L4 T4 V4
  have k1 := K5.out.c1
  have kl := K5.out.lt
  dsimp only at k1
  go_wp2_with fail
  obtain ⟨W5, hW5⟩ : ∃ W5, W5 = (w4.alloc (.cells #[.slice A1 n1 D1, .slice A2 n2 D2, .slice (t4 0).a (t4 0).n (t4 0).c, .slice (t4 1).a (t4 1).n (t4 1).c, .slice (t4 2).a (t4 2).n (t4 2).c, .slice A3 n3 D3] 28)).alloc (.cells #[.slice (v 0).a (v 0).n (v 0).c, .slice (v 1).a (v 1).n (v 1).c, .slice (v 2).a (v 2).n (v 2).c] 25) := ⟨_, rfl⟩
  rw [← hW5] at L5 K5 P5 V5 D5 k1 kl ⊢
  clear hW5
  refine (HO.out W5).mono ?_
  rintro e9 w5 ⟨rfl, rfl⟩
  go_wp2_with fail
  refine (Cl.rbegins_any W5.heap.size A2 n2 D2 d1.f a W5 (by have := HPN.out; omega) P5.out.pages (Nat.le_refl _)).mono ?_
  rw [HBG.out]
  rintro e9 w6 ⟨rfl, hb6⟩
  have L6 := Lib.hid (L5.out.next hb6)
  have K6 := Lib.hid (K5.out.next hb6)
  have P6 := Lib.hid (P5.out.next hb6)
  have V6 := Lib.hid (V5.out.next hb6)
  have D6 := Lib.hid (D5.out.next hb6)
  clear hb6 L5 K5 P5 V5 D5 k1 kl
  go_wp2_with fail
  refine (HWD.out w6).mono ?_
  rintro e9 w7 ⟨rfl, rfl⟩
  have pk := L6.out.cb.cell 0 (by decide)
  have pl := L6.out.cb.lt
  rw [show (u 0).n = 0 by have := L6.out.l3.len 0 (by decide); have := HG.out; omega] at pk
  have rk := D6.out.cell 0 (by decide)
  have rl := D6.out.lt
  have dk : decide (((v 0).n : Int) ≤ 1) = true := by simp; have := V6.out.len 0 (by decide); have := HG1.out; omega
  go_wp2
  go_ret
  exact ⟨rfl, L6.out.bel⟩
set_option maxHeartbeats 1000000 in
theorem core_own0 (a : Int) (m : Nat) (w1 p1 c1 : Nat) (d1 : Hd_) (G1 : Nat → List Int) (hc1 : ∀ W, Lw w W s d u G → Calls Tryz.prog 20 #[(.agg #[.slice s.w.a s.w.n s.w.c, .slice s.p.a s.p.n s.p.c, .slice (s.u 0).a (s.u 0).n (s.u 0).c, .slice (s.u 1).a (s.u 1).n (s.u 1).c, .slice (s.u 2).a (s.u 2).n (s.u 2).c, .slice s.c.a s.c.n s.c.c]), (.agg #[.slice (u 0).a (u 0).n (u 0).c, .slice (u 1).a (u 1).n (u 1).c, .slice (u 2).a (u 2).n (u 2).c]), .agg #[.bool true, .bool false, .bool false, .int .i64 N, .int .i64 0, .int .i64 0]] W (TkO W a 0 w1 p1 c1 d1 G1)) (hf : fewL s (fun _ => u) 1 = true) (hpn : p1 ≤ 9) (hN : Cl.classErr N = 0) (hcl : Cl.classOf N = 0) (hbg : Cl.bg d1.f p1 a = 2) (hG : (G 0).length = m + 1) (hG1 : (G1 0).length = m) (ha : (G 0).getD m 0 = a) (hF : d1.F = d.F) (hm : m ≤ 1000) (hun : ∀ j, j < 3 → (d.F j).length ≤ 1000) (hz : Cl.Sz w) (hp : Hp w w.heap.size s d) (l3 : Ls.L3 w w.heap.size u G) : Calls Tryz.prog 7 #[(.agg #[.slice s.w.a s.w.n s.w.c, .slice s.p.a s.p.n s.p.c, .slice (s.u 0).a (s.u 0).n (s.u 0).c, .slice (s.u 1).a (s.u 1).n (s.u 1).c, .slice (s.u 2).a (s.u 2).n (s.u 2).c, .slice s.c.a s.c.n s.c.c]), (.agg #[.slice (u 0).a (u 0).n (u 0).c, .slice (u 1).a (u 1).n (u 1).c, .slice (u 2).a (u 2).n (u 2).c]), .int .i64 N] w fun e w' => e = .returned (.bool true) ∧ Below w.heap.size w w' := by
  have HZ := Lib.hid hz
  have hz0 := hz.pos
  have HP := Lib.hid hp
  have HL := Lib.hid l3
  have HBG := Lib.hid hbg
  have HO : Hid (∀ W, Calls Tryz.prog 29 #[.int .i64 N] W fun e w' => e = .returned (.tuple #[.int .i64 0, .int .i64 0]) ∧ W = w') := Lib.hid (fun W => by have := Cl.rof_of N W; rwa [hN, hcl] at this)
  have HWD : Hid (∀ W, Calls Tryz.prog 32 #[.int .i64 0] W fun e w' => e = .returned (.int .i64 2) ∧ W = w') := Lib.hid (fun W => Cl.rwords_is (show Cl.wordsOf 0 = 2 by decide) W)
  have HPN := Lib.hid hpn
  have HG := Lib.hid hG
  have HG1 := Lib.hid hG1
  have HA := Lib.hid ha
  have HFF := Lib.hid hF
  have HUN := Lib.hid hun
  clear hbg hpn hN hcl hG hG1 ha hF hun
  have HF := Lib.hid hf
  have C1 := Lib.hid hc1
  clear hz hp l3 hf hc1
  go_enter Tryz.func7, Tryz.ntmps7
  go_wp2_with fail
  obtain ⟨W1, hW1⟩ : ∃ W1, W1 = (w.alloc (.cells #[.slice s.w.a s.w.n s.w.c, .slice s.p.a s.p.n s.p.c, .slice (s.u 0).a (s.u 0).n (s.u 0).c, .slice (s.u 1).a (s.u 1).n (s.u 1).c, .slice (s.u 2).a (s.u 2).n (s.u 2).c, .slice s.c.a s.c.n s.c.c] 28)).alloc (.cells #[.slice (u 0).a (u 0).n (u 0).c, .slice (u 1).a (u 1).n (u 1).c, .slice (u 2).a (u 2).n (u 2).c] 25) := ⟨_, rfl⟩
  have L1 := Lib.hid (lw_start HP.out HL.out hW1)
  rw [← hW1]
  clear hW1
  refine (Al.awake_any W1 (HZ.out.over L1.out.bel hz0)).mono ?_
  rintro e9 w1 ⟨rfl, hb1⟩
  have L2 := Lib.hid (L1.out.next hb1)
  clear hb1 L1
  have q0 := L2.out.hb.c0
  have q1 := L2.out.hb.c1
  have q2 := L2.out.hb.c2
  have q3 := L2.out.hb.c3
  have q4 := L2.out.hb.c4
  have q5 := L2.out.hb.c5
  have ql := L2.out.hb.lt
  have p0 := L2.out.cb.cell 0 (by decide)
  have p1 := L2.out.cb.cell 1 (by decide)
  have p2 := L2.out.cb.cell 2 (by decide)
  have pl := L2.out.cb.lt
  go_wp2_with fail
  have b2 := (Below.refl w1.heap.size w1).alloc (Nat.le_refl _) (.cells #[.slice (u 0).a (u 0).n (u 0).c, .slice (u 1).a (u 1).n (u 1).c, .slice (u 2).a (u 2).n (u 2).c] 25)
  refine (few8_any s (some ⟨w1.heap.size, 0, none⟩) 1 1 (fun _ => u) (fun _ => G) (w1.alloc (.cells #[.slice (u 0).a (u 0).n (u 0).c, .slice (u 1).a (u 1).n (u 1).c, .slice (u 2).a (u 2).n (u 2).c] 25)) (by omega) (lrow_of (own_one w1 u) (by simp) (fun _ _ => L2.out.l3.next b2))).mono ?_
  rw [HF.out]
  rintro e9 w2 ⟨rfl, hb2⟩
  have L3 := Lib.hid ((L2.out.next b2).next hb2)
  clear b2 hb2 L2
  clear q0 q1 q2 q3 q4 q5 ql p0 p1 p2 pl
  have q0 := L3.out.hb.c0
  have q1 := L3.out.hb.c1
  have q2 := L3.out.hb.c2
  have q3 := L3.out.hb.c3
  have q4 := L3.out.hb.c4
  have q5 := L3.out.hb.c5
  have ql := L3.out.hb.lt
  have p0 := L3.out.cb.cell 0 (by decide)
  have p1 := L3.out.cb.cell 1 (by decide)
  have p2 := L3.out.cb.cell 2 (by decide)
  have pl := L3.out.cb.lt
  go_wp2_with fail
  refine (C1.out w2 L3.out).mono ?_
  rintro e9 w4 ⟨⟨⟨A1, n1, D1⟩, ⟨A2, n2, D2⟩, t4, ⟨A3, n3, D3⟩⟩, v, rfl, ht, hv4, ⟨hn1, hn2, hn3⟩, hb4⟩
  obtain rfl : n1 = _ := hn1
  obtain rfl : n2 = _ := hn2
  obtain rfl : n3 = _ := hn3
  dsimp only
  have L4 := Lib.hid (L3.out.next hb4)
  have T4 := Lib.hid ht
  have V4 := Lib.hid hv4
  clear ht hv4 hb4 L3
  clear q0 q1 q2 q3 q4 q5 ql p0 p1 p2 pl
  have b5 := (Below.refl w4.heap.size w4).alloc (Nat.le_refl _) (.cells #[.slice A1 n1 D1, .slice A2 n2 D2, .slice (t4 0).a (t4 0).n (t4 0).c, .slice (t4 1).a (t4 1).n (t4 1).c, .slice (t4 2).a (t4 2).n (t4 2).c, .slice A3 n3 D3] 28)
  have b6 := (Below.refl (w4.alloc (.cells #[.slice A1 n1 D1, .slice A2 n2 D2, .slice (t4 0).a (t4 0).n (t4 0).c, .slice (t4 1).a (t4 1).n (t4 1).c, .slice (t4 2).a (t4 2).n (t4 2).c, .slice A3 n3 D3] 28)).heap.size (w4.alloc (.cells #[.slice A1 n1 D1, .slice A2 n2 D2, .slice (t4 0).a (t4 0).n (t4 0).c, .slice (t4 1).a (t4 1).n (t4 1).c, .slice (t4 2).a (t4 2).n (t4 2).c, .slice A3 n3 D3] 28))).alloc (Nat.le_refl _) (.cells #[.slice (v 0).a (v 0).n (v 0).c, .slice (v 1).a (v 1).n (v 1).c, .slice (v 2).a (v 2).n (v 2).c] 25)
  have L5 := Lib.hid ((L4.out.next b5).next b6)
  have K5 := Lib.hid ((HBox.new w4 ⟨⟨A1, n1, D1⟩, ⟨A2, n2, D2⟩, t4, ⟨A3, n3, D3⟩⟩ 28).next b6)
  have P5 := Lib.hid ((T4.out.next b5).next b6)
  have V5 := Lib.hid ((V4.out.next b5).next b6)
  have D5 : Hid (Ls.Box3 ((w4.alloc (.cells #[.slice A1 n1 D1, .slice A2 n2 D2, .slice (t4 0).a (t4 0).n (t4 0).c, .slice (t4 1).a (t4 1).n (t4 1).c, .slice (t4 2).a (t4 2).n (t4 2).c, .slice A3 n3 D3] 28)).alloc (.cells #[.slice (v 0).a (v 0).n (v 0).c, .slice (v 1).a (v 1).n (v 1).c, .slice (v 2).a (v 2).n (v 2).c] 25)) (w4.heap.size + 1) v) := Lib.hid (by have := Ls.Box3.new (w4.alloc (.cells #[.slice A1 n1 D1, .slice A2 n2 D2, .slice (t4 0).a (t4 0).n (t4 0).c, .slice (t4 1).a (t4 1).n (t4 1).c, .slice (t4 2).a (t4 2).n (t4 2).c, .slice A3 n3 D3] 28)) v 25; rwa [World.size_alloc] at this)
  clear b5 b6 L4 T4 V4
  have k1 := K5.out.c1
  have kl := K5.out.lt
  dsimp only at k1
  go_wp2_with fail
  obtain ⟨W5, hW5⟩ : ∃ W5, W5 = (w4.alloc (.cells #[.slice A1 n1 D1, .slice A2 n2 D2, .slice (t4 0).a (t4 0).n (t4 0).c, .slice (t4 1).a (t4 1).n (t4 1).c, .slice (t4 2).a (t4 2).n (t4 2).c, .slice A3 n3 D3] 28)).alloc (.cells #[.slice (v 0).a (v 0).n (v 0).c, .slice (v 1).a (v 1).n (v 1).c, .slice (v 2).a (v 2).n (v 2).c] 25) := ⟨_, rfl⟩
  rw [← hW5] at L5 K5 P5 V5 D5 k1 kl ⊢
  clear hW5
  refine (HO.out W5).mono ?_
  rintro e9 w5 ⟨rfl, rfl⟩
  go_wp2_with fail
  refine (Cl.rbegins_any W5.heap.size A2 n2 D2 d1.f a W5 (by have := HPN.out; omega) P5.out.pages (Nat.le_refl _)).mono ?_
  rw [HBG.out]
  rintro e9 w6 ⟨rfl, hb6⟩
  have L6 := Lib.hid (L5.out.next hb6)
  have K6 := Lib.hid (K5.out.next hb6)
  have P6 := Lib.hid (P5.out.next hb6)
  have V6 := Lib.hid (V5.out.next hb6)
  have D6 := Lib.hid (D5.out.next hb6)
  clear hb6 L5 K5 P5 V5 D5 k1 kl
  go_wp2_with fail
  refine (HWD.out w6).mono ?_
  rintro e9 w7 ⟨rfl, rfl⟩
  have pk := L6.out.cb.cell 0 (by decide)
  have pl := L6.out.cb.lt
  have hun : (u 0).n = m + 1 := by have := L6.out.l3.len 0 (by decide); have := HG.out; omega
  obtain ⟨bb, off, ea, hbl, hc⟩ := (L6.out.l3 0 (by decide)).1.2 (by omega)
  have c1 := hc m (by omega)
  rw [HA.out] at c1
  rw [hun, ea] at pk
  have rk := D6.out.cell 0 (by decide)
  have rl := D6.out.lt
  have hvn : (v 0).n = m := by have := V6.out.len 0 (by decide); have := HG1.out; omega
  rw [hvn] at rk
  have q2 := L6.out.hb.c2
  have q3 := L6.out.hb.c3
  have q4 := L6.out.hb.c4
  have ql := L6.out.hb.lt
  have k2 := K6.out.c2
  have k3 := K6.out.c3
  have k4 := K6.out.c4
  have kl := K6.out.lt
  dsimp only at k2 k3 k4
  have da : (a == a) = true := by simp
  clear hun hvn hc ea
  go_wp2_with fail
  refine (Ls.same_any w6.heap.size w6.heap.size t4 s.u d1.F d.F w6 P6.out.free (Nat.le_refl _) L6.out.hp.free (Nat.le_refl _) (fun j hj => by have h1 := P6.out.free.len j hj; have h2 := HUN.out j hj; rw [HFF.out] at h1; dsimp only at h1; omega) (fun j hj => by have := L6.out.hp.free.len j hj; have := HUN.out j hj; omega)).mono ?_
  rw [decide_eq_true (show Ls.sameUp d1.F d.F 3 from fun _ _ => by rw [HFF.out])]
  rintro e9 w8 ⟨rfl, hb8⟩
  have L8 := Lib.hid (L6.out.next hb8)
  clear hb8 L6 K6 P6 V6 D6
  go_wp2
  go_ret
  exact ⟨rfl, L8.out.bel⟩
set_option maxHeartbeats 1000000 in
theorem core_empty1 (a : Int) (w1 p1 c1 : Nat) (d1 : Hd_) (G1 : Nat → List Int) (hc1 : ∀ W, Lw w W s d u G → Calls Tryz.prog 20 #[(.agg #[.slice s.w.a s.w.n s.w.c, .slice s.p.a s.p.n s.p.c, .slice (s.u 0).a (s.u 0).n (s.u 0).c, .slice (s.u 1).a (s.u 1).n (s.u 1).c, .slice (s.u 2).a (s.u 2).n (s.u 2).c, .slice s.c.a s.c.n s.c.c]), (.agg #[.slice (u 0).a (u 0).n (u 0).c, .slice (u 1).a (u 1).n (u 1).c, .slice (u 2).a (u 2).n (u 2).c]), .agg #[.bool true, .bool false, .bool false, .int .i64 N, .int .i64 0, .int .i64 0]] W (TkO W a 0 w1 p1 c1 d1 G1)) (hf : fewL s (fun _ => u) 1 = true) (hpn : p1 ≤ 9) (hN : Cl.classErr N = 0) (hcl : Cl.classOf N = 1) (hbg : Cl.bg d1.f p1 a = 4) (hG : (G 1).length = 0) (hG1 : (G1 1).length ≤ 1) (hz : Cl.Sz w) (hp : Hp w w.heap.size s d) (l3 : Ls.L3 w w.heap.size u G) : Calls Tryz.prog 7 #[(.agg #[.slice s.w.a s.w.n s.w.c, .slice s.p.a s.p.n s.p.c, .slice (s.u 0).a (s.u 0).n (s.u 0).c, .slice (s.u 1).a (s.u 1).n (s.u 1).c, .slice (s.u 2).a (s.u 2).n (s.u 2).c, .slice s.c.a s.c.n s.c.c]), (.agg #[.slice (u 0).a (u 0).n (u 0).c, .slice (u 1).a (u 1).n (u 1).c, .slice (u 2).a (u 2).n (u 2).c]), .int .i64 N] w fun e w' => e = .returned (.bool true) ∧ Below w.heap.size w w' := by
  have HZ := Lib.hid hz
  have hz0 := hz.pos
  have HP := Lib.hid hp
  have HL := Lib.hid l3
  have HBG := Lib.hid hbg
  have HO : Hid (∀ W, Calls Tryz.prog 29 #[.int .i64 N] W fun e w' => e = .returned (.tuple #[.int .i64 1, .int .i64 0]) ∧ W = w') := Lib.hid (fun W => by have := Cl.rof_of N W; rwa [hN, hcl] at this)
  have HWD : Hid (∀ W, Calls Tryz.prog 32 #[.int .i64 1] W fun e w' => e = .returned (.int .i64 4) ∧ W = w') := Lib.hid (fun W => Cl.rwords_is (show Cl.wordsOf 1 = 4 by decide) W)
  have HPN := Lib.hid hpn
  have HG := Lib.hid hG
  have HG1 := Lib.hid hG1
  clear hbg hpn hN hcl hG hG1
  have HF := Lib.hid hf
  have C1 := Lib.hid hc1
  clear hz hp l3 hf hc1
  go_enter Tryz.func7, Tryz.ntmps7
  go_wp2_with fail
  obtain ⟨W1, hW1⟩ : ∃ W1, W1 = (w.alloc (.cells #[.slice s.w.a s.w.n s.w.c, .slice s.p.a s.p.n s.p.c, .slice (s.u 0).a (s.u 0).n (s.u 0).c, .slice (s.u 1).a (s.u 1).n (s.u 1).c, .slice (s.u 2).a (s.u 2).n (s.u 2).c, .slice s.c.a s.c.n s.c.c] 28)).alloc (.cells #[.slice (u 0).a (u 0).n (u 0).c, .slice (u 1).a (u 1).n (u 1).c, .slice (u 2).a (u 2).n (u 2).c] 25) := ⟨_, rfl⟩
  have L1 := Lib.hid (lw_start HP.out HL.out hW1)
  rw [← hW1]
  clear hW1
  refine (Al.awake_any W1 (HZ.out.over L1.out.bel hz0)).mono ?_
  rintro e9 w1 ⟨rfl, hb1⟩
  have L2 := Lib.hid (L1.out.next hb1)
  clear hb1 L1
  have q0 := L2.out.hb.c0
  have q1 := L2.out.hb.c1
  have q2 := L2.out.hb.c2
  have q3 := L2.out.hb.c3
  have q4 := L2.out.hb.c4
  have q5 := L2.out.hb.c5
  have ql := L2.out.hb.lt
  have p0 := L2.out.cb.cell 0 (by decide)
  have p1 := L2.out.cb.cell 1 (by decide)
  have p2 := L2.out.cb.cell 2 (by decide)
  have pl := L2.out.cb.lt
  go_wp2_with fail
  have b2 := (Below.refl w1.heap.size w1).alloc (Nat.le_refl _) (.cells #[.slice (u 0).a (u 0).n (u 0).c, .slice (u 1).a (u 1).n (u 1).c, .slice (u 2).a (u 2).n (u 2).c] 25)
  refine (few8_any s (some ⟨w1.heap.size, 0, none⟩) 1 1 (fun _ => u) (fun _ => G) (w1.alloc (.cells #[.slice (u 0).a (u 0).n (u 0).c, .slice (u 1).a (u 1).n (u 1).c, .slice (u 2).a (u 2).n (u 2).c] 25)) (by omega) (lrow_of (own_one w1 u) (by simp) (fun _ _ => L2.out.l3.next b2))).mono ?_
  rw [HF.out]
  rintro e9 w2 ⟨rfl, hb2⟩
  have L3 := Lib.hid ((L2.out.next b2).next hb2)
  clear b2 hb2 L2
  clear q0 q1 q2 q3 q4 q5 ql p0 p1 p2 pl
  have q0 := L3.out.hb.c0
  have q1 := L3.out.hb.c1
  have q2 := L3.out.hb.c2
  have q3 := L3.out.hb.c3
  have q4 := L3.out.hb.c4
  have q5 := L3.out.hb.c5
  have ql := L3.out.hb.lt
  have p0 := L3.out.cb.cell 0 (by decide)
  have p1 := L3.out.cb.cell 1 (by decide)
  have p2 := L3.out.cb.cell 2 (by decide)
  have pl := L3.out.cb.lt
  go_wp2_with fail
  refine (C1.out w2 L3.out).mono ?_
  rintro e9 w4 ⟨⟨⟨A1, n1, D1⟩, ⟨A2, n2, D2⟩, t4, ⟨A3, n3, D3⟩⟩, v, rfl, ht, hv4, ⟨hn1, hn2, hn3⟩, hb4⟩
  obtain rfl : n1 = _ := hn1
  obtain rfl : n2 = _ := hn2
  obtain rfl : n3 = _ := hn3
  dsimp only
  have L4 := Lib.hid (L3.out.next hb4)
  have T4 := Lib.hid ht
  have V4 := Lib.hid hv4
  clear ht hv4 hb4 L3
  clear q0 q1 q2 q3 q4 q5 ql p0 p1 p2 pl
  have b5 := (Below.refl w4.heap.size w4).alloc (Nat.le_refl _) (.cells #[.slice A1 n1 D1, .slice A2 n2 D2, .slice (t4 0).a (t4 0).n (t4 0).c, .slice (t4 1).a (t4 1).n (t4 1).c, .slice (t4 2).a (t4 2).n (t4 2).c, .slice A3 n3 D3] 28)
  have b6 := (Below.refl (w4.alloc (.cells #[.slice A1 n1 D1, .slice A2 n2 D2, .slice (t4 0).a (t4 0).n (t4 0).c, .slice (t4 1).a (t4 1).n (t4 1).c, .slice (t4 2).a (t4 2).n (t4 2).c, .slice A3 n3 D3] 28)).heap.size (w4.alloc (.cells #[.slice A1 n1 D1, .slice A2 n2 D2, .slice (t4 0).a (t4 0).n (t4 0).c, .slice (t4 1).a (t4 1).n (t4 1).c, .slice (t4 2).a (t4 2).n (t4 2).c, .slice A3 n3 D3] 28))).alloc (Nat.le_refl _) (.cells #[.slice (v 0).a (v 0).n (v 0).c, .slice (v 1).a (v 1).n (v 1).c, .slice (v 2).a (v 2).n (v 2).c] 25)
  have L5 := Lib.hid ((L4.out.next b5).next b6)
  have K5 := Lib.hid ((HBox.new w4 ⟨⟨A1, n1, D1⟩, ⟨A2, n2, D2⟩, t4, ⟨A3, n3, D3⟩⟩ 28).next b6)
  have P5 := Lib.hid ((T4.out.next b5).next b6)
  have V5 := Lib.hid ((V4.out.next b5).next b6)
  have D5 : Hid (Ls.Box3 ((w4.alloc (.cells #[.slice A1 n1 D1, .slice A2 n2 D2, .slice (t4 0).a (t4 0).n (t4 0).c, .slice (t4 1).a (t4 1).n (t4 1).c, .slice (t4 2).a (t4 2).n (t4 2).c, .slice A3 n3 D3] 28)).alloc (.cells #[.slice (v 0).a (v 0).n (v 0).c, .slice (v 1).a (v 1).n (v 1).c, .slice (v 2).a (v 2).n (v 2).c] 25)) (w4.heap.size + 1) v) := Lib.hid (by have := Ls.Box3.new (w4.alloc (.cells #[.slice A1 n1 D1, .slice A2 n2 D2, .slice (t4 0).a (t4 0).n (t4 0).c, .slice (t4 1).a (t4 1).n (t4 1).c, .slice (t4 2).a (t4 2).n (t4 2).c, .slice A3 n3 D3] 28)) v 25; rwa [World.size_alloc] at this)
  clear b5 b6 L4 T4 V4
  have k1 := K5.out.c1
  have kl := K5.out.lt
  dsimp only at k1
  go_wp2_with fail
  obtain ⟨W5, hW5⟩ : ∃ W5, W5 = (w4.alloc (.cells #[.slice A1 n1 D1, .slice A2 n2 D2, .slice (t4 0).a (t4 0).n (t4 0).c, .slice (t4 1).a (t4 1).n (t4 1).c, .slice (t4 2).a (t4 2).n (t4 2).c, .slice A3 n3 D3] 28)).alloc (.cells #[.slice (v 0).a (v 0).n (v 0).c, .slice (v 1).a (v 1).n (v 1).c, .slice (v 2).a (v 2).n (v 2).c] 25) := ⟨_, rfl⟩
  rw [← hW5] at L5 K5 P5 V5 D5 k1 kl ⊢
  clear hW5
  refine (HO.out W5).mono ?_
  rintro e9 w5 ⟨rfl, rfl⟩
  go_wp2_with fail
  refine (Cl.rbegins_any W5.heap.size A2 n2 D2 d1.f a W5 (by have := HPN.out; omega) P5.out.pages (Nat.le_refl _)).mono ?_
  rw [HBG.out]
  rintro e9 w6 ⟨rfl, hb6⟩
  have L6 := Lib.hid (L5.out.next hb6)
  have K6 := Lib.hid (K5.out.next hb6)
  have P6 := Lib.hid (P5.out.next hb6)
  have V6 := Lib.hid (V5.out.next hb6)
  have D6 := Lib.hid (D5.out.next hb6)
  clear hb6 L5 K5 P5 V5 D5 k1 kl
  go_wp2_with fail
  refine (HWD.out w6).mono ?_
  rintro e9 w7 ⟨rfl, rfl⟩
  have pk := L6.out.cb.cell 1 (by decide)
  have pl := L6.out.cb.lt
  rw [show (u 1).n = 0 by have := L6.out.l3.len 1 (by decide); have := HG.out; omega] at pk
  have rk := D6.out.cell 1 (by decide)
  have rl := D6.out.lt
  have dk : decide (((v 1).n : Int) ≤ 1) = true := by simp; have := V6.out.len 1 (by decide); have := HG1.out; omega
  go_wp2
  go_ret
  exact ⟨rfl, L6.out.bel⟩
set_option maxHeartbeats 1000000 in
theorem core_own1 (a : Int) (m : Nat) (w1 p1 c1 : Nat) (d1 : Hd_) (G1 : Nat → List Int) (hc1 : ∀ W, Lw w W s d u G → Calls Tryz.prog 20 #[(.agg #[.slice s.w.a s.w.n s.w.c, .slice s.p.a s.p.n s.p.c, .slice (s.u 0).a (s.u 0).n (s.u 0).c, .slice (s.u 1).a (s.u 1).n (s.u 1).c, .slice (s.u 2).a (s.u 2).n (s.u 2).c, .slice s.c.a s.c.n s.c.c]), (.agg #[.slice (u 0).a (u 0).n (u 0).c, .slice (u 1).a (u 1).n (u 1).c, .slice (u 2).a (u 2).n (u 2).c]), .agg #[.bool true, .bool false, .bool false, .int .i64 N, .int .i64 0, .int .i64 0]] W (TkO W a 0 w1 p1 c1 d1 G1)) (hf : fewL s (fun _ => u) 1 = true) (hpn : p1 ≤ 9) (hN : Cl.classErr N = 0) (hcl : Cl.classOf N = 1) (hbg : Cl.bg d1.f p1 a = 4) (hG : (G 1).length = m + 1) (hG1 : (G1 1).length = m) (ha : (G 1).getD m 0 = a) (hF : d1.F = d.F) (hm : m ≤ 1000) (hun : ∀ j, j < 3 → (d.F j).length ≤ 1000) (hz : Cl.Sz w) (hp : Hp w w.heap.size s d) (l3 : Ls.L3 w w.heap.size u G) : Calls Tryz.prog 7 #[(.agg #[.slice s.w.a s.w.n s.w.c, .slice s.p.a s.p.n s.p.c, .slice (s.u 0).a (s.u 0).n (s.u 0).c, .slice (s.u 1).a (s.u 1).n (s.u 1).c, .slice (s.u 2).a (s.u 2).n (s.u 2).c, .slice s.c.a s.c.n s.c.c]), (.agg #[.slice (u 0).a (u 0).n (u 0).c, .slice (u 1).a (u 1).n (u 1).c, .slice (u 2).a (u 2).n (u 2).c]), .int .i64 N] w fun e w' => e = .returned (.bool true) ∧ Below w.heap.size w w' := by
  have HZ := Lib.hid hz
  have hz0 := hz.pos
  have HP := Lib.hid hp
  have HL := Lib.hid l3
  have HBG := Lib.hid hbg
  have HO : Hid (∀ W, Calls Tryz.prog 29 #[.int .i64 N] W fun e w' => e = .returned (.tuple #[.int .i64 1, .int .i64 0]) ∧ W = w') := Lib.hid (fun W => by have := Cl.rof_of N W; rwa [hN, hcl] at this)
  have HWD : Hid (∀ W, Calls Tryz.prog 32 #[.int .i64 1] W fun e w' => e = .returned (.int .i64 4) ∧ W = w') := Lib.hid (fun W => Cl.rwords_is (show Cl.wordsOf 1 = 4 by decide) W)
  have HPN := Lib.hid hpn
  have HG := Lib.hid hG
  have HG1 := Lib.hid hG1
  have HA := Lib.hid ha
  have HFF := Lib.hid hF
  have HUN := Lib.hid hun
  clear hbg hpn hN hcl hG hG1 ha hF hun
  have HF := Lib.hid hf
  have C1 := Lib.hid hc1
  clear hz hp l3 hf hc1
  go_enter Tryz.func7, Tryz.ntmps7
  go_wp2_with fail
  obtain ⟨W1, hW1⟩ : ∃ W1, W1 = (w.alloc (.cells #[.slice s.w.a s.w.n s.w.c, .slice s.p.a s.p.n s.p.c, .slice (s.u 0).a (s.u 0).n (s.u 0).c, .slice (s.u 1).a (s.u 1).n (s.u 1).c, .slice (s.u 2).a (s.u 2).n (s.u 2).c, .slice s.c.a s.c.n s.c.c] 28)).alloc (.cells #[.slice (u 0).a (u 0).n (u 0).c, .slice (u 1).a (u 1).n (u 1).c, .slice (u 2).a (u 2).n (u 2).c] 25) := ⟨_, rfl⟩
  have L1 := Lib.hid (lw_start HP.out HL.out hW1)
  rw [← hW1]
  clear hW1
  refine (Al.awake_any W1 (HZ.out.over L1.out.bel hz0)).mono ?_
  rintro e9 w1 ⟨rfl, hb1⟩
  have L2 := Lib.hid (L1.out.next hb1)
  clear hb1 L1
  have q0 := L2.out.hb.c0
  have q1 := L2.out.hb.c1
  have q2 := L2.out.hb.c2
  have q3 := L2.out.hb.c3
  have q4 := L2.out.hb.c4
  have q5 := L2.out.hb.c5
  have ql := L2.out.hb.lt
  have p0 := L2.out.cb.cell 0 (by decide)
  have p1 := L2.out.cb.cell 1 (by decide)
  have p2 := L2.out.cb.cell 2 (by decide)
  have pl := L2.out.cb.lt
  go_wp2_with fail
  have b2 := (Below.refl w1.heap.size w1).alloc (Nat.le_refl _) (.cells #[.slice (u 0).a (u 0).n (u 0).c, .slice (u 1).a (u 1).n (u 1).c, .slice (u 2).a (u 2).n (u 2).c] 25)
  refine (few8_any s (some ⟨w1.heap.size, 0, none⟩) 1 1 (fun _ => u) (fun _ => G) (w1.alloc (.cells #[.slice (u 0).a (u 0).n (u 0).c, .slice (u 1).a (u 1).n (u 1).c, .slice (u 2).a (u 2).n (u 2).c] 25)) (by omega) (lrow_of (own_one w1 u) (by simp) (fun _ _ => L2.out.l3.next b2))).mono ?_
  rw [HF.out]
  rintro e9 w2 ⟨rfl, hb2⟩
  have L3 := Lib.hid ((L2.out.next b2).next hb2)
  clear b2 hb2 L2
  clear q0 q1 q2 q3 q4 q5 ql p0 p1 p2 pl
  have q0 := L3.out.hb.c0
  have q1 := L3.out.hb.c1
  have q2 := L3.out.hb.c2
  have q3 := L3.out.hb.c3
  have q4 := L3.out.hb.c4
  have q5 := L3.out.hb.c5
  have ql := L3.out.hb.lt
  have p0 := L3.out.cb.cell 0 (by decide)
  have p1 := L3.out.cb.cell 1 (by decide)
  have p2 := L3.out.cb.cell 2 (by decide)
  have pl := L3.out.cb.lt
  go_wp2_with fail
  refine (C1.out w2 L3.out).mono ?_
  rintro e9 w4 ⟨⟨⟨A1, n1, D1⟩, ⟨A2, n2, D2⟩, t4, ⟨A3, n3, D3⟩⟩, v, rfl, ht, hv4, ⟨hn1, hn2, hn3⟩, hb4⟩
  obtain rfl : n1 = _ := hn1
  obtain rfl : n2 = _ := hn2
  obtain rfl : n3 = _ := hn3
  dsimp only
  have L4 := Lib.hid (L3.out.next hb4)
  have T4 := Lib.hid ht
  have V4 := Lib.hid hv4
  clear ht hv4 hb4 L3
  clear q0 q1 q2 q3 q4 q5 ql p0 p1 p2 pl
  have b5 := (Below.refl w4.heap.size w4).alloc (Nat.le_refl _) (.cells #[.slice A1 n1 D1, .slice A2 n2 D2, .slice (t4 0).a (t4 0).n (t4 0).c, .slice (t4 1).a (t4 1).n (t4 1).c, .slice (t4 2).a (t4 2).n (t4 2).c, .slice A3 n3 D3] 28)
  have b6 := (Below.refl (w4.alloc (.cells #[.slice A1 n1 D1, .slice A2 n2 D2, .slice (t4 0).a (t4 0).n (t4 0).c, .slice (t4 1).a (t4 1).n (t4 1).c, .slice (t4 2).a (t4 2).n (t4 2).c, .slice A3 n3 D3] 28)).heap.size (w4.alloc (.cells #[.slice A1 n1 D1, .slice A2 n2 D2, .slice (t4 0).a (t4 0).n (t4 0).c, .slice (t4 1).a (t4 1).n (t4 1).c, .slice (t4 2).a (t4 2).n (t4 2).c, .slice A3 n3 D3] 28))).alloc (Nat.le_refl _) (.cells #[.slice (v 0).a (v 0).n (v 0).c, .slice (v 1).a (v 1).n (v 1).c, .slice (v 2).a (v 2).n (v 2).c] 25)
  have L5 := Lib.hid ((L4.out.next b5).next b6)
  have K5 := Lib.hid ((HBox.new w4 ⟨⟨A1, n1, D1⟩, ⟨A2, n2, D2⟩, t4, ⟨A3, n3, D3⟩⟩ 28).next b6)
  have P5 := Lib.hid ((T4.out.next b5).next b6)
  have V5 := Lib.hid ((V4.out.next b5).next b6)
  have D5 : Hid (Ls.Box3 ((w4.alloc (.cells #[.slice A1 n1 D1, .slice A2 n2 D2, .slice (t4 0).a (t4 0).n (t4 0).c, .slice (t4 1).a (t4 1).n (t4 1).c, .slice (t4 2).a (t4 2).n (t4 2).c, .slice A3 n3 D3] 28)).alloc (.cells #[.slice (v 0).a (v 0).n (v 0).c, .slice (v 1).a (v 1).n (v 1).c, .slice (v 2).a (v 2).n (v 2).c] 25)) (w4.heap.size + 1) v) := Lib.hid (by have := Ls.Box3.new (w4.alloc (.cells #[.slice A1 n1 D1, .slice A2 n2 D2, .slice (t4 0).a (t4 0).n (t4 0).c, .slice (t4 1).a (t4 1).n (t4 1).c, .slice (t4 2).a (t4 2).n (t4 2).c, .slice A3 n3 D3] 28)) v 25; rwa [World.size_alloc] at this)
  clear b5 b6 L4 T4 V4
  have k1 := K5.out.c1
  have kl := K5.out.lt
  dsimp only at k1
  go_wp2_with fail
  obtain ⟨W5, hW5⟩ : ∃ W5, W5 = (w4.alloc (.cells #[.slice A1 n1 D1, .slice A2 n2 D2, .slice (t4 0).a (t4 0).n (t4 0).c, .slice (t4 1).a (t4 1).n (t4 1).c, .slice (t4 2).a (t4 2).n (t4 2).c, .slice A3 n3 D3] 28)).alloc (.cells #[.slice (v 0).a (v 0).n (v 0).c, .slice (v 1).a (v 1).n (v 1).c, .slice (v 2).a (v 2).n (v 2).c] 25) := ⟨_, rfl⟩
  rw [← hW5] at L5 K5 P5 V5 D5 k1 kl ⊢
  clear hW5
  refine (HO.out W5).mono ?_
  rintro e9 w5 ⟨rfl, rfl⟩
  go_wp2_with fail
  refine (Cl.rbegins_any W5.heap.size A2 n2 D2 d1.f a W5 (by have := HPN.out; omega) P5.out.pages (Nat.le_refl _)).mono ?_
  rw [HBG.out]
  rintro e9 w6 ⟨rfl, hb6⟩
  have L6 := Lib.hid (L5.out.next hb6)
  have K6 := Lib.hid (K5.out.next hb6)
  have P6 := Lib.hid (P5.out.next hb6)
  have V6 := Lib.hid (V5.out.next hb6)
  have D6 := Lib.hid (D5.out.next hb6)
  clear hb6 L5 K5 P5 V5 D5 k1 kl
  go_wp2_with fail
  refine (HWD.out w6).mono ?_
  rintro e9 w7 ⟨rfl, rfl⟩
  have pk := L6.out.cb.cell 1 (by decide)
  have pl := L6.out.cb.lt
  have hun : (u 1).n = m + 1 := by have := L6.out.l3.len 1 (by decide); have := HG.out; omega
  obtain ⟨bb, off, ea, hbl, hc⟩ := (L6.out.l3 1 (by decide)).1.2 (by omega)
  have c1 := hc m (by omega)
  rw [HA.out] at c1
  rw [hun, ea] at pk
  have rk := D6.out.cell 1 (by decide)
  have rl := D6.out.lt
  have hvn : (v 1).n = m := by have := V6.out.len 1 (by decide); have := HG1.out; omega
  rw [hvn] at rk
  have q2 := L6.out.hb.c2
  have q3 := L6.out.hb.c3
  have q4 := L6.out.hb.c4
  have ql := L6.out.hb.lt
  have k2 := K6.out.c2
  have k3 := K6.out.c3
  have k4 := K6.out.c4
  have kl := K6.out.lt
  dsimp only at k2 k3 k4
  have da : (a == a) = true := by simp
  clear hun hvn hc ea
  go_wp2_with fail
  refine (Ls.same_any w6.heap.size w6.heap.size t4 s.u d1.F d.F w6 P6.out.free (Nat.le_refl _) L6.out.hp.free (Nat.le_refl _) (fun j hj => by have h1 := P6.out.free.len j hj; have h2 := HUN.out j hj; rw [HFF.out] at h1; dsimp only at h1; omega) (fun j hj => by have := L6.out.hp.free.len j hj; have := HUN.out j hj; omega)).mono ?_
  rw [decide_eq_true (show Ls.sameUp d1.F d.F 3 from fun _ _ => by rw [HFF.out])]
  rintro e9 w8 ⟨rfl, hb8⟩
  have L8 := Lib.hid (L6.out.next hb8)
  clear hb8 L6 K6 P6 V6 D6
  go_wp2
  go_ret
  exact ⟨rfl, L8.out.bel⟩
set_option maxHeartbeats 1000000 in
theorem core_empty2 (a : Int) (w1 p1 c1 : Nat) (d1 : Hd_) (G1 : Nat → List Int) (hc1 : ∀ W, Lw w W s d u G → Calls Tryz.prog 20 #[(.agg #[.slice s.w.a s.w.n s.w.c, .slice s.p.a s.p.n s.p.c, .slice (s.u 0).a (s.u 0).n (s.u 0).c, .slice (s.u 1).a (s.u 1).n (s.u 1).c, .slice (s.u 2).a (s.u 2).n (s.u 2).c, .slice s.c.a s.c.n s.c.c]), (.agg #[.slice (u 0).a (u 0).n (u 0).c, .slice (u 1).a (u 1).n (u 1).c, .slice (u 2).a (u 2).n (u 2).c]), .agg #[.bool true, .bool false, .bool false, .int .i64 N, .int .i64 0, .int .i64 0]] W (TkO W a 0 w1 p1 c1 d1 G1)) (hf : fewL s (fun _ => u) 1 = true) (hpn : p1 ≤ 9) (hN : Cl.classErr N = 0) (hcl : Cl.classOf N = 2) (hbg : Cl.bg d1.f p1 a = 8) (hG : (G 2).length = 0) (hG1 : (G1 2).length ≤ 1) (hz : Cl.Sz w) (hp : Hp w w.heap.size s d) (l3 : Ls.L3 w w.heap.size u G) : Calls Tryz.prog 7 #[(.agg #[.slice s.w.a s.w.n s.w.c, .slice s.p.a s.p.n s.p.c, .slice (s.u 0).a (s.u 0).n (s.u 0).c, .slice (s.u 1).a (s.u 1).n (s.u 1).c, .slice (s.u 2).a (s.u 2).n (s.u 2).c, .slice s.c.a s.c.n s.c.c]), (.agg #[.slice (u 0).a (u 0).n (u 0).c, .slice (u 1).a (u 1).n (u 1).c, .slice (u 2).a (u 2).n (u 2).c]), .int .i64 N] w fun e w' => e = .returned (.bool true) ∧ Below w.heap.size w w' := by
  have HZ := Lib.hid hz
  have hz0 := hz.pos
  have HP := Lib.hid hp
  have HL := Lib.hid l3
  have HBG := Lib.hid hbg
  have HO : Hid (∀ W, Calls Tryz.prog 29 #[.int .i64 N] W fun e w' => e = .returned (.tuple #[.int .i64 2, .int .i64 0]) ∧ W = w') := Lib.hid (fun W => by have := Cl.rof_of N W; rwa [hN, hcl] at this)
  have HWD : Hid (∀ W, Calls Tryz.prog 32 #[.int .i64 2] W fun e w' => e = .returned (.int .i64 8) ∧ W = w') := Lib.hid (fun W => Cl.rwords_is (show Cl.wordsOf 2 = 8 by decide) W)
  have HPN := Lib.hid hpn
  have HG := Lib.hid hG
  have HG1 := Lib.hid hG1
  clear hbg hpn hN hcl hG hG1
  have HF := Lib.hid hf
  have C1 := Lib.hid hc1
  clear hz hp l3 hf hc1
  go_enter Tryz.func7, Tryz.ntmps7
  go_wp2_with fail
  obtain ⟨W1, hW1⟩ : ∃ W1, W1 = (w.alloc (.cells #[.slice s.w.a s.w.n s.w.c, .slice s.p.a s.p.n s.p.c, .slice (s.u 0).a (s.u 0).n (s.u 0).c, .slice (s.u 1).a (s.u 1).n (s.u 1).c, .slice (s.u 2).a (s.u 2).n (s.u 2).c, .slice s.c.a s.c.n s.c.c] 28)).alloc (.cells #[.slice (u 0).a (u 0).n (u 0).c, .slice (u 1).a (u 1).n (u 1).c, .slice (u 2).a (u 2).n (u 2).c] 25) := ⟨_, rfl⟩
  have L1 := Lib.hid (lw_start HP.out HL.out hW1)
  rw [← hW1]
  clear hW1
  refine (Al.awake_any W1 (HZ.out.over L1.out.bel hz0)).mono ?_
  rintro e9 w1 ⟨rfl, hb1⟩
  have L2 := Lib.hid (L1.out.next hb1)
  clear hb1 L1
  have q0 := L2.out.hb.c0
  have q1 := L2.out.hb.c1
  have q2 := L2.out.hb.c2
  have q3 := L2.out.hb.c3
  have q4 := L2.out.hb.c4
  have q5 := L2.out.hb.c5
  have ql := L2.out.hb.lt
  have p0 := L2.out.cb.cell 0 (by decide)
  have p1 := L2.out.cb.cell 1 (by decide)
  have p2 := L2.out.cb.cell 2 (by decide)
  have pl := L2.out.cb.lt
  go_wp2_with fail
  have b2 := (Below.refl w1.heap.size w1).alloc (Nat.le_refl _) (.cells #[.slice (u 0).a (u 0).n (u 0).c, .slice (u 1).a (u 1).n (u 1).c, .slice (u 2).a (u 2).n (u 2).c] 25)
  refine (few8_any s (some ⟨w1.heap.size, 0, none⟩) 1 1 (fun _ => u) (fun _ => G) (w1.alloc (.cells #[.slice (u 0).a (u 0).n (u 0).c, .slice (u 1).a (u 1).n (u 1).c, .slice (u 2).a (u 2).n (u 2).c] 25)) (by omega) (lrow_of (own_one w1 u) (by simp) (fun _ _ => L2.out.l3.next b2))).mono ?_
  rw [HF.out]
  rintro e9 w2 ⟨rfl, hb2⟩
  have L3 := Lib.hid ((L2.out.next b2).next hb2)
  clear b2 hb2 L2
  clear q0 q1 q2 q3 q4 q5 ql p0 p1 p2 pl
  have q0 := L3.out.hb.c0
  have q1 := L3.out.hb.c1
  have q2 := L3.out.hb.c2
  have q3 := L3.out.hb.c3
  have q4 := L3.out.hb.c4
  have q5 := L3.out.hb.c5
  have ql := L3.out.hb.lt
  have p0 := L3.out.cb.cell 0 (by decide)
  have p1 := L3.out.cb.cell 1 (by decide)
  have p2 := L3.out.cb.cell 2 (by decide)
  have pl := L3.out.cb.lt
  go_wp2_with fail
  refine (C1.out w2 L3.out).mono ?_
  rintro e9 w4 ⟨⟨⟨A1, n1, D1⟩, ⟨A2, n2, D2⟩, t4, ⟨A3, n3, D3⟩⟩, v, rfl, ht, hv4, ⟨hn1, hn2, hn3⟩, hb4⟩
  obtain rfl : n1 = _ := hn1
  obtain rfl : n2 = _ := hn2
  obtain rfl : n3 = _ := hn3
  dsimp only
  have L4 := Lib.hid (L3.out.next hb4)
  have T4 := Lib.hid ht
  have V4 := Lib.hid hv4
  clear ht hv4 hb4 L3
  clear q0 q1 q2 q3 q4 q5 ql p0 p1 p2 pl
  have b5 := (Below.refl w4.heap.size w4).alloc (Nat.le_refl _) (.cells #[.slice A1 n1 D1, .slice A2 n2 D2, .slice (t4 0).a (t4 0).n (t4 0).c, .slice (t4 1).a (t4 1).n (t4 1).c, .slice (t4 2).a (t4 2).n (t4 2).c, .slice A3 n3 D3] 28)
  have b6 := (Below.refl (w4.alloc (.cells #[.slice A1 n1 D1, .slice A2 n2 D2, .slice (t4 0).a (t4 0).n (t4 0).c, .slice (t4 1).a (t4 1).n (t4 1).c, .slice (t4 2).a (t4 2).n (t4 2).c, .slice A3 n3 D3] 28)).heap.size (w4.alloc (.cells #[.slice A1 n1 D1, .slice A2 n2 D2, .slice (t4 0).a (t4 0).n (t4 0).c, .slice (t4 1).a (t4 1).n (t4 1).c, .slice (t4 2).a (t4 2).n (t4 2).c, .slice A3 n3 D3] 28))).alloc (Nat.le_refl _) (.cells #[.slice (v 0).a (v 0).n (v 0).c, .slice (v 1).a (v 1).n (v 1).c, .slice (v 2).a (v 2).n (v 2).c] 25)
  have L5 := Lib.hid ((L4.out.next b5).next b6)
  have K5 := Lib.hid ((HBox.new w4 ⟨⟨A1, n1, D1⟩, ⟨A2, n2, D2⟩, t4, ⟨A3, n3, D3⟩⟩ 28).next b6)
  have P5 := Lib.hid ((T4.out.next b5).next b6)
  have V5 := Lib.hid ((V4.out.next b5).next b6)
  have D5 : Hid (Ls.Box3 ((w4.alloc (.cells #[.slice A1 n1 D1, .slice A2 n2 D2, .slice (t4 0).a (t4 0).n (t4 0).c, .slice (t4 1).a (t4 1).n (t4 1).c, .slice (t4 2).a (t4 2).n (t4 2).c, .slice A3 n3 D3] 28)).alloc (.cells #[.slice (v 0).a (v 0).n (v 0).c, .slice (v 1).a (v 1).n (v 1).c, .slice (v 2).a (v 2).n (v 2).c] 25)) (w4.heap.size + 1) v) := Lib.hid (by have := Ls.Box3.new (w4.alloc (.cells #[.slice A1 n1 D1, .slice A2 n2 D2, .slice (t4 0).a (t4 0).n (t4 0).c, .slice (t4 1).a (t4 1).n (t4 1).c, .slice (t4 2).a (t4 2).n (t4 2).c, .slice A3 n3 D3] 28)) v 25; rwa [World.size_alloc] at this)
  clear b5 b6 L4 T4 V4
  have k1 := K5.out.c1
  have kl := K5.out.lt
  dsimp only at k1
  go_wp2_with fail
  obtain ⟨W5, hW5⟩ : ∃ W5, W5 = (w4.alloc (.cells #[.slice A1 n1 D1, .slice A2 n2 D2, .slice (t4 0).a (t4 0).n (t4 0).c, .slice (t4 1).a (t4 1).n (t4 1).c, .slice (t4 2).a (t4 2).n (t4 2).c, .slice A3 n3 D3] 28)).alloc (.cells #[.slice (v 0).a (v 0).n (v 0).c, .slice (v 1).a (v 1).n (v 1).c, .slice (v 2).a (v 2).n (v 2).c] 25) := ⟨_, rfl⟩
  rw [← hW5] at L5 K5 P5 V5 D5 k1 kl ⊢
  clear hW5
  refine (HO.out W5).mono ?_
  rintro e9 w5 ⟨rfl, rfl⟩
  go_wp2_with fail
  refine (Cl.rbegins_any W5.heap.size A2 n2 D2 d1.f a W5 (by have := HPN.out; omega) P5.out.pages (Nat.le_refl _)).mono ?_
  rw [HBG.out]
  rintro e9 w6 ⟨rfl, hb6⟩
  have L6 := Lib.hid (L5.out.next hb6)
  have K6 := Lib.hid (K5.out.next hb6)
  have P6 := Lib.hid (P5.out.next hb6)
  have V6 := Lib.hid (V5.out.next hb6)
  have D6 := Lib.hid (D5.out.next hb6)
  clear hb6 L5 K5 P5 V5 D5 k1 kl
  go_wp2_with fail
  refine (HWD.out w6).mono ?_
  rintro e9 w7 ⟨rfl, rfl⟩
  have pk := L6.out.cb.cell 2 (by decide)
  have pl := L6.out.cb.lt
  rw [show (u 2).n = 0 by have := L6.out.l3.len 2 (by decide); have := HG.out; omega] at pk
  have rk := D6.out.cell 2 (by decide)
  have rl := D6.out.lt
  have dk : decide (((v 2).n : Int) ≤ 1) = true := by simp; have := V6.out.len 2 (by decide); have := HG1.out; omega
  go_wp2
  go_ret
  exact ⟨rfl, L6.out.bel⟩
set_option maxHeartbeats 1000000 in
theorem core_own2 (a : Int) (m : Nat) (w1 p1 c1 : Nat) (d1 : Hd_) (G1 : Nat → List Int) (hc1 : ∀ W, Lw w W s d u G → Calls Tryz.prog 20 #[(.agg #[.slice s.w.a s.w.n s.w.c, .slice s.p.a s.p.n s.p.c, .slice (s.u 0).a (s.u 0).n (s.u 0).c, .slice (s.u 1).a (s.u 1).n (s.u 1).c, .slice (s.u 2).a (s.u 2).n (s.u 2).c, .slice s.c.a s.c.n s.c.c]), (.agg #[.slice (u 0).a (u 0).n (u 0).c, .slice (u 1).a (u 1).n (u 1).c, .slice (u 2).a (u 2).n (u 2).c]), .agg #[.bool true, .bool false, .bool false, .int .i64 N, .int .i64 0, .int .i64 0]] W (TkO W a 0 w1 p1 c1 d1 G1)) (hf : fewL s (fun _ => u) 1 = true) (hpn : p1 ≤ 9) (hN : Cl.classErr N = 0) (hcl : Cl.classOf N = 2) (hbg : Cl.bg d1.f p1 a = 8) (hG : (G 2).length = m + 1) (hG1 : (G1 2).length = m) (ha : (G 2).getD m 0 = a) (hF : d1.F = d.F) (hm : m ≤ 1000) (hun : ∀ j, j < 3 → (d.F j).length ≤ 1000) (hz : Cl.Sz w) (hp : Hp w w.heap.size s d) (l3 : Ls.L3 w w.heap.size u G) : Calls Tryz.prog 7 #[(.agg #[.slice s.w.a s.w.n s.w.c, .slice s.p.a s.p.n s.p.c, .slice (s.u 0).a (s.u 0).n (s.u 0).c, .slice (s.u 1).a (s.u 1).n (s.u 1).c, .slice (s.u 2).a (s.u 2).n (s.u 2).c, .slice s.c.a s.c.n s.c.c]), (.agg #[.slice (u 0).a (u 0).n (u 0).c, .slice (u 1).a (u 1).n (u 1).c, .slice (u 2).a (u 2).n (u 2).c]), .int .i64 N] w fun e w' => e = .returned (.bool true) ∧ Below w.heap.size w w' := by
  have HZ := Lib.hid hz
  have hz0 := hz.pos
  have HP := Lib.hid hp
  have HL := Lib.hid l3
  have HBG := Lib.hid hbg
  have HO : Hid (∀ W, Calls Tryz.prog 29 #[.int .i64 N] W fun e w' => e = .returned (.tuple #[.int .i64 2, .int .i64 0]) ∧ W = w') := Lib.hid (fun W => by have := Cl.rof_of N W; rwa [hN, hcl] at this)
  have HWD : Hid (∀ W, Calls Tryz.prog 32 #[.int .i64 2] W fun e w' => e = .returned (.int .i64 8) ∧ W = w') := Lib.hid (fun W => Cl.rwords_is (show Cl.wordsOf 2 = 8 by decide) W)
  have HPN := Lib.hid hpn
  have HG := Lib.hid hG
  have HG1 := Lib.hid hG1
  have HA := Lib.hid ha
  have HFF := Lib.hid hF
  have HUN := Lib.hid hun
  clear hbg hpn hN hcl hG hG1 ha hF hun
  have HF := Lib.hid hf
  have C1 := Lib.hid hc1
  clear hz hp l3 hf hc1
  go_enter Tryz.func7, Tryz.ntmps7
  go_wp2_with fail
  obtain ⟨W1, hW1⟩ : ∃ W1, W1 = (w.alloc (.cells #[.slice s.w.a s.w.n s.w.c, .slice s.p.a s.p.n s.p.c, .slice (s.u 0).a (s.u 0).n (s.u 0).c, .slice (s.u 1).a (s.u 1).n (s.u 1).c, .slice (s.u 2).a (s.u 2).n (s.u 2).c, .slice s.c.a s.c.n s.c.c] 28)).alloc (.cells #[.slice (u 0).a (u 0).n (u 0).c, .slice (u 1).a (u 1).n (u 1).c, .slice (u 2).a (u 2).n (u 2).c] 25) := ⟨_, rfl⟩
  have L1 := Lib.hid (lw_start HP.out HL.out hW1)
  rw [← hW1]
  clear hW1
  refine (Al.awake_any W1 (HZ.out.over L1.out.bel hz0)).mono ?_
  rintro e9 w1 ⟨rfl, hb1⟩
  have L2 := Lib.hid (L1.out.next hb1)
  clear hb1 L1
  have q0 := L2.out.hb.c0
  have q1 := L2.out.hb.c1
  have q2 := L2.out.hb.c2
  have q3 := L2.out.hb.c3
  have q4 := L2.out.hb.c4
  have q5 := L2.out.hb.c5
  have ql := L2.out.hb.lt
  have p0 := L2.out.cb.cell 0 (by decide)
  have p1 := L2.out.cb.cell 1 (by decide)
  have p2 := L2.out.cb.cell 2 (by decide)
  have pl := L2.out.cb.lt
  go_wp2_with fail
  have b2 := (Below.refl w1.heap.size w1).alloc (Nat.le_refl _) (.cells #[.slice (u 0).a (u 0).n (u 0).c, .slice (u 1).a (u 1).n (u 1).c, .slice (u 2).a (u 2).n (u 2).c] 25)
  refine (few8_any s (some ⟨w1.heap.size, 0, none⟩) 1 1 (fun _ => u) (fun _ => G) (w1.alloc (.cells #[.slice (u 0).a (u 0).n (u 0).c, .slice (u 1).a (u 1).n (u 1).c, .slice (u 2).a (u 2).n (u 2).c] 25)) (by omega) (lrow_of (own_one w1 u) (by simp) (fun _ _ => L2.out.l3.next b2))).mono ?_
  rw [HF.out]
  rintro e9 w2 ⟨rfl, hb2⟩
  have L3 := Lib.hid ((L2.out.next b2).next hb2)
  clear b2 hb2 L2
  clear q0 q1 q2 q3 q4 q5 ql p0 p1 p2 pl
  have q0 := L3.out.hb.c0
  have q1 := L3.out.hb.c1
  have q2 := L3.out.hb.c2
  have q3 := L3.out.hb.c3
  have q4 := L3.out.hb.c4
  have q5 := L3.out.hb.c5
  have ql := L3.out.hb.lt
  have p0 := L3.out.cb.cell 0 (by decide)
  have p1 := L3.out.cb.cell 1 (by decide)
  have p2 := L3.out.cb.cell 2 (by decide)
  have pl := L3.out.cb.lt
  go_wp2_with fail
  refine (C1.out w2 L3.out).mono ?_
  rintro e9 w4 ⟨⟨⟨A1, n1, D1⟩, ⟨A2, n2, D2⟩, t4, ⟨A3, n3, D3⟩⟩, v, rfl, ht, hv4, ⟨hn1, hn2, hn3⟩, hb4⟩
  obtain rfl : n1 = _ := hn1
  obtain rfl : n2 = _ := hn2
  obtain rfl : n3 = _ := hn3
  dsimp only
  have L4 := Lib.hid (L3.out.next hb4)
  have T4 := Lib.hid ht
  have V4 := Lib.hid hv4
  clear ht hv4 hb4 L3
  clear q0 q1 q2 q3 q4 q5 ql p0 p1 p2 pl
  have b5 := (Below.refl w4.heap.size w4).alloc (Nat.le_refl _) (.cells #[.slice A1 n1 D1, .slice A2 n2 D2, .slice (t4 0).a (t4 0).n (t4 0).c, .slice (t4 1).a (t4 1).n (t4 1).c, .slice (t4 2).a (t4 2).n (t4 2).c, .slice A3 n3 D3] 28)
  have b6 := (Below.refl (w4.alloc (.cells #[.slice A1 n1 D1, .slice A2 n2 D2, .slice (t4 0).a (t4 0).n (t4 0).c, .slice (t4 1).a (t4 1).n (t4 1).c, .slice (t4 2).a (t4 2).n (t4 2).c, .slice A3 n3 D3] 28)).heap.size (w4.alloc (.cells #[.slice A1 n1 D1, .slice A2 n2 D2, .slice (t4 0).a (t4 0).n (t4 0).c, .slice (t4 1).a (t4 1).n (t4 1).c, .slice (t4 2).a (t4 2).n (t4 2).c, .slice A3 n3 D3] 28))).alloc (Nat.le_refl _) (.cells #[.slice (v 0).a (v 0).n (v 0).c, .slice (v 1).a (v 1).n (v 1).c, .slice (v 2).a (v 2).n (v 2).c] 25)
  have L5 := Lib.hid ((L4.out.next b5).next b6)
  have K5 := Lib.hid ((HBox.new w4 ⟨⟨A1, n1, D1⟩, ⟨A2, n2, D2⟩, t4, ⟨A3, n3, D3⟩⟩ 28).next b6)
  have P5 := Lib.hid ((T4.out.next b5).next b6)
  have V5 := Lib.hid ((V4.out.next b5).next b6)
  have D5 : Hid (Ls.Box3 ((w4.alloc (.cells #[.slice A1 n1 D1, .slice A2 n2 D2, .slice (t4 0).a (t4 0).n (t4 0).c, .slice (t4 1).a (t4 1).n (t4 1).c, .slice (t4 2).a (t4 2).n (t4 2).c, .slice A3 n3 D3] 28)).alloc (.cells #[.slice (v 0).a (v 0).n (v 0).c, .slice (v 1).a (v 1).n (v 1).c, .slice (v 2).a (v 2).n (v 2).c] 25)) (w4.heap.size + 1) v) := Lib.hid (by have := Ls.Box3.new (w4.alloc (.cells #[.slice A1 n1 D1, .slice A2 n2 D2, .slice (t4 0).a (t4 0).n (t4 0).c, .slice (t4 1).a (t4 1).n (t4 1).c, .slice (t4 2).a (t4 2).n (t4 2).c, .slice A3 n3 D3] 28)) v 25; rwa [World.size_alloc] at this)
  clear b5 b6 L4 T4 V4
  have k1 := K5.out.c1
  have kl := K5.out.lt
  dsimp only at k1
  go_wp2_with fail
  obtain ⟨W5, hW5⟩ : ∃ W5, W5 = (w4.alloc (.cells #[.slice A1 n1 D1, .slice A2 n2 D2, .slice (t4 0).a (t4 0).n (t4 0).c, .slice (t4 1).a (t4 1).n (t4 1).c, .slice (t4 2).a (t4 2).n (t4 2).c, .slice A3 n3 D3] 28)).alloc (.cells #[.slice (v 0).a (v 0).n (v 0).c, .slice (v 1).a (v 1).n (v 1).c, .slice (v 2).a (v 2).n (v 2).c] 25) := ⟨_, rfl⟩
  rw [← hW5] at L5 K5 P5 V5 D5 k1 kl ⊢
  clear hW5
  refine (HO.out W5).mono ?_
  rintro e9 w5 ⟨rfl, rfl⟩
  go_wp2_with fail
  refine (Cl.rbegins_any W5.heap.size A2 n2 D2 d1.f a W5 (by have := HPN.out; omega) P5.out.pages (Nat.le_refl _)).mono ?_
  rw [HBG.out]
  rintro e9 w6 ⟨rfl, hb6⟩
  have L6 := Lib.hid (L5.out.next hb6)
  have K6 := Lib.hid (K5.out.next hb6)
  have P6 := Lib.hid (P5.out.next hb6)
  have V6 := Lib.hid (V5.out.next hb6)
  have D6 := Lib.hid (D5.out.next hb6)
  clear hb6 L5 K5 P5 V5 D5 k1 kl
  go_wp2_with fail
  refine (HWD.out w6).mono ?_
  rintro e9 w7 ⟨rfl, rfl⟩
  have pk := L6.out.cb.cell 2 (by decide)
  have pl := L6.out.cb.lt
  have hun : (u 2).n = m + 1 := by have := L6.out.l3.len 2 (by decide); have := HG.out; omega
  obtain ⟨bb, off, ea, hbl, hc⟩ := (L6.out.l3 2 (by decide)).1.2 (by omega)
  have c1 := hc m (by omega)
  rw [HA.out] at c1
  rw [hun, ea] at pk
  have rk := D6.out.cell 2 (by decide)
  have rl := D6.out.lt
  have hvn : (v 2).n = m := by have := V6.out.len 2 (by decide); have := HG1.out; omega
  rw [hvn] at rk
  have q2 := L6.out.hb.c2
  have q3 := L6.out.hb.c3
  have q4 := L6.out.hb.c4
  have ql := L6.out.hb.lt
  have k2 := K6.out.c2
  have k3 := K6.out.c3
  have k4 := K6.out.c4
  have kl := K6.out.lt
  dsimp only at k2 k3 k4
  have da : (a == a) = true := by simp
  clear hun hvn hc ea
  go_wp2_with fail
  refine (Ls.same_any w6.heap.size w6.heap.size t4 s.u d1.F d.F w6 P6.out.free (Nat.le_refl _) L6.out.hp.free (Nat.le_refl _) (fun j hj => by have h1 := P6.out.free.len j hj; have h2 := HUN.out j hj; rw [HFF.out] at h1; dsimp only at h1; omega) (fun j hj => by have := L6.out.hp.free.len j hj; have := HUN.out j hj; omega)).mono ?_
  rw [decide_eq_true (show Ls.sameUp d1.F d.F 3 from fun _ _ => by rw [HFF.out])]
  rintro e9 w8 ⟨rfl, hb8⟩
  have L8 := Lib.hid (L6.out.next hb8)
  clear hb8 L6 K6 P6 V6 D6
  go_wp2
  go_ret
  exact ⟨rfl, L8.out.bel⟩
end
theorem bg_fit {n : Nat} {d : Hd_} {a : Int} (h : ¬ Cl.bg d.f n a = 0) : (∀ c, pgAt d a = (1, c) → Cl.bg d.f n a = Cl.wordsOf c) ∧ (∀ m, pgAt d a = (2, m) → Cl.bg d.f n a = 16 * m) := by
  obtain ⟨_, _, _, h4⟩ := bg_page h
  have e : Cl.bg d.f n a = Cl.pg (pgAt d a) a := h4
  rw [e] at h ⊢
  refine ⟨fun c hc => ?_, fun m hm => ?_⟩
  · rw [hc] at h ⊢
    unfold Cl.pg at h ⊢
    simp only at h ⊢
    rw [if_neg (by omega)] at h ⊢
    split at h
    · next h1 => rw [if_pos h1]
    · exact absurd rfl h
  · rw [hm] at h ⊢
    unfold Cl.pg at h ⊢
    simp only at h ⊢
    split at h
    · next h1 => rw [if_pos h1]
    · rw [if_neg (by omega)] at h
      exact absurd rfl h
theorem fill_one {F G : Nat → List Int} {k : Nat} (h : (G k).length = 0) : (fillG F G k k).length ≤ 2 := by
  unfold fillG
  rw [Ls.upd_same, List.length_append, List.length_reverse, List.length_drop]
  omega
theorem pop_len (G : Nat → List Int) (k : Nat) : (popG G k k).length = (G k).length - 1 := by
  unfold popG
  rw [Ls.upd_same, List.length_take]
  omega
theorem takeO_least {n : Nat} {N : Int} {d : Hd_} {G : Nat → List Int} {q : Hd_ × (Nat → List Int) × Int} (h : takeO d n G N = some q) : (Cl.classOf N = 3 → q.2.1 = G) ∧
    (∀ k : Nat, Cl.classOf N = (k : Int) → k < 3 → (0 < (G k).length → q.1 = d ∧ (q.2.1 k).length = (G k).length - 1 ∧ (G k).getD ((G k).length - 1) 0 = q.2.2) ∧ ((G k).length = 0 → (q.2.1 k).length ≤ 1)) := by
  unfold takeO at h
  split at h
  · next h3 =>
    split at h
    · cases h; exact ⟨fun _ => rfl, fun k hk hlt => by omega⟩
    · cases h
  · next h3 =>
    refine ⟨fun h' => absurd h' h3, fun k hk hlt => ?_⟩
    rw [hk, Int.toNat_natCast] at h
    split at h
    · next q' hq =>
      cases h
      unfold smallO at hq
      split at hq
      · next h1 => cases hq; exact ⟨fun _ => ⟨rfl, pop_len G k, rfl⟩, fun h0 => by omega⟩
      · next h1 =>
        refine ⟨fun h0 => absurd h0 h1, fun h0 => ?_⟩
        have key : (q'.2 k).length ≤ 2 := by
          split at hq
          · cases hq; exact fill_one h0
          · split at hq
            · cases hq; exact fill_one h0
            · cases hq
        show (popG q'.2 k k).length ≤ 1
        rw [pop_len]
        omega
    · cases h
theorem walk (s : Hs) (d : Hd_) (u : Nat → Ls.Sl) (G : Nat → List Int) (N : Int) (w : World) (hz : Cl.Sz w) (hp : Hp w w.heap.size s d) (hv : Fit64 d.ws) (_ : s.p.n ≤ s.p.c) (l3 : Ls.L3 w w.heap.size u G) (_ : (Lit.int .i64 N).wf = true) :
    Calls Tryz.prog 7 #[(.agg #[.slice s.w.a s.w.n s.w.c, .slice s.p.a s.p.n s.p.c, .slice (s.u 0).a (s.u 0).n (s.u 0).c, .slice (s.u 1).a (s.u 1).n (s.u 1).c, .slice (s.u 2).a (s.u 2).n (s.u 2).c, .slice s.c.a s.c.n s.c.c]), (.agg #[.slice (u 0).a (u 0).n (u 0).c, .slice (u 1).a (u 1).n (u 1).c, .slice (u 2).a (u 2).n (u 2).c]), .int .i64 N] w fun e w' => e = .returned (.bool true) ∧ Below w.heap.size w w' := by
  cases hf : fewL s (fun _ => u) 1
  · exact walk_few s d u G N w hf hz hp l3
  · have hz0 := hz.pos
    have hl := lite_few hf hp l3 hv
    have hfT := hl.fineT (by decide) hp.free.len l3.len
    have c1 := take_tko hz hz0 hfT true false false N 0 0
    rcases tkR_split s d G true false false N 0 0 with ⟨h0, h1, _⟩ | ⟨q, hm, hx, _, hN, hq, e1⟩
    · exact core_err s d u G N w _ _ _ _ _ _ _ c1 hf h0 hz hp l3
    · rw [e1] at c1
      have hok0 : Okay s.p.n d G 0 (fun _ => G) := (okay_iff.1 (by rw [ahead_one]; exact hm)).2
      have T0 := takeO_some (r := 0) (R := fun _ => G) hq
      have hb := bg_fit (T0.cell hok0)
      have hls := takeO_least hq
      have hpn : s.p.n ≤ 9 := hl.p
      rcases T0.fits hok0 with ⟨f1, f2⟩ | ⟨f1, f2⟩
      · have hcs := class_small f2
        have hbg := hb.1 _ f1
        have key : ∀ k : Nat, k < 3 → Cl.classOf N = (k : Int) → (0 < (G k).length → q.1 = d ∧ (q.2.1 k).length = (G k).length - 1 ∧ (G k).getD ((G k).length - 1) 0 = q.2.2) ∧ ((G k).length = 0 → (q.2.1 k).length ≤ 1) := fun k hk hc => hls.2 k hc hk
        rcases (show Cl.classOf N = 0 ∨ Cl.classOf N = 1 ∨ Cl.classOf N = 2 by omega) with hc | hc | hc
        · have hk := key 0 (by decide) hc
          rw [hc] at hbg
          by_cases hg : 0 < (G 0).length
          · obtain ⟨k1, k2, k3⟩ := hk.1 hg
            exact core_own0 s d u G N w q.2.2 ((G 0).length - 1) s.w.n s.p.n s.c.n _ q.2.1 c1 hf hpn hN hc hbg (by omega) k2 k3 (by rw [k1]; rfl) (by have := hl.G 0 (by decide); omega) (fun j hj => by have := hl.F j hj; omega) hz hp l3
          · exact core_empty0 s d u G N w q.2.2 s.w.n s.p.n s.c.n _ q.2.1 c1 hf hpn hN hc hbg (by omega) (hk.2 (by omega)) hz hp l3
        · have hk := key 1 (by decide) hc
          rw [hc] at hbg
          by_cases hg : 0 < (G 1).length
          · obtain ⟨k1, k2, k3⟩ := hk.1 hg
            exact core_own1 s d u G N w q.2.2 ((G 1).length - 1) s.w.n s.p.n s.c.n _ q.2.1 c1 hf hpn hN hc hbg (by omega) k2 k3 (by rw [k1]; rfl) (by have := hl.G 1 (by decide); omega) (fun j hj => by have := hl.F j hj; omega) hz hp l3
          · exact core_empty1 s d u G N w q.2.2 s.w.n s.p.n s.c.n _ q.2.1 c1 hf hpn hN hc hbg (by omega) (hk.2 (by omega)) hz hp l3
        · have hk := key 2 (by decide) hc
          rw [hc] at hbg
          by_cases hg : 0 < (G 2).length
          · obtain ⟨k1, k2, k3⟩ := hk.1 hg
            exact core_own2 s d u G N w q.2.2 ((G 2).length - 1) s.w.n s.p.n s.c.n _ q.2.1 c1 hf hpn hN hc hbg (by omega) k2 k3 (by rw [k1]; rfl) (by have := hl.G 2 (by decide); omega) (fun j hj => by have := hl.F j hj; omega) hz hp l3
          · exact core_empty2 s d u G N w q.2.2 s.w.n s.p.n s.c.n _ q.2.1 c1 hf hpn hN hc hbg (by omega) (hk.2 (by omega)) hz hp l3
      · have hcl := class_large hN f2
        rw [hls.1 f2] at c1
        exact core_large s d u G N w q.2.2 (Cl.runOf N) s.w.n s.p.n s.c.n _ c1 hf hpn hN f2 rfl hcl.2 hcl.1 (hb.2 _ f1) (fun j hj => by have := hl.G j hj; omega) hz hp l3
-- the frame (hpframe.py)
set_option maxRecDepth 100000 in
theorem lifted (os : Os) (started : os.Started) (H : Type) (enc : TypeId × Value → H) :
    ReturnsInHanded {} Tryz.checked os 7 .any (fun w args => (Rows.allocLeastSpec.pre enc Tryz.prog Tryz.f7 [] false w args ∧ laidMetH Tryz.prog laidSizes w) ∧ sizedMet enc Tryz.prog Tryz.f7 (OpenSpec.ofChange Rows.allocLeastSpec) false w args)
      (Rows.allocLeastSpec.post enc Tryz.prog Tryz.f7 false true false false) := by
  refine returnsInHanded_of_change_and (C := Tryz.checked) (X := fun w _ => laidMetH Tryz.prog laidSizes w) (fun _ _ _ hh h => h.of_heap hh) own started (by kernel_rfl) Tryz.func7
    (ChangeSpec.witness_shaped (enc := enc) (C := Tryz.checked) (os := os) (X := fun w _ => laidMetH Tryz.prog laidSizes w) false (World.doorLaid Tryz.prog 400 os) #[.agg #[.slice none 0 0, .slice none 0 0, .slice none 0 0, .slice none 0 0, .slice none 0 0, .slice none 0 0], .agg #[.slice none 0 0, .slice none 0 0, .slice none 0 0], .int .i64 0] 8 rfl (World.shaped_of_RefB (by kernel_rfl) (by kernel_rfl)) (by kernel_rfl) (by kernel_rfl) (by kernel_rfl) (door_met os _)) ?_
  intro W base args ds gs before hval0 hW _ _ hL _
  have hval : ∀ (j : Nat) t v, Tryz.f7.params[j]? = some t → args[j]? = some v → Value.okWide Tryz.prog W .any base t v := hval0
  have hW' := hW
  obtain ⟨p, q, hA0, hV, rfl, hfz, hnd⟩ := hW
  have hA : DataW.TrodAll enc Tryz.prog W 0 (fun _ => true) true Tryz.f7.params.toList args.toList ds p := hA0
  rw [Tryz.params7] at hA hval
  obtain ⟨v0, vs0, d0, ds0, p0, q0, hargs, rfl, rfl, h0, r0⟩ := trodAll_cons hA
  obtain ⟨v1, vs1, d1, ds1, p1, q1, rfl, rfl, rfl, h1, r1⟩ := trodAll_cons r0
  obtain ⟨v2, vs2, d2, ds2, p2, q2, rfl, rfl, rfl, h2, r2⟩ := trodAll_cons r1
  obtain ⟨rfl, rfl, rfl⟩ := trodAll_nil r2
  obtain rfl : args = #[v0, v1, v2] := by cases args; simp_all
  obtain ⟨rfl, rfl⟩ := trodVars_none hV
  have k0 := h0
  have lt0 : ∀ x ∈ p0, x.block < W.heap.size := by obtain ⟨m, hm⟩ := k0; exact DataW.trod_lt m _ _ _ hm
  obtain ⟨s0, z0, rfl, w0, f0, b0⟩ := heap_of8 (hval 0 28 v0 rfl rfl) h0
  have k1 := h1
  have lt1 : ∀ x ∈ p1, x.block < W.heap.size := by obtain ⟨m, hm⟩ := k1; exact DataW.trod_lt m _ _ _ hm
  obtain ⟨u1, z1, rfl, w1, b1⟩ := lists_of (hval 1 25 v1 rfl rfl) h1
  obtain ⟨a2, rfl, rfl, rfl, w2⟩ := open_int Tryz.underlying3 (hval 2 3 v2 rfl rfl) h2
  clear hA0 hval0
  refine (walk s0 z0 u1 z1 a2 W (of_laid hL) w0 f0 b0 w1 w2).mono fun e W' ⟨he, bel⟩ => ?_
  subst he
  exact ⟨_, rfl, _, _, _, [], _, [], hW', trodAll_mk1 (shut_bool Tryz.underlying4 _), (trodAll_cons_mk (Below.trod laidOut (by kernel_rfl) (of_decide_eq_true (by kernel_rfl)) k0 bel lt0) (trodAll_cons_mk (Below.trod laidOut (by kernel_rfl) (of_decide_eq_true (by kernel_rfl)) k1 bel lt1) (trodAll_cons_mk (shut_int Tryz.underlying3 w2) trodAll_mk0))), rfl, bel.frame _, fun h => by cases h⟩

theorem over : Rows.AllocLeastSaid :=
  OpenClaim.holds_of_wide 7 Tryz.f7 rfl rfl rfl rfl rfl rfl rfl ⟨rfl, rfl, rfl, rfl, rfl⟩ rfl rfl rfl rfl rfl (by kernel_rfl) Tryz.func7 (by kernel_rfl)
    (of_decide_eq_true (by kernel_rfl)) (by unfold Func.isWrapper; first | (rw [if_pos (by decide +kernel)]; kernel_rfl) | (rw [if_neg (by decide +kernel)]; exact ⟨rfl, rfl⟩))
    (fun os started H enc _ => lifted os started H enc)

/-- The statement: the card. -/
theorem proved : Rows.AllocLeastCardSaid :=
  Claim7.holds_tied_plain_at .later [] [.data] true Rows.allocLeastCard.stood.harness false
    over (fun _ h => by cases h) (by kernel_rfl) (fun _ h => by cases h) allocLeast_row_tie rfl ⟨rfl, rfl⟩ (by kernel_rfl) rfl
    (fun f fn hf hfn => by
      obtain rfl : f = 7 := Option.some.inj ((show Tryz.prog.funcNamed "ragpicker/ragpickerlaw08.AllocLeast" = some 7 by kernel_rfl).symm.trans hf) |>.symm
      obtain rfl : fn = Tryz.f7 := (Option.some.inj (Tryz.func7.symm.trans hfn)).symm
      exact ⟨by kernel_rfl, fun j t ht => by
        rw [Tryz.params7] at ht
        have hm : t ∈ [28, 25, 3] := by simpa using Array.mem_of_getElem? ht
        have hall : ([28, 25, 3].all fun u => !Tryz.prog.wantsStandIn u) = true := by kernel_rfl
        exact (show Tryz.prog.wantsStandIn t = false by simpa using List.all_eq_true.1 hall t hm)⟩)
    (by kernel_rfl)
#print axioms proved
end Go.Proofs.YthgcaehhjiccbaaGreatDoor.AllocLeast
