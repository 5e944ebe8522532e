/-
  The walks of HeapSets.
-/
import Derived.Test.YthgcaehhjiccbaaGreatDoorZHpSetR
import Derived.Test.YthgcaehhjiccbaaGreatDoorHpZN
import Derived.Test.YthgcaehhjiccbaaGreatDoorZHpAwake
import Derived.Test.YthgcaehhjiccbaaGreatDoorZHpIns
namespace Go.Proofs.YthgcaehhjiccbaaGreatDoor.HeapSets
open Go.Proofs.YthgcaehhjiccbaaGreatDoor
open Go.ChangeShapes Go.WideShapes Go.ChangeAt Go.RowKit
set_option maxRecDepth 100000

structure In2 (w W : World) (s : Hs) (d : Hd_) (u o e : Bool) (n b m : Int) : Prop where
  h : HNow w W s d
  x : X6 W (w.heap.size + 1) u o e n b m
theorem In2.next {w W W' : World} {s : Hs} {d : Hd_} {u o e : Bool} {n b m : Int} (h : In2 w W s d u o e n b m) (hb : Below W.heap.size W W') : In2 w W' s d u o e n b m := ⟨h.h.next hb, h.x.next hb⟩
theorem in2_start {w W : World} {s : Hs} {d : Hd_} {u o e : Bool} {n b m : Int} (hp : Hp w w.heap.size s d) (h : W = (w.alloc (.cells #[.slice s.w.a s.w.n s.w.c, .slice s.p.a s.p.n s.p.c, .slice (s.u 0).a (s.u 0).n (s.u 0).c, .slice (s.u 1).a (s.u 1).n (s.u 1).c, .slice (s.u 2).a (s.u 2).n (s.u 2).c, .slice s.c.a s.c.n s.c.c] 28)).alloc (.cells #[.bool u, .bool o, .bool e, .int .i64 n, .int .i64 b, .int .i64 m] 30)) : In2 w W s d u o e n b m := by
  have hb : Below w.heap.size w W := by rw [h]; exact ((Below.refl _ _).alloc (Nat.le_refl _) _).alloc (by simp) _
  have bx : Below (w.alloc (.cells #[.slice s.w.a s.w.n s.w.c, .slice s.p.a s.p.n s.p.c, .slice (s.u 0).a (s.u 0).n (s.u 0).c, .slice (s.u 1).a (s.u 1).n (s.u 1).c, .slice (s.u 2).a (s.u 2).n (s.u 2).c, .slice s.c.a s.c.n s.c.c] 28)).heap.size (w.alloc (.cells #[.slice s.w.a s.w.n s.w.c, .slice s.p.a s.p.n s.p.c, .slice (s.u 0).a (s.u 0).n (s.u 0).c, .slice (s.u 1).a (s.u 1).n (s.u 1).c, .slice (s.u 2).a (s.u 2).n (s.u 2).c, .slice s.c.a s.c.n s.c.c] 28)) W := by rw [h]; exact (Below.refl _ _).alloc (Nat.le_refl _) _
  have x := X6.new (w.alloc (.cells #[.slice s.w.a s.w.n s.w.c, .slice s.p.a s.p.n s.p.c, .slice (s.u 0).a (s.u 0).n (s.u 0).c, .slice (s.u 1).a (s.u 1).n (s.u 1).c, .slice (s.u 2).a (s.u 2).n (s.u 2).c, .slice s.c.a s.c.n s.c.c] 28)) u o e n b m 30
  rw [World.size_alloc] at x
  exact ⟨⟨(HBox.new w s 28).next bx, hb, hp.below hb⟩, by rw [h]; exact x⟩
/-- A heap in a box. -/
structure Bx (W : World) (bb : Nat) (t : Hs) (d : Hd_) : Prop where
  box : HBox W bb t
  hp : Hp W W.heap.size t d
theorem Bx.next {W W' : World} {bb : Nat} {t : Hs} {d : Hd_} (h : Bx W bb t d) (hb : Below W.heap.size W W') : Bx W' bb t d := ⟨h.box.next hb, h.hp.next hb⟩
/-- A heap and an error are told. -/
def Gives (W : World) (s' : Hs) (d' : Hd_) (er : Int) (e : Ending) (w' : World) : Prop :=
  ∃ t : Hs, e = .returned (.tuple #[(.agg #[.slice t.w.a t.w.n t.w.c, .slice t.p.a t.p.n t.p.c, .slice (t.u 0).a (t.u 0).n (t.u 0).c, .slice (t.u 1).a (t.u 1).n (t.u 1).c, .slice (t.u 2).a (t.u 2).n (t.u 2).c, .slice t.c.a t.c.n t.c.c]), .int .i64 er]) ∧ Hp w' w'.heap.size t d' ∧ Lens s' t ∧ Below W.heap.size W w'
structure Small (s : Hs) : Prop where
  w : s.w.n ≤ 4000
  p : s.p.n ≤ 1000
  c : s.c.n ≤ 100000
  u : ∀ j, j < 3 → (s.u j).n ≤ 2000000
section
variable (s : Hs) (d : Hd_) (a : Int) (u o e : Bool) (n b m p : Int) (w : World)
theorem walk_few (hz : Cl.Sz w) (hf : fewH s = false) (hp : Hp w w.heap.size s d) : Calls Tryz.prog 3 #[(.agg #[.slice s.w.a s.w.n s.w.c, .slice s.p.a s.p.n s.p.c, .slice (s.u 0).a (s.u 0).n (s.u 0).c, .slice (s.u 1).a (s.u 1).n (s.u 1).c, .slice (s.u 2).a (s.u 2).n (s.u 2).c, .slice s.c.a s.c.n s.c.c]), .int .i64 a, (.agg #[.bool u, .bool o, .bool e, .int .i64 n, .int .i64 b, .int .i64 m]), .int .i64 p] w fun e w' => e = .returned (.bool true) ∧ Below w.heap.size w w' := by
  have HZ := Lib.hid hz
  have hz0 := hz.pos
  have HP := Lib.hid hp
  have HF := Lib.hid hf
  clear hz hf hp
  go_enter Tryz.func3, Tryz.ntmps3
  go_wp2_with fail
  obtain ⟨W1, hW1⟩ : ∃ W1, W1 = (w.alloc (.cells #[.slice s.w.a s.w.n s.w.c, .slice s.p.a s.p.n s.p.c, .slice (s.u 0).a (s.u 0).n (s.u 0).c, .slice (s.u 1).a (s.u 1).n (s.u 1).c, .slice (s.u 2).a (s.u 2).n (s.u 2).c, .slice s.c.a s.c.n s.c.c] 28)).alloc (.cells #[.bool u, .bool o, .bool e, .int .i64 n, .int .i64 b, .int .i64 m] 30) := ⟨_, rfl⟩
  have I1 := Lib.hid (in2_start HP.out hW1)
  rw [← hW1]
  clear hW1
  refine (awake_any W1 (HZ.out.over I1.out.h.bel hz0)).mono ?_
  rintro e9 w1 ⟨rfl, hb1⟩
  have I := Lib.hid (I1.out.next hb1)
  clear hb1 I1
  have q0 := I.out.h.box.c0
  have q1 := I.out.h.box.c1
  have q2 := I.out.h.box.c2
  have q3 := I.out.h.box.c3
  have q4 := I.out.h.box.c4
  have q5 := I.out.h.box.c5
  have ql := I.out.h.box.lt
  go_wp2_with fail
  refine (rfew_any s _).mono ?_
  rw [HF.out]
  rintro e9 w2 ⟨rfl, hb2⟩
  replace I := Lib.hid (I.out.next hb2)
  clear hb2
  clear q0 q1 q2 q3 q4 q5 ql
  go_wp2
  go_ret
  exact ⟨rfl, I.out.h.bel⟩
set_option maxHeartbeats 4000000 in
theorem walk_all (sB sN : Hs) (dB dN : Hd_) (eB eN : Int) (hz : Cl.Sz w) (hf : fewH s = true) (hp : Hp w w.heap.size s d) (h0 : Small s) (h1 : Small sB) (h2 : Small sN)
    (hS : ∀ W, HNow w W s d → Calls Tryz.prog 13 #[(.agg #[.slice s.w.a s.w.n s.w.c, .slice s.p.a s.p.n s.p.c, .slice (s.u 0).a (s.u 0).n (s.u 0).c, .slice (s.u 1).a (s.u 1).n (s.u 1).c, .slice (s.u 2).a (s.u 2).n (s.u 2).c, .slice s.c.a s.c.n s.c.c]), .int .i64 a, (.agg #[.bool u, .bool o, .bool e, .int .i64 n, .int .i64 b, .int .i64 m])] W (Gives W sB dB eB)) (hR : ∀ W, HNow w W s d → Calls Tryz.prog 14 #[(.agg #[.slice s.w.a s.w.n s.w.c, .slice s.p.a s.p.n s.p.c, .slice (s.u 0).a (s.u 0).n (s.u 0).c, .slice (s.u 1).a (s.u 1).n (s.u 1).c, .slice (s.u 2).a (s.u 2).n (s.u 2).c, .slice s.c.a s.c.n s.c.c]), .int .i64 a, (.agg #[.bool u, .bool o, .bool e, .int .i64 n, .int .i64 b, .int .i64 m])] W (Gives W sB dB eB))
    (hN : ∀ W, Calls Tryz.prog 16 #[.int .i64 p] W (Gives W sN dN eN)) (hM : ∀ W, Calls Tryz.prog 17 #[.int .i64 p] W (Gives W sN dN eN)) : Calls Tryz.prog 3 #[(.agg #[.slice s.w.a s.w.n s.w.c, .slice s.p.a s.p.n s.p.c, .slice (s.u 0).a (s.u 0).n (s.u 0).c, .slice (s.u 1).a (s.u 1).n (s.u 1).c, .slice (s.u 2).a (s.u 2).n (s.u 2).c, .slice s.c.a s.c.n s.c.c]), .int .i64 a, (.agg #[.bool u, .bool o, .bool e, .int .i64 n, .int .i64 b, .int .i64 m]), .int .i64 p] w fun e w' => e = .returned (.bool true) ∧ Below w.heap.size w w' := by
  have HZ := Lib.hid hz
  have hz0 := hz.pos
  have HP := Lib.hid hp
  have HF := Lib.hid hf
  have H0 := Lib.hid h0
  have H1 := Lib.hid h1
  have H2 := Lib.hid h2
  have HS := Lib.hid hS
  have HR := Lib.hid hR
  have HN := Lib.hid hN
  have HM := Lib.hid hM
  have dB' : (eB == eB) = true := by simp
  have dN' : (eN == eN) = true := by simp
  clear hz hf hp h0 h1 h2 hS hR hN hM
  go_enter Tryz.func3, Tryz.ntmps3
  go_wp2_with fail
  obtain ⟨W1, hW1⟩ : ∃ W1, W1 = (w.alloc (.cells #[.slice s.w.a s.w.n s.w.c, .slice s.p.a s.p.n s.p.c, .slice (s.u 0).a (s.u 0).n (s.u 0).c, .slice (s.u 1).a (s.u 1).n (s.u 1).c, .slice (s.u 2).a (s.u 2).n (s.u 2).c, .slice s.c.a s.c.n s.c.c] 28)).alloc (.cells #[.bool u, .bool o, .bool e, .int .i64 n, .int .i64 b, .int .i64 m] 30) := ⟨_, rfl⟩
  have I1 := Lib.hid (in2_start HP.out hW1)
  rw [← hW1]
  clear hW1
  refine (awake_any W1 (HZ.out.over I1.out.h.bel hz0)).mono ?_
  rintro e9 w1 ⟨rfl, hb1⟩
  have I := Lib.hid (I1.out.next hb1)
  clear hb1 I1
  have q0 := I.out.h.box.c0
  have q1 := I.out.h.box.c1
  have q2 := I.out.h.box.c2
  have q3 := I.out.h.box.c3
  have q4 := I.out.h.box.c4
  have q5 := I.out.h.box.c5
  have ql := I.out.h.box.lt
  go_wp2_with fail
  refine (rfew_any s _).mono ?_
  rw [HF.out]
  rintro e9 w2 ⟨rfl, hb2⟩
  replace I := Lib.hid (I.out.next hb2)
  clear hb2
  clear q0 q1 q2 q3 q4 q5 ql
  have q0 := I.out.h.box.c0
  have q1 := I.out.h.box.c1
  have q2 := I.out.h.box.c2
  have q3 := I.out.h.box.c3
  have q4 := I.out.h.box.c4
  have q5 := I.out.h.box.c5
  have ql := I.out.h.box.lt
  go_wp2_with fail
  refine (rown7_any s d w2 (I.out.h.hp.more I.out.h.bel.size) H0.out.w H0.out.p H0.out.c H0.out.u).mono ?_
  rintro e9 w3 ⟨⟨⟨A0, n0, C0⟩, ⟨P0, m0, Q0⟩, v0, ⟨D0, k0, E0⟩⟩, rfl, _, ht, hl, _, _, hb3⟩
  obtain rfl : n0 = s.w.n := hl.1
  obtain rfl : m0 = s.p.n := hl.2.1
  obtain rfl : k0 = s.c.n := hl.2.2.2
  have L0 := Lib.hid hl.2.2.1
  dsimp only at ht hl ⊢
  have ba := (Below.refl w3.heap.size w3).alloc (Nat.le_refl _) (.cells #[.slice A0 s.w.n C0, .slice P0 s.p.n Q0, .slice (v0 0).a (v0 0).n (v0 0).c, .slice (v0 1).a (v0 1).n (v0 1).c, .slice (v0 2).a (v0 2).n (v0 2).c, .slice D0 s.c.n E0] 28)
  have X0 := Lib.hid (Bx.mk (d := d) (HBox.new w3 ⟨⟨A0, s.w.n, C0⟩, ⟨P0, s.p.n, Q0⟩, v0, ⟨D0, s.c.n, E0⟩⟩ 28) (ht.next ba))
  replace I := Lib.hid ((I.out.next hb3).next ba)
  clear ba hb3 ht hl
  clear q0 q1 q2 q3 q4 q5 ql
  have q0 := I.out.h.box.c0
  have q1 := I.out.h.box.c1
  have q2 := I.out.h.box.c2
  have q3 := I.out.h.box.c3
  have q4 := I.out.h.box.c4
  have q5 := I.out.h.box.c5
  have ql := I.out.h.box.lt
  have x0 := I.out.x.c0
  have x1 := I.out.x.c1
  have x2 := I.out.x.c2
  have x3 := I.out.x.c3
  have x4 := I.out.x.c4
  have x5 := I.out.x.c5
  have xl := I.out.x.lt
  go_wp2_with fail
  refine (HS.out _ I.out.h).mono ?_
  rintro e9 w4 ⟨⟨⟨A1, n1, C1⟩, ⟨P1, m1, Q1⟩, v1, ⟨D1, k1, E1⟩⟩, rfl, ht, hl, hb4⟩
  obtain rfl : n1 = sB.w.n := hl.1
  obtain rfl : m1 = sB.p.n := hl.2.1
  obtain rfl : k1 = sB.c.n := hl.2.2.2
  have L1 := Lib.hid hl.2.2.1
  dsimp only at ht hl ⊢
  have ba := (Below.refl w4.heap.size w4).alloc (Nat.le_refl _) (.cells #[.slice A1 sB.w.n C1, .slice P1 sB.p.n Q1, .slice (v1 0).a (v1 0).n (v1 0).c, .slice (v1 1).a (v1 1).n (v1 1).c, .slice (v1 2).a (v1 2).n (v1 2).c, .slice D1 sB.c.n E1] 28)
  have X1 := Lib.hid (Bx.mk (HBox.new w4 ⟨⟨A1, sB.w.n, C1⟩, ⟨P1, sB.p.n, Q1⟩, v1, ⟨D1, sB.c.n, E1⟩⟩ 28) (ht.next ba))
  replace I := Lib.hid ((I.out.next hb4).next ba)
  replace X0 := Lib.hid ((X0.out.next hb4).next ba)
  clear ba hb4 ht hl
  clear q0 q1 q2 q3 q4 q5 ql
  clear x0 x1 x2 x3 x4 x5 xl
  have q0 := I.out.h.box.c0
  have q1 := I.out.h.box.c1
  have q2 := I.out.h.box.c2
  have q3 := I.out.h.box.c3
  have q4 := I.out.h.box.c4
  have q5 := I.out.h.box.c5
  have ql := I.out.h.box.lt
  have x0 := I.out.x.c0
  have x1 := I.out.x.c1
  have x2 := I.out.x.c2
  have x3 := I.out.x.c3
  have x4 := I.out.x.c4
  have x5 := I.out.x.c5
  have xl := I.out.x.lt
  go_wp2_with fail
  refine (HR.out _ I.out.h).mono ?_
  rintro e9 w5 ⟨⟨⟨A2, n2, C2⟩, ⟨P2, m2, Q2⟩, v2, ⟨D2, k2, E2⟩⟩, rfl, ht, hl, hb5⟩
  obtain rfl : n2 = sB.w.n := hl.1
  obtain rfl : m2 = sB.p.n := hl.2.1
  obtain rfl : k2 = sB.c.n := hl.2.2.2
  have L2 := Lib.hid hl.2.2.1
  dsimp only at ht hl ⊢
  have ba := (Below.refl w5.heap.size w5).alloc (Nat.le_refl _) (.cells #[.slice A2 sB.w.n C2, .slice P2 sB.p.n Q2, .slice (v2 0).a (v2 0).n (v2 0).c, .slice (v2 1).a (v2 1).n (v2 1).c, .slice (v2 2).a (v2 2).n (v2 2).c, .slice D2 sB.c.n E2] 28)
  have X2 := Lib.hid (Bx.mk (HBox.new w5 ⟨⟨A2, sB.w.n, C2⟩, ⟨P2, sB.p.n, Q2⟩, v2, ⟨D2, sB.c.n, E2⟩⟩ 28) (ht.next ba))
  replace I := Lib.hid ((I.out.next hb5).next ba)
  replace X0 := Lib.hid ((X0.out.next hb5).next ba)
  replace X1 := Lib.hid ((X1.out.next hb5).next ba)
  clear ba hb5 ht hl
  clear q0 q1 q2 q3 q4 q5 ql
  clear x0 x1 x2 x3 x4 x5 xl
  have q0 := X1.out.box.c0
  have q1 := X1.out.box.c1
  have q2 := X1.out.box.c2
  have q3 := X1.out.box.c3
  have q4 := X1.out.box.c4
  have q5 := X1.out.box.c5
  have ql := X1.out.box.lt
  have r0 := X2.out.box.c0
  have r1 := X2.out.box.c1
  have r2 := X2.out.box.c2
  have r3 := X2.out.box.c3
  have r4 := X2.out.box.c4
  have r5 := X2.out.box.c5
  have rl := X2.out.box.lt
  dsimp only at q0 q1 q2 q3 q4 q5 r0 r1 r2 r3 r4 r5
  go_wp2_with fail
  refine (rsame_yes ⟨⟨A1, sB.w.n, C1⟩, ⟨P1, sB.p.n, Q1⟩, v1, ⟨D1, sB.c.n, E1⟩⟩ dB dB A2 P2 D2 C2 Q2 E2 v2 _ X1.out.hp X2.out.hp rfl (fun _ _ => rfl) (fun _ _ => rfl) (fun _ _ => rfl) H1.out.w H1.out.p H1.out.c (fun j hj => by have h1 := L1.out j hj; have h2 := H1.out.u j hj; show (v1 j).n ≤ 4000000; omega) (fun j hj => by have h1 := L2.out j hj; have h2 := H1.out.u j hj; omega)).mono ?_
  rintro e9 w6 ⟨rfl, hb6⟩
  replace I := Lib.hid (I.out.next hb6)
  replace X0 := Lib.hid (X0.out.next hb6)
  clear hb6 X1 X2 L1 L2
  clear q0 q1 q2 q3 q4 q5 ql
  clear r0 r1 r2 r3 r4 r5 rl
  have q0 := I.out.h.box.c0
  have q1 := I.out.h.box.c1
  have q2 := I.out.h.box.c2
  have q3 := I.out.h.box.c3
  have q4 := I.out.h.box.c4
  have q5 := I.out.h.box.c5
  have ql := I.out.h.box.lt
  have r0 := X0.out.box.c0
  have r1 := X0.out.box.c1
  have r2 := X0.out.box.c2
  have r3 := X0.out.box.c3
  have r4 := X0.out.box.c4
  have r5 := X0.out.box.c5
  have rl := X0.out.box.lt
  dsimp only at r0 r1 r2 r3 r4 r5
  go_wp2_with fail
  refine (rsame_yes s d d A0 P0 D0 C0 Q0 E0 v0 w6 (I.out.h.hp.more I.out.h.bel.size) X0.out.hp rfl (fun _ _ => rfl) (fun _ _ => rfl) (fun _ _ => rfl) H0.out.w H0.out.p H0.out.c (fun j hj => by have h2 := H0.out.u j hj; omega) (fun j hj => by have h1 := L0.out j hj; have h2 := H0.out.u j hj; omega)).mono ?_
  rintro e9 w7 ⟨rfl, hb7⟩
  replace I := Lib.hid (I.out.next hb7)
  clear hb7 X0 L0
  clear q0 q1 q2 q3 q4 q5 ql
  clear r0 r1 r2 r3 r4 r5 rl
  go_wp2_with fail
  refine (HN.out _).mono ?_
  rintro e9 w8 ⟨⟨⟨A3, n3, C3⟩, ⟨P3, m3, Q3⟩, v3, ⟨D3, k3, E3⟩⟩, rfl, ht, hl, hb8⟩
  obtain rfl : n3 = sN.w.n := hl.1
  obtain rfl : m3 = sN.p.n := hl.2.1
  obtain rfl : k3 = sN.c.n := hl.2.2.2
  have L3 := Lib.hid hl.2.2.1
  dsimp only at ht hl ⊢
  have ba := (Below.refl w8.heap.size w8).alloc (Nat.le_refl _) (.cells #[.slice A3 sN.w.n C3, .slice P3 sN.p.n Q3, .slice (v3 0).a (v3 0).n (v3 0).c, .slice (v3 1).a (v3 1).n (v3 1).c, .slice (v3 2).a (v3 2).n (v3 2).c, .slice D3 sN.c.n E3] 28)
  have X3 := Lib.hid (Bx.mk (HBox.new w8 ⟨⟨A3, sN.w.n, C3⟩, ⟨P3, sN.p.n, Q3⟩, v3, ⟨D3, sN.c.n, E3⟩⟩ 28) (ht.next ba))
  replace I := Lib.hid ((I.out.next hb8).next ba)
  clear ba hb8 ht hl
  go_wp2_with fail
  refine (HM.out _).mono ?_
  rintro e9 w9 ⟨⟨⟨A4, n4, C4⟩, ⟨P4, m4, Q4⟩, v4, ⟨D4, k4, E4⟩⟩, rfl, ht, hl, hb9⟩
  obtain rfl : n4 = sN.w.n := hl.1
  obtain rfl : m4 = sN.p.n := hl.2.1
  obtain rfl : k4 = sN.c.n := hl.2.2.2
  have L4 := Lib.hid hl.2.2.1
  dsimp only at ht hl ⊢
  have ba := (Below.refl w9.heap.size w9).alloc (Nat.le_refl _) (.cells #[.slice A4 sN.w.n C4, .slice P4 sN.p.n Q4, .slice (v4 0).a (v4 0).n (v4 0).c, .slice (v4 1).a (v4 1).n (v4 1).c, .slice (v4 2).a (v4 2).n (v4 2).c, .slice D4 sN.c.n E4] 28)
  have X4 := Lib.hid (Bx.mk (HBox.new w9 ⟨⟨A4, sN.w.n, C4⟩, ⟨P4, sN.p.n, Q4⟩, v4, ⟨D4, sN.c.n, E4⟩⟩ 28) (ht.next ba))
  replace I := Lib.hid ((I.out.next hb9).next ba)
  replace X3 := Lib.hid ((X3.out.next hb9).next ba)
  clear ba hb9 ht hl
  have q0 := X3.out.box.c0
  have q1 := X3.out.box.c1
  have q2 := X3.out.box.c2
  have q3 := X3.out.box.c3
  have q4 := X3.out.box.c4
  have q5 := X3.out.box.c5
  have ql := X3.out.box.lt
  have r0 := X4.out.box.c0
  have r1 := X4.out.box.c1
  have r2 := X4.out.box.c2
  have r3 := X4.out.box.c3
  have r4 := X4.out.box.c4
  have r5 := X4.out.box.c5
  have rl := X4.out.box.lt
  dsimp only at q0 q1 q2 q3 q4 q5 r0 r1 r2 r3 r4 r5
  go_wp2_with fail
  refine (rsame_yes ⟨⟨A3, sN.w.n, C3⟩, ⟨P3, sN.p.n, Q3⟩, v3, ⟨D3, sN.c.n, E3⟩⟩ dN dN A4 P4 D4 C4 Q4 E4 v4 _ X3.out.hp X4.out.hp rfl (fun _ _ => rfl) (fun _ _ => rfl) (fun _ _ => rfl) H2.out.w H2.out.p H2.out.c (fun j hj => by have h1 := L3.out j hj; have h2 := H2.out.u j hj; show (v3 j).n ≤ 4000000; omega) (fun j hj => by have h1 := L4.out j hj; have h2 := H2.out.u j hj; omega)).mono ?_
  rintro e9 w10 ⟨rfl, hb10⟩
  replace I := Lib.hid (I.out.next hb10)
  clear hb10 X3 X4 L3 L4
  clear q0 q1 q2 q3 q4 q5 ql
  clear r0 r1 r2 r3 r4 r5 rl
  go_wp2
  go_ret
  exact ⟨rfl, I.out.h.bel⟩
end
end Go.Proofs.YthgcaehhjiccbaaGreatDoor.HeapSets
