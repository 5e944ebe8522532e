/-
  AllocHeads: what is taken has the head that is asked for, and room does not hang on whether it is old, done, born or marked: for every heap of at most 9 pages and 130 words, every cache of at most 70 cells of each class, and every head; the table of sizes is tied to the program's text by the card.
-/
import Derived.Test.YthgcaehhjiccbaaGreatDoorHpZS
namespace Go.Proofs.YthgcaehhjiccbaaGreatDoor.AllocHeads
open Go.Proofs.YthgcaehhjiccbaaGreatDoor Go.Proofs.YthgcaehhjiccbaaGreatDoor.Al
open Go.ChangeShapes Go.WideShapes Go.ChangeAt Go.RowKit
set_option maxRecDepth 100000

/-- What both Takes tell. -/
theorem heads_cases (s : Hs) (d : Hd_) (G : Nat → List Int) (o e : Bool) (N b m : Int) :
    tkR s d G true o e N b m = tkNo 1 ∨ (∃ er, ¬ er = 0 ∧ ¬ er = 1 ∧ tkR s d G true o e N b m = tkNo er ∧ tkR s d G true false false N 0 0 = tkNo er) ∨
    (∃ q, mayH s d 1 (fun _ => G) = true ∧ Hd.mayB true o e N b m = true ∧ Cl.classErr N = 0 ∧ takeO d s.p.n G N = some q ∧ tkR s d G true o e N b m = ⟨0, s.w.n, s.p.n, s.c.n, beginD q.1 s.p.n q.2.2 (Hd.word true o e N b m), q.2.1, q.2.2⟩ ∧
      tkR s d G true false false N 0 0 = ⟨0, s.w.n, s.p.n, s.c.n, beginD q.1 s.p.n q.2.2 (Hd.word true false false N 0 0), q.2.1, q.2.2⟩) := by
  by_cases hm : mayH s d 1 (fun _ => G) = true ∧ Hd.mayB true o e N b m = true
  · have hx := (Hd.may_used_iff o e N b m).1 hm.2
    have hx2 : Hd.mayB true false false N 0 0 = true := (Hd.may_used_iff false false N 0 0).2 (by omega)
    have a1 : argE s d G true o e N b m = Cl.classErr N := if_pos ⟨hm.1, hm.2, rfl⟩
    have a2 : argE s d G true false false N 0 0 = Cl.classErr N := if_pos ⟨hm.1, hx2, rfl⟩
    by_cases hc : Cl.classErr N = 0
    · cases hq : takeO d s.p.n G N with
      | none =>
        refine .inr (.inl ⟨4, by decide, by decide, ?_, ?_⟩)
        · unfold tkR; rw [a1, if_pos hc, hq]
        · unfold tkR; rw [a2, if_pos hc, hq]
      | some q =>
        refine .inr (.inr ⟨q, hm.1, hm.2, hc, rfl, ?_, ?_⟩)
        · unfold tkR; rw [a1, if_pos hc, hq]
        · unfold tkR; rw [a2, if_pos hc, hq]
    · by_cases h1 : Cl.classErr N = 1
      · left
        unfold tkR
        rw [a1, if_neg hc, h1]
      · refine .inr (.inl ⟨Cl.classErr N, hc, h1, ?_, ?_⟩)
        · unfold tkR; rw [a1, if_neg hc]
        · unfold tkR; rw [a2, if_neg hc]
  · left
    have a1 : argE s d G true o e N b m = 1 := if_neg fun h => hm ⟨h.1, h.2.1⟩
    unfold tkR
    rw [a1, if_neg (by decide)]
section
variable (s : Hs) (d : Hd_) (u : Nat → Ls.Sl) (G : Nat → List Int) (us o e : Bool) (N b m : Int) (w : World)
theorem walk_few (hf : fewL s (fun _ => u) 1 = false) (hz : Cl.Sz w) (hp : Hp w w.heap.size s d) (l3 : Ls.L3 w w.heap.size u G) : Calls Tryz.prog 9 #[(.agg #[.slice s.w.a s.w.n s.w.c, .slice s.p.a s.p.n s.p.c, .slice (s.u 0).a (s.u 0).n (s.u 0).c, .slice (s.u 1).a (s.u 1).n (s.u 1).c, .slice (s.u 2).a (s.u 2).n (s.u 2).c, .slice s.c.a s.c.n s.c.c]), (.agg #[.slice (u 0).a (u 0).n (u 0).c, .slice (u 1).a (u 1).n (u 1).c, .slice (u 2).a (u 2).n (u 2).c]), .agg #[.bool us, .bool o, .bool e, .int .i64 N, .int .i64 b, .int .i64 m]] w fun e w' => e = .returned (.bool true) ∧ Below w.heap.size w w' := by
  have HZ := Lib.hid hz
  have hz0 := hz.pos
  have HP := Lib.hid hp
  have HL := Lib.hid l3
  have HF := Lib.hid hf
  clear hz hp l3 hf
  go_enter Tryz.func9, Tryz.ntmps9
  go_wp2_with fail
  obtain ⟨W0, hW0⟩ : ∃ W0, W0 = (w.alloc (.cells #[.slice s.w.a s.w.n s.w.c, .slice s.p.a s.p.n s.p.c, .slice (s.u 0).a (s.u 0).n (s.u 0).c, .slice (s.u 1).a (s.u 1).n (s.u 1).c, .slice (s.u 2).a (s.u 2).n (s.u 2).c, .slice s.c.a s.c.n s.c.c] 28)).alloc (.cells #[.slice (u 0).a (u 0).n (u 0).c, .slice (u 1).a (u 1).n (u 1).c, .slice (u 2).a (u 2).n (u 2).c] 25) := ⟨_, rfl⟩
  obtain ⟨W1, hW1⟩ : ∃ W1, W1 = W0.alloc (.cells #[.bool us, .bool o, .bool e, .int .i64 N, .int .i64 b, .int .i64 m] 30) := ⟨_, rfl⟩
  have X1 : Hid (X6 W1 (w.heap.size + 2) us o e N b m) := Lib.hid (x6_three (s := s) (u := u) (w := w) (by rw [hW1, hW0]))
  have L0 := lw_start HP.out HL.out hW0
  rw [← hW0, ← hW1]
  have L1 : Hid (Lw w W1 s d u G) := Lib.hid (by rw [hW1]; exact L0.next ((Below.refl _ _).alloc (Nat.le_refl _) _))
  clear hW0 hW1 L0
  refine (Al.awake_any W1 (HZ.out.over L1.out.bel hz0)).mono ?_
  rintro e9 w1 ⟨rfl, hb1⟩
  have L2 := Lib.hid (L1.out.next hb1)
  have X2 := Lib.hid (X1.out.next hb1)
  clear hb1 L1 X1
  have q0 := L2.out.hb.c0
  have q1 := L2.out.hb.c1
  have q2 := L2.out.hb.c2
  have q3 := L2.out.hb.c3
  have q4 := L2.out.hb.c4
  have q5 := L2.out.hb.c5
  have ql := L2.out.hb.lt
  have p0 := L2.out.cb.cell 0 (by decide)
  have p1 := L2.out.cb.cell 1 (by decide)
  have p2 := L2.out.cb.cell 2 (by decide)
  have pl := L2.out.cb.lt
  go_wp2_with fail
  have b2 := (Below.refl w1.heap.size w1).alloc (Nat.le_refl _) (.cells #[.slice (u 0).a (u 0).n (u 0).c, .slice (u 1).a (u 1).n (u 1).c, .slice (u 2).a (u 2).n (u 2).c] 25)
  refine (few8_any s (some ⟨w1.heap.size, 0, none⟩) 1 1 (fun _ => u) (fun _ => G) (w1.alloc (.cells #[.slice (u 0).a (u 0).n (u 0).c, .slice (u 1).a (u 1).n (u 1).c, .slice (u 2).a (u 2).n (u 2).c] 25)) (by omega) (lrow_of (own_one w1 u) (by simp) (fun _ _ => L2.out.l3.next b2))).mono ?_
  rw [HF.out]
  rintro e9 w2 ⟨rfl, hb2⟩
  have L3 := Lib.hid ((L2.out.next b2).next hb2)
  have X3 := Lib.hid ((X2.out.next b2).next hb2)
  clear b2 hb2 L2 X2
  clear q0 q1 q2 q3 q4 q5 ql p0 p1 p2 pl
  go_wp2
  go_ret
  exact ⟨rfl, L3.out.bel⟩
theorem walk_used (hf : fewL s (fun _ => u) 1 = true) (hz : Cl.Sz w) (hp : Hp w w.heap.size s d) (l3 : Ls.L3 w w.heap.size u G) : Calls Tryz.prog 9 #[(.agg #[.slice s.w.a s.w.n s.w.c, .slice s.p.a s.p.n s.p.c, .slice (s.u 0).a (s.u 0).n (s.u 0).c, .slice (s.u 1).a (s.u 1).n (s.u 1).c, .slice (s.u 2).a (s.u 2).n (s.u 2).c, .slice s.c.a s.c.n s.c.c]), (.agg #[.slice (u 0).a (u 0).n (u 0).c, .slice (u 1).a (u 1).n (u 1).c, .slice (u 2).a (u 2).n (u 2).c]), .agg #[.bool false, .bool o, .bool e, .int .i64 N, .int .i64 b, .int .i64 m]] w fun e w' => e = .returned (.bool true) ∧ Below w.heap.size w w' := by
  have HZ := Lib.hid hz
  have hz0 := hz.pos
  have HP := Lib.hid hp
  have HL := Lib.hid l3
  have HF := Lib.hid hf
  clear hz hp l3 hf
  go_enter Tryz.func9, Tryz.ntmps9
  go_wp2_with fail
  obtain ⟨W0, hW0⟩ : ∃ W0, W0 = (w.alloc (.cells #[.slice s.w.a s.w.n s.w.c, .slice s.p.a s.p.n s.p.c, .slice (s.u 0).a (s.u 0).n (s.u 0).c, .slice (s.u 1).a (s.u 1).n (s.u 1).c, .slice (s.u 2).a (s.u 2).n (s.u 2).c, .slice s.c.a s.c.n s.c.c] 28)).alloc (.cells #[.slice (u 0).a (u 0).n (u 0).c, .slice (u 1).a (u 1).n (u 1).c, .slice (u 2).a (u 2).n (u 2).c] 25) := ⟨_, rfl⟩
  obtain ⟨W1, hW1⟩ : ∃ W1, W1 = W0.alloc (.cells #[.bool false, .bool o, .bool e, .int .i64 N, .int .i64 b, .int .i64 m] 30) := ⟨_, rfl⟩
  have X1 : Hid (X6 W1 (w.heap.size + 2) false o e N b m) := Lib.hid (x6_three (s := s) (u := u) (w := w) (by rw [hW1, hW0]))
  have L0 := lw_start HP.out HL.out hW0
  rw [← hW0, ← hW1]
  have L1 : Hid (Lw w W1 s d u G) := Lib.hid (by rw [hW1]; exact L0.next ((Below.refl _ _).alloc (Nat.le_refl _) _))
  clear hW0 hW1 L0
  refine (Al.awake_any W1 (HZ.out.over L1.out.bel hz0)).mono ?_
  rintro e9 w1 ⟨rfl, hb1⟩
  have L2 := Lib.hid (L1.out.next hb1)
  have X2 := Lib.hid (X1.out.next hb1)
  clear hb1 L1 X1
  have q0 := L2.out.hb.c0
  have q1 := L2.out.hb.c1
  have q2 := L2.out.hb.c2
  have q3 := L2.out.hb.c3
  have q4 := L2.out.hb.c4
  have q5 := L2.out.hb.c5
  have ql := L2.out.hb.lt
  have p0 := L2.out.cb.cell 0 (by decide)
  have p1 := L2.out.cb.cell 1 (by decide)
  have p2 := L2.out.cb.cell 2 (by decide)
  have pl := L2.out.cb.lt
  go_wp2_with fail
  have b2 := (Below.refl w1.heap.size w1).alloc (Nat.le_refl _) (.cells #[.slice (u 0).a (u 0).n (u 0).c, .slice (u 1).a (u 1).n (u 1).c, .slice (u 2).a (u 2).n (u 2).c] 25)
  refine (few8_any s (some ⟨w1.heap.size, 0, none⟩) 1 1 (fun _ => u) (fun _ => G) (w1.alloc (.cells #[.slice (u 0).a (u 0).n (u 0).c, .slice (u 1).a (u 1).n (u 1).c, .slice (u 2).a (u 2).n (u 2).c] 25)) (by omega) (lrow_of (own_one w1 u) (by simp) (fun _ _ => L2.out.l3.next b2))).mono ?_
  rw [HF.out]
  rintro e9 w2 ⟨rfl, hb2⟩
  have L3 := Lib.hid ((L2.out.next b2).next hb2)
  have X3 := Lib.hid ((X2.out.next b2).next hb2)
  clear b2 hb2 L2 X2
  clear q0 q1 q2 q3 q4 q5 ql p0 p1 p2 pl
  have x0 := X3.out.c0
  have x1 := X3.out.c1
  have x2 := X3.out.c2
  have x3 := X3.out.c3
  have x4 := X3.out.c4
  have x5 := X3.out.c5
  have xl := X3.out.lt
  go_wp2
  go_ret
  exact ⟨rfl, L3.out.bel⟩
set_option maxHeartbeats 1000000 in
theorem core_arg (a2 er2 : Int) (w1 p1 c1 w2 p2 c2 : Nat) (d1 d2 : Hd_) (G1 G2 : Nat → List Int) (hc1 : ∀ W, Lw w W s d u G → Calls Tryz.prog 20 #[(.agg #[.slice s.w.a s.w.n s.w.c, .slice s.p.a s.p.n s.p.c, .slice (s.u 0).a (s.u 0).n (s.u 0).c, .slice (s.u 1).a (s.u 1).n (s.u 1).c, .slice (s.u 2).a (s.u 2).n (s.u 2).c, .slice s.c.a s.c.n s.c.c]), (.agg #[.slice (u 0).a (u 0).n (u 0).c, .slice (u 1).a (u 1).n (u 1).c, .slice (u 2).a (u 2).n (u 2).c]), .agg #[.bool true, .bool o, .bool e, .int .i64 N, .int .i64 b, .int .i64 m]] W (TkO W 0 1 w1 p1 c1 d1 G1)) (hc2 : ∀ W, Lw w W s d u G → Calls Tryz.prog 20 #[(.agg #[.slice s.w.a s.w.n s.w.c, .slice s.p.a s.p.n s.p.c, .slice (s.u 0).a (s.u 0).n (s.u 0).c, .slice (s.u 1).a (s.u 1).n (s.u 1).c, .slice (s.u 2).a (s.u 2).n (s.u 2).c, .slice s.c.a s.c.n s.c.c]), (.agg #[.slice (u 0).a (u 0).n (u 0).c, .slice (u 1).a (u 1).n (u 1).c, .slice (u 2).a (u 2).n (u 2).c]), .agg #[.bool true, .bool false, .bool false, .int .i64 N, .int .i64 0, .int .i64 0]] W (TkO W a2 er2 w2 p2 c2 d2 G2)) (hf : fewL s (fun _ => u) 1 = true) (hz : Cl.Sz w) (hp : Hp w w.heap.size s d) (l3 : Ls.L3 w w.heap.size u G) : Calls Tryz.prog 9 #[(.agg #[.slice s.w.a s.w.n s.w.c, .slice s.p.a s.p.n s.p.c, .slice (s.u 0).a (s.u 0).n (s.u 0).c, .slice (s.u 1).a (s.u 1).n (s.u 1).c, .slice (s.u 2).a (s.u 2).n (s.u 2).c, .slice s.c.a s.c.n s.c.c]), (.agg #[.slice (u 0).a (u 0).n (u 0).c, .slice (u 1).a (u 1).n (u 1).c, .slice (u 2).a (u 2).n (u 2).c]), .agg #[.bool true, .bool o, .bool e, .int .i64 N, .int .i64 b, .int .i64 m]] w fun e w' => e = .returned (.bool true) ∧ Below w.heap.size w w' := by
  have HZ := Lib.hid hz
  have hz0 := hz.pos
  have HP := Lib.hid hp
  have HL := Lib.hid l3
  have HF := Lib.hid hf
  have C1 := Lib.hid hc1
  have C2 := Lib.hid hc2
  clear hz hp l3 hf hc1 hc2
  go_enter Tryz.func9, Tryz.ntmps9
  go_wp2_with fail
  obtain ⟨W0, hW0⟩ : ∃ W0, W0 = (w.alloc (.cells #[.slice s.w.a s.w.n s.w.c, .slice s.p.a s.p.n s.p.c, .slice (s.u 0).a (s.u 0).n (s.u 0).c, .slice (s.u 1).a (s.u 1).n (s.u 1).c, .slice (s.u 2).a (s.u 2).n (s.u 2).c, .slice s.c.a s.c.n s.c.c] 28)).alloc (.cells #[.slice (u 0).a (u 0).n (u 0).c, .slice (u 1).a (u 1).n (u 1).c, .slice (u 2).a (u 2).n (u 2).c] 25) := ⟨_, rfl⟩
  obtain ⟨W1, hW1⟩ : ∃ W1, W1 = W0.alloc (.cells #[.bool true, .bool o, .bool e, .int .i64 N, .int .i64 b, .int .i64 m] 30) := ⟨_, rfl⟩
  have X1 : Hid (X6 W1 (w.heap.size + 2) true o e N b m) := Lib.hid (x6_three (s := s) (u := u) (w := w) (by rw [hW1, hW0]))
  have L0 := lw_start HP.out HL.out hW0
  rw [← hW0, ← hW1]
  have L1 : Hid (Lw w W1 s d u G) := Lib.hid (by rw [hW1]; exact L0.next ((Below.refl _ _).alloc (Nat.le_refl _) _))
  clear hW0 hW1 L0
  refine (Al.awake_any W1 (HZ.out.over L1.out.bel hz0)).mono ?_
  rintro e9 w1 ⟨rfl, hb1⟩
  have L2 := Lib.hid (L1.out.next hb1)
  have X2 := Lib.hid (X1.out.next hb1)
  clear hb1 L1 X1
  have q0 := L2.out.hb.c0
  have q1 := L2.out.hb.c1
  have q2 := L2.out.hb.c2
  have q3 := L2.out.hb.c3
  have q4 := L2.out.hb.c4
  have q5 := L2.out.hb.c5
  have ql := L2.out.hb.lt
  have p0 := L2.out.cb.cell 0 (by decide)
  have p1 := L2.out.cb.cell 1 (by decide)
  have p2 := L2.out.cb.cell 2 (by decide)
  have pl := L2.out.cb.lt
  go_wp2_with fail
  have b2 := (Below.refl w1.heap.size w1).alloc (Nat.le_refl _) (.cells #[.slice (u 0).a (u 0).n (u 0).c, .slice (u 1).a (u 1).n (u 1).c, .slice (u 2).a (u 2).n (u 2).c] 25)
  refine (few8_any s (some ⟨w1.heap.size, 0, none⟩) 1 1 (fun _ => u) (fun _ => G) (w1.alloc (.cells #[.slice (u 0).a (u 0).n (u 0).c, .slice (u 1).a (u 1).n (u 1).c, .slice (u 2).a (u 2).n (u 2).c] 25)) (by omega) (lrow_of (own_one w1 u) (by simp) (fun _ _ => L2.out.l3.next b2))).mono ?_
  rw [HF.out]
  rintro e9 w2 ⟨rfl, hb2⟩
  have L3 := Lib.hid ((L2.out.next b2).next hb2)
  have X3 := Lib.hid ((X2.out.next b2).next hb2)
  clear b2 hb2 L2 X2
  clear q0 q1 q2 q3 q4 q5 ql p0 p1 p2 pl
  have x0 := X3.out.c0
  have x1 := X3.out.c1
  have x2 := X3.out.c2
  have x3 := X3.out.c3
  have x4 := X3.out.c4
  have x5 := X3.out.c5
  have xl := X3.out.lt
  have q0 := L3.out.hb.c0
  have q1 := L3.out.hb.c1
  have q2 := L3.out.hb.c2
  have q3 := L3.out.hb.c3
  have q4 := L3.out.hb.c4
  have q5 := L3.out.hb.c5
  have ql := L3.out.hb.lt
  have p0 := L3.out.cb.cell 0 (by decide)
  have p1 := L3.out.cb.cell 1 (by decide)
  have p2 := L3.out.cb.cell 2 (by decide)
  have pl := L3.out.cb.lt
  go_wp2_with fail
  refine (C1.out w2 L3.out).mono ?_
  rintro e9 w4 ⟨⟨⟨A1, n1, D1⟩, ⟨A2, n2, D2⟩, t4, ⟨A3, n3, D3⟩⟩, v, rfl, ht, hv4, ⟨hn1, hn2, hn3⟩, hb4⟩
  obtain rfl : n1 = _ := hn1
  obtain rfl : n2 = _ := hn2
  obtain rfl : n3 = _ := hn3
  dsimp only
  have L4 := Lib.hid (L3.out.next hb4)
  have X4 := Lib.hid (X3.out.next hb4)
  have T4 := Lib.hid ht
  clear ht hv4 hb4 L3 X3
  clear q0 q1 q2 q3 q4 q5 ql p0 p1 p2 pl x0 x1 x2 x3 x4 x5 xl
  have b5 := (Below.refl w4.heap.size w4).alloc (Nat.le_refl _) (.cells #[.slice A1 n1 D1, .slice A2 n2 D2, .slice (t4 0).a (t4 0).n (t4 0).c, .slice (t4 1).a (t4 1).n (t4 1).c, .slice (t4 2).a (t4 2).n (t4 2).c, .slice A3 n3 D3] 28)
  have b6 := (Below.refl (w4.alloc (.cells #[.slice A1 n1 D1, .slice A2 n2 D2, .slice (t4 0).a (t4 0).n (t4 0).c, .slice (t4 1).a (t4 1).n (t4 1).c, .slice (t4 2).a (t4 2).n (t4 2).c, .slice A3 n3 D3] 28)).heap.size (w4.alloc (.cells #[.slice A1 n1 D1, .slice A2 n2 D2, .slice (t4 0).a (t4 0).n (t4 0).c, .slice (t4 1).a (t4 1).n (t4 1).c, .slice (t4 2).a (t4 2).n (t4 2).c, .slice A3 n3 D3] 28))).alloc (Nat.le_refl _) (.cells #[.slice (v 0).a (v 0).n (v 0).c, .slice (v 1).a (v 1).n (v 1).c, .slice (v 2).a (v 2).n (v 2).c] 25)
  have L5 := Lib.hid ((L4.out.next b5).next b6)
  have X5 := Lib.hid ((X4.out.next b5).next b6)
  have K5 := Lib.hid ((HBox.new w4 ⟨⟨A1, n1, D1⟩, ⟨A2, n2, D2⟩, t4, ⟨A3, n3, D3⟩⟩ 28).next b6)
  have P5 := Lib.hid ((T4.out.next b5).next b6)
  clear b5 b6 L4 X4 T4
  have x0 := X5.out.c0
  have x1 := X5.out.c1
  have x2 := X5.out.c2
  have x3 := X5.out.c3
  have x4 := X5.out.c4
  have x5 := X5.out.c5
  have xl := X5.out.lt
  have q0 := L5.out.hb.c0
  have q1 := L5.out.hb.c1
  have q2 := L5.out.hb.c2
  have q3 := L5.out.hb.c3
  have q4 := L5.out.hb.c4
  have q5 := L5.out.hb.c5
  have ql := L5.out.hb.lt
  have p0 := L5.out.cb.cell 0 (by decide)
  have p1 := L5.out.cb.cell 1 (by decide)
  have p2 := L5.out.cb.cell 2 (by decide)
  have pl := L5.out.cb.lt
  go_wp2_with fail
  refine (C2.out _ L5.out).mono ?_
  rintro e9 w6 ⟨⟨⟨E1, m1, H1⟩, ⟨E2, m2, H2⟩, t6, ⟨E3, m3, H3⟩⟩, v6, rfl, _, _, ⟨hm1, hm2, hm3⟩, hb6⟩
  obtain rfl : m1 = _ := hm1
  obtain rfl : m2 = _ := hm2
  obtain rfl : m3 = _ := hm3
  dsimp only
  have b7 := (Below.refl w6.heap.size w6).alloc (Nat.le_refl _) (.cells #[.slice E1 m1 H1, .slice E2 m2 H2, .slice (t6 0).a (t6 0).n (t6 0).c, .slice (t6 1).a (t6 1).n (t6 1).c, .slice (t6 2).a (t6 2).n (t6 2).c, .slice E3 m3 H3] 28)
  have b8 := (Below.refl (w6.alloc (.cells #[.slice E1 m1 H1, .slice E2 m2 H2, .slice (t6 0).a (t6 0).n (t6 0).c, .slice (t6 1).a (t6 1).n (t6 1).c, .slice (t6 2).a (t6 2).n (t6 2).c, .slice E3 m3 H3] 28)).heap.size (w6.alloc (.cells #[.slice E1 m1 H1, .slice E2 m2 H2, .slice (t6 0).a (t6 0).n (t6 0).c, .slice (t6 1).a (t6 1).n (t6 1).c, .slice (t6 2).a (t6 2).n (t6 2).c, .slice E3 m3 H3] 28))).alloc (Nat.le_refl _) (.cells #[.slice (v6 0).a (v6 0).n (v6 0).c, .slice (v6 1).a (v6 1).n (v6 1).c, .slice (v6 2).a (v6 2).n (v6 2).c] 25)
  have L6 := Lib.hid (((L5.out.next hb6).next b7).next b8)
  have K6 := Lib.hid (((K5.out.next hb6).next b7).next b8)
  have P6 := Lib.hid (((P5.out.next hb6).next b7).next b8)
  have X6' := Lib.hid (((X5.out.next hb6).next b7).next b8)
  clear hb6 b7 b8 L5 K5 P5 X5
  clear q0 q1 q2 q3 q4 q5 ql p0 p1 p2 pl x0 x1 x2 x3 x4 x5 xl
  go_wp2
  go_ret
  exact ⟨rfl, L6.out.bel⟩
set_option maxHeartbeats 1000000 in
theorem core_err (er : Int) (w1 p1 c1 w2 p2 c2 : Nat) (d1 d2 : Hd_) (G1 G2 : Nat → List Int) (hc1 : ∀ W, Lw w W s d u G → Calls Tryz.prog 20 #[(.agg #[.slice s.w.a s.w.n s.w.c, .slice s.p.a s.p.n s.p.c, .slice (s.u 0).a (s.u 0).n (s.u 0).c, .slice (s.u 1).a (s.u 1).n (s.u 1).c, .slice (s.u 2).a (s.u 2).n (s.u 2).c, .slice s.c.a s.c.n s.c.c]), (.agg #[.slice (u 0).a (u 0).n (u 0).c, .slice (u 1).a (u 1).n (u 1).c, .slice (u 2).a (u 2).n (u 2).c]), .agg #[.bool true, .bool o, .bool e, .int .i64 N, .int .i64 b, .int .i64 m]] W (TkO W 0 er w1 p1 c1 d1 G1)) (hc2 : ∀ W, Lw w W s d u G → Calls Tryz.prog 20 #[(.agg #[.slice s.w.a s.w.n s.w.c, .slice s.p.a s.p.n s.p.c, .slice (s.u 0).a (s.u 0).n (s.u 0).c, .slice (s.u 1).a (s.u 1).n (s.u 1).c, .slice (s.u 2).a (s.u 2).n (s.u 2).c, .slice s.c.a s.c.n s.c.c]), (.agg #[.slice (u 0).a (u 0).n (u 0).c, .slice (u 1).a (u 1).n (u 1).c, .slice (u 2).a (u 2).n (u 2).c]), .agg #[.bool true, .bool false, .bool false, .int .i64 N, .int .i64 0, .int .i64 0]] W (TkO W 0 er w2 p2 c2 d2 G2)) (hf : fewL s (fun _ => u) 1 = true) (h0 : ¬ er = 0) (h1 : ¬ er = 1) (hz : Cl.Sz w) (hp : Hp w w.heap.size s d) (l3 : Ls.L3 w w.heap.size u G) : Calls Tryz.prog 9 #[(.agg #[.slice s.w.a s.w.n s.w.c, .slice s.p.a s.p.n s.p.c, .slice (s.u 0).a (s.u 0).n (s.u 0).c, .slice (s.u 1).a (s.u 1).n (s.u 1).c, .slice (s.u 2).a (s.u 2).n (s.u 2).c, .slice s.c.a s.c.n s.c.c]), (.agg #[.slice (u 0).a (u 0).n (u 0).c, .slice (u 1).a (u 1).n (u 1).c, .slice (u 2).a (u 2).n (u 2).c]), .agg #[.bool true, .bool o, .bool e, .int .i64 N, .int .i64 b, .int .i64 m]] w fun e w' => e = .returned (.bool true) ∧ Below w.heap.size w w' := by
  have HZ := Lib.hid hz
  have hz0 := hz.pos
  have HP := Lib.hid hp
  have HL := Lib.hid l3
  have HF := Lib.hid hf
  have C1 := Lib.hid hc1
  have C2 := Lib.hid hc2
  have d0 : (er != 0) = true := by simp [h0]
  have d1 : (er == 1) = false := by simp [h1]
  have d2 : (er == er) = true := by simp
  clear h0 h1
  clear hz hp l3 hf hc1 hc2
  go_enter Tryz.func9, Tryz.ntmps9
  go_wp2_with fail
  obtain ⟨W0, hW0⟩ : ∃ W0, W0 = (w.alloc (.cells #[.slice s.w.a s.w.n s.w.c, .slice s.p.a s.p.n s.p.c, .slice (s.u 0).a (s.u 0).n (s.u 0).c, .slice (s.u 1).a (s.u 1).n (s.u 1).c, .slice (s.u 2).a (s.u 2).n (s.u 2).c, .slice s.c.a s.c.n s.c.c] 28)).alloc (.cells #[.slice (u 0).a (u 0).n (u 0).c, .slice (u 1).a (u 1).n (u 1).c, .slice (u 2).a (u 2).n (u 2).c] 25) := ⟨_, rfl⟩
  obtain ⟨W1, hW1⟩ : ∃ W1, W1 = W0.alloc (.cells #[.bool true, .bool o, .bool e, .int .i64 N, .int .i64 b, .int .i64 m] 30) := ⟨_, rfl⟩
  have X1 : Hid (X6 W1 (w.heap.size + 2) true o e N b m) := Lib.hid (x6_three (s := s) (u := u) (w := w) (by rw [hW1, hW0]))
  have L0 := lw_start HP.out HL.out hW0
  rw [← hW0, ← hW1]
  have L1 : Hid (Lw w W1 s d u G) := Lib.hid (by rw [hW1]; exact L0.next ((Below.refl _ _).alloc (Nat.le_refl _) _))
  clear hW0 hW1 L0
  refine (Al.awake_any W1 (HZ.out.over L1.out.bel hz0)).mono ?_
  rintro e9 w1 ⟨rfl, hb1⟩
  have L2 := Lib.hid (L1.out.next hb1)
  have X2 := Lib.hid (X1.out.next hb1)
  clear hb1 L1 X1
  have q0 := L2.out.hb.c0
  have q1 := L2.out.hb.c1
  have q2 := L2.out.hb.c2
  have q3 := L2.out.hb.c3
  have q4 := L2.out.hb.c4
  have q5 := L2.out.hb.c5
  have ql := L2.out.hb.lt
  have p0 := L2.out.cb.cell 0 (by decide)
  have p1 := L2.out.cb.cell 1 (by decide)
  have p2 := L2.out.cb.cell 2 (by decide)
  have pl := L2.out.cb.lt
  go_wp2_with fail
  have b2 := (Below.refl w1.heap.size w1).alloc (Nat.le_refl _) (.cells #[.slice (u 0).a (u 0).n (u 0).c, .slice (u 1).a (u 1).n (u 1).c, .slice (u 2).a (u 2).n (u 2).c] 25)
  refine (few8_any s (some ⟨w1.heap.size, 0, none⟩) 1 1 (fun _ => u) (fun _ => G) (w1.alloc (.cells #[.slice (u 0).a (u 0).n (u 0).c, .slice (u 1).a (u 1).n (u 1).c, .slice (u 2).a (u 2).n (u 2).c] 25)) (by omega) (lrow_of (own_one w1 u) (by simp) (fun _ _ => L2.out.l3.next b2))).mono ?_
  rw [HF.out]
  rintro e9 w2 ⟨rfl, hb2⟩
  have L3 := Lib.hid ((L2.out.next b2).next hb2)
  have X3 := Lib.hid ((X2.out.next b2).next hb2)
  clear b2 hb2 L2 X2
  clear q0 q1 q2 q3 q4 q5 ql p0 p1 p2 pl
  have x0 := X3.out.c0
  have x1 := X3.out.c1
  have x2 := X3.out.c2
  have x3 := X3.out.c3
  have x4 := X3.out.c4
  have x5 := X3.out.c5
  have xl := X3.out.lt
  have q0 := L3.out.hb.c0
  have q1 := L3.out.hb.c1
  have q2 := L3.out.hb.c2
  have q3 := L3.out.hb.c3
  have q4 := L3.out.hb.c4
  have q5 := L3.out.hb.c5
  have ql := L3.out.hb.lt
  have p0 := L3.out.cb.cell 0 (by decide)
  have p1 := L3.out.cb.cell 1 (by decide)
  have p2 := L3.out.cb.cell 2 (by decide)
  have pl := L3.out.cb.lt
  go_wp2_with fail
  refine (C1.out w2 L3.out).mono ?_
  rintro e9 w4 ⟨⟨⟨A1, n1, D1⟩, ⟨A2, n2, D2⟩, t4, ⟨A3, n3, D3⟩⟩, v, rfl, ht, hv4, ⟨hn1, hn2, hn3⟩, hb4⟩
  obtain rfl : n1 = _ := hn1
  obtain rfl : n2 = _ := hn2
  obtain rfl : n3 = _ := hn3
  dsimp only
  have L4 := Lib.hid (L3.out.next hb4)
  have X4 := Lib.hid (X3.out.next hb4)
  have T4 := Lib.hid ht
  clear ht hv4 hb4 L3 X3
  clear q0 q1 q2 q3 q4 q5 ql p0 p1 p2 pl x0 x1 x2 x3 x4 x5 xl
  have b5 := (Below.refl w4.heap.size w4).alloc (Nat.le_refl _) (.cells #[.slice A1 n1 D1, .slice A2 n2 D2, .slice (t4 0).a (t4 0).n (t4 0).c, .slice (t4 1).a (t4 1).n (t4 1).c, .slice (t4 2).a (t4 2).n (t4 2).c, .slice A3 n3 D3] 28)
  have b6 := (Below.refl (w4.alloc (.cells #[.slice A1 n1 D1, .slice A2 n2 D2, .slice (t4 0).a (t4 0).n (t4 0).c, .slice (t4 1).a (t4 1).n (t4 1).c, .slice (t4 2).a (t4 2).n (t4 2).c, .slice A3 n3 D3] 28)).heap.size (w4.alloc (.cells #[.slice A1 n1 D1, .slice A2 n2 D2, .slice (t4 0).a (t4 0).n (t4 0).c, .slice (t4 1).a (t4 1).n (t4 1).c, .slice (t4 2).a (t4 2).n (t4 2).c, .slice A3 n3 D3] 28))).alloc (Nat.le_refl _) (.cells #[.slice (v 0).a (v 0).n (v 0).c, .slice (v 1).a (v 1).n (v 1).c, .slice (v 2).a (v 2).n (v 2).c] 25)
  have L5 := Lib.hid ((L4.out.next b5).next b6)
  have X5 := Lib.hid ((X4.out.next b5).next b6)
  have K5 := Lib.hid ((HBox.new w4 ⟨⟨A1, n1, D1⟩, ⟨A2, n2, D2⟩, t4, ⟨A3, n3, D3⟩⟩ 28).next b6)
  have P5 := Lib.hid ((T4.out.next b5).next b6)
  clear b5 b6 L4 X4 T4
  have x0 := X5.out.c0
  have x1 := X5.out.c1
  have x2 := X5.out.c2
  have x3 := X5.out.c3
  have x4 := X5.out.c4
  have x5 := X5.out.c5
  have xl := X5.out.lt
  have q0 := L5.out.hb.c0
  have q1 := L5.out.hb.c1
  have q2 := L5.out.hb.c2
  have q3 := L5.out.hb.c3
  have q4 := L5.out.hb.c4
  have q5 := L5.out.hb.c5
  have ql := L5.out.hb.lt
  have p0 := L5.out.cb.cell 0 (by decide)
  have p1 := L5.out.cb.cell 1 (by decide)
  have p2 := L5.out.cb.cell 2 (by decide)
  have pl := L5.out.cb.lt
  go_wp2_with fail
  refine (C2.out _ L5.out).mono ?_
  rintro e9 w6 ⟨⟨⟨E1, m1, H1⟩, ⟨E2, m2, H2⟩, t6, ⟨E3, m3, H3⟩⟩, v6, rfl, _, _, ⟨hm1, hm2, hm3⟩, hb6⟩
  obtain rfl : m1 = _ := hm1
  obtain rfl : m2 = _ := hm2
  obtain rfl : m3 = _ := hm3
  dsimp only
  have b7 := (Below.refl w6.heap.size w6).alloc (Nat.le_refl _) (.cells #[.slice E1 m1 H1, .slice E2 m2 H2, .slice (t6 0).a (t6 0).n (t6 0).c, .slice (t6 1).a (t6 1).n (t6 1).c, .slice (t6 2).a (t6 2).n (t6 2).c, .slice E3 m3 H3] 28)
  have b8 := (Below.refl (w6.alloc (.cells #[.slice E1 m1 H1, .slice E2 m2 H2, .slice (t6 0).a (t6 0).n (t6 0).c, .slice (t6 1).a (t6 1).n (t6 1).c, .slice (t6 2).a (t6 2).n (t6 2).c, .slice E3 m3 H3] 28)).heap.size (w6.alloc (.cells #[.slice E1 m1 H1, .slice E2 m2 H2, .slice (t6 0).a (t6 0).n (t6 0).c, .slice (t6 1).a (t6 1).n (t6 1).c, .slice (t6 2).a (t6 2).n (t6 2).c, .slice E3 m3 H3] 28))).alloc (Nat.le_refl _) (.cells #[.slice (v6 0).a (v6 0).n (v6 0).c, .slice (v6 1).a (v6 1).n (v6 1).c, .slice (v6 2).a (v6 2).n (v6 2).c] 25)
  have L6 := Lib.hid (((L5.out.next hb6).next b7).next b8)
  have K6 := Lib.hid (((K5.out.next hb6).next b7).next b8)
  have P6 := Lib.hid (((P5.out.next hb6).next b7).next b8)
  have X6' := Lib.hid (((X5.out.next hb6).next b7).next b8)
  clear hb6 b7 b8 L5 K5 P5 X5
  clear q0 q1 q2 q3 q4 q5 ql p0 p1 p2 pl x0 x1 x2 x3 x4 x5 xl
  go_wp2
  go_ret
  exact ⟨rfl, L6.out.bel⟩
set_option maxHeartbeats 1000000 in
theorem core_ok (a : Int) (w1 p1 c1 w2 p2 c2 : Nat) (d1 d2 : Hd_) (G1 G2 : Nat → List Int) (hc1 : ∀ W, Lw w W s d u G → Calls Tryz.prog 20 #[(.agg #[.slice s.w.a s.w.n s.w.c, .slice s.p.a s.p.n s.p.c, .slice (s.u 0).a (s.u 0).n (s.u 0).c, .slice (s.u 1).a (s.u 1).n (s.u 1).c, .slice (s.u 2).a (s.u 2).n (s.u 2).c, .slice s.c.a s.c.n s.c.c]), (.agg #[.slice (u 0).a (u 0).n (u 0).c, .slice (u 1).a (u 1).n (u 1).c, .slice (u 2).a (u 2).n (u 2).c]), .agg #[.bool true, .bool o, .bool e, .int .i64 N, .int .i64 b, .int .i64 m]] W (TkO W a 0 w1 p1 c1 d1 G1)) (hc2 : ∀ W, Lw w W s d u G → Calls Tryz.prog 20 #[(.agg #[.slice s.w.a s.w.n s.w.c, .slice s.p.a s.p.n s.p.c, .slice (s.u 0).a (s.u 0).n (s.u 0).c, .slice (s.u 1).a (s.u 1).n (s.u 1).c, .slice (s.u 2).a (s.u 2).n (s.u 2).c, .slice s.c.a s.c.n s.c.c]), (.agg #[.slice (u 0).a (u 0).n (u 0).c, .slice (u 1).a (u 1).n (u 1).c, .slice (u 2).a (u 2).n (u 2).c]), .agg #[.bool true, .bool false, .bool false, .int .i64 N, .int .i64 0, .int .i64 0]] W (TkO W a 0 w2 p2 c2 d2 G2)) (hf : fewL s (fun _ => u) 1 = true) (hh : ∀ (W : World) (t : Hs), Hp W W.heap.size t d1 → (t.w.n = w1 ∧ t.p.n = p1 ∧ t.c.n = c1) → Below w.heap.size w W → Calls Tryz.prog 27 #[(.agg #[.slice t.w.a t.w.n t.w.c, .slice t.p.a t.p.n t.p.c, .slice (t.u 0).a (t.u 0).n (t.u 0).c, .slice (t.u 1).a (t.u 1).n (t.u 1).c, .slice (t.u 2).a (t.u 2).n (t.u 2).c, .slice t.c.a t.c.n t.c.c]), .int .i64 a] W (HeadOut W (.agg #[.bool true, .bool o, .bool e, .int .i64 N, .int .i64 b, .int .i64 m]) 0)) (hr : ∀ W, Lw w W s d u G → Calls Tryz.prog 23 #[(.agg #[.slice s.w.a s.w.n s.w.c, .slice s.p.a s.p.n s.p.c, .slice (s.u 0).a (s.u 0).n (s.u 0).c, .slice (s.u 1).a (s.u 1).n (s.u 1).c, .slice (s.u 2).a (s.u 2).n (s.u 2).c, .slice s.c.a s.c.n s.c.c]), (.agg #[.slice (u 0).a (u 0).n (u 0).c, .slice (u 1).a (u 1).n (u 1).c, .slice (u 2).a (u 2).n (u 2).c]), .int .i64 N] W fun e w' => e = .returned (.bool true) ∧ Below W.heap.size W w') (hz : Cl.Sz w) (hp : Hp w w.heap.size s d) (l3 : Ls.L3 w w.heap.size u G) : Calls Tryz.prog 9 #[(.agg #[.slice s.w.a s.w.n s.w.c, .slice s.p.a s.p.n s.p.c, .slice (s.u 0).a (s.u 0).n (s.u 0).c, .slice (s.u 1).a (s.u 1).n (s.u 1).c, .slice (s.u 2).a (s.u 2).n (s.u 2).c, .slice s.c.a s.c.n s.c.c]), (.agg #[.slice (u 0).a (u 0).n (u 0).c, .slice (u 1).a (u 1).n (u 1).c, .slice (u 2).a (u 2).n (u 2).c]), .agg #[.bool true, .bool o, .bool e, .int .i64 N, .int .i64 b, .int .i64 m]] w fun e w' => e = .returned (.bool true) ∧ Below w.heap.size w w' := by
  have HZ := Lib.hid hz
  have hz0 := hz.pos
  have HP := Lib.hid hp
  have HL := Lib.hid l3
  have HF := Lib.hid hf
  have C1 := Lib.hid hc1
  have C2 := Lib.hid hc2
  have HH := Lib.hid hh
  have HR := Lib.hid hr
  clear hh hr
  clear hz hp l3 hf hc1 hc2
  go_enter Tryz.func9, Tryz.ntmps9
  go_wp2_with fail
  obtain ⟨W0, hW0⟩ : ∃ W0, W0 = (w.alloc (.cells #[.slice s.w.a s.w.n s.w.c, .slice s.p.a s.p.n s.p.c, .slice (s.u 0).a (s.u 0).n (s.u 0).c, .slice (s.u 1).a (s.u 1).n (s.u 1).c, .slice (s.u 2).a (s.u 2).n (s.u 2).c, .slice s.c.a s.c.n s.c.c] 28)).alloc (.cells #[.slice (u 0).a (u 0).n (u 0).c, .slice (u 1).a (u 1).n (u 1).c, .slice (u 2).a (u 2).n (u 2).c] 25) := ⟨_, rfl⟩
  obtain ⟨W1, hW1⟩ : ∃ W1, W1 = W0.alloc (.cells #[.bool true, .bool o, .bool e, .int .i64 N, .int .i64 b, .int .i64 m] 30) := ⟨_, rfl⟩
  have X1 : Hid (X6 W1 (w.heap.size + 2) true o e N b m) := Lib.hid (x6_three (s := s) (u := u) (w := w) (by rw [hW1, hW0]))
  have L0 := lw_start HP.out HL.out hW0
  rw [← hW0, ← hW1]
  have L1 : Hid (Lw w W1 s d u G) := Lib.hid (by rw [hW1]; exact L0.next ((Below.refl _ _).alloc (Nat.le_refl _) _))
  clear hW0 hW1 L0
  refine (Al.awake_any W1 (HZ.out.over L1.out.bel hz0)).mono ?_
  rintro e9 w1 ⟨rfl, hb1⟩
  have L2 := Lib.hid (L1.out.next hb1)
  have X2 := Lib.hid (X1.out.next hb1)
  clear hb1 L1 X1
  have q0 := L2.out.hb.c0
  have q1 := L2.out.hb.c1
  have q2 := L2.out.hb.c2
  have q3 := L2.out.hb.c3
  have q4 := L2.out.hb.c4
  have q5 := L2.out.hb.c5
  have ql := L2.out.hb.lt
  have p0 := L2.out.cb.cell 0 (by decide)
  have p1 := L2.out.cb.cell 1 (by decide)
  have p2 := L2.out.cb.cell 2 (by decide)
  have pl := L2.out.cb.lt
  go_wp2_with fail
  have b2 := (Below.refl w1.heap.size w1).alloc (Nat.le_refl _) (.cells #[.slice (u 0).a (u 0).n (u 0).c, .slice (u 1).a (u 1).n (u 1).c, .slice (u 2).a (u 2).n (u 2).c] 25)
  refine (few8_any s (some ⟨w1.heap.size, 0, none⟩) 1 1 (fun _ => u) (fun _ => G) (w1.alloc (.cells #[.slice (u 0).a (u 0).n (u 0).c, .slice (u 1).a (u 1).n (u 1).c, .slice (u 2).a (u 2).n (u 2).c] 25)) (by omega) (lrow_of (own_one w1 u) (by simp) (fun _ _ => L2.out.l3.next b2))).mono ?_
  rw [HF.out]
  rintro e9 w2 ⟨rfl, hb2⟩
  have L3 := Lib.hid ((L2.out.next b2).next hb2)
  have X3 := Lib.hid ((X2.out.next b2).next hb2)
  clear b2 hb2 L2 X2
  clear q0 q1 q2 q3 q4 q5 ql p0 p1 p2 pl
  have x0 := X3.out.c0
  have x1 := X3.out.c1
  have x2 := X3.out.c2
  have x3 := X3.out.c3
  have x4 := X3.out.c4
  have x5 := X3.out.c5
  have xl := X3.out.lt
  have q0 := L3.out.hb.c0
  have q1 := L3.out.hb.c1
  have q2 := L3.out.hb.c2
  have q3 := L3.out.hb.c3
  have q4 := L3.out.hb.c4
  have q5 := L3.out.hb.c5
  have ql := L3.out.hb.lt
  have p0 := L3.out.cb.cell 0 (by decide)
  have p1 := L3.out.cb.cell 1 (by decide)
  have p2 := L3.out.cb.cell 2 (by decide)
  have pl := L3.out.cb.lt
  go_wp2_with fail
  refine (C1.out w2 L3.out).mono ?_
  rintro e9 w4 ⟨⟨⟨A1, n1, D1⟩, ⟨A2, n2, D2⟩, t4, ⟨A3, n3, D3⟩⟩, v, rfl, ht, hv4, ⟨hn1, hn2, hn3⟩, hb4⟩
  obtain rfl : n1 = _ := hn1
  obtain rfl : n2 = _ := hn2
  obtain rfl : n3 = _ := hn3
  dsimp only
  have L4 := Lib.hid (L3.out.next hb4)
  have X4 := Lib.hid (X3.out.next hb4)
  have T4 := Lib.hid ht
  clear ht hv4 hb4 L3 X3
  clear q0 q1 q2 q3 q4 q5 ql p0 p1 p2 pl x0 x1 x2 x3 x4 x5 xl
  have b5 := (Below.refl w4.heap.size w4).alloc (Nat.le_refl _) (.cells #[.slice A1 n1 D1, .slice A2 n2 D2, .slice (t4 0).a (t4 0).n (t4 0).c, .slice (t4 1).a (t4 1).n (t4 1).c, .slice (t4 2).a (t4 2).n (t4 2).c, .slice A3 n3 D3] 28)
  have b6 := (Below.refl (w4.alloc (.cells #[.slice A1 n1 D1, .slice A2 n2 D2, .slice (t4 0).a (t4 0).n (t4 0).c, .slice (t4 1).a (t4 1).n (t4 1).c, .slice (t4 2).a (t4 2).n (t4 2).c, .slice A3 n3 D3] 28)).heap.size (w4.alloc (.cells #[.slice A1 n1 D1, .slice A2 n2 D2, .slice (t4 0).a (t4 0).n (t4 0).c, .slice (t4 1).a (t4 1).n (t4 1).c, .slice (t4 2).a (t4 2).n (t4 2).c, .slice A3 n3 D3] 28))).alloc (Nat.le_refl _) (.cells #[.slice (v 0).a (v 0).n (v 0).c, .slice (v 1).a (v 1).n (v 1).c, .slice (v 2).a (v 2).n (v 2).c] 25)
  have L5 := Lib.hid ((L4.out.next b5).next b6)
  have X5 := Lib.hid ((X4.out.next b5).next b6)
  have K5 := Lib.hid ((HBox.new w4 ⟨⟨A1, n1, D1⟩, ⟨A2, n2, D2⟩, t4, ⟨A3, n3, D3⟩⟩ 28).next b6)
  have P5 := Lib.hid ((T4.out.next b5).next b6)
  clear b5 b6 L4 X4 T4
  have x0 := X5.out.c0
  have x1 := X5.out.c1
  have x2 := X5.out.c2
  have x3 := X5.out.c3
  have x4 := X5.out.c4
  have x5 := X5.out.c5
  have xl := X5.out.lt
  have q0 := L5.out.hb.c0
  have q1 := L5.out.hb.c1
  have q2 := L5.out.hb.c2
  have q3 := L5.out.hb.c3
  have q4 := L5.out.hb.c4
  have q5 := L5.out.hb.c5
  have ql := L5.out.hb.lt
  have p0 := L5.out.cb.cell 0 (by decide)
  have p1 := L5.out.cb.cell 1 (by decide)
  have p2 := L5.out.cb.cell 2 (by decide)
  have pl := L5.out.cb.lt
  go_wp2_with fail
  refine (C2.out _ L5.out).mono ?_
  rintro e9 w6 ⟨⟨⟨E1, m1, H1⟩, ⟨E2, m2, H2⟩, t6, ⟨E3, m3, H3⟩⟩, v6, rfl, _, _, ⟨hm1, hm2, hm3⟩, hb6⟩
  obtain rfl : m1 = _ := hm1
  obtain rfl : m2 = _ := hm2
  obtain rfl : m3 = _ := hm3
  dsimp only
  have b7 := (Below.refl w6.heap.size w6).alloc (Nat.le_refl _) (.cells #[.slice E1 m1 H1, .slice E2 m2 H2, .slice (t6 0).a (t6 0).n (t6 0).c, .slice (t6 1).a (t6 1).n (t6 1).c, .slice (t6 2).a (t6 2).n (t6 2).c, .slice E3 m3 H3] 28)
  have b8 := (Below.refl (w6.alloc (.cells #[.slice E1 m1 H1, .slice E2 m2 H2, .slice (t6 0).a (t6 0).n (t6 0).c, .slice (t6 1).a (t6 1).n (t6 1).c, .slice (t6 2).a (t6 2).n (t6 2).c, .slice E3 m3 H3] 28)).heap.size (w6.alloc (.cells #[.slice E1 m1 H1, .slice E2 m2 H2, .slice (t6 0).a (t6 0).n (t6 0).c, .slice (t6 1).a (t6 1).n (t6 1).c, .slice (t6 2).a (t6 2).n (t6 2).c, .slice E3 m3 H3] 28))).alloc (Nat.le_refl _) (.cells #[.slice (v6 0).a (v6 0).n (v6 0).c, .slice (v6 1).a (v6 1).n (v6 1).c, .slice (v6 2).a (v6 2).n (v6 2).c] 25)
  have L6 := Lib.hid (((L5.out.next hb6).next b7).next b8)
  have K6 := Lib.hid (((K5.out.next hb6).next b7).next b8)
  have P6 := Lib.hid (((P5.out.next hb6).next b7).next b8)
  have X6' := Lib.hid (((X5.out.next hb6).next b7).next b8)
  clear hb6 b7 b8 L5 K5 P5 X5
  clear q0 q1 q2 q3 q4 q5 ql p0 p1 p2 pl x0 x1 x2 x3 x4 x5 xl
  have k0 := K6.out.c0
  have k1 := K6.out.c1
  have k2 := K6.out.c2
  have k3 := K6.out.c3
  have k4 := K6.out.c4
  have k5 := K6.out.c5
  have kl := K6.out.lt
  dsimp only at k0 k1 k2 k3 k4 k5
  have da : (a == a) = true := by simp
  go_wp2_with fail
  refine (HH.out _ _ P6.out ⟨rfl, rfl, rfl⟩ L6.out.bel).mono ?_
  rintro e9 w8 ⟨rfl, hb8⟩
  have b9 := (Below.refl w8.heap.size w8).alloc (Nat.le_refl _) (.cells #[.bool true, .bool o, .bool e, .int .i64 N, .int .i64 b, .int .i64 m] 30)
  have L8 := Lib.hid ((L6.out.next hb8).next b9)
  have X8 := Lib.hid ((X6'.out.next hb8).next b9)
  have Y8 := Lib.hid (X6.new w8 true o e N b m 30)
  clear hb8 b9 L6 K6 P6 X6'
  clear k0 k1 k2 k3 k4 k5 kl
  have x0 := X8.out.c0
  have x1 := X8.out.c1
  have x2 := X8.out.c2
  have x3 := X8.out.c3
  have x4 := X8.out.c4
  have x5 := X8.out.c5
  have xl := X8.out.lt
  have y0 := Y8.out.c0
  have y1 := Y8.out.c1
  have y2 := Y8.out.c2
  have y3 := Y8.out.c3
  have y4 := Y8.out.c4
  have y5 := Y8.out.c5
  have yl := Y8.out.lt
  have q0 := L8.out.hb.c0
  have q1 := L8.out.hb.c1
  have q2 := L8.out.hb.c2
  have q3 := L8.out.hb.c3
  have q4 := L8.out.hb.c4
  have q5 := L8.out.hb.c5
  have ql := L8.out.hb.lt
  have p0 := L8.out.cb.cell 0 (by decide)
  have p1 := L8.out.cb.cell 1 (by decide)
  have p2 := L8.out.cb.cell 2 (by decide)
  have pl := L8.out.cb.lt
  have he := eql_self true o e N b m
  go_wp2_with fail
  refine (HR.out _ L8.out).mono ?_
  rintro e9 w9 ⟨rfl, hb9⟩
  have L9 := Lib.hid (L8.out.next hb9)
  clear hb9 L8 X8 Y8
  clear x0 x1 x2 x3 x4 x5 xl y0 y1 y2 y3 y4 y5 yl q0 q1 q2 q3 q4 q5 ql p0 p1 p2 pl
  go_wp2
  go_ret
  exact ⟨rfl, L9.out.bel⟩
end
theorem walk (s : Hs) (d : Hd_) (u : Nat → Ls.Sl) (G : Nat → List Int) (us o e : Bool) (N b m : Int) (w : World) (hz : Cl.Sz w) (hp : Hp w w.heap.size s d) (hv : Fit64 d.ws) (_ : s.p.n ≤ s.p.c) (l3 : Ls.L3 w w.heap.size u G) (_ : (Lit.int .i64 N).wf = true) (_ : (Lit.int .i64 b).wf = true) (_ : (Lit.int .i64 m).wf = true) :
    Calls Tryz.prog 9 #[(.agg #[.slice s.w.a s.w.n s.w.c, .slice s.p.a s.p.n s.p.c, .slice (s.u 0).a (s.u 0).n (s.u 0).c, .slice (s.u 1).a (s.u 1).n (s.u 1).c, .slice (s.u 2).a (s.u 2).n (s.u 2).c, .slice s.c.a s.c.n s.c.c]), (.agg #[.slice (u 0).a (u 0).n (u 0).c, .slice (u 1).a (u 1).n (u 1).c, .slice (u 2).a (u 2).n (u 2).c]), .agg #[.bool us, .bool o, .bool e, .int .i64 N, .int .i64 b, .int .i64 m]] w fun e w' => e = .returned (.bool true) ∧ Below w.heap.size w w' := by
  cases hf : fewL s (fun _ => u) 1
  · exact walk_few s d u G us o e N b m w hf hz hp l3
  · cases us
    · exact walk_used s d u G o e N b m w hf hz hp l3
    · have hz0 := hz.pos
      have hl := lite_few hf hp l3 hv
      have hfT := hl.fineT (by decide) hp.free.len l3.len
      have c1 := take_tko hz hz0 hfT true o e N b m
      have c2 := take_tko hz hz0 hfT true false false N 0 0
      rcases heads_cases s d G o e N b m with h1 | ⟨er, h0, h1, e1, e2⟩ | ⟨q, hm, hx, hN, hq, e1, e2⟩
      · rw [h1] at c1
        exact core_arg s d u G o e N b m w _ _ 0 0 0 _ _ _ dNone _ Ls.noLists _ c1 c2 hf hz hp l3
      · rw [e1] at c1
        rw [e2] at c2
        exact core_err s d u G o e N b m w er 0 0 0 0 0 0 dNone dNone Ls.noLists Ls.noLists c1 c2 hf h0 h1 hz hp l3
      · have hr := room_tko hz hz0 hfT N
        rw [show roomB s d G N = true by unfold roomB; rw [e2]; rfl] at hr
        rw [e1] at c1
        rw [e2] at c2
        exact core_ok s d u G o e N b m w q.2.2 s.w.n s.p.n s.c.n s.w.n s.p.n s.c.n _ _ q.2.1 q.2.1 c1 c2 hf (head_tko hz hz0 hl (by decide) hp.words.1 hm hx hN hq) hr hz hp l3
-- the frame (hpframe.py)
set_option maxRecDepth 100000 in
theorem lifted (os : Os) (started : os.Started) (H : Type) (enc : TypeId × Value → H) :
    ReturnsInHanded {} Tryz.checked os 9 .any (fun w args => (Rows.allocHeadsSpec.pre enc Tryz.prog Tryz.f9 [] false w args ∧ laidMetH Tryz.prog laidSizes w) ∧ sizedMet enc Tryz.prog Tryz.f9 (OpenSpec.ofChange Rows.allocHeadsSpec) false w args)
      (Rows.allocHeadsSpec.post enc Tryz.prog Tryz.f9 false true false false) := by
  refine returnsInHanded_of_change_and (C := Tryz.checked) (X := fun w _ => laidMetH Tryz.prog laidSizes w) (fun _ _ _ hh h => h.of_heap hh) own started (by kernel_rfl) Tryz.func9
    (ChangeSpec.witness_shaped (enc := enc) (C := Tryz.checked) (os := os) (X := fun w _ => laidMetH Tryz.prog laidSizes w) false (World.doorLaid Tryz.prog 400 os) #[.agg #[.slice none 0 0, .slice none 0 0, .slice none 0 0, .slice none 0 0, .slice none 0 0, .slice none 0 0], .agg #[.slice none 0 0, .slice none 0 0, .slice none 0 0], .agg #[.bool false, .bool false, .bool false, .int .i64 0, .int .i64 0, .int .i64 0]] 8 rfl (World.shaped_of_RefB (by kernel_rfl) (by kernel_rfl)) (by kernel_rfl) (by kernel_rfl) (by kernel_rfl) (door_met os _)) ?_
  intro W base args ds gs before hval0 hW _ _ hL _
  have hval : ∀ (j : Nat) t v, Tryz.f9.params[j]? = some t → args[j]? = some v → Value.okWide Tryz.prog W .any base t v := hval0
  have hW' := hW
  obtain ⟨p, q, hA0, hV, rfl, hfz, hnd⟩ := hW
  have hA : DataW.TrodAll enc Tryz.prog W 0 (fun _ => true) true Tryz.f9.params.toList args.toList ds p := hA0
  rw [Tryz.params9] at hA hval
  obtain ⟨v0, vs0, d0, ds0, p0, q0, hargs, rfl, rfl, h0, r0⟩ := trodAll_cons hA
  obtain ⟨v1, vs1, d1, ds1, p1, q1, rfl, rfl, rfl, h1, r1⟩ := trodAll_cons r0
  obtain ⟨v2, vs2, d2, ds2, p2, q2, rfl, rfl, rfl, h2, r2⟩ := trodAll_cons r1
  obtain ⟨rfl, rfl, rfl⟩ := trodAll_nil r2
  obtain rfl : args = #[v0, v1, v2] := by cases args; simp_all
  obtain ⟨rfl, rfl⟩ := trodVars_none hV
  have k0 := h0
  have lt0 : ∀ x ∈ p0, x.block < W.heap.size := by obtain ⟨m, hm⟩ := k0; exact DataW.trod_lt m _ _ _ hm
  obtain ⟨s0, z0, rfl, w0, f0, b0⟩ := heap_of8 (hval 0 28 v0 rfl rfl) h0
  have k1 := h1
  have lt1 : ∀ x ∈ p1, x.block < W.heap.size := by obtain ⟨m, hm⟩ := k1; exact DataW.trod_lt m _ _ _ hm
  obtain ⟨u1, z1, rfl, w1, b1⟩ := lists_of (hval 1 25 v1 rfl rfl) h1
  obtain ⟨u2, o2, e2, n2, b2, m2, rfl, rfl, rfl, x2, y2, z2⟩ := six_open Tryz.underlying30 cellsHead (by kernel_rfl) rfl Tryz.underlying4 Tryz.underlying3 (hval 2 30 v2 rfl rfl) h2
  clear hA0 hval0
  refine (walk s0 z0 u1 z1 u2 o2 e2 n2 b2 m2 W (of_laid hL) w0 f0 b0 w1 x2 y2 z2).mono fun e W' ⟨he, bel⟩ => ?_
  subst he
  exact ⟨_, rfl, _, _, _, [], _, [], hW', trodAll_mk1 (shut_bool Tryz.underlying4 _), (trodAll_cons_mk (Below.trod laidOut (by kernel_rfl) (of_decide_eq_true (by kernel_rfl)) k0 bel lt0) (trodAll_cons_mk (Below.trod laidOut (by kernel_rfl) (of_decide_eq_true (by kernel_rfl)) k1 bel lt1) (trodAll_cons_mk (six_shut Tryz.underlying30 cellsHead (by kernel_rfl) rfl Tryz.underlying4 Tryz.underlying3 _ _ _ _ _ _ x2 y2 z2) trodAll_mk0))), rfl, bel.frame _, fun h => by cases h⟩

theorem over : Rows.AllocHeadsSaid :=
  OpenClaim.holds_of_wide 9 Tryz.f9 rfl rfl rfl rfl rfl rfl rfl ⟨rfl, rfl, rfl, rfl, rfl⟩ rfl rfl rfl rfl rfl (by kernel_rfl) Tryz.func9 (by kernel_rfl)
    (of_decide_eq_true (by kernel_rfl)) (by unfold Func.isWrapper; first | (rw [if_pos (by decide +kernel)]; kernel_rfl) | (rw [if_neg (by decide +kernel)]; exact ⟨rfl, rfl⟩))
    (fun os started H enc _ => lifted os started H enc)

/-- The statement: the card. -/
theorem proved : Rows.AllocHeadsCardSaid :=
  Claim7.holds_tied_plain_at .later [] [.data] true Rows.allocHeadsCard.stood.harness false
    over (fun _ h => by cases h) (by kernel_rfl) (fun _ h => by cases h) allocHeads_row_tie rfl ⟨rfl, rfl⟩ (by kernel_rfl) rfl
    (fun f fn hf hfn => by
      obtain rfl : f = 9 := Option.some.inj ((show Tryz.prog.funcNamed "ragpicker/ragpickerlaw08.AllocHeads" = some 9 by kernel_rfl).symm.trans hf) |>.symm
      obtain rfl : fn = Tryz.f9 := (Option.some.inj (Tryz.func9.symm.trans hfn)).symm
      exact ⟨by kernel_rfl, fun j t ht => by
        rw [Tryz.params9] at ht
        have hm : t ∈ [28, 25, 30] := by simpa using Array.mem_of_getElem? ht
        have hall : ([28, 25, 30].all fun u => !Tryz.prog.wantsStandIn u) = true := by kernel_rfl
        exact (show Tryz.prog.wantsStandIn t = false by simpa using List.all_eq_true.1 hall t hm)⟩)
    (by kernel_rfl)
#print axioms proved
end Go.Proofs.YthgcaehhjiccbaaGreatDoor.AllocHeads
