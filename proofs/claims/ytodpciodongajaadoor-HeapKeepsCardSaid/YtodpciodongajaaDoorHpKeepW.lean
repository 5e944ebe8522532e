/-
  The walks of HeapKeeps.
-/
import Derived.Test.YtodpciodongajaaDoorHpAwake
import Derived.Test.YtodpciodongajaaDoorHpReg
import Derived.Test.YtodpciodongajaaDoorHpIns
import Derived.Test.YtodpciodongajaaDoorHpWholeP
namespace Go.Proofs.YtodpciodongajaaDoor.HeapKeeps
open Go.Proofs.YtodpciodongajaaDoor
open Go.ChangeShapes Go.WideShapes Go.ChangeAt Go.RowKit
set_option maxRecDepth 100000

/-- The two arguments' boxes. -/
structure In2 (w W : World) (s : Hs) (d : Hd_) (u o e : Bool) (n b m : Int) : Prop where
  h : HNow w W s d
  x : X6 W (w.heap.size + 1) u o e n b m
theorem In2.next {w W W' : World} {s : Hs} {d : Hd_} {u o e : Bool} {n b m : Int} (h : In2 w W s d u o e n b m) (hb : Below W.heap.size W W') : In2 w W' s d u o e n b m := ⟨h.h.next hb, h.x.next hb⟩
theorem in2_start {w W : World} {s : Hs} {d : Hd_} {u o e : Bool} {n b m : Int} (hp : Hp w w.heap.size s d) (h : W = (w.alloc (.cells #[.slice s.w.a s.w.n s.w.c, .slice s.p.a s.p.n s.p.c, .slice (s.u 0).a (s.u 0).n (s.u 0).c, .slice (s.u 1).a (s.u 1).n (s.u 1).c, .slice (s.u 2).a (s.u 2).n (s.u 2).c, .slice s.c.a s.c.n s.c.c] 28)).alloc (.cells #[.bool u, .bool o, .bool e, .int .i64 n, .int .i64 b, .int .i64 m] 34)) : In2 w W s d u o e n b m := by
  have hb : Below w.heap.size w W := by rw [h]; exact ((Below.refl _ _).alloc (Nat.le_refl _) _).alloc (by simp) _
  have bx : Below (w.alloc (.cells #[.slice s.w.a s.w.n s.w.c, .slice s.p.a s.p.n s.p.c, .slice (s.u 0).a (s.u 0).n (s.u 0).c, .slice (s.u 1).a (s.u 1).n (s.u 1).c, .slice (s.u 2).a (s.u 2).n (s.u 2).c, .slice s.c.a s.c.n s.c.c] 28)).heap.size (w.alloc (.cells #[.slice s.w.a s.w.n s.w.c, .slice s.p.a s.p.n s.p.c, .slice (s.u 0).a (s.u 0).n (s.u 0).c, .slice (s.u 1).a (s.u 1).n (s.u 1).c, .slice (s.u 2).a (s.u 2).n (s.u 2).c, .slice s.c.a s.c.n s.c.c] 28)) W := by rw [h]; exact (Below.refl _ _).alloc (Nat.le_refl _) _
  have x := X6.new (w.alloc (.cells #[.slice s.w.a s.w.n s.w.c, .slice s.p.a s.p.n s.p.c, .slice (s.u 0).a (s.u 0).n (s.u 0).c, .slice (s.u 1).a (s.u 1).n (s.u 1).c, .slice (s.u 2).a (s.u 2).n (s.u 2).c, .slice s.c.a s.c.n s.c.c] 28)) u o e n b m 34
  rw [World.size_alloc] at x
  exact ⟨⟨(HBox.new w s 28).next bx, hb, hp.below hb⟩, by rw [h]; exact x⟩
section
variable (s : Hs) (d : Hd_) (a : Int) (u o e : Bool) (n b m : Int) (w : World)
theorem walk_few (hz : Cl.Sz w) (hf : fewH s = false) (hp : Hp w w.heap.size s d) : Calls Tryd.prog 5 #[(.agg #[.slice s.w.a s.w.n s.w.c, .slice s.p.a s.p.n s.p.c, .slice (s.u 0).a (s.u 0).n (s.u 0).c, .slice (s.u 1).a (s.u 1).n (s.u 1).c, .slice (s.u 2).a (s.u 2).n (s.u 2).c, .slice s.c.a s.c.n s.c.c]), .int .i64 a, (.agg #[.bool u, .bool o, .bool e, .int .i64 n, .int .i64 b, .int .i64 m])] w fun e w' => e = .returned (.bool true) ∧ Below w.heap.size w w' := by
  have HZ := Lib.hid hz
  have hz0 := hz.pos
  have HP := Lib.hid hp
  have HF := Lib.hid hf
  clear hz hf hp
  go_enter Tryd.func5, Tryd.ntmps5
  go_wp2_with fail
  obtain ⟨W1, hW1⟩ : ∃ W1, W1 = (w.alloc (.cells #[.slice s.w.a s.w.n s.w.c, .slice s.p.a s.p.n s.p.c, .slice (s.u 0).a (s.u 0).n (s.u 0).c, .slice (s.u 1).a (s.u 1).n (s.u 1).c, .slice (s.u 2).a (s.u 2).n (s.u 2).c, .slice s.c.a s.c.n s.c.c] 28)).alloc (.cells #[.bool u, .bool o, .bool e, .int .i64 n, .int .i64 b, .int .i64 m] 34) := ⟨_, rfl⟩
  have I1 := Lib.hid (in2_start HP.out hW1)
  rw [← hW1]
  clear hW1
  refine (awake_any W1 (HZ.out.over I1.out.h.bel hz0)).mono ?_
  rintro e9 w1 ⟨rfl, hb1⟩
  have I2 := Lib.hid (I1.out.next hb1)
  have q0 := I2.out.h.box.c0
  have q1 := I2.out.h.box.c1
  have q2 := I2.out.h.box.c2
  have q3 := I2.out.h.box.c3
  have q4 := I2.out.h.box.c4
  have q5 := I2.out.h.box.c5
  have ql := I2.out.h.box.lt
  clear hb1 I1
  go_wp2_with fail
  refine (rfew_any s _).mono ?_
  rw [HF.out]
  rintro e9 w2 ⟨rfl, hb2⟩
  have I3 := Lib.hid (I2.out.next hb2)
  clear hb2 I2
  clear q0 q1 q2 q3 q4 q5 ql
  go_wp2
  go_ret
  exact ⟨rfl, I3.out.h.bel⟩
theorem walk_no (er : Int) (h0 : ¬ er = 0) (hz : Cl.Sz w) (hf : fewH s = true) (hp : Hp w w.heap.size s d) (hs : ∀ W, HNow w W s d → Calls Tryd.prog 23 #[(.agg #[.slice s.w.a s.w.n s.w.c, .slice s.p.a s.p.n s.p.c, .slice (s.u 0).a (s.u 0).n (s.u 0).c, .slice (s.u 1).a (s.u 1).n (s.u 1).c, .slice (s.u 2).a (s.u 2).n (s.u 2).c, .slice s.c.a s.c.n s.c.c]), .int .i64 a, (.agg #[.bool u, .bool o, .bool e, .int .i64 n, .int .i64 b, .int .i64 m])] W (SetNo W er)) : Calls Tryd.prog 5 #[(.agg #[.slice s.w.a s.w.n s.w.c, .slice s.p.a s.p.n s.p.c, .slice (s.u 0).a (s.u 0).n (s.u 0).c, .slice (s.u 1).a (s.u 1).n (s.u 1).c, .slice (s.u 2).a (s.u 2).n (s.u 2).c, .slice s.c.a s.c.n s.c.c]), .int .i64 a, (.agg #[.bool u, .bool o, .bool e, .int .i64 n, .int .i64 b, .int .i64 m])] w fun e w' => e = .returned (.bool true) ∧ Below w.heap.size w w' := by
  have HZ := Lib.hid hz
  have hz0 := hz.pos
  have HP := Lib.hid hp
  have HF := Lib.hid hf
  have HS := Lib.hid hs
  have de : (er != 0) = true := by simp [h0]
  clear hz hf hp hs h0
  go_enter Tryd.func5, Tryd.ntmps5
  go_wp2_with fail
  obtain ⟨W1, hW1⟩ : ∃ W1, W1 = (w.alloc (.cells #[.slice s.w.a s.w.n s.w.c, .slice s.p.a s.p.n s.p.c, .slice (s.u 0).a (s.u 0).n (s.u 0).c, .slice (s.u 1).a (s.u 1).n (s.u 1).c, .slice (s.u 2).a (s.u 2).n (s.u 2).c, .slice s.c.a s.c.n s.c.c] 28)).alloc (.cells #[.bool u, .bool o, .bool e, .int .i64 n, .int .i64 b, .int .i64 m] 34) := ⟨_, rfl⟩
  have I1 := Lib.hid (in2_start HP.out hW1)
  rw [← hW1]
  clear hW1
  refine (awake_any W1 (HZ.out.over I1.out.h.bel hz0)).mono ?_
  rintro e9 w1 ⟨rfl, hb1⟩
  have I2 := Lib.hid (I1.out.next hb1)
  have q0 := I2.out.h.box.c0
  have q1 := I2.out.h.box.c1
  have q2 := I2.out.h.box.c2
  have q3 := I2.out.h.box.c3
  have q4 := I2.out.h.box.c4
  have q5 := I2.out.h.box.c5
  have ql := I2.out.h.box.lt
  clear hb1 I1
  go_wp2_with fail
  refine (rfew_any s _).mono ?_
  rw [HF.out]
  rintro e9 w2 ⟨rfl, hb2⟩
  have I3 := Lib.hid (I2.out.next hb2)
  clear hb2 I2
  clear q0 q1 q2 q3 q4 q5 ql
  have q0 := I3.out.h.box.c0
  have q1 := I3.out.h.box.c1
  have q2 := I3.out.h.box.c2
  have q3 := I3.out.h.box.c3
  have q4 := I3.out.h.box.c4
  have q5 := I3.out.h.box.c5
  have ql := I3.out.h.box.lt
  have x0 := I3.out.x.c0
  have x1 := I3.out.x.c1
  have x2 := I3.out.x.c2
  have x3 := I3.out.x.c3
  have x4 := I3.out.x.c4
  have x5 := I3.out.x.c5
  have xl := I3.out.x.lt
  go_wp2_with fail
  refine (HS.out _ I3.out.h).mono ?_
  rintro e9 w3 ⟨rfl, hb3⟩
  have I4 := Lib.hid (I3.out.next hb3)
  have b4 := Lib.hid ((I4.out.h.next ((Below.refl w3.heap.size w3).alloc (Nat.le_refl _) (.cells #[.slice none 0 0, .slice none 0 0, .slice none 0 0, .slice none 0 0, .slice none 0 0, .slice none 0 0] 28))).bel)
  clear hb3 I3 q0 q1 q2 q3 q4 q5 ql x0 x1 x2 x3 x4 x5 xl
  simp only [noHs, Ls.noSl]
  go_wp2
  go_ret
  exact ⟨rfl, b4.out⟩
set_option maxHeartbeats 4000000 in
theorem walk_ok (N : Int) (us : List Int) (d' : Hd_) (hus : us = usedL s d) (hz : Cl.Sz w) (hf : fewH s = true) (hp : Hp w w.heap.size s d) (hv : Fit64 d.ws) (hv' : Fit64 d'.ws) (hm0 : mayB0 s d = true) (hT : ∀ t, Lens s t → Turned s t d d' a ∧ headV t d' a = .agg #[.bool true, .bool o, .bool e, .int .i64 N, .int .i64 b, .int .i64 m]) (hs : ∀ W, HNow w W s d → Calls Tryd.prog 23 #[(.agg #[.slice s.w.a s.w.n s.w.c, .slice s.p.a s.p.n s.p.c, .slice (s.u 0).a (s.u 0).n (s.u 0).c, .slice (s.u 1).a (s.u 1).n (s.u 1).c, .slice (s.u 2).a (s.u 2).n (s.u 2).c, .slice s.c.a s.c.n s.c.c]), .int .i64 a, (.agg #[.bool true, .bool o, .bool e, .int .i64 N, .int .i64 b, .int .i64 m])] W (SetOk W s d')) : Calls Tryd.prog 5 #[(.agg #[.slice s.w.a s.w.n s.w.c, .slice s.p.a s.p.n s.p.c, .slice (s.u 0).a (s.u 0).n (s.u 0).c, .slice (s.u 1).a (s.u 1).n (s.u 1).c, .slice (s.u 2).a (s.u 2).n (s.u 2).c, .slice s.c.a s.c.n s.c.c]), .int .i64 a, (.agg #[.bool true, .bool o, .bool e, .int .i64 N, .int .i64 b, .int .i64 m])] w fun e w' => e = .returned (.bool true) ∧ Below w.heap.size w w' := by
  have HZ := Lib.hid hz
  have hz0 := hz.pos
  have HP := Lib.hid hp
  have HF := Lib.hid hf
  have HFI := Lib.hid (fine_few hf hp hv)
  have HS := Lib.hid hs
  have HT := Lib.hid hT
  have HM := Lib.hid hm0
  have HUS := Lib.hid hus
  have HUL : Hid (us.length ≤ 512) := Lib.hid (by rw [hus]; exact Nat.le_trans (used_len s d) (allS_len d.f s.p.n))
  have HHD := Lib.hid (used_head hm0)
  rw [← hus] at HHD
  have HV' := Lib.hid hv'
  have HUN : Hid (∀ j, j < 3 → (s.u j).n = (d.F j).length) := Lib.hid hp.free.len
  clear hz hf hp hv hs hT hm0 hus hv'
  go_enter Tryd.func5, Tryd.ntmps5
  go_wp2_with fail
  obtain ⟨W1, hW1⟩ : ∃ W1, W1 = (w.alloc (.cells #[.slice s.w.a s.w.n s.w.c, .slice s.p.a s.p.n s.p.c, .slice (s.u 0).a (s.u 0).n (s.u 0).c, .slice (s.u 1).a (s.u 1).n (s.u 1).c, .slice (s.u 2).a (s.u 2).n (s.u 2).c, .slice s.c.a s.c.n s.c.c] 28)).alloc (.cells #[.bool true, .bool o, .bool e, .int .i64 N, .int .i64 b, .int .i64 m] 34) := ⟨_, rfl⟩
  have I1 := Lib.hid (in2_start HP.out hW1)
  rw [← hW1]
  clear hW1
  refine (awake_any W1 (HZ.out.over I1.out.h.bel hz0)).mono ?_
  rintro e9 w1 ⟨rfl, hb1⟩
  have I2 := Lib.hid (I1.out.next hb1)
  have q0 := I2.out.h.box.c0
  have q1 := I2.out.h.box.c1
  have q2 := I2.out.h.box.c2
  have q3 := I2.out.h.box.c3
  have q4 := I2.out.h.box.c4
  have q5 := I2.out.h.box.c5
  have ql := I2.out.h.box.lt
  clear hb1 I1
  go_wp2_with fail
  refine (rfew_any s _).mono ?_
  rw [HF.out]
  rintro e9 w2 ⟨rfl, hb2⟩
  have I3 := Lib.hid (I2.out.next hb2)
  clear hb2 I2
  clear q0 q1 q2 q3 q4 q5 ql
  have q0 := I3.out.h.box.c0
  have q1 := I3.out.h.box.c1
  have q2 := I3.out.h.box.c2
  have q3 := I3.out.h.box.c3
  have q4 := I3.out.h.box.c4
  have q5 := I3.out.h.box.c5
  have ql := I3.out.h.box.lt
  have x0 := I3.out.x.c0
  have x1 := I3.out.x.c1
  have x2 := I3.out.x.c2
  have x3 := I3.out.x.c3
  have x4 := I3.out.x.c4
  have x5 := I3.out.x.c5
  have xl := I3.out.x.lt
  go_wp2_with fail
  refine (HS.out _ I3.out.h).mono ?_
  rintro e9 w3 ⟨t, rfl, ht, hl, hb3⟩
  obtain ⟨hTU, hVA⟩ := HT.out t hl
  have TU := Lib.hid hTU
  have VA := Lib.hid hVA
  have FT : Hid (Fine t d') := Lib.hid ⟨by have := HFI.out.wn; have := hl.1; omega, by have := HFI.out.pn; have := hl.2.1; omega, by have := HFI.out.cn; have := hl.2.2.2; omega, HV'.out, by rw [hTU.F]; exact HFI.out.len⟩
  have I4 := Lib.hid (I3.out.next hb3)
  have b4 := (Below.refl w3.heap.size w3).alloc (Nat.le_refl _) (.cells #[.slice t.w.a t.w.n t.w.c, .slice t.p.a t.p.n t.p.c, .slice (t.u 0).a (t.u 0).n (t.u 0).c, .slice (t.u 1).a (t.u 1).n (t.u 1).c, .slice (t.u 2).a (t.u 2).n (t.u 2).c, .slice t.c.a t.c.n t.c.c] 28)
  have B4 : Hid (BB (w3.alloc (.cells #[.slice t.w.a t.w.n t.w.c, .slice t.p.a t.p.n t.p.c, .slice (t.u 0).a (t.u 0).n (t.u 0).c, .slice (t.u 1).a (t.u 1).n (t.u 1).c, .slice (t.u 2).a (t.u 2).n (t.u 2).c, .slice t.c.a t.c.n t.c.c] 28)) w3.heap.size t d') := Lib.hid ⟨HBox.new w3 t 28, ht.next b4⟩
  have I5 := Lib.hid (I4.out.next b4)
  clear hb3 I3 I4 q0 q1 q2 q3 q4 q5 ql x0 x1 x2 x3 x4 x5 xl ht hl hTU hVA b4
  have q0 := I5.out.h.box.c0
  have q1 := I5.out.h.box.c1
  have q2 := I5.out.h.box.c2
  have q3 := I5.out.h.box.c3
  have q4 := I5.out.h.box.c4
  have q5 := I5.out.h.box.c5
  have ql := I5.out.h.box.lt
  go_wp2_with fail
  clear q0 q1 q2 q3 q4 q5 ql
  obtain ⟨w5, hw5⟩ : ∃ w5, w5 = w3.alloc (.cells #[.slice t.w.a t.w.n t.w.c, .slice t.p.a t.p.n t.p.c, .slice (t.u 0).a (t.u 0).n (t.u 0).c, .slice (t.u 1).a (t.u 1).n (t.u 1).c, .slice (t.u 2).a (t.u 2).n (t.u 2).c, .slice t.c.a t.c.n t.c.c] 28) := ⟨_, rfl⟩
  rw [← hw5] at B4 I5 ⊢
  obtain ⟨bb, hbb⟩ : ∃ bb, bb = w3.heap.size := ⟨_, rfl⟩
  rw [← hbb] at B4 ⊢
  clear hw5 hbb
  refine (pused_any s d w5 (I5.out.h.hp.more I5.out.h.bel.size) (HZ.out.over I5.out.h.bel hz0) HFI.out).mono ?_
  rw [← HUS.out]
  rintro e9 w6 ⟨v6, rfl, ho6, hb6⟩
  obtain ⟨a6, c6, e6, hk6, _, _⟩ := Ls.owns_row ho6
  simp only [Value.slice.injEq, true_and] at e6
  obtain ⟨rfl, rfl⟩ := e6
  obtain ⟨va, k6, vc⟩ := v6
  dsimp only at hk6 ⊢
  have I6 := I5.out.next hb6
  have K6 : Hid (KS w w6 s t d d' true o e N b m bb va k6 us) := Lib.hid ⟨I6.h, I6.x, B4.out.next hb6, hk6⟩
  have HN : Hid (us.length = k6) := Lib.hid hk6.1
  have hk6n : k6 ≤ 512 := by have h1 := HN.out; have h2 := HUL.out; omega
  clear hb6 ho6 hk6 I5 B4 I6
  go_wp2
  go_loopw [12, 13, 14, 15, 16] (fun i _ _ _ _ wr => ∃ k : Nat, k ≤ k6 ∧ i = .int .i64 k ∧ Hid (KS w wr s t d d' true o e N b m bb va k6 us)) (fun i _ _ _ _ _ => k6 - (intOf i).toNat)
  case atStart => exact ⟨0, Nat.zero_le _, rfl, K6⟩
  case round =>
    obtain ⟨k, hk, rfl, HR⟩ := hrel
    clear K6
    by_cases hlt : k < k6
    · have dq : decide ((k : Int) < k6) = true := by simp; omega
      have dq2 : decide ((k6 : Int) ≤ k) = false := by simp; omega
      have dq3 : decide (k6 ≤ k) = false := by simp; omega
      have ik0 : (0 : Int) ≤ k := by omega
      have ik1 : (k : Int) < k6 := by omega
      obtain ⟨br, off, rfl, hbl, hcell⟩ := HR.out.r.2 (by omega)
      obtain ⟨y, hy⟩ : ∃ y, y = us.getD k 0 := ⟨_, rfl⟩
      have hq1 := hcell k hlt
      rw [← hy] at hq1
      have hin : y ∈ us := by rw [hy]; exact getD_mem (by have := HN.out; omega)
      obtain ⟨hE, ⟨o1, e1, b1, m1, hV⟩⟩ : headE s d y = 0 ∧ ∃ o e b m, headV s d y = .agg #[.bool true, .bool o, .bool e, .int .i64 (nOf (wd d y)), .int .i64 b, .int .i64 m] := by
        rcases HHD.out y with ⟨_, h1, h2, _⟩ | ⟨h1, _⟩
        · exact ⟨h1, h2⟩
        · exact absurd hin h1
      have hET : headE t d' y = 0 := (TU.out.headE y).trans hE
      generalize nOf (wd d y) = n1 at hV
      obtain ⟨g0, g1, g2, g3, g4, g5, hVT⟩ := head_form t d' y
      have HSAME : Hid ((y = a ∧ headV t d' y = .agg #[.bool true, .bool o, .bool e, .int .i64 N, .int .i64 b, .int .i64 m]) ∨ (¬ y = a ∧ headV t d' y = .agg #[.bool true, .bool o1, .bool e1, .int .i64 n1, .int .i64 b1, .int .i64 m1])) := Lib.hid (by
        by_cases e9 : y = a
        · subst e9; exact .inl ⟨rfl, VA.out⟩
        · exact .inr ⟨e9, (TU.out.headV e9).trans hV⟩)
      rw [hVT] at HSAME
      have HCT : Hid (∀ W, Below wr.heap.size wr W → Calls Tryd.prog 12 #[(.agg #[.slice t.w.a t.w.n t.w.c, .slice t.p.a t.p.n t.p.c, .slice (t.u 0).a (t.u 0).n (t.u 0).c, .slice (t.u 1).a (t.u 1).n (t.u 1).c, .slice (t.u 2).a (t.u 2).n (t.u 2).c, .slice t.c.a t.c.n t.c.c]), .int .i64 y] W (HeadOut W (.agg #[.bool g0, .bool g1, .bool g2, .int .i64 g3, .int .i64 g4, .int .i64 g5]) 0)) := Lib.hid (fun W h => by
        have := phead_any t d' y W (HR.out.b.hp.next h) (HZ.out.over (HR.out.h.bel.trans (h.mono HR.out.h.bel.size)) hz0) FT.out
        rwa [hVT, hET] at this)
      have HCS : Hid (∀ W, Below w.heap.size w W → Calls Tryd.prog 12 #[(.agg #[.slice s.w.a s.w.n s.w.c, .slice s.p.a s.p.n s.p.c, .slice (s.u 0).a (s.u 0).n (s.u 0).c, .slice (s.u 1).a (s.u 1).n (s.u 1).c, .slice (s.u 2).a (s.u 2).n (s.u 2).c, .slice s.c.a s.c.n s.c.c]), .int .i64 y] W (HeadOut W (.agg #[.bool true, .bool o1, .bool e1, .int .i64 n1, .int .i64 b1, .int .i64 m1]) 0)) := Lib.hid (fun W h => by
        have := phead_any s d y W (HP.out.below h |>.more h.size) (HZ.out.over h hz0) HFI.out
        rwa [hV, hE] at this)
      have FB : Hid (HBox wr bb t ∧ br < wr.heap.size ∧ wr.cell? ⟨br, off + k, none⟩ = some (.int .i64 y)) := Lib.hid ⟨HR.out.b.box, hbl, hq1⟩
      clear hcell hy hin hE hV hET hVT hbl hq1
      go_wp2_with fail
      refine wp_region_from (by kernel_rfl) (KAInv wr (.agg #[.slice t.w.a t.w.n t.w.c, .slice t.p.a t.p.n t.p.c, .slice (t.u 0).a (t.u 0).n (t.u 0).c, .slice (t.u 1).a (t.u 1).n (t.u 1).c, .slice (t.u 2).a (t.u 2).n (t.u 2).c, .slice t.c.a t.c.n t.c.c]) (.slice (some ⟨br, off, none⟩) k6 vc) (.int .i64 (k : Int)) (.pointer (some ⟨br, off + k, none⟩)) (.int .i64 y) g0 g1 g2 g3 g4 g5) ?dag ?start ?step ?done
      case dag => exact dag_any (by kernel_rfl)
      case start =>
        simp only [KAInv, KAPut, Act.put, List.setIfInBounds_toArray, List.set_cons_succ, List.set_cons_zero]
        exact ⟨_, _, _, _, _, _, _, _, _, _, _, 0, rfl, RSt.start _ _ _ _ _ _ _ _ _ _ _⟩
      case step =>
        rintro i o9 l a9 wc ho ⟨x13, x14, x48, x49, x50, x51, x52, x53, x54, x55, x56, b9, rfl, hs⟩ hl haft K hK
        have hi : i < 12 := (Array.getElem?_eq_some_iff.1 ho).1
        refine wpOp_of ho ?_
        rcases (show i = 0 ∨ i = 1 ∨ i = 2 ∨ i = 3 ∨ i = 4 ∨ i = 5 ∨ i = 6 ∨ i = 7 ∨ i = 8 ∨ i = 9 ∨ i = 10 ∨ i = 11 by omega) with rfl | rfl | rfl | rfl | rfl | rfl | rfl | rfl | rfl | rfl | rfl | rfl
        · obtain rfl := Option.some.inj ho
          have q0 := (FB.out.1.next hs.bel).c0
          have q1 := (FB.out.1.next hs.bel).c1
          have q2 := (FB.out.1.next hs.bel).c2
          have q3 := (FB.out.1.next hs.bel).c3
          have q4 := (FB.out.1.next hs.bel).c4
          have q5 := (FB.out.1.next hs.bel).c5
          clear ho haft hi
          simp only [KAPut, Act.put]
          go_simp
          exact hK _ _ ⟨x13, x14, x48, (.agg #[.slice t.w.a t.w.n t.w.c, .slice t.p.a t.p.n t.p.c, .slice (t.u 0).a (t.u 0).n (t.u 0).c, .slice (t.u 1).a (t.u 1).n (t.u 1).c, .slice (t.u 2).a (t.u 2).n (t.u 2).c, .slice t.c.a t.c.n t.c.c]), x50, x51, x52, x53, x54, x55, x56, b9, (by simp only [KAPut, Act.put, List.setIfInBounds_toArray, List.set_cons_succ, List.set_cons_zero]), hs.did0⟩
        · obtain rfl := Option.some.inj ho
          clear ho haft hi
          simp only [KAPut, Act.put]
          go_simp
          exact hK _ _ ⟨x13, x14, x48, x49, (.slice (some ⟨br, off, none⟩) k6 vc), x51, x52, x53, x54, x55, x56, b9, (by simp only [KAPut, Act.put, List.setIfInBounds_toArray, List.set_cons_succ, List.set_cons_zero]), hs.did1⟩
        · obtain rfl := Option.some.inj ho
          clear ho haft hi
          simp only [KAPut, Act.put]
          go_simp
          exact hK _ _ ⟨x13, x14, x48, x49, x50, (.int .i64 (k : Int)), x52, x53, x54, x55, x56, b9, (by simp only [KAPut, Act.put, List.setIfInBounds_toArray, List.set_cons_succ, List.set_cons_zero]), hs.did2⟩
        · obtain rfl := Option.some.inj ho
          have e1 := hs.s1 (haft ⟨1, .data⟩ (by simp) rfl)
          have e2 := hs.s2 (haft ⟨2, .data⟩ (by simp) rfl)
          subst e1 e2
          clear ho haft hi
          simp only [KAPut, Act.put]
          go_simp
          exact hK _ _ ⟨x13, x14, x48, x49, (.slice (some ⟨br, off, none⟩) k6 vc), (.int .i64 (k : Int)), (.pointer (some ⟨br, off + k, none⟩)), x53, x54, x55, x56, b9, (by simp only [KAPut, Act.put, List.setIfInBounds_toArray, List.set_cons_succ, List.set_cons_zero]), hs.did3⟩
        · obtain rfl := Option.some.inj ho
          have e1 := hs.s3 (haft ⟨3, .data⟩ (by simp) rfl)
          have cy := (hs.bel.cell (p := ⟨br, off + k, none⟩) FB.out.2.1).trans FB.out.2.2
          subst e1
          clear ho haft hi
          simp only [KAPut, Act.put]
          go_simp
          exact hK _ _ ⟨x13, x14, x48, x49, x50, x51, (.pointer (some ⟨br, off + k, none⟩)), (.int .i64 y), x54, x55, x56, b9, (by simp only [KAPut, Act.put, List.setIfInBounds_toArray, List.set_cons_succ, List.set_cons_zero]), hs.did4⟩
        · obtain rfl := Option.some.inj ho
          have e1 := hs.s0 (haft ⟨0, .data⟩ (by simp) rfl)
          have e2 := hs.s4 (haft ⟨4, .data⟩ (by simp) rfl)
          have hl10 : l 10 = false := by
            cases e : l 10
            · rfl
            · rw [(hs.o10 e).2] at hl; cases hl
          subst e1 e2
          clear ho haft hi
          simp only [KAPut, Act.put]
          go_simp
          refine (HCT.out wc hs.bel).mono ?_
          rintro e9 w8 ⟨rfl, hb8⟩
          exact hK _ _ ⟨x13, x14, x48, (.agg #[.slice t.w.a t.w.n t.w.c, .slice t.p.a t.p.n t.p.c, .slice (t.u 0).a (t.u 0).n (t.u 0).c, .slice (t.u 1).a (t.u 1).n (t.u 1).c, .slice (t.u 2).a (t.u 2).n (t.u 2).c, .slice t.c.a t.c.n t.c.c]), x50, x51, x52, (.int .i64 y), (.tuple #[(.agg #[.bool g0, .bool g1, .bool g2, .int .i64 g3, .int .i64 g4, .int .i64 g5]), .int .i64 0]), x55, x56, b9, (by simp only [KAPut, Act.put, List.setIfInBounds_toArray, List.set_cons_succ, List.set_cons_zero]), hs.did5 hl10 hb8⟩
        · obtain rfl := Option.some.inj ho
          have e1 := hs.s5 (haft ⟨5, .data⟩ (by simp) rfl)
          subst e1
          clear ho haft hi
          simp only [KAPut, Act.put]
          go_simp
          exact hK _ _ ⟨x13, x14, (.tuple #[(.agg #[.bool g0, .bool g1, .bool g2, .int .i64 g3, .int .i64 g4, .int .i64 g5]), .int .i64 0]), x49, x50, x51, x52, x53, (.tuple #[(.agg #[.bool g0, .bool g1, .bool g2, .int .i64 g3, .int .i64 g4, .int .i64 g5]), .int .i64 0]), x55, x56, b9, (by simp only [KAPut, Act.put, List.setIfInBounds_toArray, List.set_cons_succ, List.set_cons_zero]), hs.did6⟩
        · obtain rfl := Option.some.inj ho
          have e1 := hs.s6 (haft ⟨6, .data⟩ (by simp) rfl)
          subst e1
          clear ho haft hi
          simp only [KAPut, Act.put]
          go_simp
          exact hK _ _ ⟨x13, x14, (.tuple #[(.agg #[.bool g0, .bool g1, .bool g2, .int .i64 g3, .int .i64 g4, .int .i64 g5]), .int .i64 0]), x49, x50, x51, x52, x53, x54, (.agg #[.bool g0, .bool g1, .bool g2, .int .i64 g3, .int .i64 g4, .int .i64 g5]), x56, b9, (by simp only [KAPut, Act.put, List.setIfInBounds_toArray, List.set_cons_succ, List.set_cons_zero]), hs.did7⟩
        · obtain rfl := Option.some.inj ho
          have e1 := hs.s6 (haft ⟨6, .data⟩ (by simp) rfl)
          subst e1
          clear ho haft hi
          simp only [KAPut, Act.put]
          go_simp
          exact hK _ _ ⟨x13, x14, (.tuple #[(.agg #[.bool g0, .bool g1, .bool g2, .int .i64 g3, .int .i64 g4, .int .i64 g5]), .int .i64 0]), x49, x50, x51, x52, x53, x54, x55, (.int .i64 0), b9, (by simp only [KAPut, Act.put, List.setIfInBounds_toArray, List.set_cons_succ, List.set_cons_zero]), hs.did8⟩
        · obtain rfl := Option.some.inj ho
          have hl10 : l 10 = false := by
            cases e : l 10
            · rfl
            · rw [(hs.o10 e).1] at hl; cases hl
          clear ho haft hi
          simp only [KAPut, Act.put]
          go_simp
          exact hK _ _ ⟨(.pointer (some ⟨wc.heap.size, 0, none⟩)), x14, x48, x49, x50, x51, x52, x53, x54, x55, x56, _, (by simp only [KAPut, Act.put, List.setIfInBounds_toArray, List.set_cons_succ, List.set_cons_zero]), hs.did9 hl10 34⟩
        · obtain rfl := Option.some.inj ho
          have h9 := haft ⟨9, .data⟩ (by simp) rfl
          have e2 := hs.s7 (haft ⟨7, .data⟩ (by simp) rfl)
          have h5 := haft ⟨5, .chain⟩ (by simp) rfl
          have hx : XBox wc b9 := by
            have := (hs.s9 h9).2.2
            rwa [if_neg (by rw [hl]; decide)] at this
          have z0 : wc.cell? ⟨b9, 0, none⟩ = some (.bool false) := hx.cell 0 (by decide)
          have z1 : wc.cell? ⟨b9, 1, none⟩ = some (.bool false) := hx.cell 1 (by decide)
          have z2 : wc.cell? ⟨b9, 2, none⟩ = some (.bool false) := hx.cell 2 (by decide)
          have z3 : wc.cell? ⟨b9, 3, none⟩ = some (.int .i64 0) := hx.cell 3 (by decide)
          have z4 : wc.cell? ⟨b9, 4, none⟩ = some (.int .i64 0) := hx.cell 4 (by decide)
          have z5 : wc.cell? ⟨b9, 5, none⟩ = some (.int .i64 0) := hx.cell 5 (by decide)
          have f0 : wc.frozen? ⟨b9, 0, none⟩ = false := hx.free 0
          have f1 : wc.frozen? ⟨b9, 1, none⟩ = false := hx.free 1
          have f2 : wc.frozen? ⟨b9, 2, none⟩ = false := hx.free 2
          have f3 : wc.frozen? ⟨b9, 3, none⟩ = false := hx.free 3
          have f4 : wc.frozen? ⟨b9, 4, none⟩ = false := hx.free 4
          have f5 : wc.frozen? ⟨b9, 5, none⟩ = false := hx.free 5
          have zl : b9 < wc.heap.size := hx.lt
          have e1 := (hs.s9 h9).1
          have HS := Lib.hid (hs.did10 hl h9 h5)
          subst e1 e2
          clear ho haft hi hx
          simp only [KAPut, Act.put]
          go_simp
          exact hK _ _ ⟨(.pointer (some ⟨b9, 0, none⟩)), x14, x48, x49, x50, x51, x52, x53, x54, (.agg #[.bool g0, .bool g1, .bool g2, .int .i64 g3, .int .i64 g4, .int .i64 g5]), x56, b9, (by simp only [KAPut, Act.put, List.setIfInBounds_toArray, List.set_cons_succ, List.set_cons_zero]), HS.out⟩
        · obtain rfl := Option.some.inj ho
          have e1 := hs.s8 (haft ⟨8, .data⟩ (by simp) rfl)
          subst e1
          clear ho haft hi
          simp only [KAPut, Act.put]
          go_simp
          exact hK _ _ ⟨x13, (.int .i64 0), x48, x49, x50, x51, x52, x53, x54, x55, (.int .i64 0), b9, (by simp only [KAPut, Act.put, List.setIfInBounds_toArray, List.set_cons_succ, List.set_cons_zero]), hs.did11⟩
      case done =>
        rintro l a9 wc ⟨x13, x14, x48, x49, x50, x51, x52, x53, x54, x55, x56, b9, rfl, hs⟩ hall
        have e0 := hs.s0 (hall 0 (by simp))
        have e1 := hs.s1 (hall 1 (by simp))
        have e2 := hs.s2 (hall 2 (by simp))
        have e3 := hs.s3 (hall 3 (by simp))
        have e4 := hs.s4 (hall 4 (by simp))
        have e5 := hs.s5 (hall 5 (by simp))
        have e6 := hs.s6 (hall 6 (by simp))
        have e7 := hs.s7 (hall 7 (by simp))
        have e8 := hs.s8 (hall 8 (by simp))
        have e11 := hs.s11 (hall 11 (by simp))
        obtain ⟨e9, _, hx9⟩ := hs.s9 (hall 9 (by simp))
        rw [if_pos (hall 10 (by simp))] at hx9
        have H1 := Lib.hid (And.intro hs.bel hx9)
        clear hs hall hx9
        subst e0 e1 e2 e3 e4 e5 e6 e7 e8 e9 e11
        obtain ⟨w7, rfl⟩ : ∃ x : World, x = wc := ⟨_, rfl⟩
        obtain ⟨by9, rfl⟩ : ∃ x : Nat, x = b9 := ⟨_, rfl⟩
        simp only [KAPut, Act.put, List.setIfInBounds_toArray, List.set_cons_succ, List.set_cons_zero]
        have K1 := Lib.hid (HR.out.next H1.out.1)
        have FS : Hid (HBox w7 w.heap.size s ∧ br < w7.heap.size ∧ w7.cell? ⟨br, off + k, none⟩ = some (.int .i64 y)) := Lib.hid ⟨K1.out.h.box, by have := FB.out.2.1; have := H1.out.1.size; omega, (H1.out.1.cell (p := ⟨br, off + k, none⟩) FB.out.2.1).trans FB.out.2.2⟩
        have HC2 : Hid (∀ W, Below w7.heap.size w7 W → Calls Tryd.prog 12 #[(.agg #[.slice s.w.a s.w.n s.w.c, .slice s.p.a s.p.n s.p.c, .slice (s.u 0).a (s.u 0).n (s.u 0).c, .slice (s.u 1).a (s.u 1).n (s.u 1).c, .slice (s.u 2).a (s.u 2).n (s.u 2).c, .slice s.c.a s.c.n s.c.c]), .int .i64 y] W (HeadOut W (.agg #[.bool true, .bool o1, .bool e1, .int .i64 n1, .int .i64 b1, .int .i64 m1]) 0)) := Lib.hid (fun W h => HCS.out W (K1.out.h.bel.trans (h.mono K1.out.h.bel.size)))
        have Y1 := Lib.hid H1.out.2
        clear H1 HR FB HCT HCS
        go_wp2_with fail
        refine wp_region_from (by kernel_rfl) (KBInv w7 (.agg #[.slice s.w.a s.w.n s.w.c, .slice s.p.a s.p.n s.p.c, .slice (s.u 0).a (s.u 0).n (s.u 0).c, .slice (s.u 1).a (s.u 1).n (s.u 1).c, .slice (s.u 2).a (s.u 2).n (s.u 2).c, .slice s.c.a s.c.n s.c.c]) (.slice (some ⟨br, off, none⟩) k6 vc) (.int .i64 (k : Int)) (.pointer (some ⟨br, off + k, none⟩)) (.int .i64 y) true o1 e1 n1 b1 m1) ?dag ?start ?step ?done
        case dag => exact dag_any (by kernel_rfl)
        case start =>
          simp only [KBInv, KBPut, Act.put, List.setIfInBounds_toArray, List.set_cons_succ, List.set_cons_zero]
          exact ⟨_, _, _, _, _, _, _, _, _, _, _, 0, rfl, RSt.start _ _ _ _ _ _ _ _ _ _ _⟩
        case step =>
          rintro i o9 l a9 wc ho ⟨x13, x14, x48, x49, x50, x51, x52, x53, x54, x55, x56, b9, rfl, hs⟩ hl haft K hK
          have hi : i < 12 := (Array.getElem?_eq_some_iff.1 ho).1
          refine wpOp_of ho ?_
          rcases (show i = 0 ∨ i = 1 ∨ i = 2 ∨ i = 3 ∨ i = 4 ∨ i = 5 ∨ i = 6 ∨ i = 7 ∨ i = 8 ∨ i = 9 ∨ i = 10 ∨ i = 11 by omega) with rfl | rfl | rfl | rfl | rfl | rfl | rfl | rfl | rfl | rfl | rfl | rfl
          · obtain rfl := Option.some.inj ho
            have q0 := (FS.out.1.next hs.bel).c0
            have q1 := (FS.out.1.next hs.bel).c1
            have q2 := (FS.out.1.next hs.bel).c2
            have q3 := (FS.out.1.next hs.bel).c3
            have q4 := (FS.out.1.next hs.bel).c4
            have q5 := (FS.out.1.next hs.bel).c5
            clear ho haft hi
            simp only [KBPut, Act.put]
            go_simp
            exact hK _ _ ⟨x13, x14, x48, (.agg #[.slice s.w.a s.w.n s.w.c, .slice s.p.a s.p.n s.p.c, .slice (s.u 0).a (s.u 0).n (s.u 0).c, .slice (s.u 1).a (s.u 1).n (s.u 1).c, .slice (s.u 2).a (s.u 2).n (s.u 2).c, .slice s.c.a s.c.n s.c.c]), x50, x51, x52, x53, x54, x55, x56, b9, (by simp only [KBPut, Act.put, List.setIfInBounds_toArray, List.set_cons_succ, List.set_cons_zero]), hs.did0⟩
          · obtain rfl := Option.some.inj ho
            clear ho haft hi
            simp only [KBPut, Act.put]
            go_simp
            exact hK _ _ ⟨x13, x14, x48, x49, (.slice (some ⟨br, off, none⟩) k6 vc), x51, x52, x53, x54, x55, x56, b9, (by simp only [KBPut, Act.put, List.setIfInBounds_toArray, List.set_cons_succ, List.set_cons_zero]), hs.did1⟩
          · obtain rfl := Option.some.inj ho
            clear ho haft hi
            simp only [KBPut, Act.put]
            go_simp
            exact hK _ _ ⟨x13, x14, x48, x49, x50, (.int .i64 (k : Int)), x52, x53, x54, x55, x56, b9, (by simp only [KBPut, Act.put, List.setIfInBounds_toArray, List.set_cons_succ, List.set_cons_zero]), hs.did2⟩
          · obtain rfl := Option.some.inj ho
            have e1 := hs.s1 (haft ⟨1, .data⟩ (by simp) rfl)
            have e2 := hs.s2 (haft ⟨2, .data⟩ (by simp) rfl)
            subst e1 e2
            clear ho haft hi
            simp only [KBPut, Act.put]
            go_simp
            exact hK _ _ ⟨x13, x14, x48, x49, (.slice (some ⟨br, off, none⟩) k6 vc), (.int .i64 (k : Int)), (.pointer (some ⟨br, off + k, none⟩)), x53, x54, x55, x56, b9, (by simp only [KBPut, Act.put, List.setIfInBounds_toArray, List.set_cons_succ, List.set_cons_zero]), hs.did3⟩
          · obtain rfl := Option.some.inj ho
            have e1 := hs.s3 (haft ⟨3, .data⟩ (by simp) rfl)
            have cy := (hs.bel.cell (p := ⟨br, off + k, none⟩) FS.out.2.1).trans FS.out.2.2
            subst e1
            clear ho haft hi
            simp only [KBPut, Act.put]
            go_simp
            exact hK _ _ ⟨x13, x14, x48, x49, x50, x51, (.pointer (some ⟨br, off + k, none⟩)), (.int .i64 y), x54, x55, x56, b9, (by simp only [KBPut, Act.put, List.setIfInBounds_toArray, List.set_cons_succ, List.set_cons_zero]), hs.did4⟩
          · obtain rfl := Option.some.inj ho
            have e1 := hs.s0 (haft ⟨0, .data⟩ (by simp) rfl)
            have e2 := hs.s4 (haft ⟨4, .data⟩ (by simp) rfl)
            have hl10 : l 10 = false := by
              cases e : l 10
              · rfl
              · rw [(hs.o10 e).2] at hl; cases hl
            subst e1 e2
            clear ho haft hi
            simp only [KBPut, Act.put]
            go_simp
            refine (HC2.out wc hs.bel).mono ?_
            rintro e9 w8 ⟨rfl, hb8⟩
            exact hK _ _ ⟨x13, x14, x48, (.agg #[.slice s.w.a s.w.n s.w.c, .slice s.p.a s.p.n s.p.c, .slice (s.u 0).a (s.u 0).n (s.u 0).c, .slice (s.u 1).a (s.u 1).n (s.u 1).c, .slice (s.u 2).a (s.u 2).n (s.u 2).c, .slice s.c.a s.c.n s.c.c]), x50, x51, x52, (.int .i64 y), (.tuple #[(.agg #[.bool true, .bool o1, .bool e1, .int .i64 n1, .int .i64 b1, .int .i64 m1]), .int .i64 0]), x55, x56, b9, (by simp only [KBPut, Act.put, List.setIfInBounds_toArray, List.set_cons_succ, List.set_cons_zero]), hs.did5 hl10 hb8⟩
          · obtain rfl := Option.some.inj ho
            have e1 := hs.s5 (haft ⟨5, .data⟩ (by simp) rfl)
            subst e1
            clear ho haft hi
            simp only [KBPut, Act.put]
            go_simp
            exact hK _ _ ⟨x13, x14, (.tuple #[(.agg #[.bool true, .bool o1, .bool e1, .int .i64 n1, .int .i64 b1, .int .i64 m1]), .int .i64 0]), x49, x50, x51, x52, x53, (.tuple #[(.agg #[.bool true, .bool o1, .bool e1, .int .i64 n1, .int .i64 b1, .int .i64 m1]), .int .i64 0]), x55, x56, b9, (by simp only [KBPut, Act.put, List.setIfInBounds_toArray, List.set_cons_succ, List.set_cons_zero]), hs.did6⟩
          · obtain rfl := Option.some.inj ho
            have e1 := hs.s6 (haft ⟨6, .data⟩ (by simp) rfl)
            subst e1
            clear ho haft hi
            simp only [KBPut, Act.put]
            go_simp
            exact hK _ _ ⟨x13, x14, (.tuple #[(.agg #[.bool true, .bool o1, .bool e1, .int .i64 n1, .int .i64 b1, .int .i64 m1]), .int .i64 0]), x49, x50, x51, x52, x53, x54, (.agg #[.bool true, .bool o1, .bool e1, .int .i64 n1, .int .i64 b1, .int .i64 m1]), x56, b9, (by simp only [KBPut, Act.put, List.setIfInBounds_toArray, List.set_cons_succ, List.set_cons_zero]), hs.did7⟩
          · obtain rfl := Option.some.inj ho
            have e1 := hs.s6 (haft ⟨6, .data⟩ (by simp) rfl)
            subst e1
            clear ho haft hi
            simp only [KBPut, Act.put]
            go_simp
            exact hK _ _ ⟨x13, x14, (.tuple #[(.agg #[.bool true, .bool o1, .bool e1, .int .i64 n1, .int .i64 b1, .int .i64 m1]), .int .i64 0]), x49, x50, x51, x52, x53, x54, x55, (.int .i64 0), b9, (by simp only [KBPut, Act.put, List.setIfInBounds_toArray, List.set_cons_succ, List.set_cons_zero]), hs.did8⟩
          · obtain rfl := Option.some.inj ho
            have hl10 : l 10 = false := by
              cases e : l 10
              · rfl
              · rw [(hs.o10 e).1] at hl; cases hl
            clear ho haft hi
            simp only [KBPut, Act.put]
            go_simp
            exact hK _ _ ⟨(.pointer (some ⟨wc.heap.size, 0, none⟩)), x14, x48, x49, x50, x51, x52, x53, x54, x55, x56, _, (by simp only [KBPut, Act.put, List.setIfInBounds_toArray, List.set_cons_succ, List.set_cons_zero]), hs.did9 hl10 34⟩
          · obtain rfl := Option.some.inj ho
            have h9 := haft ⟨9, .data⟩ (by simp) rfl
            have e2 := hs.s7 (haft ⟨7, .data⟩ (by simp) rfl)
            have h5 := haft ⟨5, .chain⟩ (by simp) rfl
            have hx : XBox wc b9 := by
              have := (hs.s9 h9).2.2
              rwa [if_neg (by rw [hl]; decide)] at this
            have z0 : wc.cell? ⟨b9, 0, none⟩ = some (.bool false) := hx.cell 0 (by decide)
            have z1 : wc.cell? ⟨b9, 1, none⟩ = some (.bool false) := hx.cell 1 (by decide)
            have z2 : wc.cell? ⟨b9, 2, none⟩ = some (.bool false) := hx.cell 2 (by decide)
            have z3 : wc.cell? ⟨b9, 3, none⟩ = some (.int .i64 0) := hx.cell 3 (by decide)
            have z4 : wc.cell? ⟨b9, 4, none⟩ = some (.int .i64 0) := hx.cell 4 (by decide)
            have z5 : wc.cell? ⟨b9, 5, none⟩ = some (.int .i64 0) := hx.cell 5 (by decide)
            have f0 : wc.frozen? ⟨b9, 0, none⟩ = false := hx.free 0
            have f1 : wc.frozen? ⟨b9, 1, none⟩ = false := hx.free 1
            have f2 : wc.frozen? ⟨b9, 2, none⟩ = false := hx.free 2
            have f3 : wc.frozen? ⟨b9, 3, none⟩ = false := hx.free 3
            have f4 : wc.frozen? ⟨b9, 4, none⟩ = false := hx.free 4
            have f5 : wc.frozen? ⟨b9, 5, none⟩ = false := hx.free 5
            have zl : b9 < wc.heap.size := hx.lt
            have e1 := (hs.s9 h9).1
            have HS := Lib.hid (hs.did10 hl h9 h5)
            subst e1 e2
            clear ho haft hi hx
            simp only [KBPut, Act.put]
            go_simp
            exact hK _ _ ⟨(.pointer (some ⟨b9, 0, none⟩)), x14, x48, x49, x50, x51, x52, x53, x54, (.agg #[.bool true, .bool o1, .bool e1, .int .i64 n1, .int .i64 b1, .int .i64 m1]), x56, b9, (by simp only [KBPut, Act.put, List.setIfInBounds_toArray, List.set_cons_succ, List.set_cons_zero]), HS.out⟩
          · obtain rfl := Option.some.inj ho
            have e1 := hs.s8 (haft ⟨8, .data⟩ (by simp) rfl)
            subst e1
            clear ho haft hi
            simp only [KBPut, Act.put]
            go_simp
            exact hK _ _ ⟨x13, (.int .i64 0), x48, x49, x50, x51, x52, x53, x54, x55, (.int .i64 0), b9, (by simp only [KBPut, Act.put, List.setIfInBounds_toArray, List.set_cons_succ, List.set_cons_zero]), hs.did11⟩
        case done =>
          rintro l a9 wc ⟨x13, x14, x48, x49, x50, x51, x52, x53, x54, x55, x56, b9, rfl, hs⟩ hall
          have e0 := hs.s0 (hall 0 (by simp))
          have e1 := hs.s1 (hall 1 (by simp))
          have e2 := hs.s2 (hall 2 (by simp))
          have e3 := hs.s3 (hall 3 (by simp))
          have e4 := hs.s4 (hall 4 (by simp))
          have e5 := hs.s5 (hall 5 (by simp))
          have e6 := hs.s6 (hall 6 (by simp))
          have e7 := hs.s7 (hall 7 (by simp))
          have e8 := hs.s8 (hall 8 (by simp))
          have e11 := hs.s11 (hall 11 (by simp))
          obtain ⟨e9, _, hx9⟩ := hs.s9 (hall 9 (by simp))
          rw [if_pos (hall 10 (by simp))] at hx9
          have H2 := Lib.hid (And.intro hs.bel hx9)
          clear hs hall hx9
          subst e0 e1 e2 e3 e4 e5 e6 e7 e8 e9 e11
          obtain ⟨wd, rfl⟩ : ∃ x : World, x = wc := ⟨_, rfl⟩
          obtain ⟨bz9, rfl⟩ : ∃ x : Nat, x = b9 := ⟨_, rfl⟩
          simp only [KBPut, Act.put, List.setIfInBounds_toArray, List.set_cons_succ, List.set_cons_zero]
          have K2 := Lib.hid (K1.out.next H2.out.1)
          have Y2 := Lib.hid (Y1.out.next H2.out.1)
          have Z2 := Lib.hid H2.out.2
          have cy : wd.cell? ⟨br, off + k, none⟩ = some (.int .i64 y) := (H2.out.1.cell (p := ⟨br, off + k, none⟩) FS.out.2.1).trans FS.out.2.2
          have cyl : br < wd.heap.size := by have := FS.out.2.1; have := H2.out.1.size; omega
          have x0 := K2.out.x.c0
          have x1 := K2.out.x.c1
          have x2 := K2.out.x.c2
          have x3 := K2.out.x.c3
          have x4 := K2.out.x.c4
          have x5 := K2.out.x.c5
          have xl := K2.out.x.lt
          have y0 := Y2.out.c0
          have y1 := Y2.out.c1
          have y2 := Y2.out.c2
          have y3 := Y2.out.c3
          have y4 := Y2.out.c4
          have y5 := Y2.out.c5
          have yl := Y2.out.lt
          have z0 := Z2.out.c0
          have z1 := Z2.out.c1
          have z2 := Z2.out.c2
          have z3 := Z2.out.c3
          have z4 := Z2.out.c4
          have z5 := Z2.out.c5
          have zl := Z2.out.lt
          clear H2 K1 Y1 FS HC2
          rcases HSAME.out with ⟨hya, hV⟩ | ⟨hya, hV⟩
          · simp only [Value.agg.injEq, Array.mk.injEq, List.cons.injEq, Value.bool.injEq, Value.int.injEq, true_and, and_true] at hV
            obtain ⟨rfl, rfl, rfl, rfl, rfl, rfl⟩ := hV
            have da : (y == a) = true := by simp [hya]
            have db : (y != a) = false := by simp [hya]
            have hns := neq_self true g1 g2 g3 g4 g5
            clear hya HSAME
            go_wp2
            go_roundw
            case rel => exact ⟨k + 1, by omega, by go_num, K2⟩
            case measure => simp [intOf]; omega
          · simp only [Value.agg.injEq, Array.mk.injEq, List.cons.injEq, Value.bool.injEq, Value.int.injEq, true_and, and_true] at hV
            obtain ⟨rfl, rfl, rfl, rfl, rfl, rfl⟩ := hV
            have da : (y == a) = false := by simp [hya]
            have db : (y != a) = true := by simp [hya]
            have hns := neq_self true g1 g2 g3 g4 g5
            clear hya HSAME
            go_wp2
            go_roundw
            case rel => exact ⟨k + 1, by omega, by go_num, K2⟩
            case measure => simp [intOf]; omega
    · obtain rfl : k = k6 := by omega
      have dq : decide ((k : Int) < k) = false := by simp
      have HMT : Hid (∀ W, KS w W s t d d' true o e N b m bb va k us → Calls Tryd.prog 16 #[(.agg #[.slice t.w.a t.w.n t.w.c, .slice t.p.a t.p.n t.p.c, .slice (t.u 0).a (t.u 0).n (t.u 0).c, .slice (t.u 1).a (t.u 1).n (t.u 1).c, .slice (t.u 2).a (t.u 2).n (t.u 2).c, .slice t.c.a t.c.n t.c.c]), .slice none 0 0] W fun e w' => e = .returned (.bool true) ∧ Below W.heap.size W w') := Lib.hid (fun W h => by
        have := pmay0_any t d' W h.b.hp (HZ.out.over h.h.bel hz0) FT.out
        rwa [TU.out.may0, HM.out] at this)
      have HWT : Hid (∀ W, KS w W s t d d' true o e N b m bb va k us → Calls Tryd.prog 18 #[(.agg #[.slice t.w.a t.w.n t.w.c, .slice t.p.a t.p.n t.p.c, .slice (t.u 0).a (t.u 0).n (t.u 0).c, .slice (t.u 1).a (t.u 1).n (t.u 1).c, .slice (t.u 2).a (t.u 2).n (t.u 2).c, .slice t.c.a t.c.n t.c.c]), .slice none 0 0] W fun e w' => e = .returned (.bool (wholeH s d 0 noCaches)) ∧ Below W.heap.size W w') := Lib.hid (fun W h => by
        have := pwhole0_any t d' W h.b.hp (HZ.out.over h.h.bel hz0) FT.out
        rwa [TU.out.whole] at this)
      have HWS : Hid (∀ W, KS w W s t d d' true o e N b m bb va k us → Calls Tryd.prog 18 #[(.agg #[.slice s.w.a s.w.n s.w.c, .slice s.p.a s.p.n s.p.c, .slice (s.u 0).a (s.u 0).n (s.u 0).c, .slice (s.u 1).a (s.u 1).n (s.u 1).c, .slice (s.u 2).a (s.u 2).n (s.u 2).c, .slice s.c.a s.c.n s.c.c]), .slice none 0 0] W fun e w' => e = .returned (.bool (wholeH s d 0 noCaches)) ∧ Below W.heap.size W w') := Lib.hid (fun W h => pwhole0_any s d W (h.h.hp.more h.h.bel.size) (HZ.out.over h.h.bel hz0) HFI.out)
      have HUT : Hid (∀ W, KS w W s t d d' true o e N b m bb va k us → Calls Tryd.prog 14 #[(.agg #[.slice t.w.a t.w.n t.w.c, .slice t.p.a t.p.n t.p.c, .slice (t.u 0).a (t.u 0).n (t.u 0).c, .slice (t.u 1).a (t.u 1).n (t.u 1).c, .slice (t.u 2).a (t.u 2).n (t.u 2).c, .slice t.c.a t.c.n t.c.c])] W fun e w' => ∃ A C, e = .returned (.slice A k C) ∧ Below W.heap.size W w') := Lib.hid (fun W h => (pused_any t d' W h.b.hp (HZ.out.over h.h.bel hz0) FT.out).mono fun e9 w9 ⟨v, e8, ho, hb⟩ => by
        have h1 := ho.1
        rw [TU.out.used, ← HUS.out, List.length_map, HN.out, Nat.mul_one] at h1
        exact ⟨v.a, v.c, by rw [e8, h1], hb⟩)
      generalize wholeH s d 0 noCaches = R at HWT HWS
      have dR : (R == R) = true := by simp
      have dN : ((k : Int) == k) = true := by simp
      have HST : Hid (KS w wr s t d d' true o e N b m bb va k us ∧ True) := Lib.hid ⟨HR.out, trivial⟩
      clear HR
      go_wp2_with fail
      go_region_held3 (fun W => (KS w W s t d d' true o e N b m bb va k us ∧ True) ∧ w.heap.size < W.heap.size ∧ W.cell? ⟨w.heap.size, 0, none⟩ = some (.slice s.w.a s.w.n s.w.c) ∧ W.cell? ⟨w.heap.size, 1, none⟩ = some (.slice s.p.a s.p.n s.p.c) ∧ W.cell? ⟨w.heap.size, 2, none⟩ = some (.slice (s.u 0).a (s.u 0).n (s.u 0).c) ∧ W.cell? ⟨w.heap.size, 3, none⟩ = some (.slice (s.u 1).a (s.u 1).n (s.u 1).c) ∧ W.cell? ⟨w.heap.size, 4, none⟩ = some (.slice (s.u 2).a (s.u 2).n (s.u 2).c) ∧ W.cell? ⟨w.heap.size, 5, none⟩ = some (.slice s.c.a s.c.n s.c.c) ∧ bb < W.heap.size ∧ W.cell? ⟨bb, 0, none⟩ = some (.slice t.w.a t.w.n t.w.c) ∧ W.cell? ⟨bb, 1, none⟩ = some (.slice t.p.a t.p.n t.p.c) ∧ W.cell? ⟨bb, 2, none⟩ = some (.slice (t.u 0).a (t.u 0).n (t.u 0).c) ∧ W.cell? ⟨bb, 3, none⟩ = some (.slice (t.u 1).a (t.u 1).n (t.u 1).c) ∧ W.cell? ⟨bb, 4, none⟩ = some (.slice (t.u 2).a (t.u 2).n (t.u 2).c) ∧ W.cell? ⟨bb, 5, none⟩ = some (.slice t.c.a t.c.n t.c.c)) (first
        | exact two_keep HST.out (below_drawn' (Below.refl _ _) 1)
        | exact two_keep (‹(KS w _ s t d d' true o e N b m bb va k us ∧ True) ∧ _›).1 ‹Below _ _ _›) (first
        | ((go_at_call 16; (with_reducible refine (HMT.out _ (‹(KS w _ s t d d' true o e N b m bb va k us ∧ True) ∧ _›).1.1).mono ?_); rintro e9 w8 ⟨rfl, hb8⟩))
        | ((go_at_call 18; (with_reducible refine (HWT.out _ (‹(KS w _ s t d d' true o e N b m bb va k us ∧ True) ∧ _›).1.1).mono ?_); rintro e9 w8 ⟨rfl, hb8⟩))
        | ((go_at_call 18; (with_reducible refine (HWS.out _ (‹(KS w _ s t d d' true o e N b m bb va k us ∧ True) ∧ _›).1.1).mono ?_); rintro e9 w8 ⟨rfl, hb8⟩))
        | ((go_at_call 14; (with_reducible refine (HUT.out _ (‹(KS w _ s t d d' true o e N b m bb va k us ∧ True) ∧ _›).1.1).mono ?_); rintro e9 w8 ⟨A8, C8, rfl, hb8⟩)))
      have HE := Lib.hid (‹(KS w w8 s t d d' true o e N b m bb va k us ∧ True) ∧ _›).1.1
      clear HST
      go_wp2
      go_ret
      exact ⟨rfl, HE.out.h.bel⟩
end
end Go.Proofs.YtodpciodongajaaDoor.HeapKeeps
