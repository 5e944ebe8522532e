/-
  ShadeEpoch: in the next cycle all that was made black is white again, but what is old, in a minor one; what was shaded is, too: for every heap of at most 9 pages and 130 words, and every work list of at most 100; the table of sizes is tied to the program's text by the card.
-/
import Derived.Test.YtdmclfolooiccaaDoorHpEG
namespace Go.Proofs.YtdmclfolooiccaaDoor.ShadeEpoch
open Go.Proofs.YtdmclfolooiccaaDoor Go.Proofs.YtdmclfolooiccaaDoor.Sh
open Go.ChangeShapes Go.WideShapes Go.ChangeAt Go.RowKit
set_option maxRecDepth 100000

section
variable (s : Hs) (d : Hd_) (k : Ks) (xs : List Int) (w : World)
set_option maxHeartbeats 1000000 in
theorem walk_few (hf : fewK s k = false) (hz : Cl.Sz w) (hp : Hp w w.heap.size s d) (hk : WRow w w.heap.size k xs) : Calls Tryd.prog 5 #[(.agg #[.slice s.w.a s.w.n s.w.c, .slice s.p.a s.p.n s.p.c, .slice (s.u 0).a (s.u 0).n (s.u 0).c, .slice (s.u 1).a (s.u 1).n (s.u 1).c, .slice (s.u 2).a (s.u 2).n (s.u 2).c, .slice s.c.a s.c.n s.c.c]), (.agg #[.int .i64 k.ph, .int .i64 k.ep, .bool k.mj, .slice k.wk.a k.wk.n k.wk.c, .bool k.ov, .int .i64 k.pa, .int .i64 k.pf, .int .i64 k.ps, .int .i64 k.pc, .bool k.me])] w fun e w' => e = .returned (.bool true) ∧ Below w.heap.size w w' := by
  have HZ := Lib.hid hz
  have hz0 := hz.pos
  have HP := Lib.hid hp
  have HK := Lib.hid hk
  have HF := Lib.hid hf
  clear hz hp hk hf
  go_enter Tryd.func5, Tryd.ntmps5
  go_wp2_with fail
  obtain ⟨W1, hW1⟩ : ∃ W1, W1 = (w.alloc (.cells #[.slice s.w.a s.w.n s.w.c, .slice s.p.a s.p.n s.p.c, .slice (s.u 0).a (s.u 0).n (s.u 0).c, .slice (s.u 1).a (s.u 1).n (s.u 1).c, .slice (s.u 2).a (s.u 2).n (s.u 2).c, .slice s.c.a s.c.n s.c.c] 28)).alloc (.cells #[.int .i64 k.ph, .int .i64 k.ep, .bool k.mj, .slice k.wk.a k.wk.n k.wk.c, .bool k.ov, .int .i64 k.pa, .int .i64 k.pf, .int .i64 k.ps, .int .i64 k.pc, .bool k.me] 30) := ⟨_, rfl⟩
  have L1 := Lib.hid (lk_start HP.out HK.out hW1)
  rw [← hW1]
  clear hW1
  refine (Sh.awake_any W1 (HZ.out.over L1.out.bel hz0)).mono ?_
  rintro e9 w1 ⟨rfl, hb1⟩
  have L2 := Lib.hid (L1.out.next hb1)
  clear hb1 L1
  have q0 := (L2.out.at (w.heap.size) (s) (d) (by simp)).c0
  have q1 := (L2.out.at (w.heap.size) (s) (d) (by simp)).c1
  have q2 := (L2.out.at (w.heap.size) (s) (d) (by simp)).c2
  have q3 := (L2.out.at (w.heap.size) (s) (d) (by simp)).c3
  have q4 := (L2.out.at (w.heap.size) (s) (d) (by simp)).c4
  have q5 := (L2.out.at (w.heap.size) (s) (d) (by simp)).c5
  have ql := (L2.out.at (w.heap.size) (s) (d) (by simp)).lt
  have p0 := (L2.out.cat (w.heap.size + 1) (k) (xs) (by simp)).c0
  have p1 := (L2.out.cat (w.heap.size + 1) (k) (xs) (by simp)).c1
  have p2 := (L2.out.cat (w.heap.size + 1) (k) (xs) (by simp)).c2
  have p3 := (L2.out.cat (w.heap.size + 1) (k) (xs) (by simp)).c3
  have p4 := (L2.out.cat (w.heap.size + 1) (k) (xs) (by simp)).c4
  have p5 := (L2.out.cat (w.heap.size + 1) (k) (xs) (by simp)).c5
  have p6 := (L2.out.cat (w.heap.size + 1) (k) (xs) (by simp)).c6
  have p7 := (L2.out.cat (w.heap.size + 1) (k) (xs) (by simp)).c7
  have p8 := (L2.out.cat (w.heap.size + 1) (k) (xs) (by simp)).c8
  have p9 := (L2.out.cat (w.heap.size + 1) (k) (xs) (by simp)).c9
  have pl := (L2.out.cat (w.heap.size + 1) (k) (xs) (by simp)).lt
  go_wp2_with fail
  refine (few_any s k w1).mono ?_
  rw [HF.out]
  rintro e9 w2 ⟨rfl, hb2⟩
  have L3 := Lib.hid (L2.out.next hb2)
  clear hb2 L2
  clear q0 q1 q2 q3 q4 q5 ql
  clear p0 p1 p2 p3 p4 p5 p6 p7 p8 p9 pl
  go_wp2
  go_ret
  exact ⟨rfl, L3.out.bel⟩
set_option maxHeartbeats 1000000 in
theorem walk_may (hm : mayB0 s d = false) (hfi : Fine s d) (hf : fewK s k = true) (hz : Cl.Sz w) (hp : Hp w w.heap.size s d) (hk : WRow w w.heap.size k xs) : Calls Tryd.prog 5 #[(.agg #[.slice s.w.a s.w.n s.w.c, .slice s.p.a s.p.n s.p.c, .slice (s.u 0).a (s.u 0).n (s.u 0).c, .slice (s.u 1).a (s.u 1).n (s.u 1).c, .slice (s.u 2).a (s.u 2).n (s.u 2).c, .slice s.c.a s.c.n s.c.c]), (.agg #[.int .i64 k.ph, .int .i64 k.ep, .bool k.mj, .slice k.wk.a k.wk.n k.wk.c, .bool k.ov, .int .i64 k.pa, .int .i64 k.pf, .int .i64 k.ps, .int .i64 k.pc, .bool k.me])] w fun e w' => e = .returned (.bool true) ∧ Below w.heap.size w w' := by
  have HZ := Lib.hid hz
  have hz0 := hz.pos
  have HP := Lib.hid hp
  have HK := Lib.hid hk
  have HF := Lib.hid hf
  have HM := Lib.hid hm
  have FI := Lib.hid hfi
  clear hz hp hk hf hm hfi
  go_enter Tryd.func5, Tryd.ntmps5
  go_wp2_with fail
  obtain ⟨W1, hW1⟩ : ∃ W1, W1 = (w.alloc (.cells #[.slice s.w.a s.w.n s.w.c, .slice s.p.a s.p.n s.p.c, .slice (s.u 0).a (s.u 0).n (s.u 0).c, .slice (s.u 1).a (s.u 1).n (s.u 1).c, .slice (s.u 2).a (s.u 2).n (s.u 2).c, .slice s.c.a s.c.n s.c.c] 28)).alloc (.cells #[.int .i64 k.ph, .int .i64 k.ep, .bool k.mj, .slice k.wk.a k.wk.n k.wk.c, .bool k.ov, .int .i64 k.pa, .int .i64 k.pf, .int .i64 k.ps, .int .i64 k.pc, .bool k.me] 30) := ⟨_, rfl⟩
  have L1 := Lib.hid (lk_start HP.out HK.out hW1)
  rw [← hW1]
  clear hW1
  refine (Sh.awake_any W1 (HZ.out.over L1.out.bel hz0)).mono ?_
  rintro e9 w1 ⟨rfl, hb1⟩
  have L2 := Lib.hid (L1.out.next hb1)
  clear hb1 L1
  have q0 := (L2.out.at (w.heap.size) (s) (d) (by simp)).c0
  have q1 := (L2.out.at (w.heap.size) (s) (d) (by simp)).c1
  have q2 := (L2.out.at (w.heap.size) (s) (d) (by simp)).c2
  have q3 := (L2.out.at (w.heap.size) (s) (d) (by simp)).c3
  have q4 := (L2.out.at (w.heap.size) (s) (d) (by simp)).c4
  have q5 := (L2.out.at (w.heap.size) (s) (d) (by simp)).c5
  have ql := (L2.out.at (w.heap.size) (s) (d) (by simp)).lt
  have p0 := (L2.out.cat (w.heap.size + 1) (k) (xs) (by simp)).c0
  have p1 := (L2.out.cat (w.heap.size + 1) (k) (xs) (by simp)).c1
  have p2 := (L2.out.cat (w.heap.size + 1) (k) (xs) (by simp)).c2
  have p3 := (L2.out.cat (w.heap.size + 1) (k) (xs) (by simp)).c3
  have p4 := (L2.out.cat (w.heap.size + 1) (k) (xs) (by simp)).c4
  have p5 := (L2.out.cat (w.heap.size + 1) (k) (xs) (by simp)).c5
  have p6 := (L2.out.cat (w.heap.size + 1) (k) (xs) (by simp)).c6
  have p7 := (L2.out.cat (w.heap.size + 1) (k) (xs) (by simp)).c7
  have p8 := (L2.out.cat (w.heap.size + 1) (k) (xs) (by simp)).c8
  have p9 := (L2.out.cat (w.heap.size + 1) (k) (xs) (by simp)).c9
  have pl := (L2.out.cat (w.heap.size + 1) (k) (xs) (by simp)).lt
  go_wp2_with fail
  refine (few_any s k w1).mono ?_
  rw [HF.out]
  rintro e9 w2 ⟨rfl, hb2⟩
  have L3 := Lib.hid (L2.out.next hb2)
  clear hb2 L2
  clear q0 q1 q2 q3 q4 q5 ql
  clear p0 p1 p2 p3 p4 p5 p6 p7 p8 p9 pl
  have q0 := (L3.out.at (w.heap.size) (s) (d) (by simp)).c0
  have q1 := (L3.out.at (w.heap.size) (s) (d) (by simp)).c1
  have q2 := (L3.out.at (w.heap.size) (s) (d) (by simp)).c2
  have q3 := (L3.out.at (w.heap.size) (s) (d) (by simp)).c3
  have q4 := (L3.out.at (w.heap.size) (s) (d) (by simp)).c4
  have q5 := (L3.out.at (w.heap.size) (s) (d) (by simp)).c5
  have ql := (L3.out.at (w.heap.size) (s) (d) (by simp)).lt
  go_wp2_with fail
  have hC9 := pmay0_any s d w2 (L3.out.hp (w.heap.size) (s) (d) (by simp)) (HZ.out.over L3.out.bel hz0) FI.out
  rw [HM.out] at hC9
  refine hC9.mono ?_
  rintro e9 w4 ⟨rfl, hb9⟩
  have L4 := Lib.hid (L3.out.next hb9)
  clear hb9 hC9 L3
  clear q0 q1 q2 q3 q4 q5 ql
  go_wp2
  go_ret
  exact ⟨rfl, L4.out.bel⟩
set_option maxHeartbeats 1000000 in
theorem walk_ep (he : ¬ (0 ≤ k.ep ∧ k.ep < 1048576)) (hm : mayB0 s d = true) (hfi : Fine s d) (hf : fewK s k = true) (hz : Cl.Sz w) (hp : Hp w w.heap.size s d) (hk : WRow w w.heap.size k xs) : Calls Tryd.prog 5 #[(.agg #[.slice s.w.a s.w.n s.w.c, .slice s.p.a s.p.n s.p.c, .slice (s.u 0).a (s.u 0).n (s.u 0).c, .slice (s.u 1).a (s.u 1).n (s.u 1).c, .slice (s.u 2).a (s.u 2).n (s.u 2).c, .slice s.c.a s.c.n s.c.c]), (.agg #[.int .i64 k.ph, .int .i64 k.ep, .bool k.mj, .slice k.wk.a k.wk.n k.wk.c, .bool k.ov, .int .i64 k.pa, .int .i64 k.pf, .int .i64 k.ps, .int .i64 k.pc, .bool k.me])] w fun e w' => e = .returned (.bool true) ∧ Below w.heap.size w w' := by
  have HZ := Lib.hid hz
  have hz0 := hz.pos
  have HP := Lib.hid hp
  have HK := Lib.hid hk
  have HF := Lib.hid hf
  have HM := Lib.hid hm
  have FI := Lib.hid hfi
  have HE := Lib.hid he
  clear hz hp hk hf hm hfi he
  go_enter Tryd.func5, Tryd.ntmps5
  go_wp2_with fail
  obtain ⟨W1, hW1⟩ : ∃ W1, W1 = (w.alloc (.cells #[.slice s.w.a s.w.n s.w.c, .slice s.p.a s.p.n s.p.c, .slice (s.u 0).a (s.u 0).n (s.u 0).c, .slice (s.u 1).a (s.u 1).n (s.u 1).c, .slice (s.u 2).a (s.u 2).n (s.u 2).c, .slice s.c.a s.c.n s.c.c] 28)).alloc (.cells #[.int .i64 k.ph, .int .i64 k.ep, .bool k.mj, .slice k.wk.a k.wk.n k.wk.c, .bool k.ov, .int .i64 k.pa, .int .i64 k.pf, .int .i64 k.ps, .int .i64 k.pc, .bool k.me] 30) := ⟨_, rfl⟩
  have L1 := Lib.hid (lk_start HP.out HK.out hW1)
  rw [← hW1]
  clear hW1
  refine (Sh.awake_any W1 (HZ.out.over L1.out.bel hz0)).mono ?_
  rintro e9 w1 ⟨rfl, hb1⟩
  have L2 := Lib.hid (L1.out.next hb1)
  clear hb1 L1
  have q0 := (L2.out.at (w.heap.size) (s) (d) (by simp)).c0
  have q1 := (L2.out.at (w.heap.size) (s) (d) (by simp)).c1
  have q2 := (L2.out.at (w.heap.size) (s) (d) (by simp)).c2
  have q3 := (L2.out.at (w.heap.size) (s) (d) (by simp)).c3
  have q4 := (L2.out.at (w.heap.size) (s) (d) (by simp)).c4
  have q5 := (L2.out.at (w.heap.size) (s) (d) (by simp)).c5
  have ql := (L2.out.at (w.heap.size) (s) (d) (by simp)).lt
  have p0 := (L2.out.cat (w.heap.size + 1) (k) (xs) (by simp)).c0
  have p1 := (L2.out.cat (w.heap.size + 1) (k) (xs) (by simp)).c1
  have p2 := (L2.out.cat (w.heap.size + 1) (k) (xs) (by simp)).c2
  have p3 := (L2.out.cat (w.heap.size + 1) (k) (xs) (by simp)).c3
  have p4 := (L2.out.cat (w.heap.size + 1) (k) (xs) (by simp)).c4
  have p5 := (L2.out.cat (w.heap.size + 1) (k) (xs) (by simp)).c5
  have p6 := (L2.out.cat (w.heap.size + 1) (k) (xs) (by simp)).c6
  have p7 := (L2.out.cat (w.heap.size + 1) (k) (xs) (by simp)).c7
  have p8 := (L2.out.cat (w.heap.size + 1) (k) (xs) (by simp)).c8
  have p9 := (L2.out.cat (w.heap.size + 1) (k) (xs) (by simp)).c9
  have pl := (L2.out.cat (w.heap.size + 1) (k) (xs) (by simp)).lt
  go_wp2_with fail
  refine (few_any s k w1).mono ?_
  rw [HF.out]
  rintro e9 w2 ⟨rfl, hb2⟩
  have L3 := Lib.hid (L2.out.next hb2)
  clear hb2 L2
  clear q0 q1 q2 q3 q4 q5 ql
  clear p0 p1 p2 p3 p4 p5 p6 p7 p8 p9 pl
  have q0 := (L3.out.at (w.heap.size) (s) (d) (by simp)).c0
  have q1 := (L3.out.at (w.heap.size) (s) (d) (by simp)).c1
  have q2 := (L3.out.at (w.heap.size) (s) (d) (by simp)).c2
  have q3 := (L3.out.at (w.heap.size) (s) (d) (by simp)).c3
  have q4 := (L3.out.at (w.heap.size) (s) (d) (by simp)).c4
  have q5 := (L3.out.at (w.heap.size) (s) (d) (by simp)).c5
  have ql := (L3.out.at (w.heap.size) (s) (d) (by simp)).lt
  go_wp2_with fail
  have hC9 := pmay0_any s d w2 (L3.out.hp (w.heap.size) (s) (d) (by simp)) (HZ.out.over L3.out.bel hz0) FI.out
  rw [HM.out] at hC9
  refine hC9.mono ?_
  rintro e9 w4 ⟨rfl, hb9⟩
  have L4 := Lib.hid (L3.out.next hb9)
  clear hb9 hC9 L3
  clear q0 q1 q2 q3 q4 q5 ql
  have p1 := (L4.out.cat (w.heap.size + 1) k xs (by simp)).c1
  have pl := (L4.out.cat (w.heap.size + 1) k xs (by simp)).lt
  by_cases h0 : k.ep < 0
  · have a0 : decide (k.ep < 0) = true := decide_eq_true h0
    clear h0
    go_wp2
    go_ret
    exact ⟨rfl, L4.out.bel⟩
  · have a0 : decide (k.ep < 0) = false := decide_eq_false h0
    have a1 : decide (1048576 ≤ k.ep) = true := decide_eq_true (by have := HE.out; omega)
    clear h0
    go_wp2
    go_ret
    exact ⟨rfl, L4.out.bel⟩
set_option maxHeartbeats 16000000 in
theorem core (us : List Int) (mj : Bool) (hmj : k.mj = mj) (hus : usedL s d = us) (he : 0 ≤ k.ep ∧ k.ep < 1048576) (hm : mayB0 s d = true) (hfi : Fine s d) (hf : fewK s k = true) (hz : Cl.Sz w) (hp : Hp w w.heap.size s d) (hk : WRow w w.heap.size k xs) : Calls Tryd.prog 5 #[(.agg #[.slice s.w.a s.w.n s.w.c, .slice s.p.a s.p.n s.p.c, .slice (s.u 0).a (s.u 0).n (s.u 0).c, .slice (s.u 1).a (s.u 1).n (s.u 1).c, .slice (s.u 2).a (s.u 2).n (s.u 2).c, .slice s.c.a s.c.n s.c.c]), (.agg #[.int .i64 k.ph, .int .i64 k.ep, .bool k.mj, .slice k.wk.a k.wk.n k.wk.c, .bool k.ov, .int .i64 k.pa, .int .i64 k.pf, .int .i64 k.ps, .int .i64 k.pc, .bool k.me])] w fun e w' => e = .returned (.bool true) ∧ Below w.heap.size w w' := by
  have HZ := Lib.hid hz
  have hz0 := hz.pos
  have HP := Lib.hid hp
  have HK := Lib.hid hk
  have HF := Lib.hid hf
  have HM := Lib.hid hm
  have FI := Lib.hid hfi
  have HE := Lib.hid he
  have HU := Lib.hid hus
  have HMJ := Lib.hid hmj
  have a0 : decide (k.ep < 0) = false := decide_eq_false (by omega)
  have a1 : decide (1048576 ≤ k.ep) = false := decide_eq_false (by omega)
  have wE : IntKind.i64.wrap (k.ep + 1) = k.ep + 1 := by simp [IntKind.wrap, IntKind.signed, IntKind.bits]; omega
  have hul : us.length ≤ 512 := by rw [← hus]; exact Nat.le_trans (used_len s d) (allS_len d.f s.p.n)
  obtain ⟨n, hn⟩ : ∃ n, us.length = n := ⟨_, rfl⟩
  have HN := Lib.hid hn
  rw [hn] at hul
  clear hz hp hk hf hm hfi he hus hmj hn
  go_enter Tryd.func5, Tryd.ntmps5
  go_wp2_with fail
  obtain ⟨W1, hW1⟩ : ∃ W1, W1 = (w.alloc (.cells #[.slice s.w.a s.w.n s.w.c, .slice s.p.a s.p.n s.p.c, .slice (s.u 0).a (s.u 0).n (s.u 0).c, .slice (s.u 1).a (s.u 1).n (s.u 1).c, .slice (s.u 2).a (s.u 2).n (s.u 2).c, .slice s.c.a s.c.n s.c.c] 28)).alloc (.cells #[.int .i64 k.ph, .int .i64 k.ep, .bool k.mj, .slice k.wk.a k.wk.n k.wk.c, .bool k.ov, .int .i64 k.pa, .int .i64 k.pf, .int .i64 k.ps, .int .i64 k.pc, .bool k.me] 30) := ⟨_, rfl⟩
  have L1 := Lib.hid (lk_start HP.out HK.out hW1)
  rw [← hW1]
  clear hW1
  refine (Sh.awake_any W1 (HZ.out.over L1.out.bel hz0)).mono ?_
  rintro e9 w1 ⟨rfl, hb1⟩
  have L2 := Lib.hid (L1.out.next hb1)
  clear hb1 L1
  have q0 := (L2.out.at (w.heap.size) (s) (d) (by simp)).c0
  have q1 := (L2.out.at (w.heap.size) (s) (d) (by simp)).c1
  have q2 := (L2.out.at (w.heap.size) (s) (d) (by simp)).c2
  have q3 := (L2.out.at (w.heap.size) (s) (d) (by simp)).c3
  have q4 := (L2.out.at (w.heap.size) (s) (d) (by simp)).c4
  have q5 := (L2.out.at (w.heap.size) (s) (d) (by simp)).c5
  have ql := (L2.out.at (w.heap.size) (s) (d) (by simp)).lt
  have p0 := (L2.out.cat (w.heap.size + 1) (k) (xs) (by simp)).c0
  have p1 := (L2.out.cat (w.heap.size + 1) (k) (xs) (by simp)).c1
  have p2 := (L2.out.cat (w.heap.size + 1) (k) (xs) (by simp)).c2
  have p3 := (L2.out.cat (w.heap.size + 1) (k) (xs) (by simp)).c3
  have p4 := (L2.out.cat (w.heap.size + 1) (k) (xs) (by simp)).c4
  have p5 := (L2.out.cat (w.heap.size + 1) (k) (xs) (by simp)).c5
  have p6 := (L2.out.cat (w.heap.size + 1) (k) (xs) (by simp)).c6
  have p7 := (L2.out.cat (w.heap.size + 1) (k) (xs) (by simp)).c7
  have p8 := (L2.out.cat (w.heap.size + 1) (k) (xs) (by simp)).c8
  have p9 := (L2.out.cat (w.heap.size + 1) (k) (xs) (by simp)).c9
  have pl := (L2.out.cat (w.heap.size + 1) (k) (xs) (by simp)).lt
  go_wp2_with fail
  refine (few_any s k w1).mono ?_
  rw [HF.out]
  rintro e9 w2 ⟨rfl, hb2⟩
  have L3 := Lib.hid (L2.out.next hb2)
  clear hb2 L2
  clear q0 q1 q2 q3 q4 q5 ql
  clear p0 p1 p2 p3 p4 p5 p6 p7 p8 p9 pl
  have q0 := (L3.out.at (w.heap.size) (s) (d) (by simp)).c0
  have q1 := (L3.out.at (w.heap.size) (s) (d) (by simp)).c1
  have q2 := (L3.out.at (w.heap.size) (s) (d) (by simp)).c2
  have q3 := (L3.out.at (w.heap.size) (s) (d) (by simp)).c3
  have q4 := (L3.out.at (w.heap.size) (s) (d) (by simp)).c4
  have q5 := (L3.out.at (w.heap.size) (s) (d) (by simp)).c5
  have ql := (L3.out.at (w.heap.size) (s) (d) (by simp)).lt
  go_wp2_with fail
  have hC9 := pmay0_any s d w2 (L3.out.hp (w.heap.size) (s) (d) (by simp)) (HZ.out.over L3.out.bel hz0) FI.out
  rw [HM.out] at hC9
  refine hC9.mono ?_
  rintro e9 w4 ⟨rfl, hb9⟩
  have L4 := Lib.hid (L3.out.next hb9)
  clear hb9 hC9 L3
  clear q0 q1 q2 q3 q4 q5 ql
  have p1 := (L4.out.cat (w.heap.size + 1) k xs (by simp)).c1
  have pl := (L4.out.cat (w.heap.size + 1) k xs (by simp)).lt
  go_upto_region 5 with fail
  clear a0 a1 p1 pl
  have q0 := (L4.out.at (w.heap.size) (s) (d) (by simp)).c0
  have q1 := (L4.out.at (w.heap.size) (s) (d) (by simp)).c1
  have q2 := (L4.out.at (w.heap.size) (s) (d) (by simp)).c2
  have q3 := (L4.out.at (w.heap.size) (s) (d) (by simp)).c3
  have q4 := (L4.out.at (w.heap.size) (s) (d) (by simp)).c4
  have q5 := (L4.out.at (w.heap.size) (s) (d) (by simp)).c5
  have ql := (L4.out.at (w.heap.size) (s) (d) (by simp)).lt
  go_wp2_with fail
  have hC9 := pused_any s d w4 (L4.out.hp (w.heap.size) (s) (d) (by simp)) (HZ.out.over L4.out.bel hz0) FI.out
  rw [HU.out] at hC9
  refine hC9.mono ?_
  rintro e9 w5 ⟨⟨va, vn, vc⟩, rfl, ho, hb5⟩
  have L5 := Lib.hid (L4.out.next hb5)
  obtain rfl : vn = n := by have h1 := ho.1; have h2 := HN.out; simp only [List.length_map] at h1; omega
  have R5 := Lib.hid (row_of ho)
  clear hb5 ho hC9 L4
  clear q0 q1 q2 q3 q4 q5 ql
  have p0 := (L5.out.cat (w.heap.size + 1) (k) (xs) (by simp)).c0
  have p1 := (L5.out.cat (w.heap.size + 1) (k) (xs) (by simp)).c1
  have p2 := (L5.out.cat (w.heap.size + 1) (k) (xs) (by simp)).c2
  have p3 := (L5.out.cat (w.heap.size + 1) (k) (xs) (by simp)).c3
  have p4 := (L5.out.cat (w.heap.size + 1) (k) (xs) (by simp)).c4
  have p5 := (L5.out.cat (w.heap.size + 1) (k) (xs) (by simp)).c5
  have p6 := (L5.out.cat (w.heap.size + 1) (k) (xs) (by simp)).c6
  have p7 := (L5.out.cat (w.heap.size + 1) (k) (xs) (by simp)).c7
  have p8 := (L5.out.cat (w.heap.size + 1) (k) (xs) (by simp)).c8
  have p9 := (L5.out.cat (w.heap.size + 1) (k) (xs) (by simp)).c9
  have pl := (L5.out.cat (w.heap.size + 1) (k) (xs) (by simp)).lt
  go_upto_region 9 with fail
  obtain ⟨W6, hW6⟩ : ∃ W, W = w5.alloc (.cells #[.int .i64 k.ph, .int .i64 (k.ep + 1), .bool k.mj, .slice k.wk.a k.wk.n k.wk.c, .bool k.ov, .int .i64 k.pa, .int .i64 k.pf, .int .i64 k.ps, .int .i64 k.pc, .bool k.me] 30) := ⟨_, rfl⟩
  obtain ⟨b6, hb6⟩ : ∃ b, b = w5.heap.size := ⟨_, rfl⟩
  have L6' := Lib.hid (lk_ep L5.out (L5.out.wr (w.heap.size + 1) (k) (xs) (by simp)) hW6)
  have R6 := Lib.hid ((Row.below R5.out L6'.out.2).more L6'.out.2.size)
  have L6 := Lib.hid L6'.out.1
  rw [← hb6] at L6
  rw [← hW6, ← hb6]
  clear hW6 hb6 L6' L5 R5 wE
  clear p0 p1 p2 p3 p4 p5 p6 p7 p8 p9 pl
  go_loopw [9] (fun i wr => ∃ q : Nat, q ≤ vn ∧ i = .int .i64 q ∧ Hid (∀ j, j < q → wd d (us.getD j 0) / 4294967296 ≤ k.ep) ∧ Hid (Below W6.heap.size W6 wr)) (fun i _ => vn - (intOf i).toNat)
  case atStart => exact ⟨0, Nat.zero_le _, rfl, Lib.hid (fun j h => absurd h (by omega)), Lib.hid (Below.refl _ _)⟩
  case round =>
    obtain ⟨q, hq, rfl, HJ, HB⟩ := hrel
    by_cases hlt : q < vn
    · skip
      have LB := Lib.hid (L6.out.next HB.out)
      obtain ⟨bb, off, rfl, hbl', hcell⟩ := (Row.below R6.out HB.out).2 (by omega)
      have hq1 := hcell q hlt
      have hbl : bb < wr.heap.size := by have := HB.out.size; omega
      obtain ⟨y, hy⟩ : ∃ y, y = us.getD q 0 := ⟨_, rfl⟩
      rw [← hy] at hq1
      have HY := Lib.hid hy
      have hmem : y ∈ us := by rw [hy]; exact getD_mem (by have := HN.out; omega)
      have hE := used_E (HU.out ▸ hmem)
      have hOb := obj_of hE
      obtain ⟨u1, hu1⟩ : ∃ u, u = true := ⟨_, rfl⟩
      obtain ⟨o1, ho1⟩ : ∃ o, o = decide (wd d y / 2 % 2 = 1) := ⟨_, rfl⟩
      obtain ⟨e1, he1⟩ : ∃ o, o = decide (wd d y / 4 % 2 = 1) := ⟨_, rfl⟩
      obtain ⟨n1, hn1⟩ : ∃ n, n = nOf (wd d y) := ⟨_, rfl⟩
      obtain ⟨b1, hb1⟩ : ∃ n, n = wd d y / 1024 % 4194304 := ⟨_, rfl⟩
      obtain ⟨m1, hm1⟩ : ∃ n, n = wd d y / 4294967296 := ⟨_, rfl⟩
      have hV := hOb.val
      rw [← hu1, ← ho1, ← he1, ← hn1, ← hb1, ← hm1] at hV
      have HC2 : Hid (∀ W, Below wr.heap.size wr W → Calls Tryd.prog 18 #[(.agg #[.slice s.w.a s.w.n s.w.c, .slice s.p.a s.p.n s.p.c, .slice (s.u 0).a (s.u 0).n (s.u 0).c, .slice (s.u 1).a (s.u 1).n (s.u 1).c, .slice (s.u 2).a (s.u 2).n (s.u 2).c, .slice s.c.a s.c.n s.c.c]), .int .i64 y] W (HeadOut W (.agg #[.bool u1, .bool o1, .bool e1, .int .i64 n1, .int .i64 b1, .int .i64 m1]) 0)) := Lib.hid (fun W h => by
        have h9 := phead_any s d y W ((LB.out.next h).hp w.heap.size s d (by simp)) (HZ.out.over (LB.out.next h).bel hz0) FI.out
        rw [hV, hE] at h9
        exact h9)
      have FS : Hid (HBox wr w.heap.size s ∧ bb < wr.heap.size ∧ wr.cell? ⟨bb, off + q, none⟩ = some (.int .i64 y)) := Lib.hid ⟨LB.out.at (w.heap.size) s d (by simp), hbl, hq1⟩
      have MO := Lib.hid (And.intro hm1 ho1)
      have MEM := Lib.hid hmem
      have HLT := Lib.hid (And.intro hlt hq)
      have i0 : (0 : Int) ≤ q := by omega
      have i1 : (q : Int) < vn := by omega
      have i2 : decide ((q : Int) < vn) = true := decide_eq_true i1
      have i3 : decide (q < vn) = true := decide_eq_true hlt
      clear hcell hbl' hbl hq1 hy hmem hE hOb hV hu1 ho1 he1 hn1 hb1 hm1 LB
      go_wp2_with fail
      refine wp_region_from (by kernel_rfl) (KEInv wr (.agg #[.slice s.w.a s.w.n s.w.c, .slice s.p.a s.p.n s.p.c, .slice (s.u 0).a (s.u 0).n (s.u 0).c, .slice (s.u 1).a (s.u 1).n (s.u 1).c, .slice (s.u 2).a (s.u 2).n (s.u 2).c, .slice s.c.a s.c.n s.c.c]) (.slice (some ⟨bb, off, none⟩) vn vc) (.int .i64 (q : Int)) (.pointer (some ⟨bb, off + q, none⟩)) (.int .i64 y) u1 o1 e1 n1 b1 m1) ?dag ?start ?step ?done
      case dag => exact dag_any (by kernel_rfl)
      case start =>
        simp only [KEInv, KEPut, Act.put, List.setIfInBounds_toArray, List.set_cons_succ, List.set_cons_zero]
        exact ⟨_, _, _, _, _, _, _, _, _, _, _, 0, rfl, RSt.start _ _ _ _ _ _ _ _ _ _ _⟩
      case step =>
        rintro i o9 l a9 wc ho ⟨x13, x14, x48, x49, x50, x51, x52, x53, x54, x55, x56, b9, rfl, hs⟩ hl haft K hK
        have hi : i < 12 := (Array.getElem?_eq_some_iff.1 ho).1
        refine wpOp_of ho ?_
        rcases (show i = 0 ∨ i = 1 ∨ i = 2 ∨ i = 3 ∨ i = 4 ∨ i = 5 ∨ i = 6 ∨ i = 7 ∨ i = 8 ∨ i = 9 ∨ i = 10 ∨ i = 11 by omega) with rfl | rfl | rfl | rfl | rfl | rfl | rfl | rfl | rfl | rfl | rfl | rfl
        · obtain rfl := Option.some.inj ho
          have q0 := (FS.out.1.next hs.bel).c0
          have q1 := (FS.out.1.next hs.bel).c1
          have q2 := (FS.out.1.next hs.bel).c2
          have q3 := (FS.out.1.next hs.bel).c3
          have q4 := (FS.out.1.next hs.bel).c4
          have q5 := (FS.out.1.next hs.bel).c5
          clear ho haft hi
          simp only [KEPut, Act.put]
          go_simp
          exact hK _ _ ⟨x13, x14, x48, (.agg #[.slice s.w.a s.w.n s.w.c, .slice s.p.a s.p.n s.p.c, .slice (s.u 0).a (s.u 0).n (s.u 0).c, .slice (s.u 1).a (s.u 1).n (s.u 1).c, .slice (s.u 2).a (s.u 2).n (s.u 2).c, .slice s.c.a s.c.n s.c.c]), x50, x51, x52, x53, x54, x55, x56, b9, (by simp only [KEPut, Act.put, List.setIfInBounds_toArray, List.set_cons_succ, List.set_cons_zero]), hs.did0⟩
        · obtain rfl := Option.some.inj ho
          clear ho haft hi
          simp only [KEPut, Act.put]
          go_simp
          exact hK _ _ ⟨x13, x14, x48, x49, (.slice (some ⟨bb, off, none⟩) vn vc), x51, x52, x53, x54, x55, x56, b9, (by simp only [KEPut, Act.put, List.setIfInBounds_toArray, List.set_cons_succ, List.set_cons_zero]), hs.did1⟩
        · obtain rfl := Option.some.inj ho
          clear ho haft hi
          simp only [KEPut, Act.put]
          go_simp
          exact hK _ _ ⟨x13, x14, x48, x49, x50, (.int .i64 (q : Int)), x52, x53, x54, x55, x56, b9, (by simp only [KEPut, Act.put, List.setIfInBounds_toArray, List.set_cons_succ, List.set_cons_zero]), hs.did2⟩
        · obtain rfl := Option.some.inj ho
          have e1 := hs.s1 (haft ⟨1, .data⟩ (by simp) rfl)
          have e2 := hs.s2 (haft ⟨2, .data⟩ (by simp) rfl)
          subst e1 e2
          clear ho haft hi
          simp only [KEPut, Act.put]
          go_simp
          exact hK _ _ ⟨x13, x14, x48, x49, (.slice (some ⟨bb, off, none⟩) vn vc), (.int .i64 (q : Int)), (.pointer (some ⟨bb, off + q, none⟩)), x53, x54, x55, x56, b9, (by simp only [KEPut, Act.put, List.setIfInBounds_toArray, List.set_cons_succ, List.set_cons_zero]), hs.did3⟩
        · obtain rfl := Option.some.inj ho
          have e1 := hs.s3 (haft ⟨3, .data⟩ (by simp) rfl)
          have cy := (hs.bel.cell (p := ⟨bb, off + q, none⟩) FS.out.2.1).trans FS.out.2.2
          subst e1
          clear ho haft hi
          simp only [KEPut, Act.put]
          go_simp
          exact hK _ _ ⟨x13, x14, x48, x49, x50, x51, (.pointer (some ⟨bb, off + q, none⟩)), (.int .i64 y), x54, x55, x56, b9, (by simp only [KEPut, Act.put, List.setIfInBounds_toArray, List.set_cons_succ, List.set_cons_zero]), hs.did4⟩
        · obtain rfl := Option.some.inj ho
          have e1 := hs.s0 (haft ⟨0, .data⟩ (by simp) rfl)
          have e2 := hs.s4 (haft ⟨4, .data⟩ (by simp) rfl)
          have hl10 : l 10 = false := by
            cases e : l 10
            · rfl
            · rw [(hs.o10 e).2] at hl; cases hl
          subst e1 e2
          clear ho haft hi
          simp only [KEPut, Act.put]
          go_simp
          refine (HC2.out wc hs.bel).mono ?_
          rintro e9 w8 ⟨rfl, hb8⟩
          exact hK _ _ ⟨x13, x14, x48, (.agg #[.slice s.w.a s.w.n s.w.c, .slice s.p.a s.p.n s.p.c, .slice (s.u 0).a (s.u 0).n (s.u 0).c, .slice (s.u 1).a (s.u 1).n (s.u 1).c, .slice (s.u 2).a (s.u 2).n (s.u 2).c, .slice s.c.a s.c.n s.c.c]), x50, x51, x52, (.int .i64 y), (.tuple #[(.agg #[.bool u1, .bool o1, .bool e1, .int .i64 n1, .int .i64 b1, .int .i64 m1]), .int .i64 0]), x55, x56, b9, (by simp only [KEPut, Act.put, List.setIfInBounds_toArray, List.set_cons_succ, List.set_cons_zero]), hs.did5 hl10 hb8⟩
        · obtain rfl := Option.some.inj ho
          have e1 := hs.s5 (haft ⟨5, .data⟩ (by simp) rfl)
          subst e1
          clear ho haft hi
          simp only [KEPut, Act.put]
          go_simp
          exact hK _ _ ⟨x13, x14, (.tuple #[(.agg #[.bool u1, .bool o1, .bool e1, .int .i64 n1, .int .i64 b1, .int .i64 m1]), .int .i64 0]), x49, x50, x51, x52, x53, (.tuple #[(.agg #[.bool u1, .bool o1, .bool e1, .int .i64 n1, .int .i64 b1, .int .i64 m1]), .int .i64 0]), x55, x56, b9, (by simp only [KEPut, Act.put, List.setIfInBounds_toArray, List.set_cons_succ, List.set_cons_zero]), hs.did6⟩
        · obtain rfl := Option.some.inj ho
          have e1 := hs.s6 (haft ⟨6, .data⟩ (by simp) rfl)
          subst e1
          clear ho haft hi
          simp only [KEPut, Act.put]
          go_simp
          exact hK _ _ ⟨x13, x14, (.tuple #[(.agg #[.bool u1, .bool o1, .bool e1, .int .i64 n1, .int .i64 b1, .int .i64 m1]), .int .i64 0]), x49, x50, x51, x52, x53, x54, (.agg #[.bool u1, .bool o1, .bool e1, .int .i64 n1, .int .i64 b1, .int .i64 m1]), x56, b9, (by simp only [KEPut, Act.put, List.setIfInBounds_toArray, List.set_cons_succ, List.set_cons_zero]), hs.did7⟩
        · obtain rfl := Option.some.inj ho
          have e1 := hs.s6 (haft ⟨6, .data⟩ (by simp) rfl)
          subst e1
          clear ho haft hi
          simp only [KEPut, Act.put]
          go_simp
          exact hK _ _ ⟨x13, x14, (.tuple #[(.agg #[.bool u1, .bool o1, .bool e1, .int .i64 n1, .int .i64 b1, .int .i64 m1]), .int .i64 0]), x49, x50, x51, x52, x53, x54, x55, (.int .i64 0), b9, (by simp only [KEPut, Act.put, List.setIfInBounds_toArray, List.set_cons_succ, List.set_cons_zero]), hs.did8⟩
        · obtain rfl := Option.some.inj ho
          have hl10 : l 10 = false := by
            cases e : l 10
            · rfl
            · rw [(hs.o10 e).1] at hl; cases hl
          clear ho haft hi
          simp only [KEPut, Act.put]
          go_simp
          exact hK _ _ ⟨(.pointer (some ⟨wc.heap.size, 0, none⟩)), x14, x48, x49, x50, x51, x52, x53, x54, x55, x56, _, (by simp only [KEPut, Act.put, List.setIfInBounds_toArray, List.set_cons_succ, List.set_cons_zero]), hs.did9 hl10 43⟩
        · obtain rfl := Option.some.inj ho
          have h9 := haft ⟨9, .data⟩ (by simp) rfl
          have e2 := hs.s7 (haft ⟨7, .data⟩ (by simp) rfl)
          have h5 := haft ⟨5, .chain⟩ (by simp) rfl
          have hx : XBox wc b9 := by
            have := (hs.s9 h9).2.2
            rwa [if_neg (by rw [hl]; decide)] at this
          have z0 : wc.cell? ⟨b9, 0, none⟩ = some (.bool false) := hx.cell 0 (by decide)
          have z1 : wc.cell? ⟨b9, 1, none⟩ = some (.bool false) := hx.cell 1 (by decide)
          have z2 : wc.cell? ⟨b9, 2, none⟩ = some (.bool false) := hx.cell 2 (by decide)
          have z3 : wc.cell? ⟨b9, 3, none⟩ = some (.int .i64 0) := hx.cell 3 (by decide)
          have z4 : wc.cell? ⟨b9, 4, none⟩ = some (.int .i64 0) := hx.cell 4 (by decide)
          have z5 : wc.cell? ⟨b9, 5, none⟩ = some (.int .i64 0) := hx.cell 5 (by decide)
          have f0 : wc.frozen? ⟨b9, 0, none⟩ = false := hx.free 0
          have f1 : wc.frozen? ⟨b9, 1, none⟩ = false := hx.free 1
          have f2 : wc.frozen? ⟨b9, 2, none⟩ = false := hx.free 2
          have f3 : wc.frozen? ⟨b9, 3, none⟩ = false := hx.free 3
          have f4 : wc.frozen? ⟨b9, 4, none⟩ = false := hx.free 4
          have f5 : wc.frozen? ⟨b9, 5, none⟩ = false := hx.free 5
          have zl : b9 < wc.heap.size := hx.lt
          have e1 := (hs.s9 h9).1
          have HS := Lib.hid (hs.did10 hl h9 h5)
          subst e1 e2
          clear ho haft hi hx
          simp only [KEPut, Act.put]
          go_simp
          exact hK _ _ ⟨(.pointer (some ⟨b9, 0, none⟩)), x14, x48, x49, x50, x51, x52, x53, x54, (.agg #[.bool u1, .bool o1, .bool e1, .int .i64 n1, .int .i64 b1, .int .i64 m1]), x56, b9, (by simp only [KEPut, Act.put, List.setIfInBounds_toArray, List.set_cons_succ, List.set_cons_zero]), HS.out⟩
        · obtain rfl := Option.some.inj ho
          have e1 := hs.s8 (haft ⟨8, .data⟩ (by simp) rfl)
          subst e1
          clear ho haft hi
          simp only [KEPut, Act.put]
          go_simp
          exact hK _ _ ⟨x13, (.int .i64 0), x48, x49, x50, x51, x52, x53, x54, x55, (.int .i64 0), b9, (by simp only [KEPut, Act.put, List.setIfInBounds_toArray, List.set_cons_succ, List.set_cons_zero]), hs.did11⟩
      case done =>
        rintro l a9 wc ⟨x13, x14, x48, x49, x50, x51, x52, x53, x54, x55, x56, b9, rfl, hs⟩ hall
        have e0 := hs.s0 (hall 0 (by simp))
        have e1 := hs.s1 (hall 1 (by simp))
        have e2 := hs.s2 (hall 2 (by simp))
        have e3 := hs.s3 (hall 3 (by simp))
        have e4 := hs.s4 (hall 4 (by simp))
        have e5 := hs.s5 (hall 5 (by simp))
        have e6 := hs.s6 (hall 6 (by simp))
        have e7 := hs.s7 (hall 7 (by simp))
        have e8 := hs.s8 (hall 8 (by simp))
        have e11 := hs.s11 (hall 11 (by simp))
        obtain ⟨e9, _, hx9⟩ := hs.s9 (hall 9 (by simp))
        rw [if_pos (hall 10 (by simp))] at hx9
        have H2 := Lib.hid (And.intro hs.bel hx9)
        clear hs hall hx9
        subst e0 e1 e2 e3 e4 e5 e6 e7 e8 e9 e11
        obtain ⟨wD, rfl⟩ : ∃ x : World, x = wc := ⟨_, rfl⟩
        obtain ⟨bz9, rfl⟩ : ∃ x : Nat, x = b9 := ⟨_, rfl⟩
        simp only [KEPut, Act.put, List.setIfInBounds_toArray, List.set_cons_succ, List.set_cons_zero]
        have A2 := Lib.hid (HB.out.trans (H2.out.1.mono HB.out.size))
        have x5 := H2.out.2.c5
        have xl := H2.out.2.lt
        have p1 := ((L6.out.next A2.out).cat (w.heap.size + 1) k xs (by simp)).c1
        have pl := ((L6.out.next A2.out).cat (w.heap.size + 1) k xs (by simp)).lt
        clear H2 FS HC2
        by_cases hmk : m1 ≤ k.ep
        · have hd : decide (k.ep < m1) = false := decide_eq_false (by omega)
          have HJ2 : Hid (∀ j, j < q + 1 → wd d (us.getD j 0) / 4294967296 ≤ k.ep) := Lib.hid fun j hj => by
            by_cases e : j = q
            · rw [e, ← HY.out, ← MO.out.1]; exact hmk
            · exact HJ.out j (by omega)
          clear hmk
          go_wp2
          go_roundw
          case rel => exact ⟨q + 1, by have := HLT.out; omega, by go_num, HJ2, A2⟩
          case measure => have := HLT.out; simp [intOf]; omega
        · have hd : decide (k.ep < m1) = true := decide_eq_true (by omega)
          clear hmk
          go_wp2
          go_ret
          exact ⟨rfl, (L6.out.next A2.out).bel⟩
    · obtain rfl : q = vn := by omega
      have i2 : decide ((q : Int) < q) = false := by simp
      have i3 : decide (q < q) = false := by simp
      have HMX : Hid (∀ y, y ∈ us → wd d y / 4294967296 ≤ k.ep) := Lib.hid fun y hy => by
        obtain ⟨i, hi, e⟩ := List.mem_iff_getElem.1 hy
        have := HJ.out i (by have := HN.out; omega)
        rwa [show us.getD i 0 = y by simp [List.getD, hi, e]] at this
      obtain ⟨vn, hvn⟩ : ∃ x, x = q := ⟨_, rfl⟩
      rw [← hvn] at R6 HN hul i2 i3
      rw [← hvn]
      clear hvn
      go_upto_region 15 with fail
      clear i2 i3 HJ
      go_loopw [12] (fun i wr => ∃ q : Nat, q ≤ vn ∧ i = .int .i64 q ∧ Hid (Below W6.heap.size W6 wr)) (fun i _ => vn - (intOf i).toNat)
      case atStart => exact ⟨0, Nat.zero_le _, rfl, HB⟩
      case round =>
        obtain ⟨q, hq, rfl, HB⟩ := hrel
        by_cases hlt : q < vn
        · skip
          have LB := Lib.hid (L6.out.next HB.out)
          obtain ⟨bb, off, rfl, hbl', hcell⟩ := (Row.below R6.out HB.out).2 (by omega)
          have hq1 := hcell q hlt
          have hbl : bb < wr.heap.size := by have := HB.out.size; omega
          obtain ⟨y, hy⟩ : ∃ y, y = us.getD q 0 := ⟨_, rfl⟩
          rw [← hy] at hq1
          have HY := Lib.hid hy
          have hmem : y ∈ us := by rw [hy]; exact getD_mem (by have := HN.out; omega)
          have hE := used_E (HU.out ▸ hmem)
          have hOb := obj_of hE
          obtain ⟨u1, hu1⟩ : ∃ u, u = true := ⟨_, rfl⟩
          obtain ⟨o1, ho1⟩ : ∃ o, o = decide (wd d y / 2 % 2 = 1) := ⟨_, rfl⟩
          obtain ⟨e1, he1⟩ : ∃ o, o = decide (wd d y / 4 % 2 = 1) := ⟨_, rfl⟩
          obtain ⟨n1, hn1⟩ : ∃ n, n = nOf (wd d y) := ⟨_, rfl⟩
          obtain ⟨b1, hb1⟩ : ∃ n, n = wd d y / 1024 % 4194304 := ⟨_, rfl⟩
          obtain ⟨m1, hm1⟩ : ∃ n, n = wd d y / 4294967296 := ⟨_, rfl⟩
          have hV := hOb.val
          rw [← hu1, ← ho1, ← he1, ← hn1, ← hb1, ← hm1] at hV
          have HC2 : Hid (∀ W, Below wr.heap.size wr W → Calls Tryd.prog 18 #[(.agg #[.slice s.w.a s.w.n s.w.c, .slice s.p.a s.p.n s.p.c, .slice (s.u 0).a (s.u 0).n (s.u 0).c, .slice (s.u 1).a (s.u 1).n (s.u 1).c, .slice (s.u 2).a (s.u 2).n (s.u 2).c, .slice s.c.a s.c.n s.c.c]), .int .i64 y] W (HeadOut W (.agg #[.bool u1, .bool o1, .bool e1, .int .i64 n1, .int .i64 b1, .int .i64 m1]) 0)) := Lib.hid (fun W h => by
            have h9 := phead_any s d y W ((LB.out.next h).hp w.heap.size s d (by simp)) (HZ.out.over (LB.out.next h).bel hz0) FI.out
            rw [hV, hE] at h9
            exact h9)
          have FS : Hid (HBox wr w.heap.size s ∧ bb < wr.heap.size ∧ wr.cell? ⟨bb, off + q, none⟩ = some (.int .i64 y)) := Lib.hid ⟨LB.out.at (w.heap.size) s d (by simp), hbl, hq1⟩
          have MO := Lib.hid (And.intro hm1 ho1)
          have MEM := Lib.hid hmem
          have HLT := Lib.hid (And.intro hlt hq)
          have i0 : (0 : Int) ≤ q := by omega
          have i1 : (q : Int) < vn := by omega
          have i2 : decide ((q : Int) < vn) = true := decide_eq_true i1
          have i3 : decide (q < vn) = true := decide_eq_true hlt
          clear hcell hbl' hbl hq1 hy hmem hE hOb hV hu1 ho1 he1 hn1 hb1 hm1 LB
          go_wp2_with fail
          refine wp_region_from (by kernel_rfl) (KFInv wr (.agg #[.slice s.w.a s.w.n s.w.c, .slice s.p.a s.p.n s.p.c, .slice (s.u 0).a (s.u 0).n (s.u 0).c, .slice (s.u 1).a (s.u 1).n (s.u 1).c, .slice (s.u 2).a (s.u 2).n (s.u 2).c, .slice s.c.a s.c.n s.c.c]) (.slice (some ⟨bb, off, none⟩) vn vc) (.int .i64 (q : Int)) (.pointer (some ⟨bb, off + q, none⟩)) (.int .i64 y) u1 o1 e1 n1 b1 m1) ?dag ?start ?step ?done
          case dag => exact dag_any (by kernel_rfl)
          case start =>
            simp only [KFInv, KFPut, Act.put, List.setIfInBounds_toArray, List.set_cons_succ, List.set_cons_zero]
            exact ⟨_, _, _, _, _, _, _, _, _, _, _, 0, rfl, RSt.start _ _ _ _ _ _ _ _ _ _ _⟩
          case step =>
            rintro i o9 l a9 wc ho ⟨x13, x14, x48, x49, x50, x51, x52, x53, x54, x55, x56, b9, rfl, hs⟩ hl haft K hK
            have hi : i < 12 := (Array.getElem?_eq_some_iff.1 ho).1
            refine wpOp_of ho ?_
            rcases (show i = 0 ∨ i = 1 ∨ i = 2 ∨ i = 3 ∨ i = 4 ∨ i = 5 ∨ i = 6 ∨ i = 7 ∨ i = 8 ∨ i = 9 ∨ i = 10 ∨ i = 11 by omega) with rfl | rfl | rfl | rfl | rfl | rfl | rfl | rfl | rfl | rfl | rfl | rfl
            · obtain rfl := Option.some.inj ho
              have q0 := (FS.out.1.next hs.bel).c0
              have q1 := (FS.out.1.next hs.bel).c1
              have q2 := (FS.out.1.next hs.bel).c2
              have q3 := (FS.out.1.next hs.bel).c3
              have q4 := (FS.out.1.next hs.bel).c4
              have q5 := (FS.out.1.next hs.bel).c5
              clear ho haft hi
              simp only [KFPut, Act.put]
              go_simp
              exact hK _ _ ⟨x13, x14, x48, (.agg #[.slice s.w.a s.w.n s.w.c, .slice s.p.a s.p.n s.p.c, .slice (s.u 0).a (s.u 0).n (s.u 0).c, .slice (s.u 1).a (s.u 1).n (s.u 1).c, .slice (s.u 2).a (s.u 2).n (s.u 2).c, .slice s.c.a s.c.n s.c.c]), x50, x51, x52, x53, x54, x55, x56, b9, (by simp only [KFPut, Act.put, List.setIfInBounds_toArray, List.set_cons_succ, List.set_cons_zero]), hs.did0⟩
            · obtain rfl := Option.some.inj ho
              clear ho haft hi
              simp only [KFPut, Act.put]
              go_simp
              exact hK _ _ ⟨x13, x14, x48, x49, (.slice (some ⟨bb, off, none⟩) vn vc), x51, x52, x53, x54, x55, x56, b9, (by simp only [KFPut, Act.put, List.setIfInBounds_toArray, List.set_cons_succ, List.set_cons_zero]), hs.did1⟩
            · obtain rfl := Option.some.inj ho
              clear ho haft hi
              simp only [KFPut, Act.put]
              go_simp
              exact hK _ _ ⟨x13, x14, x48, x49, x50, (.int .i64 (q : Int)), x52, x53, x54, x55, x56, b9, (by simp only [KFPut, Act.put, List.setIfInBounds_toArray, List.set_cons_succ, List.set_cons_zero]), hs.did2⟩
            · obtain rfl := Option.some.inj ho
              have e1 := hs.s1 (haft ⟨1, .data⟩ (by simp) rfl)
              have e2 := hs.s2 (haft ⟨2, .data⟩ (by simp) rfl)
              subst e1 e2
              clear ho haft hi
              simp only [KFPut, Act.put]
              go_simp
              exact hK _ _ ⟨x13, x14, x48, x49, (.slice (some ⟨bb, off, none⟩) vn vc), (.int .i64 (q : Int)), (.pointer (some ⟨bb, off + q, none⟩)), x53, x54, x55, x56, b9, (by simp only [KFPut, Act.put, List.setIfInBounds_toArray, List.set_cons_succ, List.set_cons_zero]), hs.did3⟩
            · obtain rfl := Option.some.inj ho
              have e1 := hs.s3 (haft ⟨3, .data⟩ (by simp) rfl)
              have cy := (hs.bel.cell (p := ⟨bb, off + q, none⟩) FS.out.2.1).trans FS.out.2.2
              subst e1
              clear ho haft hi
              simp only [KFPut, Act.put]
              go_simp
              exact hK _ _ ⟨x13, x14, x48, x49, x50, x51, (.pointer (some ⟨bb, off + q, none⟩)), (.int .i64 y), x54, x55, x56, b9, (by simp only [KFPut, Act.put, List.setIfInBounds_toArray, List.set_cons_succ, List.set_cons_zero]), hs.did4⟩
            · obtain rfl := Option.some.inj ho
              have e1 := hs.s0 (haft ⟨0, .data⟩ (by simp) rfl)
              have e2 := hs.s4 (haft ⟨4, .data⟩ (by simp) rfl)
              have hl10 : l 10 = false := by
                cases e : l 10
                · rfl
                · rw [(hs.o10 e).2] at hl; cases hl
              subst e1 e2
              clear ho haft hi
              simp only [KFPut, Act.put]
              go_simp
              refine (HC2.out wc hs.bel).mono ?_
              rintro e9 w8 ⟨rfl, hb8⟩
              exact hK _ _ ⟨x13, x14, x48, (.agg #[.slice s.w.a s.w.n s.w.c, .slice s.p.a s.p.n s.p.c, .slice (s.u 0).a (s.u 0).n (s.u 0).c, .slice (s.u 1).a (s.u 1).n (s.u 1).c, .slice (s.u 2).a (s.u 2).n (s.u 2).c, .slice s.c.a s.c.n s.c.c]), x50, x51, x52, (.int .i64 y), (.tuple #[(.agg #[.bool u1, .bool o1, .bool e1, .int .i64 n1, .int .i64 b1, .int .i64 m1]), .int .i64 0]), x55, x56, b9, (by simp only [KFPut, Act.put, List.setIfInBounds_toArray, List.set_cons_succ, List.set_cons_zero]), hs.did5 hl10 hb8⟩
            · obtain rfl := Option.some.inj ho
              have e1 := hs.s5 (haft ⟨5, .data⟩ (by simp) rfl)
              subst e1
              clear ho haft hi
              simp only [KFPut, Act.put]
              go_simp
              exact hK _ _ ⟨x13, x14, (.tuple #[(.agg #[.bool u1, .bool o1, .bool e1, .int .i64 n1, .int .i64 b1, .int .i64 m1]), .int .i64 0]), x49, x50, x51, x52, x53, (.tuple #[(.agg #[.bool u1, .bool o1, .bool e1, .int .i64 n1, .int .i64 b1, .int .i64 m1]), .int .i64 0]), x55, x56, b9, (by simp only [KFPut, Act.put, List.setIfInBounds_toArray, List.set_cons_succ, List.set_cons_zero]), hs.did6⟩
            · obtain rfl := Option.some.inj ho
              have e1 := hs.s6 (haft ⟨6, .data⟩ (by simp) rfl)
              subst e1
              clear ho haft hi
              simp only [KFPut, Act.put]
              go_simp
              exact hK _ _ ⟨x13, x14, (.tuple #[(.agg #[.bool u1, .bool o1, .bool e1, .int .i64 n1, .int .i64 b1, .int .i64 m1]), .int .i64 0]), x49, x50, x51, x52, x53, x54, (.agg #[.bool u1, .bool o1, .bool e1, .int .i64 n1, .int .i64 b1, .int .i64 m1]), x56, b9, (by simp only [KFPut, Act.put, List.setIfInBounds_toArray, List.set_cons_succ, List.set_cons_zero]), hs.did7⟩
            · obtain rfl := Option.some.inj ho
              have e1 := hs.s6 (haft ⟨6, .data⟩ (by simp) rfl)
              subst e1
              clear ho haft hi
              simp only [KFPut, Act.put]
              go_simp
              exact hK _ _ ⟨x13, x14, (.tuple #[(.agg #[.bool u1, .bool o1, .bool e1, .int .i64 n1, .int .i64 b1, .int .i64 m1]), .int .i64 0]), x49, x50, x51, x52, x53, x54, x55, (.int .i64 0), b9, (by simp only [KFPut, Act.put, List.setIfInBounds_toArray, List.set_cons_succ, List.set_cons_zero]), hs.did8⟩
            · obtain rfl := Option.some.inj ho
              have hl10 : l 10 = false := by
                cases e : l 10
                · rfl
                · rw [(hs.o10 e).1] at hl; cases hl
              clear ho haft hi
              simp only [KFPut, Act.put]
              go_simp
              exact hK _ _ ⟨(.pointer (some ⟨wc.heap.size, 0, none⟩)), x14, x48, x49, x50, x51, x52, x53, x54, x55, x56, _, (by simp only [KFPut, Act.put, List.setIfInBounds_toArray, List.set_cons_succ, List.set_cons_zero]), hs.did9 hl10 43⟩
            · obtain rfl := Option.some.inj ho
              have h9 := haft ⟨9, .data⟩ (by simp) rfl
              have e2 := hs.s7 (haft ⟨7, .data⟩ (by simp) rfl)
              have h5 := haft ⟨5, .chain⟩ (by simp) rfl
              have hx : XBox wc b9 := by
                have := (hs.s9 h9).2.2
                rwa [if_neg (by rw [hl]; decide)] at this
              have z0 : wc.cell? ⟨b9, 0, none⟩ = some (.bool false) := hx.cell 0 (by decide)
              have z1 : wc.cell? ⟨b9, 1, none⟩ = some (.bool false) := hx.cell 1 (by decide)
              have z2 : wc.cell? ⟨b9, 2, none⟩ = some (.bool false) := hx.cell 2 (by decide)
              have z3 : wc.cell? ⟨b9, 3, none⟩ = some (.int .i64 0) := hx.cell 3 (by decide)
              have z4 : wc.cell? ⟨b9, 4, none⟩ = some (.int .i64 0) := hx.cell 4 (by decide)
              have z5 : wc.cell? ⟨b9, 5, none⟩ = some (.int .i64 0) := hx.cell 5 (by decide)
              have f0 : wc.frozen? ⟨b9, 0, none⟩ = false := hx.free 0
              have f1 : wc.frozen? ⟨b9, 1, none⟩ = false := hx.free 1
              have f2 : wc.frozen? ⟨b9, 2, none⟩ = false := hx.free 2
              have f3 : wc.frozen? ⟨b9, 3, none⟩ = false := hx.free 3
              have f4 : wc.frozen? ⟨b9, 4, none⟩ = false := hx.free 4
              have f5 : wc.frozen? ⟨b9, 5, none⟩ = false := hx.free 5
              have zl : b9 < wc.heap.size := hx.lt
              have e1 := (hs.s9 h9).1
              have HS := Lib.hid (hs.did10 hl h9 h5)
              subst e1 e2
              clear ho haft hi hx
              simp only [KFPut, Act.put]
              go_simp
              exact hK _ _ ⟨(.pointer (some ⟨b9, 0, none⟩)), x14, x48, x49, x50, x51, x52, x53, x54, (.agg #[.bool u1, .bool o1, .bool e1, .int .i64 n1, .int .i64 b1, .int .i64 m1]), x56, b9, (by simp only [KFPut, Act.put, List.setIfInBounds_toArray, List.set_cons_succ, List.set_cons_zero]), HS.out⟩
            · obtain rfl := Option.some.inj ho
              have e1 := hs.s8 (haft ⟨8, .data⟩ (by simp) rfl)
              subst e1
              clear ho haft hi
              simp only [KFPut, Act.put]
              go_simp
              exact hK _ _ ⟨x13, (.int .i64 0), x48, x49, x50, x51, x52, x53, x54, x55, (.int .i64 0), b9, (by simp only [KFPut, Act.put, List.setIfInBounds_toArray, List.set_cons_succ, List.set_cons_zero]), hs.did11⟩
          case done =>
            rintro l a9 wc ⟨x13, x14, x48, x49, x50, x51, x52, x53, x54, x55, x56, b9, rfl, hs⟩ hall
            have e0 := hs.s0 (hall 0 (by simp))
            have e1 := hs.s1 (hall 1 (by simp))
            have e2 := hs.s2 (hall 2 (by simp))
            have e3 := hs.s3 (hall 3 (by simp))
            have e4 := hs.s4 (hall 4 (by simp))
            have e5 := hs.s5 (hall 5 (by simp))
            have e6 := hs.s6 (hall 6 (by simp))
            have e7 := hs.s7 (hall 7 (by simp))
            have e8 := hs.s8 (hall 8 (by simp))
            have e11 := hs.s11 (hall 11 (by simp))
            obtain ⟨e9, _, hx9⟩ := hs.s9 (hall 9 (by simp))
            rw [if_pos (hall 10 (by simp))] at hx9
            have H2 := Lib.hid (And.intro hs.bel hx9)
            clear hs hall hx9
            subst e0 e1 e2 e3 e4 e5 e6 e7 e8 e9 e11
            obtain ⟨wD, rfl⟩ : ∃ x : World, x = wc := ⟨_, rfl⟩
            obtain ⟨bz9, rfl⟩ : ∃ x : Nat, x = b9 := ⟨_, rfl⟩
            simp only [KFPut, Act.put, List.setIfInBounds_toArray, List.set_cons_succ, List.set_cons_zero]
            have A2 := Lib.hid (HB.out.trans (H2.out.1.mono HB.out.size))
            have L7 := Lib.hid (L6.out.next A2.out)
            have cy : wD.cell? ⟨bb, off + q, none⟩ = some (.int .i64 y) := (H2.out.1.cell (p := ⟨bb, off + q, none⟩) FS.out.2.1).trans FS.out.2.2
            have cyl : bb < wD.heap.size := by have := FS.out.2.1; have := H2.out.1.size; omega
            have p2 := (L7.out.cat (w.heap.size + 1) k xs (by simp)).c2
            rw [HMJ.out] at p2
            have F2 := Lib.hid (And.intro (sixh_of (L7.out.at w.heap.size s d (by simp))) (And.intro (ten_of (L7.out.cat b6 (ke k) xs (by simp))) (And.intro (And.intro (L7.out.cat (w.heap.size + 1) k xs (by simp)).lt p2) (And.intro (And.intro H2.out.2.lt H2.out.2.c1) (And.intro cyl cy)))))
            have HW : Hid (∀ W, Below wD.heap.size wD W → Calls Tryd.prog 11 #[(.agg #[.slice s.w.a s.w.n s.w.c, .slice s.p.a s.p.n s.p.c, .slice (s.u 0).a (s.u 0).n (s.u 0).c, .slice (s.u 1).a (s.u 1).n (s.u 1).c, .slice (s.u 2).a (s.u 2).n (s.u 2).c, .slice s.c.a s.c.n s.c.c]), (.agg #[.int .i64 (ke k).ph, .int .i64 (ke k).ep, .bool (ke k).mj, .slice (ke k).wk.a (ke k).wk.n (ke k).wk.c, .bool (ke k).ov, .int .i64 (ke k).pa, .int .i64 (ke k).pf, .int .i64 (ke k).ps, .int .i64 (ke k).pc, .bool (ke k).me]), .int .i64 y] W fun e w' => e = .returned (.bool (mj || !o1)) ∧ Below W.heap.size W w') := Lib.hid fun W h => by
              have h9 := white_any s d (ke k) xs y W ((L7.out.next h).hp w.heap.size s d (by simp)) ((L7.out.next h).wr b6 (ke k) xs (by simp)) (HZ.out.over (L7.out.next h).bel hz0) FI.out
              rw [show isC s d (ke k).mj (ke k).ep y 1 = (k.mj || !decide (wd d y / 2 % 2 = 1)) from next_white HE.out.1 HE.out.2 (HU.out ▸ MEM.out) (HMX.out y MEM.out), HMJ.out, ← MO.out.2] at h9
              exact h9
            clear H2 FS HC2 cy cyl p2
            cases mj
            · cases o1
              · skip
                go_upto_region 18 with fail
                go_region_held3 (fun W => (Below wD.heap.size wD W ∧ True) ∧ (w.heap.size < W.heap.size ∧ W.cell? ⟨w.heap.size, 0, none⟩ = some (.slice s.w.a s.w.n s.w.c) ∧ W.cell? ⟨w.heap.size, 1, none⟩ = some (.slice s.p.a s.p.n s.p.c) ∧ W.cell? ⟨w.heap.size, 2, none⟩ = some (.slice (s.u 0).a (s.u 0).n (s.u 0).c) ∧ W.cell? ⟨w.heap.size, 3, none⟩ = some (.slice (s.u 1).a (s.u 1).n (s.u 1).c) ∧ W.cell? ⟨w.heap.size, 4, none⟩ = some (.slice (s.u 2).a (s.u 2).n (s.u 2).c) ∧ W.cell? ⟨w.heap.size, 5, none⟩ = some (.slice s.c.a s.c.n s.c.c)) ∧ (b6 < W.heap.size ∧ W.cell? ⟨b6, 0, none⟩ = some (.int .i64 (ke k).ph) ∧ W.cell? ⟨b6, 1, none⟩ = some (.int .i64 (ke k).ep) ∧ W.cell? ⟨b6, 2, none⟩ = some (.bool (ke k).mj) ∧ W.cell? ⟨b6, 3, none⟩ = some (.slice (ke k).wk.a (ke k).wk.n (ke k).wk.c) ∧ W.cell? ⟨b6, 4, none⟩ = some (.bool (ke k).ov) ∧ W.cell? ⟨b6, 5, none⟩ = some (.int .i64 (ke k).pa) ∧ W.cell? ⟨b6, 6, none⟩ = some (.int .i64 (ke k).pf) ∧ W.cell? ⟨b6, 7, none⟩ = some (.int .i64 (ke k).ps) ∧ W.cell? ⟨b6, 8, none⟩ = some (.int .i64 (ke k).pc) ∧ W.cell? ⟨b6, 9, none⟩ = some (.bool (ke k).me)) ∧ (w.heap.size + 1 < W.heap.size ∧ W.cell? ⟨w.heap.size + 1, 2, none⟩ = some (.bool false)) ∧ (bz9 < W.heap.size ∧ W.cell? ⟨bz9, 1, none⟩ = some (.bool false)) ∧ (bb < W.heap.size ∧ W.cell? ⟨bb, off + q, none⟩ = some (.int .i64 y))) (first
                  | with_reducible exact ep_keep F2.out (‹(Below wD.heap.size wD _ ∧ _) ∧ _›).1 ‹Below _ _ _›
                  | with_reducible exact ep_keep F2.out ⟨Below.refl _ _, trivial⟩ (Below.refl _ _)
                  | exact ep_keep F2.out ⟨Below.refl _ _, trivial⟩ (below_drawn' (Below.refl _ _) 1)) (first
                  | ((go_at_call 11; refine (HW.out _ (‹(Below wD.heap.size wD _ ∧ _) ∧ _›).1.1).mono ?_; rintro e w9 ⟨rfl, hb9⟩; have N9 := Lib.hid ((‹(Below wD.heap.size wD _ ∧ _) ∧ _›).1.1.trans (hb9.mono (‹(Below wD.heap.size wD _ ∧ _) ∧ _›).1.1.size)))))
                have A3 := Lib.hid (A2.out.trans (N9.out.mono A2.out.size))
                go_wp2
                go_roundw
                case rel => exact ⟨q + 1, by have := HLT.out; omega, by go_num, A3⟩
                case measure => have := HLT.out; simp [intOf]; omega
              · skip
                go_upto_region 18 with fail
                go_region_held3 (fun W => (Below wD.heap.size wD W ∧ True) ∧ (w.heap.size < W.heap.size ∧ W.cell? ⟨w.heap.size, 0, none⟩ = some (.slice s.w.a s.w.n s.w.c) ∧ W.cell? ⟨w.heap.size, 1, none⟩ = some (.slice s.p.a s.p.n s.p.c) ∧ W.cell? ⟨w.heap.size, 2, none⟩ = some (.slice (s.u 0).a (s.u 0).n (s.u 0).c) ∧ W.cell? ⟨w.heap.size, 3, none⟩ = some (.slice (s.u 1).a (s.u 1).n (s.u 1).c) ∧ W.cell? ⟨w.heap.size, 4, none⟩ = some (.slice (s.u 2).a (s.u 2).n (s.u 2).c) ∧ W.cell? ⟨w.heap.size, 5, none⟩ = some (.slice s.c.a s.c.n s.c.c)) ∧ (b6 < W.heap.size ∧ W.cell? ⟨b6, 0, none⟩ = some (.int .i64 (ke k).ph) ∧ W.cell? ⟨b6, 1, none⟩ = some (.int .i64 (ke k).ep) ∧ W.cell? ⟨b6, 2, none⟩ = some (.bool (ke k).mj) ∧ W.cell? ⟨b6, 3, none⟩ = some (.slice (ke k).wk.a (ke k).wk.n (ke k).wk.c) ∧ W.cell? ⟨b6, 4, none⟩ = some (.bool (ke k).ov) ∧ W.cell? ⟨b6, 5, none⟩ = some (.int .i64 (ke k).pa) ∧ W.cell? ⟨b6, 6, none⟩ = some (.int .i64 (ke k).pf) ∧ W.cell? ⟨b6, 7, none⟩ = some (.int .i64 (ke k).ps) ∧ W.cell? ⟨b6, 8, none⟩ = some (.int .i64 (ke k).pc) ∧ W.cell? ⟨b6, 9, none⟩ = some (.bool (ke k).me)) ∧ (w.heap.size + 1 < W.heap.size ∧ W.cell? ⟨w.heap.size + 1, 2, none⟩ = some (.bool false)) ∧ (bz9 < W.heap.size ∧ W.cell? ⟨bz9, 1, none⟩ = some (.bool true)) ∧ (bb < W.heap.size ∧ W.cell? ⟨bb, off + q, none⟩ = some (.int .i64 y))) (first
                  | with_reducible exact ep_keep F2.out (‹(Below wD.heap.size wD _ ∧ _) ∧ _›).1 ‹Below _ _ _›
                  | with_reducible exact ep_keep F2.out ⟨Below.refl _ _, trivial⟩ (Below.refl _ _)
                  | exact ep_keep F2.out ⟨Below.refl _ _, trivial⟩ (below_drawn' (Below.refl _ _) 1)) (first
                  | ((go_at_call 11; refine (HW.out _ (‹(Below wD.heap.size wD _ ∧ _) ∧ _›).1.1).mono ?_; rintro e w9 ⟨rfl, hb9⟩; have N9 := Lib.hid ((‹(Below wD.heap.size wD _ ∧ _) ∧ _›).1.1.trans (hb9.mono (‹(Below wD.heap.size wD _ ∧ _) ∧ _›).1.1.size)))))
                have A3 := Lib.hid (A2.out.trans (N9.out.mono A2.out.size))
                go_wp2
                go_roundw
                case rel => exact ⟨q + 1, by have := HLT.out; omega, by go_num, A3⟩
                case measure => have := HLT.out; simp [intOf]; omega
            · skip
              go_upto_region 18 with fail
              refine region_gen fun a0 ha0 => ?_
              have T2 : a0.tmps[2]? = some (.pointer (some ⟨w.heap.size, 0, none⟩)) := by rw [ha0]; rfl
              have T3 : a0.tmps[3]? = some (.pointer (some ⟨w.heap.size + 1, 0, none⟩)) := by rw [ha0]; rfl
              have T8 : a0.tmps[8]? = some (.pointer (some ⟨b6, 0, none⟩)) := by rw [ha0]; rfl
              have T7 : a0.tmps[7]? = some (.slice (some ⟨bb, off, none⟩) vn vc) := by rw [ha0]; rfl
              have T12 : a0.tmps[12]? = some (.int .i64 (q : Int)) := by rw [ha0]; rfl
              have HS0 : 98 ≤ a0.tmps.size := by rw [ha0]; show 98 ≤ 103; omega
              have HA0 := Lib.hid ha0
              clear ha0
              refine wp_region_from (by kernel_rfl) (KWI wD (.agg #[.slice s.w.a s.w.n s.w.c, .slice s.p.a s.p.n s.p.c, .slice (s.u 0).a (s.u 0).n (s.u 0).c, .slice (s.u 1).a (s.u 1).n (s.u 1).c, .slice (s.u 2).a (s.u 2).n (s.u 2).c, .slice s.c.a s.c.n s.c.c]) (.agg #[.int .i64 (ke k).ph, .int .i64 (ke k).ep, .bool (ke k).mj, .slice (ke k).wk.a (ke k).wk.n (ke k).wk.c, .bool (ke k).ov, .int .i64 (ke k).pa, .int .i64 (ke k).pf, .int .i64 (ke k).ps, .int .i64 (ke k).pc, .bool (ke k).me]) (.slice (some ⟨bb, off, none⟩) vn vc) (.int .i64 (q : Int)) (.pointer (some ⟨bb, off + q, none⟩)) (.int .i64 y) (.pointer (some ⟨w.heap.size + 1, 2, none⟩))) ?dag ?start ?step ?done
              case dag => exact dag_any (by kernel_rfl)
              case start => exact ⟨Rg.refl _ _ _, below_drawn' (Below.refl _ _) 1, (fun h => by cases h), (fun h => by cases h), (fun h => by cases h), (fun h => by cases h), (fun h => by cases h), (fun h => by cases h), (fun h => by cases h), (fun h => by cases h), (fun h => by cases h), (fun h => by cases h), (fun h => by cases h), (fun h => by cases h)⟩
              case step =>
                rintro i o9 l a9 wc ho ⟨hR, hbl, h0, h1, h2, h3, h4, h5, h6, h7, h8, h9, h13, h14⟩ hl haft K hK
                have hi : i < 15 := (Array.getElem?_eq_some_iff.1 ho).1
                refine wpOp_of ho ?_
                rcases (show i = 0 ∨ i = 1 ∨ i = 2 ∨ i = 3 ∨ i = 4 ∨ i = 5 ∨ i = 6 ∨ i = 7 ∨ i = 8 ∨ i = 9 ∨ i = 10 ∨ i = 11 ∨ i = 12 ∨ i = 13 ∨ i = 14 by omega) with rfl | rfl | rfl | rfl | rfl | rfl | rfl | rfl | rfl | rfl | rfl | rfl | rfl | rfl | rfl
                · obtain rfl := Option.some.inj ho
                  have o2 := (hR.out 2 (by omega)).trans T2
                  have F9 := (ep_keep F2.out ⟨Below.refl _ _, trivial⟩ hbl).2
                  obtain ⟨f1, f2, f3, f4, f5, f6, f7⟩ := F9.1
                  go_simp
                  exact hK _ _ (show KWI _ _ _ _ _ _ _ _ a0 (Ls.upd l 0 true) (a9.put (some 83) (.agg #[.slice s.w.a s.w.n s.w.c, .slice s.p.a s.p.n s.p.c, .slice (s.u 0).a (s.u 0).n (s.u 0).c, .slice (s.u 1).a (s.u 1).n (s.u 1).c, .slice (s.u 2).a (s.u 2).n (s.u 2).c, .slice s.c.a s.c.n s.c.c])) _ from ⟨hR.put (.agg #[.slice s.w.a s.w.n s.w.c, .slice s.p.a s.p.n s.p.c, .slice (s.u 0).a (s.u 0).n (s.u 0).c, .slice (s.u 1).a (s.u 1).n (s.u 1).c, .slice (s.u 2).a (s.u 2).n (s.u 2).c, .slice s.c.a s.c.n s.c.c]) (by omega) (by omega), hbl, fun _ => put_at (by rw [hR.sz]; omega), fun e => (put_ne (show ¬ 83 = 84 by omega)).trans (h1 e), fun e => (put_ne (show ¬ 83 = 85 by omega)).trans (h2 e), fun e => (put_ne (show ¬ 83 = 86 by omega)).trans (h3 e), fun e => (put_ne (show ¬ 83 = 87 by omega)).trans (h4 e), fun e => (put_ne (show ¬ 83 = 88 by omega)).trans (h5 e), fun e => (put_ne (show ¬ 83 = 89 by omega)).trans (h6 e), fun e => (put_ne (show ¬ 83 = 90 by omega)).trans (h7 e), fun e => (put_ne (show ¬ 83 = 91 by omega)).trans (h8 e), fun e => (put_ne (show ¬ 83 = 92 by omega)).trans (h9 e), fun e => (put_ne (show ¬ 83 = 96 by omega)).trans (h13 e), fun e => (put_ne (show ¬ 83 = 97 by omega)).trans (h14 e)⟩)
                · obtain rfl := Option.some.inj ho
                  have o8 := (hR.out 8 (by omega)).trans T8
                  have F9 := (ep_keep F2.out ⟨Below.refl _ _, trivial⟩ hbl).2
                  obtain ⟨g1, g2, g3, g4, g5, g6, g7, g8, g9, g10, g11⟩ := F9.2.1
                  go_simp
                  exact hK _ _ (show KWI _ _ _ _ _ _ _ _ a0 (Ls.upd l 1 true) (a9.put (some 84) (.agg #[.int .i64 (ke k).ph, .int .i64 (ke k).ep, .bool (ke k).mj, .slice (ke k).wk.a (ke k).wk.n (ke k).wk.c, .bool (ke k).ov, .int .i64 (ke k).pa, .int .i64 (ke k).pf, .int .i64 (ke k).ps, .int .i64 (ke k).pc, .bool (ke k).me])) _ from ⟨hR.put (.agg #[.int .i64 (ke k).ph, .int .i64 (ke k).ep, .bool (ke k).mj, .slice (ke k).wk.a (ke k).wk.n (ke k).wk.c, .bool (ke k).ov, .int .i64 (ke k).pa, .int .i64 (ke k).pf, .int .i64 (ke k).ps, .int .i64 (ke k).pc, .bool (ke k).me]) (by omega) (by omega), hbl, fun e => (put_ne (show ¬ 84 = 83 by omega)).trans (h0 e), fun _ => put_at (by rw [hR.sz]; omega), fun e => (put_ne (show ¬ 84 = 85 by omega)).trans (h2 e), fun e => (put_ne (show ¬ 84 = 86 by omega)).trans (h3 e), fun e => (put_ne (show ¬ 84 = 87 by omega)).trans (h4 e), fun e => (put_ne (show ¬ 84 = 88 by omega)).trans (h5 e), fun e => (put_ne (show ¬ 84 = 89 by omega)).trans (h6 e), fun e => (put_ne (show ¬ 84 = 90 by omega)).trans (h7 e), fun e => (put_ne (show ¬ 84 = 91 by omega)).trans (h8 e), fun e => (put_ne (show ¬ 84 = 92 by omega)).trans (h9 e), fun e => (put_ne (show ¬ 84 = 96 by omega)).trans (h13 e), fun e => (put_ne (show ¬ 84 = 97 by omega)).trans (h14 e)⟩)
                · obtain rfl := Option.some.inj ho
                  have o7 := (hR.out 7 (by omega)).trans T7
                  go_simp
                  exact hK _ _ (show KWI _ _ _ _ _ _ _ _ a0 (Ls.upd l 2 true) (a9.put (some 85) (.slice (some ⟨bb, off, none⟩) vn vc)) _ from ⟨hR.put (.slice (some ⟨bb, off, none⟩) vn vc) (by omega) (by omega), hbl, fun e => (put_ne (show ¬ 85 = 83 by omega)).trans (h0 e), fun e => (put_ne (show ¬ 85 = 84 by omega)).trans (h1 e), fun _ => put_at (by rw [hR.sz]; omega), fun e => (put_ne (show ¬ 85 = 86 by omega)).trans (h3 e), fun e => (put_ne (show ¬ 85 = 87 by omega)).trans (h4 e), fun e => (put_ne (show ¬ 85 = 88 by omega)).trans (h5 e), fun e => (put_ne (show ¬ 85 = 89 by omega)).trans (h6 e), fun e => (put_ne (show ¬ 85 = 90 by omega)).trans (h7 e), fun e => (put_ne (show ¬ 85 = 91 by omega)).trans (h8 e), fun e => (put_ne (show ¬ 85 = 92 by omega)).trans (h9 e), fun e => (put_ne (show ¬ 85 = 96 by omega)).trans (h13 e), fun e => (put_ne (show ¬ 85 = 97 by omega)).trans (h14 e)⟩)
                · obtain rfl := Option.some.inj ho
                  have o12 := (hR.out 12 (by omega)).trans T12
                  go_simp
                  exact hK _ _ (show KWI _ _ _ _ _ _ _ _ a0 (Ls.upd l 3 true) (a9.put (some 86) (.int .i64 (q : Int))) _ from ⟨hR.put (.int .i64 (q : Int)) (by omega) (by omega), hbl, fun e => (put_ne (show ¬ 86 = 83 by omega)).trans (h0 e), fun e => (put_ne (show ¬ 86 = 84 by omega)).trans (h1 e), fun e => (put_ne (show ¬ 86 = 85 by omega)).trans (h2 e), fun _ => put_at (by rw [hR.sz]; omega), fun e => (put_ne (show ¬ 86 = 87 by omega)).trans (h4 e), fun e => (put_ne (show ¬ 86 = 88 by omega)).trans (h5 e), fun e => (put_ne (show ¬ 86 = 89 by omega)).trans (h6 e), fun e => (put_ne (show ¬ 86 = 90 by omega)).trans (h7 e), fun e => (put_ne (show ¬ 86 = 91 by omega)).trans (h8 e), fun e => (put_ne (show ¬ 86 = 92 by omega)).trans (h9 e), fun e => (put_ne (show ¬ 86 = 96 by omega)).trans (h13 e), fun e => (put_ne (show ¬ 86 = 97 by omega)).trans (h14 e)⟩)
                · obtain rfl := Option.some.inj ho
                  have e2 := h2 (haft ⟨2, .data⟩ (by simp) rfl)
                  have e3 := h3 (haft ⟨3, .data⟩ (by simp) rfl)
                  go_simp
                  exact hK _ _ (show KWI _ _ _ _ _ _ _ _ a0 (Ls.upd l 4 true) (a9.put (some 87) (.pointer (some ⟨bb, off + q, none⟩))) _ from ⟨hR.put (.pointer (some ⟨bb, off + q, none⟩)) (by omega) (by omega), hbl, fun e => (put_ne (show ¬ 87 = 83 by omega)).trans (h0 e), fun e => (put_ne (show ¬ 87 = 84 by omega)).trans (h1 e), fun e => (put_ne (show ¬ 87 = 85 by omega)).trans (h2 e), fun e => (put_ne (show ¬ 87 = 86 by omega)).trans (h3 e), fun _ => put_at (by rw [hR.sz]; omega), fun e => (put_ne (show ¬ 87 = 88 by omega)).trans (h5 e), fun e => (put_ne (show ¬ 87 = 89 by omega)).trans (h6 e), fun e => (put_ne (show ¬ 87 = 90 by omega)).trans (h7 e), fun e => (put_ne (show ¬ 87 = 91 by omega)).trans (h8 e), fun e => (put_ne (show ¬ 87 = 92 by omega)).trans (h9 e), fun e => (put_ne (show ¬ 87 = 96 by omega)).trans (h13 e), fun e => (put_ne (show ¬ 87 = 97 by omega)).trans (h14 e)⟩)
                · obtain rfl := Option.some.inj ho
                  have e4 := h4 (haft ⟨4, .data⟩ (by simp) rfl)
                  have F9 := (ep_keep F2.out ⟨Below.refl _ _, trivial⟩ hbl).2
                  obtain ⟨a5, a6⟩ := F9.2.2.2.2
                  go_simp
                  exact hK _ _ (show KWI _ _ _ _ _ _ _ _ a0 (Ls.upd l 5 true) (a9.put (some 88) (.int .i64 y)) _ from ⟨hR.put (.int .i64 y) (by omega) (by omega), hbl, fun e => (put_ne (show ¬ 88 = 83 by omega)).trans (h0 e), fun e => (put_ne (show ¬ 88 = 84 by omega)).trans (h1 e), fun e => (put_ne (show ¬ 88 = 85 by omega)).trans (h2 e), fun e => (put_ne (show ¬ 88 = 86 by omega)).trans (h3 e), fun e => (put_ne (show ¬ 88 = 87 by omega)).trans (h4 e), fun _ => put_at (by rw [hR.sz]; omega), fun e => (put_ne (show ¬ 88 = 89 by omega)).trans (h6 e), fun e => (put_ne (show ¬ 88 = 90 by omega)).trans (h7 e), fun e => (put_ne (show ¬ 88 = 91 by omega)).trans (h8 e), fun e => (put_ne (show ¬ 88 = 92 by omega)).trans (h9 e), fun e => (put_ne (show ¬ 88 = 96 by omega)).trans (h13 e), fun e => (put_ne (show ¬ 88 = 97 by omega)).trans (h14 e)⟩)
                · obtain rfl := Option.some.inj ho
                  have e0 := h0 (haft ⟨0, .data⟩ (by simp) rfl)
                  have e1 := h1 (haft ⟨1, .data⟩ (by simp) rfl)
                  have e5 := h5 (haft ⟨5, .data⟩ (by simp) rfl)
                  go_simp
                  refine (HW.out wc hbl).mono ?_
                  rintro e9 wn ⟨rfl, hb9⟩
                  exact hK _ _ (show KWI _ _ _ _ _ _ _ _ a0 (Ls.upd l 6 true) (a9.put (some 89) (.bool true)) _ from ⟨hR.put (.bool true) (by omega) (by omega), hbl.trans (hb9.mono hbl.size), fun e => (put_ne (show ¬ 89 = 83 by omega)).trans (h0 e), fun e => (put_ne (show ¬ 89 = 84 by omega)).trans (h1 e), fun e => (put_ne (show ¬ 89 = 85 by omega)).trans (h2 e), fun e => (put_ne (show ¬ 89 = 86 by omega)).trans (h3 e), fun e => (put_ne (show ¬ 89 = 87 by omega)).trans (h4 e), fun e => (put_ne (show ¬ 89 = 88 by omega)).trans (h5 e), fun _ => put_at (by rw [hR.sz]; omega), fun e => (put_ne (show ¬ 89 = 90 by omega)).trans (h7 e), fun e => (put_ne (show ¬ 89 = 91 by omega)).trans (h8 e), fun e => (put_ne (show ¬ 89 = 92 by omega)).trans (h9 e), fun e => (put_ne (show ¬ 89 = 96 by omega)).trans (h13 e), fun e => (put_ne (show ¬ 89 = 97 by omega)).trans (h14 e)⟩)
                · obtain rfl := Option.some.inj ho
                  have o3 := (hR.out 3 (by omega)).trans T3
                  go_simp
                  exact hK _ _ (show KWI _ _ _ _ _ _ _ _ a0 (Ls.upd l 7 true) (a9.put (some 90) (.pointer (some ⟨w.heap.size + 1, 2, none⟩))) _ from ⟨hR.put (.pointer (some ⟨w.heap.size + 1, 2, none⟩)) (by omega) (by omega), hbl, fun e => (put_ne (show ¬ 90 = 83 by omega)).trans (h0 e), fun e => (put_ne (show ¬ 90 = 84 by omega)).trans (h1 e), fun e => (put_ne (show ¬ 90 = 85 by omega)).trans (h2 e), fun e => (put_ne (show ¬ 90 = 86 by omega)).trans (h3 e), fun e => (put_ne (show ¬ 90 = 87 by omega)).trans (h4 e), fun e => (put_ne (show ¬ 90 = 88 by omega)).trans (h5 e), fun e => (put_ne (show ¬ 90 = 89 by omega)).trans (h6 e), fun _ => put_at (by rw [hR.sz]; omega), fun e => (put_ne (show ¬ 90 = 91 by omega)).trans (h8 e), fun e => (put_ne (show ¬ 90 = 92 by omega)).trans (h9 e), fun e => (put_ne (show ¬ 90 = 96 by omega)).trans (h13 e), fun e => (put_ne (show ¬ 90 = 97 by omega)).trans (h14 e)⟩)
                · obtain rfl := Option.some.inj ho
                  have e7 := h7 (haft ⟨7, .data⟩ (by simp) rfl)
                  have F9 := (ep_keep F2.out ⟨Below.refl _ _, trivial⟩ hbl).2
                  obtain ⟨a1, a2⟩ := F9.2.2.1
                  go_simp
                  exact hK _ _ (show KWI _ _ _ _ _ _ _ _ a0 (Ls.upd l 8 true) (a9.put (some 91) (.bool true)) _ from ⟨hR.put (.bool true) (by omega) (by omega), hbl, fun e => (put_ne (show ¬ 91 = 83 by omega)).trans (h0 e), fun e => (put_ne (show ¬ 91 = 84 by omega)).trans (h1 e), fun e => (put_ne (show ¬ 91 = 85 by omega)).trans (h2 e), fun e => (put_ne (show ¬ 91 = 86 by omega)).trans (h3 e), fun e => (put_ne (show ¬ 91 = 87 by omega)).trans (h4 e), fun e => (put_ne (show ¬ 91 = 88 by omega)).trans (h5 e), fun e => (put_ne (show ¬ 91 = 89 by omega)).trans (h6 e), fun e => (put_ne (show ¬ 91 = 90 by omega)).trans (h7 e), fun _ => put_at (by rw [hR.sz]; omega), fun e => (put_ne (show ¬ 91 = 92 by omega)).trans (h9 e), fun e => (put_ne (show ¬ 91 = 96 by omega)).trans (h13 e), fun e => (put_ne (show ¬ 91 = 97 by omega)).trans (h14 e)⟩)
                · obtain rfl := Option.some.inj ho
                  have e8 := h8 (haft ⟨8, .data⟩ (by simp) rfl)
                  go_simp
                  exact hK _ _ (show KWI _ _ _ _ _ _ _ _ a0 (Ls.upd l 9 true) (a9.put (some 92) (.bool true)) _ from ⟨hR.put (.bool true) (by omega) (by omega), hbl, fun e => (put_ne (show ¬ 92 = 83 by omega)).trans (h0 e), fun e => (put_ne (show ¬ 92 = 84 by omega)).trans (h1 e), fun e => (put_ne (show ¬ 92 = 85 by omega)).trans (h2 e), fun e => (put_ne (show ¬ 92 = 86 by omega)).trans (h3 e), fun e => (put_ne (show ¬ 92 = 87 by omega)).trans (h4 e), fun e => (put_ne (show ¬ 92 = 88 by omega)).trans (h5 e), fun e => (put_ne (show ¬ 92 = 89 by omega)).trans (h6 e), fun e => (put_ne (show ¬ 92 = 90 by omega)).trans (h7 e), fun e => (put_ne (show ¬ 92 = 91 by omega)).trans (h8 e), fun _ => put_at (by rw [hR.sz]; omega), fun e => (put_ne (show ¬ 92 = 96 by omega)).trans (h13 e), fun e => (put_ne (show ¬ 92 = 97 by omega)).trans (h14 e)⟩)
                · obtain rfl := Option.some.inj ho
                  have e9 := h9 (haft ⟨9, .guard⟩ (by simp) rfl)
                  rw [if_neg (by simp [Region.wanted, yielded, e9])]
                  exact hK _ _ (show KWI _ _ _ _ _ _ _ _ a0 (Ls.upd l 10 true) (a9.put (some 93) undef) _ from ⟨hR.put undef (by omega) (by omega), hbl, fun e => (put_ne (show ¬ 93 = 83 by omega)).trans (h0 e), fun e => (put_ne (show ¬ 93 = 84 by omega)).trans (h1 e), fun e => (put_ne (show ¬ 93 = 85 by omega)).trans (h2 e), fun e => (put_ne (show ¬ 93 = 86 by omega)).trans (h3 e), fun e => (put_ne (show ¬ 93 = 87 by omega)).trans (h4 e), fun e => (put_ne (show ¬ 93 = 88 by omega)).trans (h5 e), fun e => (put_ne (show ¬ 93 = 89 by omega)).trans (h6 e), fun e => (put_ne (show ¬ 93 = 90 by omega)).trans (h7 e), fun e => (put_ne (show ¬ 93 = 91 by omega)).trans (h8 e), fun e => (put_ne (show ¬ 93 = 92 by omega)).trans (h9 e), fun e => (put_ne (show ¬ 93 = 96 by omega)).trans (h13 e), fun e => (put_ne (show ¬ 93 = 97 by omega)).trans (h14 e)⟩)
                · obtain rfl := Option.some.inj ho
                  have e9 := h9 (haft ⟨9, .guard⟩ (by simp) rfl)
                  rw [if_neg (by simp [Region.wanted, yielded, e9])]
                  exact hK _ _ (show KWI _ _ _ _ _ _ _ _ a0 (Ls.upd l 11 true) (a9.put (some 94) undef) _ from ⟨hR.put undef (by omega) (by omega), hbl, fun e => (put_ne (show ¬ 94 = 83 by omega)).trans (h0 e), fun e => (put_ne (show ¬ 94 = 84 by omega)).trans (h1 e), fun e => (put_ne (show ¬ 94 = 85 by omega)).trans (h2 e), fun e => (put_ne (show ¬ 94 = 86 by omega)).trans (h3 e), fun e => (put_ne (show ¬ 94 = 87 by omega)).trans (h4 e), fun e => (put_ne (show ¬ 94 = 88 by omega)).trans (h5 e), fun e => (put_ne (show ¬ 94 = 89 by omega)).trans (h6 e), fun e => (put_ne (show ¬ 94 = 90 by omega)).trans (h7 e), fun e => (put_ne (show ¬ 94 = 91 by omega)).trans (h8 e), fun e => (put_ne (show ¬ 94 = 92 by omega)).trans (h9 e), fun e => (put_ne (show ¬ 94 = 96 by omega)).trans (h13 e), fun e => (put_ne (show ¬ 94 = 97 by omega)).trans (h14 e)⟩)
                · obtain rfl := Option.some.inj ho
                  have e9 := h9 (haft ⟨9, .guard⟩ (by simp) rfl)
                  rw [if_neg (by simp [Region.wanted, yielded, e9])]
                  exact hK _ _ (show KWI _ _ _ _ _ _ _ _ a0 (Ls.upd l 12 true) (a9.put (some 95) undef) _ from ⟨hR.put undef (by omega) (by omega), hbl, fun e => (put_ne (show ¬ 95 = 83 by omega)).trans (h0 e), fun e => (put_ne (show ¬ 95 = 84 by omega)).trans (h1 e), fun e => (put_ne (show ¬ 95 = 85 by omega)).trans (h2 e), fun e => (put_ne (show ¬ 95 = 86 by omega)).trans (h3 e), fun e => (put_ne (show ¬ 95 = 87 by omega)).trans (h4 e), fun e => (put_ne (show ¬ 95 = 88 by omega)).trans (h5 e), fun e => (put_ne (show ¬ 95 = 89 by omega)).trans (h6 e), fun e => (put_ne (show ¬ 95 = 90 by omega)).trans (h7 e), fun e => (put_ne (show ¬ 95 = 91 by omega)).trans (h8 e), fun e => (put_ne (show ¬ 95 = 92 by omega)).trans (h9 e), fun e => (put_ne (show ¬ 95 = 96 by omega)).trans (h13 e), fun e => (put_ne (show ¬ 95 = 97 by omega)).trans (h14 e)⟩)
                · obtain rfl := Option.some.inj ho
                  have e9 := h9 (haft ⟨9, .data⟩ (by simp) rfl)
                  go_simp
                  exact hK _ _ (show KWI _ _ _ _ _ _ _ _ a0 (Ls.upd l 13 true) (a9.put (some 96) (.bool true)) _ from ⟨hR.put (.bool true) (by omega) (by omega), hbl, fun e => (put_ne (show ¬ 96 = 83 by omega)).trans (h0 e), fun e => (put_ne (show ¬ 96 = 84 by omega)).trans (h1 e), fun e => (put_ne (show ¬ 96 = 85 by omega)).trans (h2 e), fun e => (put_ne (show ¬ 96 = 86 by omega)).trans (h3 e), fun e => (put_ne (show ¬ 96 = 87 by omega)).trans (h4 e), fun e => (put_ne (show ¬ 96 = 88 by omega)).trans (h5 e), fun e => (put_ne (show ¬ 96 = 89 by omega)).trans (h6 e), fun e => (put_ne (show ¬ 96 = 90 by omega)).trans (h7 e), fun e => (put_ne (show ¬ 96 = 91 by omega)).trans (h8 e), fun e => (put_ne (show ¬ 96 = 92 by omega)).trans (h9 e), fun _ => put_at (by rw [hR.sz]; omega), fun e => (put_ne (show ¬ 96 = 97 by omega)).trans (h14 e)⟩)
                · obtain rfl := Option.some.inj ho
                  have e6 := h6 (haft ⟨6, .data⟩ (by simp) rfl)
                  have e13 := h13 (haft ⟨13, .data⟩ (by simp) rfl)
                  go_simp
                  exact hK _ _ (show KWI _ _ _ _ _ _ _ _ a0 (Ls.upd l 14 true) (a9.put (some 97) (.bool false)) _ from ⟨hR.put (.bool false) (by omega) (by omega), hbl, fun e => (put_ne (show ¬ 97 = 83 by omega)).trans (h0 e), fun e => (put_ne (show ¬ 97 = 84 by omega)).trans (h1 e), fun e => (put_ne (show ¬ 97 = 85 by omega)).trans (h2 e), fun e => (put_ne (show ¬ 97 = 86 by omega)).trans (h3 e), fun e => (put_ne (show ¬ 97 = 87 by omega)).trans (h4 e), fun e => (put_ne (show ¬ 97 = 88 by omega)).trans (h5 e), fun e => (put_ne (show ¬ 97 = 89 by omega)).trans (h6 e), fun e => (put_ne (show ¬ 97 = 90 by omega)).trans (h7 e), fun e => (put_ne (show ¬ 97 = 91 by omega)).trans (h8 e), fun e => (put_ne (show ¬ 97 = 92 by omega)).trans (h9 e), fun e => (put_ne (show ¬ 97 = 96 by omega)).trans (h13 e), fun _ => put_at (by rw [hR.sz]; omega)⟩)
              case done =>
                rintro l a9 wc ⟨hR, hbl, h0, h1, h2, h3, h4, h5, h6, h7, h8, h9, h13, h14⟩ hall
                have e0 := h0 (hall 0 (by simp))
                have e1 := h1 (hall 1 (by simp))
                have e2 := h2 (hall 2 (by simp))
                have e3 := h3 (hall 3 (by simp))
                have e4 := h4 (hall 4 (by simp))
                have e5 := h5 (hall 5 (by simp))
                have e6 := h6 (hall 6 (by simp))
                have e7 := h7 (hall 7 (by simp))
                have e8 := h8 (hall 8 (by simp))
                have e9 := h9 (hall 9 (by simp))
                have e13 := h13 (hall 13 (by simp))
                have e14 := h14 (hall 14 (by simp))
                obtain ⟨y10, e10⟩ : ∃ y, a9.tmps[93]? = some y := ⟨a9.tmps[93]'(by rw [hR.sz]; omega), by simp⟩
                obtain ⟨y11, e11⟩ : ∃ y, a9.tmps[94]? = some y := ⟨a9.tmps[94]'(by rw [hR.sz]; omega), by simp⟩
                obtain ⟨y12, e12⟩ : ∃ y, a9.tmps[95]? = some y := ⟨a9.tmps[95]'(by rw [hR.sz]; omega), by simp⟩
                have A3 := Lib.hid (A2.out.trans (hbl.mono A2.out.size))
                obtain rfl := KW_back hR HS0 e0 e1 e2 e3 e4 e5 e6 e7 e8 e9 e10 e11 e12 e13 e14
                clear hR hbl hall h0 h1 h2 h3 h4 h5 h6 h7 h8 h9 h13 h14 e0 e1 e2 e3 e4 e5 e6 e7 e8 e9 e10 e11 e12 e13 e14
                rw [HA0.out]
                obtain ⟨wn, rfl⟩ : ∃ x : World, x = wc := ⟨_, rfl⟩
                simp only [KWPut, Act.put, List.setIfInBounds_toArray, List.set_cons_succ, List.set_cons_zero]
                go_wp2
                go_roundw
                case rel => exact ⟨q + 1, by have := HLT.out; omega, by go_num, A3⟩
                case measure => have := HLT.out; simp [intOf]; omega
        · obtain rfl : q = vn := by omega
          have LB := Lib.hid (L6.out.next HB.out)
          have i2 : decide ((q : Int) < q) = false := by simp
          have i3 : decide (q < q) = false := by simp
          go_upto_region 20 with fail
          clear i2 i3
          have r0 := (LB.out.at (w.heap.size) (s) (d) (by simp)).c0
          have r1 := (LB.out.at (w.heap.size) (s) (d) (by simp)).c1
          have r2 := (LB.out.at (w.heap.size) (s) (d) (by simp)).c2
          have r3 := (LB.out.at (w.heap.size) (s) (d) (by simp)).c3
          have r4 := (LB.out.at (w.heap.size) (s) (d) (by simp)).c4
          have r5 := (LB.out.at (w.heap.size) (s) (d) (by simp)).c5
          have rl := (LB.out.at (w.heap.size) (s) (d) (by simp)).lt
          have p0 := (LB.out.cat (b6) (ke k) (xs) (by simp)).c0
          have p1 := (LB.out.cat (b6) (ke k) (xs) (by simp)).c1
          have p2 := (LB.out.cat (b6) (ke k) (xs) (by simp)).c2
          have p3 := (LB.out.cat (b6) (ke k) (xs) (by simp)).c3
          have p4 := (LB.out.cat (b6) (ke k) (xs) (by simp)).c4
          have p5 := (LB.out.cat (b6) (ke k) (xs) (by simp)).c5
          have p6 := (LB.out.cat (b6) (ke k) (xs) (by simp)).c6
          have p7 := (LB.out.cat (b6) (ke k) (xs) (by simp)).c7
          have p8 := (LB.out.cat (b6) (ke k) (xs) (by simp)).c8
          have p9 := (LB.out.cat (b6) (ke k) (xs) (by simp)).c9
          have pl := (LB.out.cat (b6) (ke k) (xs) (by simp)).lt
          dsimp only [ke] at p0 p1 p2 p3 p4 p5 p6 p7 p8 p9
          go_wp2_with fail
          have hC9 := grey_any s d (ke k) xs wr (LB.out.hp (w.heap.size) (s) (d) (by simp)) (LB.out.wr b6 (ke k) xs (by simp)) (HZ.out.over LB.out.bel hz0) FI.out
          rw [show greyL s d (ke k).mj (ke k).ep = [] from next_grey fun y hy => HMX.out y (HU.out ▸ hy)] at hC9
          refine hC9.mono ?_
          rintro e9 w9 ⟨⟨ga, gn, gc⟩, rfl, ho, hb9⟩
          have LE := Lib.hid (LB.out.next hb9)
          obtain rfl : gn = 0 := by have := ho.1; simp at this; omega
          clear hb9 ho hC9
          clear r0 r1 r2 r3 r4 r5 rl
          clear p0 p1 p2 p3 p4 p5 p6 p7 p8 p9 pl
          go_wp2
          go_ret
          exact ⟨rfl, LE.out.bel⟩
end
theorem walk (s : Hs) (d : Hd_) (k : Ks) (xs : List Int) (w : World) (hz : Cl.Sz w) (hp : Hp w w.heap.size s d) (hv : Fit64 d.ws) (_ : s.p.n ≤ s.p.c) (hk : WRow w w.heap.size k xs) (_ : k.wk.n ≤ k.wk.c) (_ : k.wk.c ≤ maxLen) (_ : (Lit.int .i64 k.ep).wf = true) :
    Calls Tryd.prog 5 #[(.agg #[.slice s.w.a s.w.n s.w.c, .slice s.p.a s.p.n s.p.c, .slice (s.u 0).a (s.u 0).n (s.u 0).c, .slice (s.u 1).a (s.u 1).n (s.u 1).c, .slice (s.u 2).a (s.u 2).n (s.u 2).c, .slice s.c.a s.c.n s.c.c]), (.agg #[.int .i64 k.ph, .int .i64 k.ep, .bool k.mj, .slice k.wk.a k.wk.n k.wk.c, .bool k.ov, .int .i64 k.pa, .int .i64 k.pf, .int .i64 k.ps, .int .i64 k.pc, .bool k.me])] w fun e w' => e = .returned (.bool true) ∧ Below w.heap.size w w' := by
  cases hf : fewK s k
  · exact walk_few s d k xs w hf hz hp hk
  have hf' := hf
  unfold fewK at hf'
  rw [Bool.and_eq_true, decide_eq_true_eq] at hf'
  have hfi := fine_few hf'.1 hp hv
  cases hm : mayB0 s d
  · exact walk_may s d k xs w hm hfi hf hz hp hk
  by_cases he : 0 ≤ k.ep ∧ k.ep < 1048576
  · exact core s d k xs w _ _ rfl rfl he hm hfi hf hz hp hk
  · exact walk_ep s d k xs w he hm hfi hf hz hp hk
-- the frame (hp11frame.py)
set_option maxRecDepth 100000 in
theorem lifted (os : Os) (started : os.Started) (H : Type) (enc : TypeId × Value → H) :
    ReturnsInHanded {} Tryd.checked os 5 .any (fun w args => (Rows.shadeEpochSpec.pre enc Tryd.prog Tryd.f5 [] false w args ∧ laidMetH Tryd.prog laidSizes w) ∧ sizedMet enc Tryd.prog Tryd.f5 (OpenSpec.ofChange Rows.shadeEpochSpec) false w args)
      (Rows.shadeEpochSpec.post enc Tryd.prog Tryd.f5 false true false false) := by
  refine returnsInHanded_of_change_and (C := Tryd.checked) (X := fun w _ => laidMetH Tryd.prog laidSizes w) (fun _ _ _ hh h => h.of_heap hh) own started (by kernel_rfl) Tryd.func5
    (ChangeSpec.witness_shaped (enc := enc) (C := Tryd.checked) (os := os) (X := fun w _ => laidMetH Tryd.prog laidSizes w) false (World.doorLaid Tryd.prog 400 os) #[.agg #[.slice none 0 0, .slice none 0 0, .slice none 0 0, .slice none 0 0, .slice none 0 0, .slice none 0 0], .agg #[.int .i64 0, .int .i64 0, .bool false, .slice none 0 0, .bool false, .int .i64 0, .int .i64 0, .int .i64 0, .int .i64 0, .bool false]] 8 rfl (World.shaped_of_RefB (by kernel_rfl) (by kernel_rfl)) (by kernel_rfl) (by kernel_rfl) (by kernel_rfl) (door_met os _)) ?_
  intro W base args ds gs before hval0 hW _ _ hL _
  have hval : ∀ (j : Nat) t v, Tryd.f5.params[j]? = some t → args[j]? = some v → Value.okWide Tryd.prog W .any base t v := hval0
  have hW' := hW
  obtain ⟨p, q, hA0, hV, rfl, hfz, hnd⟩ := hW
  have hA : DataW.TrodAll enc Tryd.prog W 0 (fun _ => true) true Tryd.f5.params.toList args.toList ds p := hA0
  rw [Tryd.params5] at hA hval
  obtain ⟨v0, vs0, d0, ds0, p0, q0, hargs, rfl, rfl, h0, r0⟩ := trodAll_cons hA
  obtain ⟨v1, vs1, d1, ds1, p1, q1, rfl, rfl, rfl, h1, r1⟩ := trodAll_cons r0
  obtain ⟨rfl, rfl, rfl⟩ := trodAll_nil r1
  obtain rfl : args = #[v0, v1] := by cases args; simp_all
  obtain ⟨rfl, rfl⟩ := trodVars_none hV
  have k0 := h0
  have lt0 : ∀ x ∈ p0, x.block < W.heap.size := by obtain ⟨m, hm⟩ := k0; exact DataW.trod_lt m _ _ _ hm
  obtain ⟨s0, z0, rfl, w0, f0, b0⟩ := heap_of8 (hval 0 28 v0 rfl rfl) h0
  have k1 := h1
  have lt1 : ∀ x ∈ p1, x.block < W.heap.size := by obtain ⟨m, hm⟩ := k1; exact DataW.trod_lt m _ _ _ hm
  obtain ⟨k1', z1, rfl, w1, m1, x1, f1⟩ := Sh.col_of (hval 1 30 v1 rfl rfl) h1
  clear hA0 hval0
  refine (walk s0 z0 k1' z1 W (of_laid hL) w0 f0 b0 w1 m1 x1 f1).mono fun e W' ⟨he, bel⟩ => ?_
  subst he
  exact ⟨_, rfl, _, _, _, [], _, [], hW', trodAll_mk1 (shut_bool Tryd.underlying4 _), (trodAll_cons_mk (Below.trod laidOut (by kernel_rfl) (of_decide_eq_true (by kernel_rfl)) k0 bel lt0) (trodAll_cons_mk (Below.trod laidOut (by kernel_rfl) (of_decide_eq_true (by kernel_rfl)) k1 bel lt1) trodAll_mk0)), rfl, bel.frame _, fun h => by cases h⟩

theorem over : Rows.ShadeEpochSaid :=
  OpenClaim.holds_of_wide 5 Tryd.f5 rfl rfl rfl rfl rfl rfl rfl ⟨rfl, rfl, rfl, rfl, rfl⟩ rfl rfl rfl rfl rfl (by kernel_rfl) Tryd.func5 (by kernel_rfl)
    (of_decide_eq_true (by kernel_rfl)) (by unfold Func.isWrapper; first | (rw [if_pos (by decide +kernel)]; kernel_rfl) | (rw [if_neg (by decide +kernel)]; exact ⟨rfl, rfl⟩))
    (fun os started H enc _ => lifted os started H enc)

/-- The statement: the card. -/
theorem proved : Rows.ShadeEpochCardSaid :=
  Claim7.holds_tied_plain_at .later [] [.data] true Rows.shadeEpochCard.stood.harness false
    over (fun _ h => by cases h) (by kernel_rfl) (fun _ h => by cases h) shadeEpoch_row_tie rfl ⟨rfl, rfl⟩ (by kernel_rfl) rfl
    (fun f fn hf hfn => by
      obtain rfl : f = 5 := Option.some.inj ((show Tryd.prog.funcNamed "ragpicker/ragpickerlaw11.ShadeEpoch" = some 5 by kernel_rfl).symm.trans hf) |>.symm
      obtain rfl : fn = Tryd.f5 := (Option.some.inj (Tryd.func5.symm.trans hfn)).symm
      exact ⟨by kernel_rfl, fun j t ht => by
        rw [Tryd.params5] at ht
        have hm : t ∈ [28, 30] := by simpa using Array.mem_of_getElem? ht
        have hall : ([28, 30].all fun u => !Tryd.prog.wantsStandIn u) = true := by kernel_rfl
        exact (show Tryd.prog.wantsStandIn t = false by simpa using List.all_eq_true.1 hall t hm)⟩)
    (by kernel_rfl)
#print axioms proved
end Go.Proofs.YtdmclfolooiccaaDoor.ShadeEpoch
