/-
  ShadeKeeps: what is shaded is white no more; every other object's head, and every other word, is as it was; what is grey is on the work list, or the collector is over, where that was so ahead: for every heap of at most 9 pages and 130 words, and every work list of at most 100; the table of sizes is tied to the program's text by the card.
-/
import Derived.Test.YtdmclfolooiccaaDoorHpSG
import Derived.Test.YtdmclfolooiccaaDoorHpSH
namespace Go.Proofs.YtdmclfolooiccaaDoor.ShadeKeeps
open Go.Proofs.YtdmclfolooiccaaDoor Go.Proofs.YtdmclfolooiccaaDoor.Sh
open Go.ChangeShapes Go.WideShapes Go.ChangeAt Go.RowKit
set_option maxRecDepth 100000

section
variable (s : Hs) (d : Hd_) (k : Ks) (xs : List Int) (a : Int) (w : World)
set_option maxHeartbeats 1000000 in
theorem walk_few (hf : fewK s k = false) (hz : Cl.Sz w) (hp : Hp w w.heap.size s d) (hk : WRow w w.heap.size k xs) : Calls Tryd.prog 3 #[(.agg #[.slice s.w.a s.w.n s.w.c, .slice s.p.a s.p.n s.p.c, .slice (s.u 0).a (s.u 0).n (s.u 0).c, .slice (s.u 1).a (s.u 1).n (s.u 1).c, .slice (s.u 2).a (s.u 2).n (s.u 2).c, .slice s.c.a s.c.n s.c.c]), (.agg #[.int .i64 k.ph, .int .i64 k.ep, .bool k.mj, .slice k.wk.a k.wk.n k.wk.c, .bool k.ov, .int .i64 k.pa, .int .i64 k.pf, .int .i64 k.ps, .int .i64 k.pc, .bool k.me]), .int .i64 a] w fun e w' => e = .returned (.bool true) ∧ Below w.heap.size w w' := by
  have HZ := Lib.hid hz
  have hz0 := hz.pos
  have HP := Lib.hid hp
  have HK := Lib.hid hk
  have HF := Lib.hid hf
  clear hz hp hk hf
  go_enter Tryd.func3, Tryd.ntmps3
  go_wp2_with fail
  obtain ⟨W1, hW1⟩ : ∃ W1, W1 = (w.alloc (.cells #[.slice s.w.a s.w.n s.w.c, .slice s.p.a s.p.n s.p.c, .slice (s.u 0).a (s.u 0).n (s.u 0).c, .slice (s.u 1).a (s.u 1).n (s.u 1).c, .slice (s.u 2).a (s.u 2).n (s.u 2).c, .slice s.c.a s.c.n s.c.c] 28)).alloc (.cells #[.int .i64 k.ph, .int .i64 k.ep, .bool k.mj, .slice k.wk.a k.wk.n k.wk.c, .bool k.ov, .int .i64 k.pa, .int .i64 k.pf, .int .i64 k.ps, .int .i64 k.pc, .bool k.me] 30) := ⟨_, rfl⟩
  have L1 := Lib.hid (lk_start HP.out HK.out hW1)
  rw [← hW1]
  clear hW1
  refine (Sh.awake_any W1 (HZ.out.over L1.out.bel hz0)).mono ?_
  rintro e9 w1 ⟨rfl, hb1⟩
  have L2 := Lib.hid (L1.out.next hb1)
  clear hb1 L1
  have q0 := (L2.out.at (w.heap.size) (s) (d) (by simp)).c0
  have q1 := (L2.out.at (w.heap.size) (s) (d) (by simp)).c1
  have q2 := (L2.out.at (w.heap.size) (s) (d) (by simp)).c2
  have q3 := (L2.out.at (w.heap.size) (s) (d) (by simp)).c3
  have q4 := (L2.out.at (w.heap.size) (s) (d) (by simp)).c4
  have q5 := (L2.out.at (w.heap.size) (s) (d) (by simp)).c5
  have ql := (L2.out.at (w.heap.size) (s) (d) (by simp)).lt
  have p0 := (L2.out.cat (w.heap.size + 1) (k) (xs) (by simp)).c0
  have p1 := (L2.out.cat (w.heap.size + 1) (k) (xs) (by simp)).c1
  have p2 := (L2.out.cat (w.heap.size + 1) (k) (xs) (by simp)).c2
  have p3 := (L2.out.cat (w.heap.size + 1) (k) (xs) (by simp)).c3
  have p4 := (L2.out.cat (w.heap.size + 1) (k) (xs) (by simp)).c4
  have p5 := (L2.out.cat (w.heap.size + 1) (k) (xs) (by simp)).c5
  have p6 := (L2.out.cat (w.heap.size + 1) (k) (xs) (by simp)).c6
  have p7 := (L2.out.cat (w.heap.size + 1) (k) (xs) (by simp)).c7
  have p8 := (L2.out.cat (w.heap.size + 1) (k) (xs) (by simp)).c8
  have p9 := (L2.out.cat (w.heap.size + 1) (k) (xs) (by simp)).c9
  have pl := (L2.out.cat (w.heap.size + 1) (k) (xs) (by simp)).lt
  go_wp2_with fail
  refine (few_any s k w1).mono ?_
  rw [HF.out]
  rintro e9 w2 ⟨rfl, hb2⟩
  have L3 := Lib.hid (L2.out.next hb2)
  clear hb2 L2
  clear q0 q1 q2 q3 q4 q5 ql
  clear p0 p1 p2 p3 p4 p5 p6 p7 p8 p9 pl
  go_wp2
  go_ret
  exact ⟨rfl, L3.out.bel⟩
set_option maxHeartbeats 1000000 in
theorem walk_may (hm : mayB0 s d = false) (hfi : Fine s d) (hf : fewK s k = true) (hz : Cl.Sz w) (hp : Hp w w.heap.size s d) (hk : WRow w w.heap.size k xs) : Calls Tryd.prog 3 #[(.agg #[.slice s.w.a s.w.n s.w.c, .slice s.p.a s.p.n s.p.c, .slice (s.u 0).a (s.u 0).n (s.u 0).c, .slice (s.u 1).a (s.u 1).n (s.u 1).c, .slice (s.u 2).a (s.u 2).n (s.u 2).c, .slice s.c.a s.c.n s.c.c]), (.agg #[.int .i64 k.ph, .int .i64 k.ep, .bool k.mj, .slice k.wk.a k.wk.n k.wk.c, .bool k.ov, .int .i64 k.pa, .int .i64 k.pf, .int .i64 k.ps, .int .i64 k.pc, .bool k.me]), .int .i64 a] w fun e w' => e = .returned (.bool true) ∧ Below w.heap.size w w' := by
  have HZ := Lib.hid hz
  have hz0 := hz.pos
  have HP := Lib.hid hp
  have HK := Lib.hid hk
  have HF := Lib.hid hf
  have HM := Lib.hid hm
  have FI := Lib.hid hfi
  clear hz hp hk hf hm hfi
  go_enter Tryd.func3, Tryd.ntmps3
  go_wp2_with fail
  obtain ⟨W1, hW1⟩ : ∃ W1, W1 = (w.alloc (.cells #[.slice s.w.a s.w.n s.w.c, .slice s.p.a s.p.n s.p.c, .slice (s.u 0).a (s.u 0).n (s.u 0).c, .slice (s.u 1).a (s.u 1).n (s.u 1).c, .slice (s.u 2).a (s.u 2).n (s.u 2).c, .slice s.c.a s.c.n s.c.c] 28)).alloc (.cells #[.int .i64 k.ph, .int .i64 k.ep, .bool k.mj, .slice k.wk.a k.wk.n k.wk.c, .bool k.ov, .int .i64 k.pa, .int .i64 k.pf, .int .i64 k.ps, .int .i64 k.pc, .bool k.me] 30) := ⟨_, rfl⟩
  have L1 := Lib.hid (lk_start HP.out HK.out hW1)
  rw [← hW1]
  clear hW1
  refine (Sh.awake_any W1 (HZ.out.over L1.out.bel hz0)).mono ?_
  rintro e9 w1 ⟨rfl, hb1⟩
  have L2 := Lib.hid (L1.out.next hb1)
  clear hb1 L1
  have q0 := (L2.out.at (w.heap.size) (s) (d) (by simp)).c0
  have q1 := (L2.out.at (w.heap.size) (s) (d) (by simp)).c1
  have q2 := (L2.out.at (w.heap.size) (s) (d) (by simp)).c2
  have q3 := (L2.out.at (w.heap.size) (s) (d) (by simp)).c3
  have q4 := (L2.out.at (w.heap.size) (s) (d) (by simp)).c4
  have q5 := (L2.out.at (w.heap.size) (s) (d) (by simp)).c5
  have ql := (L2.out.at (w.heap.size) (s) (d) (by simp)).lt
  have p0 := (L2.out.cat (w.heap.size + 1) (k) (xs) (by simp)).c0
  have p1 := (L2.out.cat (w.heap.size + 1) (k) (xs) (by simp)).c1
  have p2 := (L2.out.cat (w.heap.size + 1) (k) (xs) (by simp)).c2
  have p3 := (L2.out.cat (w.heap.size + 1) (k) (xs) (by simp)).c3
  have p4 := (L2.out.cat (w.heap.size + 1) (k) (xs) (by simp)).c4
  have p5 := (L2.out.cat (w.heap.size + 1) (k) (xs) (by simp)).c5
  have p6 := (L2.out.cat (w.heap.size + 1) (k) (xs) (by simp)).c6
  have p7 := (L2.out.cat (w.heap.size + 1) (k) (xs) (by simp)).c7
  have p8 := (L2.out.cat (w.heap.size + 1) (k) (xs) (by simp)).c8
  have p9 := (L2.out.cat (w.heap.size + 1) (k) (xs) (by simp)).c9
  have pl := (L2.out.cat (w.heap.size + 1) (k) (xs) (by simp)).lt
  go_wp2_with fail
  refine (few_any s k w1).mono ?_
  rw [HF.out]
  rintro e9 w2 ⟨rfl, hb2⟩
  have L3 := Lib.hid (L2.out.next hb2)
  clear hb2 L2
  clear q0 q1 q2 q3 q4 q5 ql
  clear p0 p1 p2 p3 p4 p5 p6 p7 p8 p9 pl
  have q0 := (L3.out.at (w.heap.size) (s) (d) (by simp)).c0
  have q1 := (L3.out.at (w.heap.size) (s) (d) (by simp)).c1
  have q2 := (L3.out.at (w.heap.size) (s) (d) (by simp)).c2
  have q3 := (L3.out.at (w.heap.size) (s) (d) (by simp)).c3
  have q4 := (L3.out.at (w.heap.size) (s) (d) (by simp)).c4
  have q5 := (L3.out.at (w.heap.size) (s) (d) (by simp)).c5
  have ql := (L3.out.at (w.heap.size) (s) (d) (by simp)).lt
  go_wp2_with fail
  have hC9 := pmay0_any s d w2 (L3.out.hp (w.heap.size) (s) (d) (by simp)) (HZ.out.over L3.out.bel hz0) FI.out
  rw [HM.out] at hC9
  refine hC9.mono ?_
  rintro e9 w4 ⟨rfl, hb9⟩
  have L4 := Lib.hid (L3.out.next hb9)
  clear hb9 hC9 L3
  clear q0 q1 q2 q3 q4 q5 ql
  go_wp2
  go_ret
  exact ⟨rfl, L4.out.bel⟩
set_option maxHeartbeats 16000000 in
theorem core_00 (hl1 : listB s d k.mj k.ep k.ov xs = false) (ho : k.ov = false) (hm : mayB0 s d = true) (hxl : xs.length ≤ 100) (hwn : s.w.n ≤ 130) (hfi : Fine s d) (hlen : d.ws.length = s.w.n) (hf : fewK s k = true) (hz : Cl.Sz w) (hp : Hp w w.heap.size s d) (hk : WRow w w.heap.size k xs) : Calls Tryd.prog 3 #[(.agg #[.slice s.w.a s.w.n s.w.c, .slice s.p.a s.p.n s.p.c, .slice (s.u 0).a (s.u 0).n (s.u 0).c, .slice (s.u 1).a (s.u 1).n (s.u 1).c, .slice (s.u 2).a (s.u 2).n (s.u 2).c, .slice s.c.a s.c.n s.c.c]), (.agg #[.int .i64 k.ph, .int .i64 k.ep, .bool k.mj, .slice k.wk.a k.wk.n k.wk.c, .bool k.ov, .int .i64 k.pa, .int .i64 k.pf, .int .i64 k.ps, .int .i64 k.pc, .bool k.me]), .int .i64 a] w fun e w' => e = .returned (.bool true) ∧ Below w.heap.size w w' := by
  have HZ := Lib.hid hz
  have hz0 := hz.pos
  have HP := Lib.hid hp
  have HK := Lib.hid hk
  have HF := Lib.hid hf
  have HM := Lib.hid hm
  have FI := Lib.hid hfi
  have HO := Lib.hid ho
  have HL1 := Lib.hid hl1
  have HL := Lib.hid hlen
  have HX := Lib.hid (show xs.length ≤ 1000000 by omega)
  have HXX := Lib.hid hxl
  have HKN := Lib.hid hk.len
  obtain ⟨c, hc⟩ : ∃ c, c = isC s d k.mj k.ep a 1 := ⟨_, rfl⟩
  obtain ⟨e1, he1⟩ : ∃ e, e = shD s d k.mj k.ep a := ⟨_, rfl⟩
  obtain ⟨o1, ho1⟩ : ∃ o, o = shO c xs k.ov := ⟨_, rfl⟩
  obtain ⟨x1, hx1⟩ : ∃ x, x = shX c xs a := ⟨_, rfl⟩
  have HC := Lib.hid hc.symm
  have E1 := Lib.hid he1.symm
  have O1 := Lib.hid ho1.symm
  have X1 := Lib.hid hx1.symm
  have XL := Lib.hid (show x1.length ≤ xs.length + 1 by rw [hx1]; exact (shX_len c xs a).1)
  have WD : Hid (∀ i : Nat, ¬ e1.ws.getD i 0 = d.ws.getD i 0 → c = true ∧ (i : Int) = a - 16) := Lib.hid fun i hne => Classical.byContradiction fun hh => hne (by rw [he1]; exact sh_word (by rw [← hc]; exact hh))
  have KN : Hid (∀ t, Lens s t → Kin s t d e1) := Lib.hid fun t ht => by rw [he1]; exact kin_sh ht hlen k.mj k.ep a
  have WNX : Hid (∀ t, Lens s t → isC t e1 k.mj k.ep a 1 = false) := Lib.hid fun t ht => by rw [he1]; exact sh_white ht hlen
  clear hc he1 ho1 hx1
  clear hz hp hk hf hm hfi ho hl1 hlen hxl
  go_enter Tryd.func3, Tryd.ntmps3
  go_wp2_with fail
  obtain ⟨W1, hW1⟩ : ∃ W1, W1 = (w.alloc (.cells #[.slice s.w.a s.w.n s.w.c, .slice s.p.a s.p.n s.p.c, .slice (s.u 0).a (s.u 0).n (s.u 0).c, .slice (s.u 1).a (s.u 1).n (s.u 1).c, .slice (s.u 2).a (s.u 2).n (s.u 2).c, .slice s.c.a s.c.n s.c.c] 28)).alloc (.cells #[.int .i64 k.ph, .int .i64 k.ep, .bool k.mj, .slice k.wk.a k.wk.n k.wk.c, .bool k.ov, .int .i64 k.pa, .int .i64 k.pf, .int .i64 k.ps, .int .i64 k.pc, .bool k.me] 30) := ⟨_, rfl⟩
  have L1 := Lib.hid (lk_start HP.out HK.out hW1)
  rw [← hW1]
  clear hW1
  refine (Sh.awake_any W1 (HZ.out.over L1.out.bel hz0)).mono ?_
  rintro e9 w1 ⟨rfl, hb1⟩
  have L2 := Lib.hid (L1.out.next hb1)
  clear hb1 L1
  have q0 := (L2.out.at (w.heap.size) (s) (d) (by simp)).c0
  have q1 := (L2.out.at (w.heap.size) (s) (d) (by simp)).c1
  have q2 := (L2.out.at (w.heap.size) (s) (d) (by simp)).c2
  have q3 := (L2.out.at (w.heap.size) (s) (d) (by simp)).c3
  have q4 := (L2.out.at (w.heap.size) (s) (d) (by simp)).c4
  have q5 := (L2.out.at (w.heap.size) (s) (d) (by simp)).c5
  have ql := (L2.out.at (w.heap.size) (s) (d) (by simp)).lt
  have p0 := (L2.out.cat (w.heap.size + 1) (k) (xs) (by simp)).c0
  have p1 := (L2.out.cat (w.heap.size + 1) (k) (xs) (by simp)).c1
  have p2 := (L2.out.cat (w.heap.size + 1) (k) (xs) (by simp)).c2
  have p3 := (L2.out.cat (w.heap.size + 1) (k) (xs) (by simp)).c3
  have p4 := (L2.out.cat (w.heap.size + 1) (k) (xs) (by simp)).c4
  have p5 := (L2.out.cat (w.heap.size + 1) (k) (xs) (by simp)).c5
  have p6 := (L2.out.cat (w.heap.size + 1) (k) (xs) (by simp)).c6
  have p7 := (L2.out.cat (w.heap.size + 1) (k) (xs) (by simp)).c7
  have p8 := (L2.out.cat (w.heap.size + 1) (k) (xs) (by simp)).c8
  have p9 := (L2.out.cat (w.heap.size + 1) (k) (xs) (by simp)).c9
  have pl := (L2.out.cat (w.heap.size + 1) (k) (xs) (by simp)).lt
  go_wp2_with fail
  refine (few_any s k w1).mono ?_
  rw [HF.out]
  rintro e9 w2 ⟨rfl, hb2⟩
  have L3 := Lib.hid (L2.out.next hb2)
  clear hb2 L2
  clear q0 q1 q2 q3 q4 q5 ql
  clear p0 p1 p2 p3 p4 p5 p6 p7 p8 p9 pl
  have q0 := (L3.out.at (w.heap.size) (s) (d) (by simp)).c0
  have q1 := (L3.out.at (w.heap.size) (s) (d) (by simp)).c1
  have q2 := (L3.out.at (w.heap.size) (s) (d) (by simp)).c2
  have q3 := (L3.out.at (w.heap.size) (s) (d) (by simp)).c3
  have q4 := (L3.out.at (w.heap.size) (s) (d) (by simp)).c4
  have q5 := (L3.out.at (w.heap.size) (s) (d) (by simp)).c5
  have ql := (L3.out.at (w.heap.size) (s) (d) (by simp)).lt
  go_wp2_with fail
  have hC9 := pmay0_any s d w2 (L3.out.hp (w.heap.size) (s) (d) (by simp)) (HZ.out.over L3.out.bel hz0) FI.out
  rw [HM.out] at hC9
  refine hC9.mono ?_
  rintro e9 w4 ⟨rfl, hb9⟩
  have L4 := Lib.hid (L3.out.next hb9)
  clear hb9 hC9 L3
  clear q0 q1 q2 q3 q4 q5 ql
  have q0 := (L4.out.at (w.heap.size) (s) (d) (by simp)).c0
  have q1 := (L4.out.at (w.heap.size) (s) (d) (by simp)).c1
  have q2 := (L4.out.at (w.heap.size) (s) (d) (by simp)).c2
  have q3 := (L4.out.at (w.heap.size) (s) (d) (by simp)).c3
  have q4 := (L4.out.at (w.heap.size) (s) (d) (by simp)).c4
  have q5 := (L4.out.at (w.heap.size) (s) (d) (by simp)).c5
  have ql := (L4.out.at (w.heap.size) (s) (d) (by simp)).lt
  have p0 := (L4.out.cat (w.heap.size + 1) (k) (xs) (by simp)).c0
  have p1 := (L4.out.cat (w.heap.size + 1) (k) (xs) (by simp)).c1
  have p2 := (L4.out.cat (w.heap.size + 1) (k) (xs) (by simp)).c2
  have p3 := (L4.out.cat (w.heap.size + 1) (k) (xs) (by simp)).c3
  have p4 := (L4.out.cat (w.heap.size + 1) (k) (xs) (by simp)).c4
  have p5 := (L4.out.cat (w.heap.size + 1) (k) (xs) (by simp)).c5
  have p6 := (L4.out.cat (w.heap.size + 1) (k) (xs) (by simp)).c6
  have p7 := (L4.out.cat (w.heap.size + 1) (k) (xs) (by simp)).c7
  have p8 := (L4.out.cat (w.heap.size + 1) (k) (xs) (by simp)).c8
  have p9 := (L4.out.cat (w.heap.size + 1) (k) (xs) (by simp)).c9
  have pl := (L4.out.cat (w.heap.size + 1) (k) (xs) (by simp)).lt
  go_wp2_with fail
  have hC9 := shade_any s d k xs a w4 HX.out (L4.out.hp (w.heap.size) (s) (d) (by simp)) (L4.out.wr (w.heap.size + 1) (k) (xs) (by simp)) (HZ.out.over L4.out.bel hz0) FI.out
  rw [HC.out, E1.out, O1.out, X1.out] at hC9
  refine hC9.mono ?_
  rintro e9 w9 ⟨t1, v1, rfl, hp9, hl9, _, ha9⟩
  have TL1 := Lib.hid hl9
  have AP := Lib.hid (And.intro ha9 hp9)
  clear hp9 hl9 ha9 hC9
  clear q0 q1 q2 q3 q4 q5 ql
  clear p0 p1 p2 p3 p4 p5 p6 p7 p8 p9 pl
  go_upto_region 6 with fail
  obtain ⟨W5, hW⟩ : ∃ W, W = (w9.alloc (.cells #[.slice t1.w.a t1.w.n t1.w.c, .slice t1.p.a t1.p.n t1.p.c, .slice (t1.u 0).a (t1.u 0).n (t1.u 0).c, .slice (t1.u 1).a (t1.u 1).n (t1.u 1).c, .slice (t1.u 2).a (t1.u 2).n (t1.u 2).c, .slice t1.c.a t1.c.n t1.c.c] 28)).alloc (.cells #[.int .i64 k.ph, .int .i64 k.ep, .bool k.mj, .slice v1.a v1.n v1.c, .bool o1, .int .i64 k.pa, .int .i64 k.pf, .int .i64 k.ps, .int .i64 k.pc, .bool k.me] 30) := ⟨_, rfl⟩
  obtain ⟨b1, hb⟩ : ∃ b, b = w9.heap.size := ⟨_, rfl⟩
  have L5 := Lib.hid (L4.out.addSh AP.out.1 AP.out.2 hW)
  rw [← hb] at L5
  rw [← hW, ← hb]
  clear hW hb AP L4
  have q0 := (L5.out.at (b1) (t1) (e1) (by simp)).c0
  have q1 := (L5.out.at (b1) (t1) (e1) (by simp)).c1
  have q2 := (L5.out.at (b1) (t1) (e1) (by simp)).c2
  have q3 := (L5.out.at (b1) (t1) (e1) (by simp)).c3
  have q4 := (L5.out.at (b1) (t1) (e1) (by simp)).c4
  have q5 := (L5.out.at (b1) (t1) (e1) (by simp)).c5
  have ql := (L5.out.at (b1) (t1) (e1) (by simp)).lt
  have r0 := (L5.out.at (w.heap.size) (s) (d) (by simp)).c0
  have r1 := (L5.out.at (w.heap.size) (s) (d) (by simp)).c1
  have r2 := (L5.out.at (w.heap.size) (s) (d) (by simp)).c2
  have r3 := (L5.out.at (w.heap.size) (s) (d) (by simp)).c3
  have r4 := (L5.out.at (w.heap.size) (s) (d) (by simp)).c4
  have r5 := (L5.out.at (w.heap.size) (s) (d) (by simp)).c5
  have rl := (L5.out.at (w.heap.size) (s) (d) (by simp)).lt
  have p0 := (L5.out.cat (b1 + 1) (kw k v1 o1) (x1) (by simp)).c0
  have p1 := (L5.out.cat (b1 + 1) (kw k v1 o1) (x1) (by simp)).c1
  have p2 := (L5.out.cat (b1 + 1) (kw k v1 o1) (x1) (by simp)).c2
  have p3 := (L5.out.cat (b1 + 1) (kw k v1 o1) (x1) (by simp)).c3
  have p4 := (L5.out.cat (b1 + 1) (kw k v1 o1) (x1) (by simp)).c4
  have p5 := (L5.out.cat (b1 + 1) (kw k v1 o1) (x1) (by simp)).c5
  have p6 := (L5.out.cat (b1 + 1) (kw k v1 o1) (x1) (by simp)).c6
  have p7 := (L5.out.cat (b1 + 1) (kw k v1 o1) (x1) (by simp)).c7
  have p8 := (L5.out.cat (b1 + 1) (kw k v1 o1) (x1) (by simp)).c8
  have p9 := (L5.out.cat (b1 + 1) (kw k v1 o1) (x1) (by simp)).c9
  have pl := (L5.out.cat (b1 + 1) (kw k v1 o1) (x1) (by simp)).lt
  dsimp only [kw] at p0 p1 p2 p3 p4 p5 p6 p7 p8 p9
  have tw : t1.w.n = s.w.n := TL1.out.1
  have dn : ((t1.w.n : Int) != (s.w.n : Int)) = false := by simp [tw]
  have dn2 : (t1.w.n != s.w.n) = false := by simp [tw]
  clear tw
  go_wp2_with fail
  have hC9 := white_any t1 e1 (kw k v1 o1) x1 a W5 (L5.out.hp (b1) (t1) (e1) (by simp)) (L5.out.wr (b1 + 1) (kw k v1 o1) (x1) (by simp)) (HZ.out.over L5.out.bel hz0) ((KN.out t1 TL1.out).fine FI.out)
  rw [show isC t1 e1 (kw k v1 o1).mj (kw k v1 o1).ep a 1 = false from WNX.out t1 TL1.out] at hC9
  refine hC9.mono ?_
  rintro e9 w6 ⟨rfl, hb9⟩
  have L6 := Lib.hid (L5.out.next hb9)
  clear hb9 hC9 L5
  clear q0 q1 q2 q3 q4 q5 ql
  clear r0 r1 r2 r3 r4 r5 rl
  clear p0 p1 p2 p3 p4 p5 p6 p7 p8 p9 pl
  clear dn dn2
  have q0 := (L6.out.at (w.heap.size) (s) (d) (by simp)).c0
  have q1 := (L6.out.at (w.heap.size) (s) (d) (by simp)).c1
  have q2 := (L6.out.at (w.heap.size) (s) (d) (by simp)).c2
  have q3 := (L6.out.at (w.heap.size) (s) (d) (by simp)).c3
  have q4 := (L6.out.at (w.heap.size) (s) (d) (by simp)).c4
  have q5 := (L6.out.at (w.heap.size) (s) (d) (by simp)).c5
  have ql := (L6.out.at (w.heap.size) (s) (d) (by simp)).lt
  have p0 := (L6.out.cat (w.heap.size + 1) (k) (xs) (by simp)).c0
  have p1 := (L6.out.cat (w.heap.size + 1) (k) (xs) (by simp)).c1
  have p2 := (L6.out.cat (w.heap.size + 1) (k) (xs) (by simp)).c2
  have p3 := (L6.out.cat (w.heap.size + 1) (k) (xs) (by simp)).c3
  have p4 := (L6.out.cat (w.heap.size + 1) (k) (xs) (by simp)).c4
  have p5 := (L6.out.cat (w.heap.size + 1) (k) (xs) (by simp)).c5
  have p6 := (L6.out.cat (w.heap.size + 1) (k) (xs) (by simp)).c6
  have p7 := (L6.out.cat (w.heap.size + 1) (k) (xs) (by simp)).c7
  have p8 := (L6.out.cat (w.heap.size + 1) (k) (xs) (by simp)).c8
  have p9 := (L6.out.cat (w.heap.size + 1) (k) (xs) (by simp)).c9
  have pl := (L6.out.cat (w.heap.size + 1) (k) (xs) (by simp)).lt
  go_wp2_with fail
  have hC9 := listed_any s d k xs w6 (L6.out.hp (w.heap.size) (s) (d) (by simp)) (L6.out.wr (w.heap.size + 1) (k) (xs) (by simp)) (HZ.out.over L6.out.bel hz0) FI.out HX.out
  rw [HL1.out] at hC9
  refine hC9.mono ?_
  rintro e9 w7 ⟨rfl, hb9⟩
  have L7 := Lib.hid (L6.out.next hb9)
  clear hb9 hC9 L6
  clear q0 q1 q2 q3 q4 q5 ql
  clear p0 p1 p2 p3 p4 p5 p6 p7 p8 p9 pl
  have p0 := (L7.out.cat (b1 + 1) (kw k v1 o1) (x1) (by simp)).c0
  have p1 := (L7.out.cat (b1 + 1) (kw k v1 o1) (x1) (by simp)).c1
  have p2 := (L7.out.cat (b1 + 1) (kw k v1 o1) (x1) (by simp)).c2
  have p3 := (L7.out.cat (b1 + 1) (kw k v1 o1) (x1) (by simp)).c3
  have p4 := (L7.out.cat (b1 + 1) (kw k v1 o1) (x1) (by simp)).c4
  have p5 := (L7.out.cat (b1 + 1) (kw k v1 o1) (x1) (by simp)).c5
  have p6 := (L7.out.cat (b1 + 1) (kw k v1 o1) (x1) (by simp)).c6
  have p7 := (L7.out.cat (b1 + 1) (kw k v1 o1) (x1) (by simp)).c7
  have p8 := (L7.out.cat (b1 + 1) (kw k v1 o1) (x1) (by simp)).c8
  have p9 := (L7.out.cat (b1 + 1) (kw k v1 o1) (x1) (by simp)).c9
  have pl := (L7.out.cat (b1 + 1) (kw k v1 o1) (x1) (by simp)).lt
  dsimp only [kw] at p0 p1 p2 p3 p4 p5 p6 p7 p8 p9
  have z0 := (L7.out.cat (w.heap.size + 1) (k) (xs) (by simp)).c0
  have z1 := (L7.out.cat (w.heap.size + 1) (k) (xs) (by simp)).c1
  have z2 := (L7.out.cat (w.heap.size + 1) (k) (xs) (by simp)).c2
  have z3 := (L7.out.cat (w.heap.size + 1) (k) (xs) (by simp)).c3
  have z4 := (L7.out.cat (w.heap.size + 1) (k) (xs) (by simp)).c4
  have z5 := (L7.out.cat (w.heap.size + 1) (k) (xs) (by simp)).c5
  have z6 := (L7.out.cat (w.heap.size + 1) (k) (xs) (by simp)).c6
  have z7 := (L7.out.cat (w.heap.size + 1) (k) (xs) (by simp)).c7
  have z8 := (L7.out.cat (w.heap.size + 1) (k) (xs) (by simp)).c8
  have z9 := (L7.out.cat (w.heap.size + 1) (k) (xs) (by simp)).c9
  have zl := (L7.out.cat (w.heap.size + 1) (k) (xs) (by simp)).lt
  have hv1 := (L7.out.wr (b1 + 1) (kw k v1 o1) x1 (by simp)).len
  have hv2 := (L7.out.wr (w.heap.size + 1) k xs (by simp)).len
  rw [HO.out] at z4
  have hvv : v1.n ≤ k.wk.n + 1 := by have h1 := XL.out; simp only [kw] at hv1; omega
  have hvb : k.wk.n ≤ 1000000 := by have h1 := HX.out; omega
  have dg : decide ((k.wk.n : Int) + 1 < v1.n) = false := decide_eq_false (by omega)
  have dg2 : decide (k.wk.n + 1 < v1.n) = false := decide_eq_false (by omega)
  clear hv1 hv2 hvv
  go_upto_region 8 with fail
  clear p0 p1 p2 p3 p4 p5 p6 p7 p8 p9 pl
  clear z0 z1 z2 z3 z4 z5 z6 z7 z8 z9 zl
  clear dg dg2 hvb
  have q0 := (L7.out.at (w.heap.size) (s) (d) (by simp)).c0
  have q1 := (L7.out.at (w.heap.size) (s) (d) (by simp)).c1
  have q2 := (L7.out.at (w.heap.size) (s) (d) (by simp)).c2
  have q3 := (L7.out.at (w.heap.size) (s) (d) (by simp)).c3
  have q4 := (L7.out.at (w.heap.size) (s) (d) (by simp)).c4
  have q5 := (L7.out.at (w.heap.size) (s) (d) (by simp)).c5
  have ql := (L7.out.at (w.heap.size) (s) (d) (by simp)).lt
  have p0 := (L7.out.cat (w.heap.size + 1) (k) (xs) (by simp)).c0
  have p1 := (L7.out.cat (w.heap.size + 1) (k) (xs) (by simp)).c1
  have p2 := (L7.out.cat (w.heap.size + 1) (k) (xs) (by simp)).c2
  have p3 := (L7.out.cat (w.heap.size + 1) (k) (xs) (by simp)).c3
  have p4 := (L7.out.cat (w.heap.size + 1) (k) (xs) (by simp)).c4
  have p5 := (L7.out.cat (w.heap.size + 1) (k) (xs) (by simp)).c5
  have p6 := (L7.out.cat (w.heap.size + 1) (k) (xs) (by simp)).c6
  have p7 := (L7.out.cat (w.heap.size + 1) (k) (xs) (by simp)).c7
  have p8 := (L7.out.cat (w.heap.size + 1) (k) (xs) (by simp)).c8
  have p9 := (L7.out.cat (w.heap.size + 1) (k) (xs) (by simp)).c9
  have pl := (L7.out.cat (w.heap.size + 1) (k) (xs) (by simp)).lt
  go_wp2_with fail
  have hC9 := white_any s d k xs a _ (L7.out.hp (w.heap.size) (s) (d) (by simp)) (L7.out.wr (w.heap.size + 1) (k) (xs) (by simp)) (HZ.out.over L7.out.bel hz0) FI.out
  rw [HC.out] at hC9
  refine hC9.mono ?_
  rintro e9 wa ⟨rfl, hb9⟩
  have LA := Lib.hid (L7.out.next hb9)
  clear hb9 hC9 L7
  clear q0 q1 q2 q3 q4 q5 ql
  clear p0 p1 p2 p3 p4 p5 p6 p7 p8 p9 pl
  go_upto_region 10 with fail
  go_loopw [12] (fun i wr => ∃ q : Nat, q ≤ s.w.n ∧ i = .int .i64 q ∧ Hid (Lk w wr [(b1, t1, e1), (w.heap.size, s, d)] [(b1 + 1, kw k v1 o1, x1), (w.heap.size + 1, k, xs)])) (fun i _ => s.w.n - (intOf i).toNat)
  case atStart => exact ⟨0, Nat.zero_le _, rfl, LA⟩
  case round =>
    obtain ⟨q, hq, rfl, HA⟩ := hrel
    have q0 := (HA.out.at (w.heap.size) s d (by simp)).c0
    have ql := (HA.out.at (w.heap.size) s d (by simp)).lt
    have r0 := (HA.out.at b1 t1 e1 (by simp)).c0
    have rl := (HA.out.at b1 t1 e1 (by simp)).lt
    by_cases hlt : q < s.w.n
    · have i0 : (0 : Int) ≤ q := by omega
      have i1 : (q : Int) < s.w.n := by omega
      have i2 : decide ((q : Int) < s.w.n) = true := decide_eq_true i1
      have i3 : decide (q < s.w.n) = true := decide_eq_true hlt
      have i4 : (q : Int) < t1.w.n := by have := TL1.out.1; omega
      obtain ⟨x, hx⟩ : ∃ x, x = d.ws.getD q 0 := ⟨_, rfl⟩
      obtain ⟨y, hy⟩ : ∃ y, y = e1.ws.getD q 0 := ⟨_, rfl⟩
      obtain ⟨b', off', ea, hl1, hc1⟩ := (HA.out.hp (w.heap.size) s d (by simp)).words.2 (by omega)
      obtain ⟨b6, off6, ea6, hl2, hc2⟩ := (HA.out.hp b1 t1 e1 (by simp)).words.2 (by omega)
      have k1 := hc1 q hlt
      have k2 := hc2 q (by omega)
      rw [← hx] at k1
      rw [← hy] at k2
      rw [ea] at q0
      rw [ea6] at r0
      have HW := Lib.hid (WD.out q)
      rw [← hx, ← hy] at HW
      clear hx hy hc1 hc2 ea ea6
      by_cases hxy : y = x
      · have dxy : (y != x) = false := by simp [hxy]
        clear hxy
        go_wp2
        go_quiet (fail)
        have HB := Lib.hid (HA.out.next (below_drawn' (Below.refl _ _) nq))
        go_wp2
        go_roundw
        case rel => exact ⟨q + 1, by omega, by go_num, HB⟩
        case measure => simp [intOf]; omega
      · have dxy : (y != x) = true := by simp [hxy]
        obtain ⟨hct, ha⟩ := HW.out hxy
        subst hct
        have wa : IntKind.i64.wrap (a - 16) = a - 16 := by rw [← ha]; simp [IntKind.wrap, IntKind.signed, IntKind.bits]; omega
        have dq : ((q : Int) != a - 16) = false := by simp [ha]
        clear hxy ha
        go_wp2
        go_quiet (fail)
        have HB := Lib.hid (HA.out.next (below_drawn' (Below.refl _ _) nq))
        go_wp2
        go_roundw
        case rel => exact ⟨q + 1, by omega, by go_num, HB⟩
        case measure => simp [intOf]; omega
    · obtain rfl : q = s.w.n := by omega
      have i2 : decide ((s.w.n : Int) < s.w.n) = false := by simp
      have i3 : decide (s.w.n < s.w.n) = false := by simp
      go_upto_region 14 with fail
      clear q0 ql r0 rl i2 i3
      have q0 := (HA.out.at (b1) (t1) (e1) (by simp)).c0
      have q1 := (HA.out.at (b1) (t1) (e1) (by simp)).c1
      have q2 := (HA.out.at (b1) (t1) (e1) (by simp)).c2
      have q3 := (HA.out.at (b1) (t1) (e1) (by simp)).c3
      have q4 := (HA.out.at (b1) (t1) (e1) (by simp)).c4
      have q5 := (HA.out.at (b1) (t1) (e1) (by simp)).c5
      have ql := (HA.out.at (b1) (t1) (e1) (by simp)).lt
      have p0 := (HA.out.cat (b1 + 1) (kw k v1 o1) (x1) (by simp)).c0
      have p1 := (HA.out.cat (b1 + 1) (kw k v1 o1) (x1) (by simp)).c1
      have p2 := (HA.out.cat (b1 + 1) (kw k v1 o1) (x1) (by simp)).c2
      have p3 := (HA.out.cat (b1 + 1) (kw k v1 o1) (x1) (by simp)).c3
      have p4 := (HA.out.cat (b1 + 1) (kw k v1 o1) (x1) (by simp)).c4
      have p5 := (HA.out.cat (b1 + 1) (kw k v1 o1) (x1) (by simp)).c5
      have p6 := (HA.out.cat (b1 + 1) (kw k v1 o1) (x1) (by simp)).c6
      have p7 := (HA.out.cat (b1 + 1) (kw k v1 o1) (x1) (by simp)).c7
      have p8 := (HA.out.cat (b1 + 1) (kw k v1 o1) (x1) (by simp)).c8
      have p9 := (HA.out.cat (b1 + 1) (kw k v1 o1) (x1) (by simp)).c9
      have pl := (HA.out.cat (b1 + 1) (kw k v1 o1) (x1) (by simp)).lt
      dsimp only [kw] at p0 p1 p2 p3 p4 p5 p6 p7 p8 p9
      go_wp2_with fail
      have hC9 := (show Calls Tryd.prog 10 #[(.agg #[.slice t1.w.a t1.w.n t1.w.c, .slice t1.p.a t1.p.n t1.p.c, .slice (t1.u 0).a (t1.u 0).n (t1.u 0).c, .slice (t1.u 1).a (t1.u 1).n (t1.u 1).c, .slice (t1.u 2).a (t1.u 2).n (t1.u 2).c, .slice t1.c.a t1.c.n t1.c.c]), (.agg #[.int .i64 k.ph, .int .i64 k.ep, .bool k.mj, .slice v1.a v1.n v1.c, .bool o1, .int .i64 k.pa, .int .i64 k.pf, .int .i64 k.ps, .int .i64 k.pc, .bool k.me]), .int .i64 a] wr (ShOut wr t1 k e1 o1 x1) by
        have h9 := shade_any t1 e1 (kw k v1 o1) x1 a wr (by have h1 := XL.out; have h2 := HX.out; have h3 := HXX.out; omega) (HA.out.hp (b1) (t1) (e1) (by simp)) (HA.out.wr (b1 + 1) (kw k v1 o1) (x1) (by simp)) (HZ.out.over HA.out.bel hz0) ((KN.out t1 TL1.out).fine FI.out)
        rw [show isC t1 e1 (kw k v1 o1).mj (kw k v1 o1).ep a 1 = false from WNX.out t1 TL1.out, show shD t1 e1 (kw k v1 o1).mj (kw k v1 o1).ep a = e1 from if_neg (by rw [show isC t1 e1 (kw k v1 o1).mj (kw k v1 o1).ep a 1 = false from WNX.out t1 TL1.out]; decide), show shX false x1 a = x1 from if_neg (by simp), show shO false x1 (kw k v1 o1).ov = o1 by simp [shO, kw]] at h9
        exact h9)
      refine hC9.mono ?_
      rintro e9 w9 ⟨t2, v2, rfl, hp9, hl9, _, ha9⟩
      have TL2 := Lib.hid hl9
      have AP := Lib.hid (And.intro ha9 hp9)
      clear hp9 hl9 ha9 hC9
      clear q0 q1 q2 q3 q4 q5 ql
      clear p0 p1 p2 p3 p4 p5 p6 p7 p8 p9 pl
      go_upto_region 15 with fail
      obtain ⟨Wb, hW⟩ : ∃ W, W = (w9.alloc (.cells #[.slice t2.w.a t2.w.n t2.w.c, .slice t2.p.a t2.p.n t2.p.c, .slice (t2.u 0).a (t2.u 0).n (t2.u 0).c, .slice (t2.u 1).a (t2.u 1).n (t2.u 1).c, .slice (t2.u 2).a (t2.u 2).n (t2.u 2).c, .slice t2.c.a t2.c.n t2.c.c] 28)).alloc (.cells #[.int .i64 k.ph, .int .i64 k.ep, .bool k.mj, .slice v2.a v2.n v2.c, .bool o1, .int .i64 k.pa, .int .i64 k.pf, .int .i64 k.ps, .int .i64 k.pc, .bool k.me] 30) := ⟨_, rfl⟩
      obtain ⟨b2, hb⟩ : ∃ b, b = w9.heap.size := ⟨_, rfl⟩
      have LB := Lib.hid (HA.out.addSh AP.out.1 AP.out.2 hW)
      rw [← hb] at LB
      rw [← hW, ← hb]
      clear hW hb AP HA
      have q0 := (LB.out.at (b1) (t1) (e1) (by simp)).c0
      have q1 := (LB.out.at (b1) (t1) (e1) (by simp)).c1
      have q2 := (LB.out.at (b1) (t1) (e1) (by simp)).c2
      have q3 := (LB.out.at (b1) (t1) (e1) (by simp)).c3
      have q4 := (LB.out.at (b1) (t1) (e1) (by simp)).c4
      have q5 := (LB.out.at (b1) (t1) (e1) (by simp)).c5
      have ql := (LB.out.at (b1) (t1) (e1) (by simp)).lt
      go_wp2_with fail
      have hC9 := pmay0_any t1 e1 Wb (LB.out.hp (b1) (t1) (e1) (by simp)) (HZ.out.over LB.out.bel hz0) ((KN.out t1 TL1.out).fine FI.out)
      rw [(KN.out t1 TL1.out).may, HM.out] at hC9
      refine hC9.mono ?_
      rintro e9 wc ⟨rfl, hb9⟩
      have LC := Lib.hid (LB.out.next hb9)
      clear hb9 hC9 LB
      clear q0 q1 q2 q3 q4 q5 ql
      have q0 := (LC.out.at (b2) (t2) (e1) (by simp)).c0
      have q1 := (LC.out.at (b2) (t2) (e1) (by simp)).c1
      have q2 := (LC.out.at (b2) (t2) (e1) (by simp)).c2
      have q3 := (LC.out.at (b2) (t2) (e1) (by simp)).c3
      have q4 := (LC.out.at (b2) (t2) (e1) (by simp)).c4
      have q5 := (LC.out.at (b2) (t2) (e1) (by simp)).c5
      have ql := (LC.out.at (b2) (t2) (e1) (by simp)).lt
      have r0 := (LC.out.at (b1) (t1) (e1) (by simp)).c0
      have r1 := (LC.out.at (b1) (t1) (e1) (by simp)).c1
      have r2 := (LC.out.at (b1) (t1) (e1) (by simp)).c2
      have r3 := (LC.out.at (b1) (t1) (e1) (by simp)).c3
      have r4 := (LC.out.at (b1) (t1) (e1) (by simp)).c4
      have r5 := (LC.out.at (b1) (t1) (e1) (by simp)).c5
      have rl := (LC.out.at (b1) (t1) (e1) (by simp)).lt
      go_wp2_with fail
      have hC9 := hsame_yes t2 t1 e1 wc TL2.out (LC.out.hp (b1) (t1) (e1) (by simp)) (LC.out.hp (b2) (t2) (e1) (by simp)) ((KN.out t1 TL1.out).fine FI.out)
      refine hC9.mono ?_
      rintro e9 wd ⟨rfl, hb9⟩
      have LD := Lib.hid (LC.out.next hb9)
      clear hb9 hC9 LC
      clear q0 q1 q2 q3 q4 q5 ql
      clear r0 r1 r2 r3 r4 r5 rl
      have p0 := (LD.out.cat (b2 + 1) (kw k v2 o1) (x1) (by simp)).c0
      have p1 := (LD.out.cat (b2 + 1) (kw k v2 o1) (x1) (by simp)).c1
      have p2 := (LD.out.cat (b2 + 1) (kw k v2 o1) (x1) (by simp)).c2
      have p3 := (LD.out.cat (b2 + 1) (kw k v2 o1) (x1) (by simp)).c3
      have p4 := (LD.out.cat (b2 + 1) (kw k v2 o1) (x1) (by simp)).c4
      have p5 := (LD.out.cat (b2 + 1) (kw k v2 o1) (x1) (by simp)).c5
      have p6 := (LD.out.cat (b2 + 1) (kw k v2 o1) (x1) (by simp)).c6
      have p7 := (LD.out.cat (b2 + 1) (kw k v2 o1) (x1) (by simp)).c7
      have p8 := (LD.out.cat (b2 + 1) (kw k v2 o1) (x1) (by simp)).c8
      have p9 := (LD.out.cat (b2 + 1) (kw k v2 o1) (x1) (by simp)).c9
      have pl := (LD.out.cat (b2 + 1) (kw k v2 o1) (x1) (by simp)).lt
      dsimp only [kw] at p0 p1 p2 p3 p4 p5 p6 p7 p8 p9
      have z0 := (LD.out.cat (b1 + 1) (kw k v1 o1) (x1) (by simp)).c0
      have z1 := (LD.out.cat (b1 + 1) (kw k v1 o1) (x1) (by simp)).c1
      have z2 := (LD.out.cat (b1 + 1) (kw k v1 o1) (x1) (by simp)).c2
      have z3 := (LD.out.cat (b1 + 1) (kw k v1 o1) (x1) (by simp)).c3
      have z4 := (LD.out.cat (b1 + 1) (kw k v1 o1) (x1) (by simp)).c4
      have z5 := (LD.out.cat (b1 + 1) (kw k v1 o1) (x1) (by simp)).c5
      have z6 := (LD.out.cat (b1 + 1) (kw k v1 o1) (x1) (by simp)).c6
      have z7 := (LD.out.cat (b1 + 1) (kw k v1 o1) (x1) (by simp)).c7
      have z8 := (LD.out.cat (b1 + 1) (kw k v1 o1) (x1) (by simp)).c8
      have z9 := (LD.out.cat (b1 + 1) (kw k v1 o1) (x1) (by simp)).c9
      have zl := (LD.out.cat (b1 + 1) (kw k v1 o1) (x1) (by simp)).lt
      dsimp only [kw] at z0 z1 z2 z3 z4 z5 z6 z7 z8 z9
      go_wp2_with fail
      have hC9 := ksame_yes k v2 v1 o1 x1 wd (LD.out.wr (b2 + 1) (kw k v2 o1) (x1) (by simp)) (LD.out.wr (b1 + 1) (kw k v1 o1) (x1) (by simp)) (by have h1 := XL.out; have h2 := HX.out; have h3 := HXX.out; omega)
      refine hC9.mono ?_
      rintro e9 we ⟨rfl, hb9⟩
      have LE := Lib.hid (LD.out.next hb9)
      clear hb9 hC9 LD
      clear p0 p1 p2 p3 p4 p5 p6 p7 p8 p9 pl
      clear z0 z1 z2 z3 z4 z5 z6 z7 z8 z9 zl
      go_wp2
      go_ret
      exact ⟨rfl, LE.out.bel⟩
set_option maxHeartbeats 16000000 in
theorem core_01 (hl1 : listB s d k.mj k.ep k.ov xs = false) (ho : k.ov = true) (hm : mayB0 s d = true) (hxl : xs.length ≤ 100) (hwn : s.w.n ≤ 130) (hfi : Fine s d) (hlen : d.ws.length = s.w.n) (hf : fewK s k = true) (hz : Cl.Sz w) (hp : Hp w w.heap.size s d) (hk : WRow w w.heap.size k xs) : Calls Tryd.prog 3 #[(.agg #[.slice s.w.a s.w.n s.w.c, .slice s.p.a s.p.n s.p.c, .slice (s.u 0).a (s.u 0).n (s.u 0).c, .slice (s.u 1).a (s.u 1).n (s.u 1).c, .slice (s.u 2).a (s.u 2).n (s.u 2).c, .slice s.c.a s.c.n s.c.c]), (.agg #[.int .i64 k.ph, .int .i64 k.ep, .bool k.mj, .slice k.wk.a k.wk.n k.wk.c, .bool k.ov, .int .i64 k.pa, .int .i64 k.pf, .int .i64 k.ps, .int .i64 k.pc, .bool k.me]), .int .i64 a] w fun e w' => e = .returned (.bool true) ∧ Below w.heap.size w w' := by
  have HZ := Lib.hid hz
  have hz0 := hz.pos
  have HP := Lib.hid hp
  have HK := Lib.hid hk
  have HF := Lib.hid hf
  have HM := Lib.hid hm
  have FI := Lib.hid hfi
  have HO := Lib.hid ho
  have HL1 := Lib.hid hl1
  have HL := Lib.hid hlen
  have HX := Lib.hid (show xs.length ≤ 1000000 by omega)
  have HXX := Lib.hid hxl
  have HKN := Lib.hid hk.len
  obtain ⟨c, hc⟩ : ∃ c, c = isC s d k.mj k.ep a 1 := ⟨_, rfl⟩
  obtain ⟨e1, he1⟩ : ∃ e, e = shD s d k.mj k.ep a := ⟨_, rfl⟩
  obtain ⟨o1, ho1⟩ : ∃ o, o = shO c xs k.ov := ⟨_, rfl⟩
  obtain ⟨x1, hx1⟩ : ∃ x, x = shX c xs a := ⟨_, rfl⟩
  have HC := Lib.hid hc.symm
  have E1 := Lib.hid he1.symm
  have O1 := Lib.hid ho1.symm
  have X1 := Lib.hid hx1.symm
  have XL := Lib.hid (show x1.length ≤ xs.length + 1 by rw [hx1]; exact (shX_len c xs a).1)
  have WD : Hid (∀ i : Nat, ¬ e1.ws.getD i 0 = d.ws.getD i 0 → c = true ∧ (i : Int) = a - 16) := Lib.hid fun i hne => Classical.byContradiction fun hh => hne (by rw [he1]; exact sh_word (by rw [← hc]; exact hh))
  have OV : Hid (o1 = true) := Lib.hid (by rw [ho1]; unfold shO; rw [ho]; rfl)
  have KN : Hid (∀ t, Lens s t → Kin s t d e1) := Lib.hid fun t ht => by rw [he1]; exact kin_sh ht hlen k.mj k.ep a
  have WNX : Hid (∀ t, Lens s t → isC t e1 k.mj k.ep a 1 = false) := Lib.hid fun t ht => by rw [he1]; exact sh_white ht hlen
  clear hc he1 ho1 hx1
  clear hz hp hk hf hm hfi ho hl1 hlen hxl
  go_enter Tryd.func3, Tryd.ntmps3
  go_wp2_with fail
  obtain ⟨W1, hW1⟩ : ∃ W1, W1 = (w.alloc (.cells #[.slice s.w.a s.w.n s.w.c, .slice s.p.a s.p.n s.p.c, .slice (s.u 0).a (s.u 0).n (s.u 0).c, .slice (s.u 1).a (s.u 1).n (s.u 1).c, .slice (s.u 2).a (s.u 2).n (s.u 2).c, .slice s.c.a s.c.n s.c.c] 28)).alloc (.cells #[.int .i64 k.ph, .int .i64 k.ep, .bool k.mj, .slice k.wk.a k.wk.n k.wk.c, .bool k.ov, .int .i64 k.pa, .int .i64 k.pf, .int .i64 k.ps, .int .i64 k.pc, .bool k.me] 30) := ⟨_, rfl⟩
  have L1 := Lib.hid (lk_start HP.out HK.out hW1)
  rw [← hW1]
  clear hW1
  refine (Sh.awake_any W1 (HZ.out.over L1.out.bel hz0)).mono ?_
  rintro e9 w1 ⟨rfl, hb1⟩
  have L2 := Lib.hid (L1.out.next hb1)
  clear hb1 L1
  have q0 := (L2.out.at (w.heap.size) (s) (d) (by simp)).c0
  have q1 := (L2.out.at (w.heap.size) (s) (d) (by simp)).c1
  have q2 := (L2.out.at (w.heap.size) (s) (d) (by simp)).c2
  have q3 := (L2.out.at (w.heap.size) (s) (d) (by simp)).c3
  have q4 := (L2.out.at (w.heap.size) (s) (d) (by simp)).c4
  have q5 := (L2.out.at (w.heap.size) (s) (d) (by simp)).c5
  have ql := (L2.out.at (w.heap.size) (s) (d) (by simp)).lt
  have p0 := (L2.out.cat (w.heap.size + 1) (k) (xs) (by simp)).c0
  have p1 := (L2.out.cat (w.heap.size + 1) (k) (xs) (by simp)).c1
  have p2 := (L2.out.cat (w.heap.size + 1) (k) (xs) (by simp)).c2
  have p3 := (L2.out.cat (w.heap.size + 1) (k) (xs) (by simp)).c3
  have p4 := (L2.out.cat (w.heap.size + 1) (k) (xs) (by simp)).c4
  have p5 := (L2.out.cat (w.heap.size + 1) (k) (xs) (by simp)).c5
  have p6 := (L2.out.cat (w.heap.size + 1) (k) (xs) (by simp)).c6
  have p7 := (L2.out.cat (w.heap.size + 1) (k) (xs) (by simp)).c7
  have p8 := (L2.out.cat (w.heap.size + 1) (k) (xs) (by simp)).c8
  have p9 := (L2.out.cat (w.heap.size + 1) (k) (xs) (by simp)).c9
  have pl := (L2.out.cat (w.heap.size + 1) (k) (xs) (by simp)).lt
  go_wp2_with fail
  refine (few_any s k w1).mono ?_
  rw [HF.out]
  rintro e9 w2 ⟨rfl, hb2⟩
  have L3 := Lib.hid (L2.out.next hb2)
  clear hb2 L2
  clear q0 q1 q2 q3 q4 q5 ql
  clear p0 p1 p2 p3 p4 p5 p6 p7 p8 p9 pl
  have q0 := (L3.out.at (w.heap.size) (s) (d) (by simp)).c0
  have q1 := (L3.out.at (w.heap.size) (s) (d) (by simp)).c1
  have q2 := (L3.out.at (w.heap.size) (s) (d) (by simp)).c2
  have q3 := (L3.out.at (w.heap.size) (s) (d) (by simp)).c3
  have q4 := (L3.out.at (w.heap.size) (s) (d) (by simp)).c4
  have q5 := (L3.out.at (w.heap.size) (s) (d) (by simp)).c5
  have ql := (L3.out.at (w.heap.size) (s) (d) (by simp)).lt
  go_wp2_with fail
  have hC9 := pmay0_any s d w2 (L3.out.hp (w.heap.size) (s) (d) (by simp)) (HZ.out.over L3.out.bel hz0) FI.out
  rw [HM.out] at hC9
  refine hC9.mono ?_
  rintro e9 w4 ⟨rfl, hb9⟩
  have L4 := Lib.hid (L3.out.next hb9)
  clear hb9 hC9 L3
  clear q0 q1 q2 q3 q4 q5 ql
  have q0 := (L4.out.at (w.heap.size) (s) (d) (by simp)).c0
  have q1 := (L4.out.at (w.heap.size) (s) (d) (by simp)).c1
  have q2 := (L4.out.at (w.heap.size) (s) (d) (by simp)).c2
  have q3 := (L4.out.at (w.heap.size) (s) (d) (by simp)).c3
  have q4 := (L4.out.at (w.heap.size) (s) (d) (by simp)).c4
  have q5 := (L4.out.at (w.heap.size) (s) (d) (by simp)).c5
  have ql := (L4.out.at (w.heap.size) (s) (d) (by simp)).lt
  have p0 := (L4.out.cat (w.heap.size + 1) (k) (xs) (by simp)).c0
  have p1 := (L4.out.cat (w.heap.size + 1) (k) (xs) (by simp)).c1
  have p2 := (L4.out.cat (w.heap.size + 1) (k) (xs) (by simp)).c2
  have p3 := (L4.out.cat (w.heap.size + 1) (k) (xs) (by simp)).c3
  have p4 := (L4.out.cat (w.heap.size + 1) (k) (xs) (by simp)).c4
  have p5 := (L4.out.cat (w.heap.size + 1) (k) (xs) (by simp)).c5
  have p6 := (L4.out.cat (w.heap.size + 1) (k) (xs) (by simp)).c6
  have p7 := (L4.out.cat (w.heap.size + 1) (k) (xs) (by simp)).c7
  have p8 := (L4.out.cat (w.heap.size + 1) (k) (xs) (by simp)).c8
  have p9 := (L4.out.cat (w.heap.size + 1) (k) (xs) (by simp)).c9
  have pl := (L4.out.cat (w.heap.size + 1) (k) (xs) (by simp)).lt
  go_wp2_with fail
  have hC9 := shade_any s d k xs a w4 HX.out (L4.out.hp (w.heap.size) (s) (d) (by simp)) (L4.out.wr (w.heap.size + 1) (k) (xs) (by simp)) (HZ.out.over L4.out.bel hz0) FI.out
  rw [HC.out, E1.out, O1.out, X1.out] at hC9
  refine hC9.mono ?_
  rintro e9 w9 ⟨t1, v1, rfl, hp9, hl9, _, ha9⟩
  have TL1 := Lib.hid hl9
  have AP := Lib.hid (And.intro ha9 hp9)
  clear hp9 hl9 ha9 hC9
  clear q0 q1 q2 q3 q4 q5 ql
  clear p0 p1 p2 p3 p4 p5 p6 p7 p8 p9 pl
  go_upto_region 6 with fail
  obtain ⟨W5, hW⟩ : ∃ W, W = (w9.alloc (.cells #[.slice t1.w.a t1.w.n t1.w.c, .slice t1.p.a t1.p.n t1.p.c, .slice (t1.u 0).a (t1.u 0).n (t1.u 0).c, .slice (t1.u 1).a (t1.u 1).n (t1.u 1).c, .slice (t1.u 2).a (t1.u 2).n (t1.u 2).c, .slice t1.c.a t1.c.n t1.c.c] 28)).alloc (.cells #[.int .i64 k.ph, .int .i64 k.ep, .bool k.mj, .slice v1.a v1.n v1.c, .bool o1, .int .i64 k.pa, .int .i64 k.pf, .int .i64 k.ps, .int .i64 k.pc, .bool k.me] 30) := ⟨_, rfl⟩
  obtain ⟨b1, hb⟩ : ∃ b, b = w9.heap.size := ⟨_, rfl⟩
  have L5 := Lib.hid (L4.out.addSh AP.out.1 AP.out.2 hW)
  rw [← hb] at L5
  rw [← hW, ← hb]
  clear hW hb AP L4
  have q0 := (L5.out.at (b1) (t1) (e1) (by simp)).c0
  have q1 := (L5.out.at (b1) (t1) (e1) (by simp)).c1
  have q2 := (L5.out.at (b1) (t1) (e1) (by simp)).c2
  have q3 := (L5.out.at (b1) (t1) (e1) (by simp)).c3
  have q4 := (L5.out.at (b1) (t1) (e1) (by simp)).c4
  have q5 := (L5.out.at (b1) (t1) (e1) (by simp)).c5
  have ql := (L5.out.at (b1) (t1) (e1) (by simp)).lt
  have r0 := (L5.out.at (w.heap.size) (s) (d) (by simp)).c0
  have r1 := (L5.out.at (w.heap.size) (s) (d) (by simp)).c1
  have r2 := (L5.out.at (w.heap.size) (s) (d) (by simp)).c2
  have r3 := (L5.out.at (w.heap.size) (s) (d) (by simp)).c3
  have r4 := (L5.out.at (w.heap.size) (s) (d) (by simp)).c4
  have r5 := (L5.out.at (w.heap.size) (s) (d) (by simp)).c5
  have rl := (L5.out.at (w.heap.size) (s) (d) (by simp)).lt
  have p0 := (L5.out.cat (b1 + 1) (kw k v1 o1) (x1) (by simp)).c0
  have p1 := (L5.out.cat (b1 + 1) (kw k v1 o1) (x1) (by simp)).c1
  have p2 := (L5.out.cat (b1 + 1) (kw k v1 o1) (x1) (by simp)).c2
  have p3 := (L5.out.cat (b1 + 1) (kw k v1 o1) (x1) (by simp)).c3
  have p4 := (L5.out.cat (b1 + 1) (kw k v1 o1) (x1) (by simp)).c4
  have p5 := (L5.out.cat (b1 + 1) (kw k v1 o1) (x1) (by simp)).c5
  have p6 := (L5.out.cat (b1 + 1) (kw k v1 o1) (x1) (by simp)).c6
  have p7 := (L5.out.cat (b1 + 1) (kw k v1 o1) (x1) (by simp)).c7
  have p8 := (L5.out.cat (b1 + 1) (kw k v1 o1) (x1) (by simp)).c8
  have p9 := (L5.out.cat (b1 + 1) (kw k v1 o1) (x1) (by simp)).c9
  have pl := (L5.out.cat (b1 + 1) (kw k v1 o1) (x1) (by simp)).lt
  dsimp only [kw] at p0 p1 p2 p3 p4 p5 p6 p7 p8 p9
  have tw : t1.w.n = s.w.n := TL1.out.1
  have dn : ((t1.w.n : Int) != (s.w.n : Int)) = false := by simp [tw]
  have dn2 : (t1.w.n != s.w.n) = false := by simp [tw]
  clear tw
  go_wp2_with fail
  have hC9 := white_any t1 e1 (kw k v1 o1) x1 a W5 (L5.out.hp (b1) (t1) (e1) (by simp)) (L5.out.wr (b1 + 1) (kw k v1 o1) (x1) (by simp)) (HZ.out.over L5.out.bel hz0) ((KN.out t1 TL1.out).fine FI.out)
  rw [show isC t1 e1 (kw k v1 o1).mj (kw k v1 o1).ep a 1 = false from WNX.out t1 TL1.out] at hC9
  refine hC9.mono ?_
  rintro e9 w6 ⟨rfl, hb9⟩
  have L6 := Lib.hid (L5.out.next hb9)
  clear hb9 hC9 L5
  clear q0 q1 q2 q3 q4 q5 ql
  clear r0 r1 r2 r3 r4 r5 rl
  clear p0 p1 p2 p3 p4 p5 p6 p7 p8 p9 pl
  clear dn dn2
  have q0 := (L6.out.at (w.heap.size) (s) (d) (by simp)).c0
  have q1 := (L6.out.at (w.heap.size) (s) (d) (by simp)).c1
  have q2 := (L6.out.at (w.heap.size) (s) (d) (by simp)).c2
  have q3 := (L6.out.at (w.heap.size) (s) (d) (by simp)).c3
  have q4 := (L6.out.at (w.heap.size) (s) (d) (by simp)).c4
  have q5 := (L6.out.at (w.heap.size) (s) (d) (by simp)).c5
  have ql := (L6.out.at (w.heap.size) (s) (d) (by simp)).lt
  have p0 := (L6.out.cat (w.heap.size + 1) (k) (xs) (by simp)).c0
  have p1 := (L6.out.cat (w.heap.size + 1) (k) (xs) (by simp)).c1
  have p2 := (L6.out.cat (w.heap.size + 1) (k) (xs) (by simp)).c2
  have p3 := (L6.out.cat (w.heap.size + 1) (k) (xs) (by simp)).c3
  have p4 := (L6.out.cat (w.heap.size + 1) (k) (xs) (by simp)).c4
  have p5 := (L6.out.cat (w.heap.size + 1) (k) (xs) (by simp)).c5
  have p6 := (L6.out.cat (w.heap.size + 1) (k) (xs) (by simp)).c6
  have p7 := (L6.out.cat (w.heap.size + 1) (k) (xs) (by simp)).c7
  have p8 := (L6.out.cat (w.heap.size + 1) (k) (xs) (by simp)).c8
  have p9 := (L6.out.cat (w.heap.size + 1) (k) (xs) (by simp)).c9
  have pl := (L6.out.cat (w.heap.size + 1) (k) (xs) (by simp)).lt
  go_wp2_with fail
  have hC9 := listed_any s d k xs w6 (L6.out.hp (w.heap.size) (s) (d) (by simp)) (L6.out.wr (w.heap.size + 1) (k) (xs) (by simp)) (HZ.out.over L6.out.bel hz0) FI.out HX.out
  rw [HL1.out] at hC9
  refine hC9.mono ?_
  rintro e9 w7 ⟨rfl, hb9⟩
  have L7 := Lib.hid (L6.out.next hb9)
  clear hb9 hC9 L6
  clear q0 q1 q2 q3 q4 q5 ql
  clear p0 p1 p2 p3 p4 p5 p6 p7 p8 p9 pl
  have p0 := (L7.out.cat (b1 + 1) (kw k v1 o1) (x1) (by simp)).c0
  have p1 := (L7.out.cat (b1 + 1) (kw k v1 o1) (x1) (by simp)).c1
  have p2 := (L7.out.cat (b1 + 1) (kw k v1 o1) (x1) (by simp)).c2
  have p3 := (L7.out.cat (b1 + 1) (kw k v1 o1) (x1) (by simp)).c3
  have p4 := (L7.out.cat (b1 + 1) (kw k v1 o1) (x1) (by simp)).c4
  have p5 := (L7.out.cat (b1 + 1) (kw k v1 o1) (x1) (by simp)).c5
  have p6 := (L7.out.cat (b1 + 1) (kw k v1 o1) (x1) (by simp)).c6
  have p7 := (L7.out.cat (b1 + 1) (kw k v1 o1) (x1) (by simp)).c7
  have p8 := (L7.out.cat (b1 + 1) (kw k v1 o1) (x1) (by simp)).c8
  have p9 := (L7.out.cat (b1 + 1) (kw k v1 o1) (x1) (by simp)).c9
  have pl := (L7.out.cat (b1 + 1) (kw k v1 o1) (x1) (by simp)).lt
  dsimp only [kw] at p0 p1 p2 p3 p4 p5 p6 p7 p8 p9
  have z0 := (L7.out.cat (w.heap.size + 1) (k) (xs) (by simp)).c0
  have z1 := (L7.out.cat (w.heap.size + 1) (k) (xs) (by simp)).c1
  have z2 := (L7.out.cat (w.heap.size + 1) (k) (xs) (by simp)).c2
  have z3 := (L7.out.cat (w.heap.size + 1) (k) (xs) (by simp)).c3
  have z4 := (L7.out.cat (w.heap.size + 1) (k) (xs) (by simp)).c4
  have z5 := (L7.out.cat (w.heap.size + 1) (k) (xs) (by simp)).c5
  have z6 := (L7.out.cat (w.heap.size + 1) (k) (xs) (by simp)).c6
  have z7 := (L7.out.cat (w.heap.size + 1) (k) (xs) (by simp)).c7
  have z8 := (L7.out.cat (w.heap.size + 1) (k) (xs) (by simp)).c8
  have z9 := (L7.out.cat (w.heap.size + 1) (k) (xs) (by simp)).c9
  have zl := (L7.out.cat (w.heap.size + 1) (k) (xs) (by simp)).lt
  have hv1 := (L7.out.wr (b1 + 1) (kw k v1 o1) x1 (by simp)).len
  have hv2 := (L7.out.wr (w.heap.size + 1) k xs (by simp)).len
  rw [HO.out] at z4
  rw [OV.out] at p4
  have hvv : v1.n ≤ k.wk.n + 1 := by have h1 := XL.out; simp only [kw] at hv1; omega
  have hvb : k.wk.n ≤ 1000000 := by have h1 := HX.out; omega
  have dg : decide ((k.wk.n : Int) + 1 < v1.n) = false := decide_eq_false (by omega)
  have dg2 : decide (k.wk.n + 1 < v1.n) = false := decide_eq_false (by omega)
  clear hv1 hv2 hvv
  go_upto_region 8 with fail
  clear p0 p1 p2 p3 p4 p5 p6 p7 p8 p9 pl
  clear z0 z1 z2 z3 z4 z5 z6 z7 z8 z9 zl
  clear dg dg2 hvb
  have q0 := (L7.out.at (w.heap.size) (s) (d) (by simp)).c0
  have q1 := (L7.out.at (w.heap.size) (s) (d) (by simp)).c1
  have q2 := (L7.out.at (w.heap.size) (s) (d) (by simp)).c2
  have q3 := (L7.out.at (w.heap.size) (s) (d) (by simp)).c3
  have q4 := (L7.out.at (w.heap.size) (s) (d) (by simp)).c4
  have q5 := (L7.out.at (w.heap.size) (s) (d) (by simp)).c5
  have ql := (L7.out.at (w.heap.size) (s) (d) (by simp)).lt
  have p0 := (L7.out.cat (w.heap.size + 1) (k) (xs) (by simp)).c0
  have p1 := (L7.out.cat (w.heap.size + 1) (k) (xs) (by simp)).c1
  have p2 := (L7.out.cat (w.heap.size + 1) (k) (xs) (by simp)).c2
  have p3 := (L7.out.cat (w.heap.size + 1) (k) (xs) (by simp)).c3
  have p4 := (L7.out.cat (w.heap.size + 1) (k) (xs) (by simp)).c4
  have p5 := (L7.out.cat (w.heap.size + 1) (k) (xs) (by simp)).c5
  have p6 := (L7.out.cat (w.heap.size + 1) (k) (xs) (by simp)).c6
  have p7 := (L7.out.cat (w.heap.size + 1) (k) (xs) (by simp)).c7
  have p8 := (L7.out.cat (w.heap.size + 1) (k) (xs) (by simp)).c8
  have p9 := (L7.out.cat (w.heap.size + 1) (k) (xs) (by simp)).c9
  have pl := (L7.out.cat (w.heap.size + 1) (k) (xs) (by simp)).lt
  go_wp2_with fail
  have hC9 := white_any s d k xs a _ (L7.out.hp (w.heap.size) (s) (d) (by simp)) (L7.out.wr (w.heap.size + 1) (k) (xs) (by simp)) (HZ.out.over L7.out.bel hz0) FI.out
  rw [HC.out] at hC9
  refine hC9.mono ?_
  rintro e9 wa ⟨rfl, hb9⟩
  have LA := Lib.hid (L7.out.next hb9)
  clear hb9 hC9 L7
  clear q0 q1 q2 q3 q4 q5 ql
  clear p0 p1 p2 p3 p4 p5 p6 p7 p8 p9 pl
  go_upto_region 10 with fail
  go_loopw [12] (fun i wr => ∃ q : Nat, q ≤ s.w.n ∧ i = .int .i64 q ∧ Hid (Lk w wr [(b1, t1, e1), (w.heap.size, s, d)] [(b1 + 1, kw k v1 o1, x1), (w.heap.size + 1, k, xs)])) (fun i _ => s.w.n - (intOf i).toNat)
  case atStart => exact ⟨0, Nat.zero_le _, rfl, LA⟩
  case round =>
    obtain ⟨q, hq, rfl, HA⟩ := hrel
    have q0 := (HA.out.at (w.heap.size) s d (by simp)).c0
    have ql := (HA.out.at (w.heap.size) s d (by simp)).lt
    have r0 := (HA.out.at b1 t1 e1 (by simp)).c0
    have rl := (HA.out.at b1 t1 e1 (by simp)).lt
    by_cases hlt : q < s.w.n
    · have i0 : (0 : Int) ≤ q := by omega
      have i1 : (q : Int) < s.w.n := by omega
      have i2 : decide ((q : Int) < s.w.n) = true := decide_eq_true i1
      have i3 : decide (q < s.w.n) = true := decide_eq_true hlt
      have i4 : (q : Int) < t1.w.n := by have := TL1.out.1; omega
      obtain ⟨x, hx⟩ : ∃ x, x = d.ws.getD q 0 := ⟨_, rfl⟩
      obtain ⟨y, hy⟩ : ∃ y, y = e1.ws.getD q 0 := ⟨_, rfl⟩
      obtain ⟨b', off', ea, hl1, hc1⟩ := (HA.out.hp (w.heap.size) s d (by simp)).words.2 (by omega)
      obtain ⟨b6, off6, ea6, hl2, hc2⟩ := (HA.out.hp b1 t1 e1 (by simp)).words.2 (by omega)
      have k1 := hc1 q hlt
      have k2 := hc2 q (by omega)
      rw [← hx] at k1
      rw [← hy] at k2
      rw [ea] at q0
      rw [ea6] at r0
      have HW := Lib.hid (WD.out q)
      rw [← hx, ← hy] at HW
      clear hx hy hc1 hc2 ea ea6
      by_cases hxy : y = x
      · have dxy : (y != x) = false := by simp [hxy]
        clear hxy
        go_wp2
        go_quiet (fail)
        have HB := Lib.hid (HA.out.next (below_drawn' (Below.refl _ _) nq))
        go_wp2
        go_roundw
        case rel => exact ⟨q + 1, by omega, by go_num, HB⟩
        case measure => simp [intOf]; omega
      · have dxy : (y != x) = true := by simp [hxy]
        obtain ⟨hct, ha⟩ := HW.out hxy
        subst hct
        have wa : IntKind.i64.wrap (a - 16) = a - 16 := by rw [← ha]; simp [IntKind.wrap, IntKind.signed, IntKind.bits]; omega
        have dq : ((q : Int) != a - 16) = false := by simp [ha]
        clear hxy ha
        go_wp2
        go_quiet (fail)
        have HB := Lib.hid (HA.out.next (below_drawn' (Below.refl _ _) nq))
        go_wp2
        go_roundw
        case rel => exact ⟨q + 1, by omega, by go_num, HB⟩
        case measure => simp [intOf]; omega
    · obtain rfl : q = s.w.n := by omega
      have i2 : decide ((s.w.n : Int) < s.w.n) = false := by simp
      have i3 : decide (s.w.n < s.w.n) = false := by simp
      go_upto_region 14 with fail
      clear q0 ql r0 rl i2 i3
      have q0 := (HA.out.at (b1) (t1) (e1) (by simp)).c0
      have q1 := (HA.out.at (b1) (t1) (e1) (by simp)).c1
      have q2 := (HA.out.at (b1) (t1) (e1) (by simp)).c2
      have q3 := (HA.out.at (b1) (t1) (e1) (by simp)).c3
      have q4 := (HA.out.at (b1) (t1) (e1) (by simp)).c4
      have q5 := (HA.out.at (b1) (t1) (e1) (by simp)).c5
      have ql := (HA.out.at (b1) (t1) (e1) (by simp)).lt
      have p0 := (HA.out.cat (b1 + 1) (kw k v1 o1) (x1) (by simp)).c0
      have p1 := (HA.out.cat (b1 + 1) (kw k v1 o1) (x1) (by simp)).c1
      have p2 := (HA.out.cat (b1 + 1) (kw k v1 o1) (x1) (by simp)).c2
      have p3 := (HA.out.cat (b1 + 1) (kw k v1 o1) (x1) (by simp)).c3
      have p4 := (HA.out.cat (b1 + 1) (kw k v1 o1) (x1) (by simp)).c4
      have p5 := (HA.out.cat (b1 + 1) (kw k v1 o1) (x1) (by simp)).c5
      have p6 := (HA.out.cat (b1 + 1) (kw k v1 o1) (x1) (by simp)).c6
      have p7 := (HA.out.cat (b1 + 1) (kw k v1 o1) (x1) (by simp)).c7
      have p8 := (HA.out.cat (b1 + 1) (kw k v1 o1) (x1) (by simp)).c8
      have p9 := (HA.out.cat (b1 + 1) (kw k v1 o1) (x1) (by simp)).c9
      have pl := (HA.out.cat (b1 + 1) (kw k v1 o1) (x1) (by simp)).lt
      dsimp only [kw] at p0 p1 p2 p3 p4 p5 p6 p7 p8 p9
      go_wp2_with fail
      have hC9 := (show Calls Tryd.prog 10 #[(.agg #[.slice t1.w.a t1.w.n t1.w.c, .slice t1.p.a t1.p.n t1.p.c, .slice (t1.u 0).a (t1.u 0).n (t1.u 0).c, .slice (t1.u 1).a (t1.u 1).n (t1.u 1).c, .slice (t1.u 2).a (t1.u 2).n (t1.u 2).c, .slice t1.c.a t1.c.n t1.c.c]), (.agg #[.int .i64 k.ph, .int .i64 k.ep, .bool k.mj, .slice v1.a v1.n v1.c, .bool o1, .int .i64 k.pa, .int .i64 k.pf, .int .i64 k.ps, .int .i64 k.pc, .bool k.me]), .int .i64 a] wr (ShOut wr t1 k e1 o1 x1) by
        have h9 := shade_any t1 e1 (kw k v1 o1) x1 a wr (by have h1 := XL.out; have h2 := HX.out; have h3 := HXX.out; omega) (HA.out.hp (b1) (t1) (e1) (by simp)) (HA.out.wr (b1 + 1) (kw k v1 o1) (x1) (by simp)) (HZ.out.over HA.out.bel hz0) ((KN.out t1 TL1.out).fine FI.out)
        rw [show isC t1 e1 (kw k v1 o1).mj (kw k v1 o1).ep a 1 = false from WNX.out t1 TL1.out, show shD t1 e1 (kw k v1 o1).mj (kw k v1 o1).ep a = e1 from if_neg (by rw [show isC t1 e1 (kw k v1 o1).mj (kw k v1 o1).ep a 1 = false from WNX.out t1 TL1.out]; decide), show shX false x1 a = x1 from if_neg (by simp), show shO false x1 (kw k v1 o1).ov = o1 by simp [shO, kw]] at h9
        exact h9)
      refine hC9.mono ?_
      rintro e9 w9 ⟨t2, v2, rfl, hp9, hl9, _, ha9⟩
      have TL2 := Lib.hid hl9
      have AP := Lib.hid (And.intro ha9 hp9)
      clear hp9 hl9 ha9 hC9
      clear q0 q1 q2 q3 q4 q5 ql
      clear p0 p1 p2 p3 p4 p5 p6 p7 p8 p9 pl
      go_upto_region 15 with fail
      obtain ⟨Wb, hW⟩ : ∃ W, W = (w9.alloc (.cells #[.slice t2.w.a t2.w.n t2.w.c, .slice t2.p.a t2.p.n t2.p.c, .slice (t2.u 0).a (t2.u 0).n (t2.u 0).c, .slice (t2.u 1).a (t2.u 1).n (t2.u 1).c, .slice (t2.u 2).a (t2.u 2).n (t2.u 2).c, .slice t2.c.a t2.c.n t2.c.c] 28)).alloc (.cells #[.int .i64 k.ph, .int .i64 k.ep, .bool k.mj, .slice v2.a v2.n v2.c, .bool o1, .int .i64 k.pa, .int .i64 k.pf, .int .i64 k.ps, .int .i64 k.pc, .bool k.me] 30) := ⟨_, rfl⟩
      obtain ⟨b2, hb⟩ : ∃ b, b = w9.heap.size := ⟨_, rfl⟩
      have LB := Lib.hid (HA.out.addSh AP.out.1 AP.out.2 hW)
      rw [← hb] at LB
      rw [← hW, ← hb]
      clear hW hb AP HA
      have q0 := (LB.out.at (b1) (t1) (e1) (by simp)).c0
      have q1 := (LB.out.at (b1) (t1) (e1) (by simp)).c1
      have q2 := (LB.out.at (b1) (t1) (e1) (by simp)).c2
      have q3 := (LB.out.at (b1) (t1) (e1) (by simp)).c3
      have q4 := (LB.out.at (b1) (t1) (e1) (by simp)).c4
      have q5 := (LB.out.at (b1) (t1) (e1) (by simp)).c5
      have ql := (LB.out.at (b1) (t1) (e1) (by simp)).lt
      go_wp2_with fail
      have hC9 := pmay0_any t1 e1 Wb (LB.out.hp (b1) (t1) (e1) (by simp)) (HZ.out.over LB.out.bel hz0) ((KN.out t1 TL1.out).fine FI.out)
      rw [(KN.out t1 TL1.out).may, HM.out] at hC9
      refine hC9.mono ?_
      rintro e9 wc ⟨rfl, hb9⟩
      have LC := Lib.hid (LB.out.next hb9)
      clear hb9 hC9 LB
      clear q0 q1 q2 q3 q4 q5 ql
      have q0 := (LC.out.at (b2) (t2) (e1) (by simp)).c0
      have q1 := (LC.out.at (b2) (t2) (e1) (by simp)).c1
      have q2 := (LC.out.at (b2) (t2) (e1) (by simp)).c2
      have q3 := (LC.out.at (b2) (t2) (e1) (by simp)).c3
      have q4 := (LC.out.at (b2) (t2) (e1) (by simp)).c4
      have q5 := (LC.out.at (b2) (t2) (e1) (by simp)).c5
      have ql := (LC.out.at (b2) (t2) (e1) (by simp)).lt
      have r0 := (LC.out.at (b1) (t1) (e1) (by simp)).c0
      have r1 := (LC.out.at (b1) (t1) (e1) (by simp)).c1
      have r2 := (LC.out.at (b1) (t1) (e1) (by simp)).c2
      have r3 := (LC.out.at (b1) (t1) (e1) (by simp)).c3
      have r4 := (LC.out.at (b1) (t1) (e1) (by simp)).c4
      have r5 := (LC.out.at (b1) (t1) (e1) (by simp)).c5
      have rl := (LC.out.at (b1) (t1) (e1) (by simp)).lt
      go_wp2_with fail
      have hC9 := hsame_yes t2 t1 e1 wc TL2.out (LC.out.hp (b1) (t1) (e1) (by simp)) (LC.out.hp (b2) (t2) (e1) (by simp)) ((KN.out t1 TL1.out).fine FI.out)
      refine hC9.mono ?_
      rintro e9 wd ⟨rfl, hb9⟩
      have LD := Lib.hid (LC.out.next hb9)
      clear hb9 hC9 LC
      clear q0 q1 q2 q3 q4 q5 ql
      clear r0 r1 r2 r3 r4 r5 rl
      have p0 := (LD.out.cat (b2 + 1) (kw k v2 o1) (x1) (by simp)).c0
      have p1 := (LD.out.cat (b2 + 1) (kw k v2 o1) (x1) (by simp)).c1
      have p2 := (LD.out.cat (b2 + 1) (kw k v2 o1) (x1) (by simp)).c2
      have p3 := (LD.out.cat (b2 + 1) (kw k v2 o1) (x1) (by simp)).c3
      have p4 := (LD.out.cat (b2 + 1) (kw k v2 o1) (x1) (by simp)).c4
      have p5 := (LD.out.cat (b2 + 1) (kw k v2 o1) (x1) (by simp)).c5
      have p6 := (LD.out.cat (b2 + 1) (kw k v2 o1) (x1) (by simp)).c6
      have p7 := (LD.out.cat (b2 + 1) (kw k v2 o1) (x1) (by simp)).c7
      have p8 := (LD.out.cat (b2 + 1) (kw k v2 o1) (x1) (by simp)).c8
      have p9 := (LD.out.cat (b2 + 1) (kw k v2 o1) (x1) (by simp)).c9
      have pl := (LD.out.cat (b2 + 1) (kw k v2 o1) (x1) (by simp)).lt
      dsimp only [kw] at p0 p1 p2 p3 p4 p5 p6 p7 p8 p9
      have z0 := (LD.out.cat (b1 + 1) (kw k v1 o1) (x1) (by simp)).c0
      have z1 := (LD.out.cat (b1 + 1) (kw k v1 o1) (x1) (by simp)).c1
      have z2 := (LD.out.cat (b1 + 1) (kw k v1 o1) (x1) (by simp)).c2
      have z3 := (LD.out.cat (b1 + 1) (kw k v1 o1) (x1) (by simp)).c3
      have z4 := (LD.out.cat (b1 + 1) (kw k v1 o1) (x1) (by simp)).c4
      have z5 := (LD.out.cat (b1 + 1) (kw k v1 o1) (x1) (by simp)).c5
      have z6 := (LD.out.cat (b1 + 1) (kw k v1 o1) (x1) (by simp)).c6
      have z7 := (LD.out.cat (b1 + 1) (kw k v1 o1) (x1) (by simp)).c7
      have z8 := (LD.out.cat (b1 + 1) (kw k v1 o1) (x1) (by simp)).c8
      have z9 := (LD.out.cat (b1 + 1) (kw k v1 o1) (x1) (by simp)).c9
      have zl := (LD.out.cat (b1 + 1) (kw k v1 o1) (x1) (by simp)).lt
      dsimp only [kw] at z0 z1 z2 z3 z4 z5 z6 z7 z8 z9
      go_wp2_with fail
      have hC9 := ksame_yes k v2 v1 o1 x1 wd (LD.out.wr (b2 + 1) (kw k v2 o1) (x1) (by simp)) (LD.out.wr (b1 + 1) (kw k v1 o1) (x1) (by simp)) (by have h1 := XL.out; have h2 := HX.out; have h3 := HXX.out; omega)
      refine hC9.mono ?_
      rintro e9 we ⟨rfl, hb9⟩
      have LE := Lib.hid (LD.out.next hb9)
      clear hb9 hC9 LD
      clear p0 p1 p2 p3 p4 p5 p6 p7 p8 p9 pl
      clear z0 z1 z2 z3 z4 z5 z6 z7 z8 z9 zl
      go_wp2
      go_ret
      exact ⟨rfl, LE.out.bel⟩
set_option maxHeartbeats 16000000 in
theorem core_10 (hl1 : listB s d k.mj k.ep k.ov xs = true) (ho : k.ov = false) (hm : mayB0 s d = true) (hxl : xs.length ≤ 100) (hwn : s.w.n ≤ 130) (hfi : Fine s d) (hlen : d.ws.length = s.w.n) (hf : fewK s k = true) (hz : Cl.Sz w) (hp : Hp w w.heap.size s d) (hk : WRow w w.heap.size k xs) : Calls Tryd.prog 3 #[(.agg #[.slice s.w.a s.w.n s.w.c, .slice s.p.a s.p.n s.p.c, .slice (s.u 0).a (s.u 0).n (s.u 0).c, .slice (s.u 1).a (s.u 1).n (s.u 1).c, .slice (s.u 2).a (s.u 2).n (s.u 2).c, .slice s.c.a s.c.n s.c.c]), (.agg #[.int .i64 k.ph, .int .i64 k.ep, .bool k.mj, .slice k.wk.a k.wk.n k.wk.c, .bool k.ov, .int .i64 k.pa, .int .i64 k.pf, .int .i64 k.ps, .int .i64 k.pc, .bool k.me]), .int .i64 a] w fun e w' => e = .returned (.bool true) ∧ Below w.heap.size w w' := by
  have HZ := Lib.hid hz
  have hz0 := hz.pos
  have HP := Lib.hid hp
  have HK := Lib.hid hk
  have HF := Lib.hid hf
  have HM := Lib.hid hm
  have FI := Lib.hid hfi
  have HO := Lib.hid ho
  have HL1 := Lib.hid hl1
  have HL := Lib.hid hlen
  have HX := Lib.hid (show xs.length ≤ 1000000 by omega)
  have HXX := Lib.hid hxl
  have HKN := Lib.hid hk.len
  obtain ⟨c, hc⟩ : ∃ c, c = isC s d k.mj k.ep a 1 := ⟨_, rfl⟩
  obtain ⟨e1, he1⟩ : ∃ e, e = shD s d k.mj k.ep a := ⟨_, rfl⟩
  obtain ⟨o1, ho1⟩ : ∃ o, o = shO c xs k.ov := ⟨_, rfl⟩
  obtain ⟨x1, hx1⟩ : ∃ x, x = shX c xs a := ⟨_, rfl⟩
  have HC := Lib.hid hc.symm
  have E1 := Lib.hid he1.symm
  have O1 := Lib.hid ho1.symm
  have X1 := Lib.hid hx1.symm
  have XL := Lib.hid (show x1.length ≤ xs.length + 1 by rw [hx1]; exact (shX_len c xs a).1)
  have WD : Hid (∀ i : Nat, ¬ e1.ws.getD i 0 = d.ws.getD i 0 → c = true ∧ (i : Int) = a - 16) := Lib.hid fun i hne => Classical.byContradiction fun hh => hne (by rw [he1]; exact sh_word (by rw [← hc]; exact hh))
  have KN : Hid (∀ t, Lens s t → Kin s t d e1) := Lib.hid fun t ht => by rw [he1]; exact kin_sh ht hlen k.mj k.ep a
  have WNX : Hid (∀ t, Lens s t → isC t e1 k.mj k.ep a 1 = false) := Lib.hid fun t ht => by rw [he1]; exact sh_white ht hlen
  have L2X : Hid (∀ t, Lens s t → listB t e1 k.mj k.ep o1 x1 = true) := Lib.hid fun t ht => by rw [he1, ho1, hx1, hc]; exact list_sh ht hlen hl1
  clear hc he1 ho1 hx1
  clear hz hp hk hf hm hfi ho hl1 hlen hxl
  go_enter Tryd.func3, Tryd.ntmps3
  go_wp2_with fail
  obtain ⟨W1, hW1⟩ : ∃ W1, W1 = (w.alloc (.cells #[.slice s.w.a s.w.n s.w.c, .slice s.p.a s.p.n s.p.c, .slice (s.u 0).a (s.u 0).n (s.u 0).c, .slice (s.u 1).a (s.u 1).n (s.u 1).c, .slice (s.u 2).a (s.u 2).n (s.u 2).c, .slice s.c.a s.c.n s.c.c] 28)).alloc (.cells #[.int .i64 k.ph, .int .i64 k.ep, .bool k.mj, .slice k.wk.a k.wk.n k.wk.c, .bool k.ov, .int .i64 k.pa, .int .i64 k.pf, .int .i64 k.ps, .int .i64 k.pc, .bool k.me] 30) := ⟨_, rfl⟩
  have L1 := Lib.hid (lk_start HP.out HK.out hW1)
  rw [← hW1]
  clear hW1
  refine (Sh.awake_any W1 (HZ.out.over L1.out.bel hz0)).mono ?_
  rintro e9 w1 ⟨rfl, hb1⟩
  have L2 := Lib.hid (L1.out.next hb1)
  clear hb1 L1
  have q0 := (L2.out.at (w.heap.size) (s) (d) (by simp)).c0
  have q1 := (L2.out.at (w.heap.size) (s) (d) (by simp)).c1
  have q2 := (L2.out.at (w.heap.size) (s) (d) (by simp)).c2
  have q3 := (L2.out.at (w.heap.size) (s) (d) (by simp)).c3
  have q4 := (L2.out.at (w.heap.size) (s) (d) (by simp)).c4
  have q5 := (L2.out.at (w.heap.size) (s) (d) (by simp)).c5
  have ql := (L2.out.at (w.heap.size) (s) (d) (by simp)).lt
  have p0 := (L2.out.cat (w.heap.size + 1) (k) (xs) (by simp)).c0
  have p1 := (L2.out.cat (w.heap.size + 1) (k) (xs) (by simp)).c1
  have p2 := (L2.out.cat (w.heap.size + 1) (k) (xs) (by simp)).c2
  have p3 := (L2.out.cat (w.heap.size + 1) (k) (xs) (by simp)).c3
  have p4 := (L2.out.cat (w.heap.size + 1) (k) (xs) (by simp)).c4
  have p5 := (L2.out.cat (w.heap.size + 1) (k) (xs) (by simp)).c5
  have p6 := (L2.out.cat (w.heap.size + 1) (k) (xs) (by simp)).c6
  have p7 := (L2.out.cat (w.heap.size + 1) (k) (xs) (by simp)).c7
  have p8 := (L2.out.cat (w.heap.size + 1) (k) (xs) (by simp)).c8
  have p9 := (L2.out.cat (w.heap.size + 1) (k) (xs) (by simp)).c9
  have pl := (L2.out.cat (w.heap.size + 1) (k) (xs) (by simp)).lt
  go_wp2_with fail
  refine (few_any s k w1).mono ?_
  rw [HF.out]
  rintro e9 w2 ⟨rfl, hb2⟩
  have L3 := Lib.hid (L2.out.next hb2)
  clear hb2 L2
  clear q0 q1 q2 q3 q4 q5 ql
  clear p0 p1 p2 p3 p4 p5 p6 p7 p8 p9 pl
  have q0 := (L3.out.at (w.heap.size) (s) (d) (by simp)).c0
  have q1 := (L3.out.at (w.heap.size) (s) (d) (by simp)).c1
  have q2 := (L3.out.at (w.heap.size) (s) (d) (by simp)).c2
  have q3 := (L3.out.at (w.heap.size) (s) (d) (by simp)).c3
  have q4 := (L3.out.at (w.heap.size) (s) (d) (by simp)).c4
  have q5 := (L3.out.at (w.heap.size) (s) (d) (by simp)).c5
  have ql := (L3.out.at (w.heap.size) (s) (d) (by simp)).lt
  go_wp2_with fail
  have hC9 := pmay0_any s d w2 (L3.out.hp (w.heap.size) (s) (d) (by simp)) (HZ.out.over L3.out.bel hz0) FI.out
  rw [HM.out] at hC9
  refine hC9.mono ?_
  rintro e9 w4 ⟨rfl, hb9⟩
  have L4 := Lib.hid (L3.out.next hb9)
  clear hb9 hC9 L3
  clear q0 q1 q2 q3 q4 q5 ql
  have q0 := (L4.out.at (w.heap.size) (s) (d) (by simp)).c0
  have q1 := (L4.out.at (w.heap.size) (s) (d) (by simp)).c1
  have q2 := (L4.out.at (w.heap.size) (s) (d) (by simp)).c2
  have q3 := (L4.out.at (w.heap.size) (s) (d) (by simp)).c3
  have q4 := (L4.out.at (w.heap.size) (s) (d) (by simp)).c4
  have q5 := (L4.out.at (w.heap.size) (s) (d) (by simp)).c5
  have ql := (L4.out.at (w.heap.size) (s) (d) (by simp)).lt
  have p0 := (L4.out.cat (w.heap.size + 1) (k) (xs) (by simp)).c0
  have p1 := (L4.out.cat (w.heap.size + 1) (k) (xs) (by simp)).c1
  have p2 := (L4.out.cat (w.heap.size + 1) (k) (xs) (by simp)).c2
  have p3 := (L4.out.cat (w.heap.size + 1) (k) (xs) (by simp)).c3
  have p4 := (L4.out.cat (w.heap.size + 1) (k) (xs) (by simp)).c4
  have p5 := (L4.out.cat (w.heap.size + 1) (k) (xs) (by simp)).c5
  have p6 := (L4.out.cat (w.heap.size + 1) (k) (xs) (by simp)).c6
  have p7 := (L4.out.cat (w.heap.size + 1) (k) (xs) (by simp)).c7
  have p8 := (L4.out.cat (w.heap.size + 1) (k) (xs) (by simp)).c8
  have p9 := (L4.out.cat (w.heap.size + 1) (k) (xs) (by simp)).c9
  have pl := (L4.out.cat (w.heap.size + 1) (k) (xs) (by simp)).lt
  go_wp2_with fail
  have hC9 := shade_any s d k xs a w4 HX.out (L4.out.hp (w.heap.size) (s) (d) (by simp)) (L4.out.wr (w.heap.size + 1) (k) (xs) (by simp)) (HZ.out.over L4.out.bel hz0) FI.out
  rw [HC.out, E1.out, O1.out, X1.out] at hC9
  refine hC9.mono ?_
  rintro e9 w9 ⟨t1, v1, rfl, hp9, hl9, _, ha9⟩
  have TL1 := Lib.hid hl9
  have AP := Lib.hid (And.intro ha9 hp9)
  clear hp9 hl9 ha9 hC9
  clear q0 q1 q2 q3 q4 q5 ql
  clear p0 p1 p2 p3 p4 p5 p6 p7 p8 p9 pl
  go_upto_region 6 with fail
  obtain ⟨W5, hW⟩ : ∃ W, W = (w9.alloc (.cells #[.slice t1.w.a t1.w.n t1.w.c, .slice t1.p.a t1.p.n t1.p.c, .slice (t1.u 0).a (t1.u 0).n (t1.u 0).c, .slice (t1.u 1).a (t1.u 1).n (t1.u 1).c, .slice (t1.u 2).a (t1.u 2).n (t1.u 2).c, .slice t1.c.a t1.c.n t1.c.c] 28)).alloc (.cells #[.int .i64 k.ph, .int .i64 k.ep, .bool k.mj, .slice v1.a v1.n v1.c, .bool o1, .int .i64 k.pa, .int .i64 k.pf, .int .i64 k.ps, .int .i64 k.pc, .bool k.me] 30) := ⟨_, rfl⟩
  obtain ⟨b1, hb⟩ : ∃ b, b = w9.heap.size := ⟨_, rfl⟩
  have L5 := Lib.hid (L4.out.addSh AP.out.1 AP.out.2 hW)
  rw [← hb] at L5
  rw [← hW, ← hb]
  clear hW hb AP L4
  have q0 := (L5.out.at (b1) (t1) (e1) (by simp)).c0
  have q1 := (L5.out.at (b1) (t1) (e1) (by simp)).c1
  have q2 := (L5.out.at (b1) (t1) (e1) (by simp)).c2
  have q3 := (L5.out.at (b1) (t1) (e1) (by simp)).c3
  have q4 := (L5.out.at (b1) (t1) (e1) (by simp)).c4
  have q5 := (L5.out.at (b1) (t1) (e1) (by simp)).c5
  have ql := (L5.out.at (b1) (t1) (e1) (by simp)).lt
  have r0 := (L5.out.at (w.heap.size) (s) (d) (by simp)).c0
  have r1 := (L5.out.at (w.heap.size) (s) (d) (by simp)).c1
  have r2 := (L5.out.at (w.heap.size) (s) (d) (by simp)).c2
  have r3 := (L5.out.at (w.heap.size) (s) (d) (by simp)).c3
  have r4 := (L5.out.at (w.heap.size) (s) (d) (by simp)).c4
  have r5 := (L5.out.at (w.heap.size) (s) (d) (by simp)).c5
  have rl := (L5.out.at (w.heap.size) (s) (d) (by simp)).lt
  have p0 := (L5.out.cat (b1 + 1) (kw k v1 o1) (x1) (by simp)).c0
  have p1 := (L5.out.cat (b1 + 1) (kw k v1 o1) (x1) (by simp)).c1
  have p2 := (L5.out.cat (b1 + 1) (kw k v1 o1) (x1) (by simp)).c2
  have p3 := (L5.out.cat (b1 + 1) (kw k v1 o1) (x1) (by simp)).c3
  have p4 := (L5.out.cat (b1 + 1) (kw k v1 o1) (x1) (by simp)).c4
  have p5 := (L5.out.cat (b1 + 1) (kw k v1 o1) (x1) (by simp)).c5
  have p6 := (L5.out.cat (b1 + 1) (kw k v1 o1) (x1) (by simp)).c6
  have p7 := (L5.out.cat (b1 + 1) (kw k v1 o1) (x1) (by simp)).c7
  have p8 := (L5.out.cat (b1 + 1) (kw k v1 o1) (x1) (by simp)).c8
  have p9 := (L5.out.cat (b1 + 1) (kw k v1 o1) (x1) (by simp)).c9
  have pl := (L5.out.cat (b1 + 1) (kw k v1 o1) (x1) (by simp)).lt
  dsimp only [kw] at p0 p1 p2 p3 p4 p5 p6 p7 p8 p9
  have tw : t1.w.n = s.w.n := TL1.out.1
  have dn : ((t1.w.n : Int) != (s.w.n : Int)) = false := by simp [tw]
  have dn2 : (t1.w.n != s.w.n) = false := by simp [tw]
  clear tw
  go_wp2_with fail
  have hC9 := white_any t1 e1 (kw k v1 o1) x1 a W5 (L5.out.hp (b1) (t1) (e1) (by simp)) (L5.out.wr (b1 + 1) (kw k v1 o1) (x1) (by simp)) (HZ.out.over L5.out.bel hz0) ((KN.out t1 TL1.out).fine FI.out)
  rw [show isC t1 e1 (kw k v1 o1).mj (kw k v1 o1).ep a 1 = false from WNX.out t1 TL1.out] at hC9
  refine hC9.mono ?_
  rintro e9 w6 ⟨rfl, hb9⟩
  have L6 := Lib.hid (L5.out.next hb9)
  clear hb9 hC9 L5
  clear q0 q1 q2 q3 q4 q5 ql
  clear r0 r1 r2 r3 r4 r5 rl
  clear p0 p1 p2 p3 p4 p5 p6 p7 p8 p9 pl
  clear dn dn2
  have q0 := (L6.out.at (w.heap.size) (s) (d) (by simp)).c0
  have q1 := (L6.out.at (w.heap.size) (s) (d) (by simp)).c1
  have q2 := (L6.out.at (w.heap.size) (s) (d) (by simp)).c2
  have q3 := (L6.out.at (w.heap.size) (s) (d) (by simp)).c3
  have q4 := (L6.out.at (w.heap.size) (s) (d) (by simp)).c4
  have q5 := (L6.out.at (w.heap.size) (s) (d) (by simp)).c5
  have ql := (L6.out.at (w.heap.size) (s) (d) (by simp)).lt
  have p0 := (L6.out.cat (w.heap.size + 1) (k) (xs) (by simp)).c0
  have p1 := (L6.out.cat (w.heap.size + 1) (k) (xs) (by simp)).c1
  have p2 := (L6.out.cat (w.heap.size + 1) (k) (xs) (by simp)).c2
  have p3 := (L6.out.cat (w.heap.size + 1) (k) (xs) (by simp)).c3
  have p4 := (L6.out.cat (w.heap.size + 1) (k) (xs) (by simp)).c4
  have p5 := (L6.out.cat (w.heap.size + 1) (k) (xs) (by simp)).c5
  have p6 := (L6.out.cat (w.heap.size + 1) (k) (xs) (by simp)).c6
  have p7 := (L6.out.cat (w.heap.size + 1) (k) (xs) (by simp)).c7
  have p8 := (L6.out.cat (w.heap.size + 1) (k) (xs) (by simp)).c8
  have p9 := (L6.out.cat (w.heap.size + 1) (k) (xs) (by simp)).c9
  have pl := (L6.out.cat (w.heap.size + 1) (k) (xs) (by simp)).lt
  go_wp2_with fail
  have hC9 := listed_any s d k xs w6 (L6.out.hp (w.heap.size) (s) (d) (by simp)) (L6.out.wr (w.heap.size + 1) (k) (xs) (by simp)) (HZ.out.over L6.out.bel hz0) FI.out HX.out
  rw [HL1.out] at hC9
  refine hC9.mono ?_
  rintro e9 w7 ⟨rfl, hb9⟩
  have L7 := Lib.hid (L6.out.next hb9)
  clear hb9 hC9 L6
  clear q0 q1 q2 q3 q4 q5 ql
  clear p0 p1 p2 p3 p4 p5 p6 p7 p8 p9 pl
  have q0 := (L7.out.at (b1) (t1) (e1) (by simp)).c0
  have q1 := (L7.out.at (b1) (t1) (e1) (by simp)).c1
  have q2 := (L7.out.at (b1) (t1) (e1) (by simp)).c2
  have q3 := (L7.out.at (b1) (t1) (e1) (by simp)).c3
  have q4 := (L7.out.at (b1) (t1) (e1) (by simp)).c4
  have q5 := (L7.out.at (b1) (t1) (e1) (by simp)).c5
  have ql := (L7.out.at (b1) (t1) (e1) (by simp)).lt
  have p0 := (L7.out.cat (b1 + 1) (kw k v1 o1) (x1) (by simp)).c0
  have p1 := (L7.out.cat (b1 + 1) (kw k v1 o1) (x1) (by simp)).c1
  have p2 := (L7.out.cat (b1 + 1) (kw k v1 o1) (x1) (by simp)).c2
  have p3 := (L7.out.cat (b1 + 1) (kw k v1 o1) (x1) (by simp)).c3
  have p4 := (L7.out.cat (b1 + 1) (kw k v1 o1) (x1) (by simp)).c4
  have p5 := (L7.out.cat (b1 + 1) (kw k v1 o1) (x1) (by simp)).c5
  have p6 := (L7.out.cat (b1 + 1) (kw k v1 o1) (x1) (by simp)).c6
  have p7 := (L7.out.cat (b1 + 1) (kw k v1 o1) (x1) (by simp)).c7
  have p8 := (L7.out.cat (b1 + 1) (kw k v1 o1) (x1) (by simp)).c8
  have p9 := (L7.out.cat (b1 + 1) (kw k v1 o1) (x1) (by simp)).c9
  have pl := (L7.out.cat (b1 + 1) (kw k v1 o1) (x1) (by simp)).lt
  dsimp only [kw] at p0 p1 p2 p3 p4 p5 p6 p7 p8 p9
  go_wp2_with fail
  have hC9 := listed_any t1 e1 (kw k v1 o1) x1 w7 (L7.out.hp (b1) (t1) (e1) (by simp)) (L7.out.wr (b1 + 1) (kw k v1 o1) (x1) (by simp)) (HZ.out.over L7.out.bel hz0) ((KN.out t1 TL1.out).fine FI.out) (by have h1 := XL.out; have h2 := HX.out; have h3 := HXX.out; omega)
  rw [show listB t1 e1 (kw k v1 o1).mj (kw k v1 o1).ep (kw k v1 o1).ov x1 = true from L2X.out t1 TL1.out] at hC9
  refine hC9.mono ?_
  rintro e9 w8 ⟨rfl, hb9⟩
  have L8 := Lib.hid (L7.out.next hb9)
  clear hb9 hC9 L7
  clear q0 q1 q2 q3 q4 q5 ql
  clear p0 p1 p2 p3 p4 p5 p6 p7 p8 p9 pl
  have p0 := (L8.out.cat (b1 + 1) (kw k v1 o1) (x1) (by simp)).c0
  have p1 := (L8.out.cat (b1 + 1) (kw k v1 o1) (x1) (by simp)).c1
  have p2 := (L8.out.cat (b1 + 1) (kw k v1 o1) (x1) (by simp)).c2
  have p3 := (L8.out.cat (b1 + 1) (kw k v1 o1) (x1) (by simp)).c3
  have p4 := (L8.out.cat (b1 + 1) (kw k v1 o1) (x1) (by simp)).c4
  have p5 := (L8.out.cat (b1 + 1) (kw k v1 o1) (x1) (by simp)).c5
  have p6 := (L8.out.cat (b1 + 1) (kw k v1 o1) (x1) (by simp)).c6
  have p7 := (L8.out.cat (b1 + 1) (kw k v1 o1) (x1) (by simp)).c7
  have p8 := (L8.out.cat (b1 + 1) (kw k v1 o1) (x1) (by simp)).c8
  have p9 := (L8.out.cat (b1 + 1) (kw k v1 o1) (x1) (by simp)).c9
  have pl := (L8.out.cat (b1 + 1) (kw k v1 o1) (x1) (by simp)).lt
  dsimp only [kw] at p0 p1 p2 p3 p4 p5 p6 p7 p8 p9
  have z0 := (L8.out.cat (w.heap.size + 1) (k) (xs) (by simp)).c0
  have z1 := (L8.out.cat (w.heap.size + 1) (k) (xs) (by simp)).c1
  have z2 := (L8.out.cat (w.heap.size + 1) (k) (xs) (by simp)).c2
  have z3 := (L8.out.cat (w.heap.size + 1) (k) (xs) (by simp)).c3
  have z4 := (L8.out.cat (w.heap.size + 1) (k) (xs) (by simp)).c4
  have z5 := (L8.out.cat (w.heap.size + 1) (k) (xs) (by simp)).c5
  have z6 := (L8.out.cat (w.heap.size + 1) (k) (xs) (by simp)).c6
  have z7 := (L8.out.cat (w.heap.size + 1) (k) (xs) (by simp)).c7
  have z8 := (L8.out.cat (w.heap.size + 1) (k) (xs) (by simp)).c8
  have z9 := (L8.out.cat (w.heap.size + 1) (k) (xs) (by simp)).c9
  have zl := (L8.out.cat (w.heap.size + 1) (k) (xs) (by simp)).lt
  have hv1 := (L8.out.wr (b1 + 1) (kw k v1 o1) x1 (by simp)).len
  have hv2 := (L8.out.wr (w.heap.size + 1) k xs (by simp)).len
  rw [HO.out] at z4
  have hvv : v1.n ≤ k.wk.n + 1 := by have h1 := XL.out; simp only [kw] at hv1; omega
  have hvb : k.wk.n ≤ 1000000 := by have h1 := HX.out; omega
  have dg : decide ((k.wk.n : Int) + 1 < v1.n) = false := decide_eq_false (by omega)
  have dg2 : decide (k.wk.n + 1 < v1.n) = false := decide_eq_false (by omega)
  clear hv1 hv2 hvv
  go_upto_region 8 with fail
  clear p0 p1 p2 p3 p4 p5 p6 p7 p8 p9 pl
  clear z0 z1 z2 z3 z4 z5 z6 z7 z8 z9 zl
  clear dg dg2 hvb
  have q0 := (L8.out.at (w.heap.size) (s) (d) (by simp)).c0
  have q1 := (L8.out.at (w.heap.size) (s) (d) (by simp)).c1
  have q2 := (L8.out.at (w.heap.size) (s) (d) (by simp)).c2
  have q3 := (L8.out.at (w.heap.size) (s) (d) (by simp)).c3
  have q4 := (L8.out.at (w.heap.size) (s) (d) (by simp)).c4
  have q5 := (L8.out.at (w.heap.size) (s) (d) (by simp)).c5
  have ql := (L8.out.at (w.heap.size) (s) (d) (by simp)).lt
  have p0 := (L8.out.cat (w.heap.size + 1) (k) (xs) (by simp)).c0
  have p1 := (L8.out.cat (w.heap.size + 1) (k) (xs) (by simp)).c1
  have p2 := (L8.out.cat (w.heap.size + 1) (k) (xs) (by simp)).c2
  have p3 := (L8.out.cat (w.heap.size + 1) (k) (xs) (by simp)).c3
  have p4 := (L8.out.cat (w.heap.size + 1) (k) (xs) (by simp)).c4
  have p5 := (L8.out.cat (w.heap.size + 1) (k) (xs) (by simp)).c5
  have p6 := (L8.out.cat (w.heap.size + 1) (k) (xs) (by simp)).c6
  have p7 := (L8.out.cat (w.heap.size + 1) (k) (xs) (by simp)).c7
  have p8 := (L8.out.cat (w.heap.size + 1) (k) (xs) (by simp)).c8
  have p9 := (L8.out.cat (w.heap.size + 1) (k) (xs) (by simp)).c9
  have pl := (L8.out.cat (w.heap.size + 1) (k) (xs) (by simp)).lt
  go_wp2_with fail
  have hC9 := white_any s d k xs a _ (L8.out.hp (w.heap.size) (s) (d) (by simp)) (L8.out.wr (w.heap.size + 1) (k) (xs) (by simp)) (HZ.out.over L8.out.bel hz0) FI.out
  rw [HC.out] at hC9
  refine hC9.mono ?_
  rintro e9 wa ⟨rfl, hb9⟩
  have LA := Lib.hid (L8.out.next hb9)
  clear hb9 hC9 L8
  clear q0 q1 q2 q3 q4 q5 ql
  clear p0 p1 p2 p3 p4 p5 p6 p7 p8 p9 pl
  go_upto_region 10 with fail
  go_loopw [12] (fun i wr => ∃ q : Nat, q ≤ s.w.n ∧ i = .int .i64 q ∧ Hid (Lk w wr [(b1, t1, e1), (w.heap.size, s, d)] [(b1 + 1, kw k v1 o1, x1), (w.heap.size + 1, k, xs)])) (fun i _ => s.w.n - (intOf i).toNat)
  case atStart => exact ⟨0, Nat.zero_le _, rfl, LA⟩
  case round =>
    obtain ⟨q, hq, rfl, HA⟩ := hrel
    have q0 := (HA.out.at (w.heap.size) s d (by simp)).c0
    have ql := (HA.out.at (w.heap.size) s d (by simp)).lt
    have r0 := (HA.out.at b1 t1 e1 (by simp)).c0
    have rl := (HA.out.at b1 t1 e1 (by simp)).lt
    by_cases hlt : q < s.w.n
    · have i0 : (0 : Int) ≤ q := by omega
      have i1 : (q : Int) < s.w.n := by omega
      have i2 : decide ((q : Int) < s.w.n) = true := decide_eq_true i1
      have i3 : decide (q < s.w.n) = true := decide_eq_true hlt
      have i4 : (q : Int) < t1.w.n := by have := TL1.out.1; omega
      obtain ⟨x, hx⟩ : ∃ x, x = d.ws.getD q 0 := ⟨_, rfl⟩
      obtain ⟨y, hy⟩ : ∃ y, y = e1.ws.getD q 0 := ⟨_, rfl⟩
      obtain ⟨b', off', ea, hl1, hc1⟩ := (HA.out.hp (w.heap.size) s d (by simp)).words.2 (by omega)
      obtain ⟨b6, off6, ea6, hl2, hc2⟩ := (HA.out.hp b1 t1 e1 (by simp)).words.2 (by omega)
      have k1 := hc1 q hlt
      have k2 := hc2 q (by omega)
      rw [← hx] at k1
      rw [← hy] at k2
      rw [ea] at q0
      rw [ea6] at r0
      have HW := Lib.hid (WD.out q)
      rw [← hx, ← hy] at HW
      clear hx hy hc1 hc2 ea ea6
      by_cases hxy : y = x
      · have dxy : (y != x) = false := by simp [hxy]
        clear hxy
        go_wp2
        go_quiet (fail)
        have HB := Lib.hid (HA.out.next (below_drawn' (Below.refl _ _) nq))
        go_wp2
        go_roundw
        case rel => exact ⟨q + 1, by omega, by go_num, HB⟩
        case measure => simp [intOf]; omega
      · have dxy : (y != x) = true := by simp [hxy]
        obtain ⟨hct, ha⟩ := HW.out hxy
        subst hct
        have wa : IntKind.i64.wrap (a - 16) = a - 16 := by rw [← ha]; simp [IntKind.wrap, IntKind.signed, IntKind.bits]; omega
        have dq : ((q : Int) != a - 16) = false := by simp [ha]
        clear hxy ha
        go_wp2
        go_quiet (fail)
        have HB := Lib.hid (HA.out.next (below_drawn' (Below.refl _ _) nq))
        go_wp2
        go_roundw
        case rel => exact ⟨q + 1, by omega, by go_num, HB⟩
        case measure => simp [intOf]; omega
    · obtain rfl : q = s.w.n := by omega
      have i2 : decide ((s.w.n : Int) < s.w.n) = false := by simp
      have i3 : decide (s.w.n < s.w.n) = false := by simp
      go_upto_region 14 with fail
      clear q0 ql r0 rl i2 i3
      have q0 := (HA.out.at (b1) (t1) (e1) (by simp)).c0
      have q1 := (HA.out.at (b1) (t1) (e1) (by simp)).c1
      have q2 := (HA.out.at (b1) (t1) (e1) (by simp)).c2
      have q3 := (HA.out.at (b1) (t1) (e1) (by simp)).c3
      have q4 := (HA.out.at (b1) (t1) (e1) (by simp)).c4
      have q5 := (HA.out.at (b1) (t1) (e1) (by simp)).c5
      have ql := (HA.out.at (b1) (t1) (e1) (by simp)).lt
      have p0 := (HA.out.cat (b1 + 1) (kw k v1 o1) (x1) (by simp)).c0
      have p1 := (HA.out.cat (b1 + 1) (kw k v1 o1) (x1) (by simp)).c1
      have p2 := (HA.out.cat (b1 + 1) (kw k v1 o1) (x1) (by simp)).c2
      have p3 := (HA.out.cat (b1 + 1) (kw k v1 o1) (x1) (by simp)).c3
      have p4 := (HA.out.cat (b1 + 1) (kw k v1 o1) (x1) (by simp)).c4
      have p5 := (HA.out.cat (b1 + 1) (kw k v1 o1) (x1) (by simp)).c5
      have p6 := (HA.out.cat (b1 + 1) (kw k v1 o1) (x1) (by simp)).c6
      have p7 := (HA.out.cat (b1 + 1) (kw k v1 o1) (x1) (by simp)).c7
      have p8 := (HA.out.cat (b1 + 1) (kw k v1 o1) (x1) (by simp)).c8
      have p9 := (HA.out.cat (b1 + 1) (kw k v1 o1) (x1) (by simp)).c9
      have pl := (HA.out.cat (b1 + 1) (kw k v1 o1) (x1) (by simp)).lt
      dsimp only [kw] at p0 p1 p2 p3 p4 p5 p6 p7 p8 p9
      go_wp2_with fail
      have hC9 := (show Calls Tryd.prog 10 #[(.agg #[.slice t1.w.a t1.w.n t1.w.c, .slice t1.p.a t1.p.n t1.p.c, .slice (t1.u 0).a (t1.u 0).n (t1.u 0).c, .slice (t1.u 1).a (t1.u 1).n (t1.u 1).c, .slice (t1.u 2).a (t1.u 2).n (t1.u 2).c, .slice t1.c.a t1.c.n t1.c.c]), (.agg #[.int .i64 k.ph, .int .i64 k.ep, .bool k.mj, .slice v1.a v1.n v1.c, .bool o1, .int .i64 k.pa, .int .i64 k.pf, .int .i64 k.ps, .int .i64 k.pc, .bool k.me]), .int .i64 a] wr (ShOut wr t1 k e1 o1 x1) by
        have h9 := shade_any t1 e1 (kw k v1 o1) x1 a wr (by have h1 := XL.out; have h2 := HX.out; have h3 := HXX.out; omega) (HA.out.hp (b1) (t1) (e1) (by simp)) (HA.out.wr (b1 + 1) (kw k v1 o1) (x1) (by simp)) (HZ.out.over HA.out.bel hz0) ((KN.out t1 TL1.out).fine FI.out)
        rw [show isC t1 e1 (kw k v1 o1).mj (kw k v1 o1).ep a 1 = false from WNX.out t1 TL1.out, show shD t1 e1 (kw k v1 o1).mj (kw k v1 o1).ep a = e1 from if_neg (by rw [show isC t1 e1 (kw k v1 o1).mj (kw k v1 o1).ep a 1 = false from WNX.out t1 TL1.out]; decide), show shX false x1 a = x1 from if_neg (by simp), show shO false x1 (kw k v1 o1).ov = o1 by simp [shO, kw]] at h9
        exact h9)
      refine hC9.mono ?_
      rintro e9 w9 ⟨t2, v2, rfl, hp9, hl9, _, ha9⟩
      have TL2 := Lib.hid hl9
      have AP := Lib.hid (And.intro ha9 hp9)
      clear hp9 hl9 ha9 hC9
      clear q0 q1 q2 q3 q4 q5 ql
      clear p0 p1 p2 p3 p4 p5 p6 p7 p8 p9 pl
      go_upto_region 15 with fail
      obtain ⟨Wb, hW⟩ : ∃ W, W = (w9.alloc (.cells #[.slice t2.w.a t2.w.n t2.w.c, .slice t2.p.a t2.p.n t2.p.c, .slice (t2.u 0).a (t2.u 0).n (t2.u 0).c, .slice (t2.u 1).a (t2.u 1).n (t2.u 1).c, .slice (t2.u 2).a (t2.u 2).n (t2.u 2).c, .slice t2.c.a t2.c.n t2.c.c] 28)).alloc (.cells #[.int .i64 k.ph, .int .i64 k.ep, .bool k.mj, .slice v2.a v2.n v2.c, .bool o1, .int .i64 k.pa, .int .i64 k.pf, .int .i64 k.ps, .int .i64 k.pc, .bool k.me] 30) := ⟨_, rfl⟩
      obtain ⟨b2, hb⟩ : ∃ b, b = w9.heap.size := ⟨_, rfl⟩
      have LB := Lib.hid (HA.out.addSh AP.out.1 AP.out.2 hW)
      rw [← hb] at LB
      rw [← hW, ← hb]
      clear hW hb AP HA
      have q0 := (LB.out.at (b1) (t1) (e1) (by simp)).c0
      have q1 := (LB.out.at (b1) (t1) (e1) (by simp)).c1
      have q2 := (LB.out.at (b1) (t1) (e1) (by simp)).c2
      have q3 := (LB.out.at (b1) (t1) (e1) (by simp)).c3
      have q4 := (LB.out.at (b1) (t1) (e1) (by simp)).c4
      have q5 := (LB.out.at (b1) (t1) (e1) (by simp)).c5
      have ql := (LB.out.at (b1) (t1) (e1) (by simp)).lt
      go_wp2_with fail
      have hC9 := pmay0_any t1 e1 Wb (LB.out.hp (b1) (t1) (e1) (by simp)) (HZ.out.over LB.out.bel hz0) ((KN.out t1 TL1.out).fine FI.out)
      rw [(KN.out t1 TL1.out).may, HM.out] at hC9
      refine hC9.mono ?_
      rintro e9 wc ⟨rfl, hb9⟩
      have LC := Lib.hid (LB.out.next hb9)
      clear hb9 hC9 LB
      clear q0 q1 q2 q3 q4 q5 ql
      have q0 := (LC.out.at (b2) (t2) (e1) (by simp)).c0
      have q1 := (LC.out.at (b2) (t2) (e1) (by simp)).c1
      have q2 := (LC.out.at (b2) (t2) (e1) (by simp)).c2
      have q3 := (LC.out.at (b2) (t2) (e1) (by simp)).c3
      have q4 := (LC.out.at (b2) (t2) (e1) (by simp)).c4
      have q5 := (LC.out.at (b2) (t2) (e1) (by simp)).c5
      have ql := (LC.out.at (b2) (t2) (e1) (by simp)).lt
      have r0 := (LC.out.at (b1) (t1) (e1) (by simp)).c0
      have r1 := (LC.out.at (b1) (t1) (e1) (by simp)).c1
      have r2 := (LC.out.at (b1) (t1) (e1) (by simp)).c2
      have r3 := (LC.out.at (b1) (t1) (e1) (by simp)).c3
      have r4 := (LC.out.at (b1) (t1) (e1) (by simp)).c4
      have r5 := (LC.out.at (b1) (t1) (e1) (by simp)).c5
      have rl := (LC.out.at (b1) (t1) (e1) (by simp)).lt
      go_wp2_with fail
      have hC9 := hsame_yes t2 t1 e1 wc TL2.out (LC.out.hp (b1) (t1) (e1) (by simp)) (LC.out.hp (b2) (t2) (e1) (by simp)) ((KN.out t1 TL1.out).fine FI.out)
      refine hC9.mono ?_
      rintro e9 wd ⟨rfl, hb9⟩
      have LD := Lib.hid (LC.out.next hb9)
      clear hb9 hC9 LC
      clear q0 q1 q2 q3 q4 q5 ql
      clear r0 r1 r2 r3 r4 r5 rl
      have p0 := (LD.out.cat (b2 + 1) (kw k v2 o1) (x1) (by simp)).c0
      have p1 := (LD.out.cat (b2 + 1) (kw k v2 o1) (x1) (by simp)).c1
      have p2 := (LD.out.cat (b2 + 1) (kw k v2 o1) (x1) (by simp)).c2
      have p3 := (LD.out.cat (b2 + 1) (kw k v2 o1) (x1) (by simp)).c3
      have p4 := (LD.out.cat (b2 + 1) (kw k v2 o1) (x1) (by simp)).c4
      have p5 := (LD.out.cat (b2 + 1) (kw k v2 o1) (x1) (by simp)).c5
      have p6 := (LD.out.cat (b2 + 1) (kw k v2 o1) (x1) (by simp)).c6
      have p7 := (LD.out.cat (b2 + 1) (kw k v2 o1) (x1) (by simp)).c7
      have p8 := (LD.out.cat (b2 + 1) (kw k v2 o1) (x1) (by simp)).c8
      have p9 := (LD.out.cat (b2 + 1) (kw k v2 o1) (x1) (by simp)).c9
      have pl := (LD.out.cat (b2 + 1) (kw k v2 o1) (x1) (by simp)).lt
      dsimp only [kw] at p0 p1 p2 p3 p4 p5 p6 p7 p8 p9
      have z0 := (LD.out.cat (b1 + 1) (kw k v1 o1) (x1) (by simp)).c0
      have z1 := (LD.out.cat (b1 + 1) (kw k v1 o1) (x1) (by simp)).c1
      have z2 := (LD.out.cat (b1 + 1) (kw k v1 o1) (x1) (by simp)).c2
      have z3 := (LD.out.cat (b1 + 1) (kw k v1 o1) (x1) (by simp)).c3
      have z4 := (LD.out.cat (b1 + 1) (kw k v1 o1) (x1) (by simp)).c4
      have z5 := (LD.out.cat (b1 + 1) (kw k v1 o1) (x1) (by simp)).c5
      have z6 := (LD.out.cat (b1 + 1) (kw k v1 o1) (x1) (by simp)).c6
      have z7 := (LD.out.cat (b1 + 1) (kw k v1 o1) (x1) (by simp)).c7
      have z8 := (LD.out.cat (b1 + 1) (kw k v1 o1) (x1) (by simp)).c8
      have z9 := (LD.out.cat (b1 + 1) (kw k v1 o1) (x1) (by simp)).c9
      have zl := (LD.out.cat (b1 + 1) (kw k v1 o1) (x1) (by simp)).lt
      dsimp only [kw] at z0 z1 z2 z3 z4 z5 z6 z7 z8 z9
      go_wp2_with fail
      have hC9 := ksame_yes k v2 v1 o1 x1 wd (LD.out.wr (b2 + 1) (kw k v2 o1) (x1) (by simp)) (LD.out.wr (b1 + 1) (kw k v1 o1) (x1) (by simp)) (by have h1 := XL.out; have h2 := HX.out; have h3 := HXX.out; omega)
      refine hC9.mono ?_
      rintro e9 we ⟨rfl, hb9⟩
      have LE := Lib.hid (LD.out.next hb9)
      clear hb9 hC9 LD
      clear p0 p1 p2 p3 p4 p5 p6 p7 p8 p9 pl
      clear z0 z1 z2 z3 z4 z5 z6 z7 z8 z9 zl
      go_wp2
      go_ret
      exact ⟨rfl, LE.out.bel⟩
set_option maxHeartbeats 16000000 in
theorem core_11 (hl1 : listB s d k.mj k.ep k.ov xs = true) (ho : k.ov = true) (hm : mayB0 s d = true) (hxl : xs.length ≤ 100) (hwn : s.w.n ≤ 130) (hfi : Fine s d) (hlen : d.ws.length = s.w.n) (hf : fewK s k = true) (hz : Cl.Sz w) (hp : Hp w w.heap.size s d) (hk : WRow w w.heap.size k xs) : Calls Tryd.prog 3 #[(.agg #[.slice s.w.a s.w.n s.w.c, .slice s.p.a s.p.n s.p.c, .slice (s.u 0).a (s.u 0).n (s.u 0).c, .slice (s.u 1).a (s.u 1).n (s.u 1).c, .slice (s.u 2).a (s.u 2).n (s.u 2).c, .slice s.c.a s.c.n s.c.c]), (.agg #[.int .i64 k.ph, .int .i64 k.ep, .bool k.mj, .slice k.wk.a k.wk.n k.wk.c, .bool k.ov, .int .i64 k.pa, .int .i64 k.pf, .int .i64 k.ps, .int .i64 k.pc, .bool k.me]), .int .i64 a] w fun e w' => e = .returned (.bool true) ∧ Below w.heap.size w w' := by
  have HZ := Lib.hid hz
  have hz0 := hz.pos
  have HP := Lib.hid hp
  have HK := Lib.hid hk
  have HF := Lib.hid hf
  have HM := Lib.hid hm
  have FI := Lib.hid hfi
  have HO := Lib.hid ho
  have HL1 := Lib.hid hl1
  have HL := Lib.hid hlen
  have HX := Lib.hid (show xs.length ≤ 1000000 by omega)
  have HXX := Lib.hid hxl
  have HKN := Lib.hid hk.len
  obtain ⟨c, hc⟩ : ∃ c, c = isC s d k.mj k.ep a 1 := ⟨_, rfl⟩
  obtain ⟨e1, he1⟩ : ∃ e, e = shD s d k.mj k.ep a := ⟨_, rfl⟩
  obtain ⟨o1, ho1⟩ : ∃ o, o = shO c xs k.ov := ⟨_, rfl⟩
  obtain ⟨x1, hx1⟩ : ∃ x, x = shX c xs a := ⟨_, rfl⟩
  have HC := Lib.hid hc.symm
  have E1 := Lib.hid he1.symm
  have O1 := Lib.hid ho1.symm
  have X1 := Lib.hid hx1.symm
  have XL := Lib.hid (show x1.length ≤ xs.length + 1 by rw [hx1]; exact (shX_len c xs a).1)
  have WD : Hid (∀ i : Nat, ¬ e1.ws.getD i 0 = d.ws.getD i 0 → c = true ∧ (i : Int) = a - 16) := Lib.hid fun i hne => Classical.byContradiction fun hh => hne (by rw [he1]; exact sh_word (by rw [← hc]; exact hh))
  have OV : Hid (o1 = true) := Lib.hid (by rw [ho1]; unfold shO; rw [ho]; rfl)
  have KN : Hid (∀ t, Lens s t → Kin s t d e1) := Lib.hid fun t ht => by rw [he1]; exact kin_sh ht hlen k.mj k.ep a
  have WNX : Hid (∀ t, Lens s t → isC t e1 k.mj k.ep a 1 = false) := Lib.hid fun t ht => by rw [he1]; exact sh_white ht hlen
  have L2X : Hid (∀ t, Lens s t → listB t e1 k.mj k.ep o1 x1 = true) := Lib.hid fun t ht => by rw [he1, ho1, hx1, hc]; exact list_sh ht hlen hl1
  clear hc he1 ho1 hx1
  clear hz hp hk hf hm hfi ho hl1 hlen hxl
  go_enter Tryd.func3, Tryd.ntmps3
  go_wp2_with fail
  obtain ⟨W1, hW1⟩ : ∃ W1, W1 = (w.alloc (.cells #[.slice s.w.a s.w.n s.w.c, .slice s.p.a s.p.n s.p.c, .slice (s.u 0).a (s.u 0).n (s.u 0).c, .slice (s.u 1).a (s.u 1).n (s.u 1).c, .slice (s.u 2).a (s.u 2).n (s.u 2).c, .slice s.c.a s.c.n s.c.c] 28)).alloc (.cells #[.int .i64 k.ph, .int .i64 k.ep, .bool k.mj, .slice k.wk.a k.wk.n k.wk.c, .bool k.ov, .int .i64 k.pa, .int .i64 k.pf, .int .i64 k.ps, .int .i64 k.pc, .bool k.me] 30) := ⟨_, rfl⟩
  have L1 := Lib.hid (lk_start HP.out HK.out hW1)
  rw [← hW1]
  clear hW1
  refine (Sh.awake_any W1 (HZ.out.over L1.out.bel hz0)).mono ?_
  rintro e9 w1 ⟨rfl, hb1⟩
  have L2 := Lib.hid (L1.out.next hb1)
  clear hb1 L1
  have q0 := (L2.out.at (w.heap.size) (s) (d) (by simp)).c0
  have q1 := (L2.out.at (w.heap.size) (s) (d) (by simp)).c1
  have q2 := (L2.out.at (w.heap.size) (s) (d) (by simp)).c2
  have q3 := (L2.out.at (w.heap.size) (s) (d) (by simp)).c3
  have q4 := (L2.out.at (w.heap.size) (s) (d) (by simp)).c4
  have q5 := (L2.out.at (w.heap.size) (s) (d) (by simp)).c5
  have ql := (L2.out.at (w.heap.size) (s) (d) (by simp)).lt
  have p0 := (L2.out.cat (w.heap.size + 1) (k) (xs) (by simp)).c0
  have p1 := (L2.out.cat (w.heap.size + 1) (k) (xs) (by simp)).c1
  have p2 := (L2.out.cat (w.heap.size + 1) (k) (xs) (by simp)).c2
  have p3 := (L2.out.cat (w.heap.size + 1) (k) (xs) (by simp)).c3
  have p4 := (L2.out.cat (w.heap.size + 1) (k) (xs) (by simp)).c4
  have p5 := (L2.out.cat (w.heap.size + 1) (k) (xs) (by simp)).c5
  have p6 := (L2.out.cat (w.heap.size + 1) (k) (xs) (by simp)).c6
  have p7 := (L2.out.cat (w.heap.size + 1) (k) (xs) (by simp)).c7
  have p8 := (L2.out.cat (w.heap.size + 1) (k) (xs) (by simp)).c8
  have p9 := (L2.out.cat (w.heap.size + 1) (k) (xs) (by simp)).c9
  have pl := (L2.out.cat (w.heap.size + 1) (k) (xs) (by simp)).lt
  go_wp2_with fail
  refine (few_any s k w1).mono ?_
  rw [HF.out]
  rintro e9 w2 ⟨rfl, hb2⟩
  have L3 := Lib.hid (L2.out.next hb2)
  clear hb2 L2
  clear q0 q1 q2 q3 q4 q5 ql
  clear p0 p1 p2 p3 p4 p5 p6 p7 p8 p9 pl
  have q0 := (L3.out.at (w.heap.size) (s) (d) (by simp)).c0
  have q1 := (L3.out.at (w.heap.size) (s) (d) (by simp)).c1
  have q2 := (L3.out.at (w.heap.size) (s) (d) (by simp)).c2
  have q3 := (L3.out.at (w.heap.size) (s) (d) (by simp)).c3
  have q4 := (L3.out.at (w.heap.size) (s) (d) (by simp)).c4
  have q5 := (L3.out.at (w.heap.size) (s) (d) (by simp)).c5
  have ql := (L3.out.at (w.heap.size) (s) (d) (by simp)).lt
  go_wp2_with fail
  have hC9 := pmay0_any s d w2 (L3.out.hp (w.heap.size) (s) (d) (by simp)) (HZ.out.over L3.out.bel hz0) FI.out
  rw [HM.out] at hC9
  refine hC9.mono ?_
  rintro e9 w4 ⟨rfl, hb9⟩
  have L4 := Lib.hid (L3.out.next hb9)
  clear hb9 hC9 L3
  clear q0 q1 q2 q3 q4 q5 ql
  have q0 := (L4.out.at (w.heap.size) (s) (d) (by simp)).c0
  have q1 := (L4.out.at (w.heap.size) (s) (d) (by simp)).c1
  have q2 := (L4.out.at (w.heap.size) (s) (d) (by simp)).c2
  have q3 := (L4.out.at (w.heap.size) (s) (d) (by simp)).c3
  have q4 := (L4.out.at (w.heap.size) (s) (d) (by simp)).c4
  have q5 := (L4.out.at (w.heap.size) (s) (d) (by simp)).c5
  have ql := (L4.out.at (w.heap.size) (s) (d) (by simp)).lt
  have p0 := (L4.out.cat (w.heap.size + 1) (k) (xs) (by simp)).c0
  have p1 := (L4.out.cat (w.heap.size + 1) (k) (xs) (by simp)).c1
  have p2 := (L4.out.cat (w.heap.size + 1) (k) (xs) (by simp)).c2
  have p3 := (L4.out.cat (w.heap.size + 1) (k) (xs) (by simp)).c3
  have p4 := (L4.out.cat (w.heap.size + 1) (k) (xs) (by simp)).c4
  have p5 := (L4.out.cat (w.heap.size + 1) (k) (xs) (by simp)).c5
  have p6 := (L4.out.cat (w.heap.size + 1) (k) (xs) (by simp)).c6
  have p7 := (L4.out.cat (w.heap.size + 1) (k) (xs) (by simp)).c7
  have p8 := (L4.out.cat (w.heap.size + 1) (k) (xs) (by simp)).c8
  have p9 := (L4.out.cat (w.heap.size + 1) (k) (xs) (by simp)).c9
  have pl := (L4.out.cat (w.heap.size + 1) (k) (xs) (by simp)).lt
  go_wp2_with fail
  have hC9 := shade_any s d k xs a w4 HX.out (L4.out.hp (w.heap.size) (s) (d) (by simp)) (L4.out.wr (w.heap.size + 1) (k) (xs) (by simp)) (HZ.out.over L4.out.bel hz0) FI.out
  rw [HC.out, E1.out, O1.out, X1.out] at hC9
  refine hC9.mono ?_
  rintro e9 w9 ⟨t1, v1, rfl, hp9, hl9, _, ha9⟩
  have TL1 := Lib.hid hl9
  have AP := Lib.hid (And.intro ha9 hp9)
  clear hp9 hl9 ha9 hC9
  clear q0 q1 q2 q3 q4 q5 ql
  clear p0 p1 p2 p3 p4 p5 p6 p7 p8 p9 pl
  go_upto_region 6 with fail
  obtain ⟨W5, hW⟩ : ∃ W, W = (w9.alloc (.cells #[.slice t1.w.a t1.w.n t1.w.c, .slice t1.p.a t1.p.n t1.p.c, .slice (t1.u 0).a (t1.u 0).n (t1.u 0).c, .slice (t1.u 1).a (t1.u 1).n (t1.u 1).c, .slice (t1.u 2).a (t1.u 2).n (t1.u 2).c, .slice t1.c.a t1.c.n t1.c.c] 28)).alloc (.cells #[.int .i64 k.ph, .int .i64 k.ep, .bool k.mj, .slice v1.a v1.n v1.c, .bool o1, .int .i64 k.pa, .int .i64 k.pf, .int .i64 k.ps, .int .i64 k.pc, .bool k.me] 30) := ⟨_, rfl⟩
  obtain ⟨b1, hb⟩ : ∃ b, b = w9.heap.size := ⟨_, rfl⟩
  have L5 := Lib.hid (L4.out.addSh AP.out.1 AP.out.2 hW)
  rw [← hb] at L5
  rw [← hW, ← hb]
  clear hW hb AP L4
  have q0 := (L5.out.at (b1) (t1) (e1) (by simp)).c0
  have q1 := (L5.out.at (b1) (t1) (e1) (by simp)).c1
  have q2 := (L5.out.at (b1) (t1) (e1) (by simp)).c2
  have q3 := (L5.out.at (b1) (t1) (e1) (by simp)).c3
  have q4 := (L5.out.at (b1) (t1) (e1) (by simp)).c4
  have q5 := (L5.out.at (b1) (t1) (e1) (by simp)).c5
  have ql := (L5.out.at (b1) (t1) (e1) (by simp)).lt
  have r0 := (L5.out.at (w.heap.size) (s) (d) (by simp)).c0
  have r1 := (L5.out.at (w.heap.size) (s) (d) (by simp)).c1
  have r2 := (L5.out.at (w.heap.size) (s) (d) (by simp)).c2
  have r3 := (L5.out.at (w.heap.size) (s) (d) (by simp)).c3
  have r4 := (L5.out.at (w.heap.size) (s) (d) (by simp)).c4
  have r5 := (L5.out.at (w.heap.size) (s) (d) (by simp)).c5
  have rl := (L5.out.at (w.heap.size) (s) (d) (by simp)).lt
  have p0 := (L5.out.cat (b1 + 1) (kw k v1 o1) (x1) (by simp)).c0
  have p1 := (L5.out.cat (b1 + 1) (kw k v1 o1) (x1) (by simp)).c1
  have p2 := (L5.out.cat (b1 + 1) (kw k v1 o1) (x1) (by simp)).c2
  have p3 := (L5.out.cat (b1 + 1) (kw k v1 o1) (x1) (by simp)).c3
  have p4 := (L5.out.cat (b1 + 1) (kw k v1 o1) (x1) (by simp)).c4
  have p5 := (L5.out.cat (b1 + 1) (kw k v1 o1) (x1) (by simp)).c5
  have p6 := (L5.out.cat (b1 + 1) (kw k v1 o1) (x1) (by simp)).c6
  have p7 := (L5.out.cat (b1 + 1) (kw k v1 o1) (x1) (by simp)).c7
  have p8 := (L5.out.cat (b1 + 1) (kw k v1 o1) (x1) (by simp)).c8
  have p9 := (L5.out.cat (b1 + 1) (kw k v1 o1) (x1) (by simp)).c9
  have pl := (L5.out.cat (b1 + 1) (kw k v1 o1) (x1) (by simp)).lt
  dsimp only [kw] at p0 p1 p2 p3 p4 p5 p6 p7 p8 p9
  have tw : t1.w.n = s.w.n := TL1.out.1
  have dn : ((t1.w.n : Int) != (s.w.n : Int)) = false := by simp [tw]
  have dn2 : (t1.w.n != s.w.n) = false := by simp [tw]
  clear tw
  go_wp2_with fail
  have hC9 := white_any t1 e1 (kw k v1 o1) x1 a W5 (L5.out.hp (b1) (t1) (e1) (by simp)) (L5.out.wr (b1 + 1) (kw k v1 o1) (x1) (by simp)) (HZ.out.over L5.out.bel hz0) ((KN.out t1 TL1.out).fine FI.out)
  rw [show isC t1 e1 (kw k v1 o1).mj (kw k v1 o1).ep a 1 = false from WNX.out t1 TL1.out] at hC9
  refine hC9.mono ?_
  rintro e9 w6 ⟨rfl, hb9⟩
  have L6 := Lib.hid (L5.out.next hb9)
  clear hb9 hC9 L5
  clear q0 q1 q2 q3 q4 q5 ql
  clear r0 r1 r2 r3 r4 r5 rl
  clear p0 p1 p2 p3 p4 p5 p6 p7 p8 p9 pl
  clear dn dn2
  have q0 := (L6.out.at (w.heap.size) (s) (d) (by simp)).c0
  have q1 := (L6.out.at (w.heap.size) (s) (d) (by simp)).c1
  have q2 := (L6.out.at (w.heap.size) (s) (d) (by simp)).c2
  have q3 := (L6.out.at (w.heap.size) (s) (d) (by simp)).c3
  have q4 := (L6.out.at (w.heap.size) (s) (d) (by simp)).c4
  have q5 := (L6.out.at (w.heap.size) (s) (d) (by simp)).c5
  have ql := (L6.out.at (w.heap.size) (s) (d) (by simp)).lt
  have p0 := (L6.out.cat (w.heap.size + 1) (k) (xs) (by simp)).c0
  have p1 := (L6.out.cat (w.heap.size + 1) (k) (xs) (by simp)).c1
  have p2 := (L6.out.cat (w.heap.size + 1) (k) (xs) (by simp)).c2
  have p3 := (L6.out.cat (w.heap.size + 1) (k) (xs) (by simp)).c3
  have p4 := (L6.out.cat (w.heap.size + 1) (k) (xs) (by simp)).c4
  have p5 := (L6.out.cat (w.heap.size + 1) (k) (xs) (by simp)).c5
  have p6 := (L6.out.cat (w.heap.size + 1) (k) (xs) (by simp)).c6
  have p7 := (L6.out.cat (w.heap.size + 1) (k) (xs) (by simp)).c7
  have p8 := (L6.out.cat (w.heap.size + 1) (k) (xs) (by simp)).c8
  have p9 := (L6.out.cat (w.heap.size + 1) (k) (xs) (by simp)).c9
  have pl := (L6.out.cat (w.heap.size + 1) (k) (xs) (by simp)).lt
  go_wp2_with fail
  have hC9 := listed_any s d k xs w6 (L6.out.hp (w.heap.size) (s) (d) (by simp)) (L6.out.wr (w.heap.size + 1) (k) (xs) (by simp)) (HZ.out.over L6.out.bel hz0) FI.out HX.out
  rw [HL1.out] at hC9
  refine hC9.mono ?_
  rintro e9 w7 ⟨rfl, hb9⟩
  have L7 := Lib.hid (L6.out.next hb9)
  clear hb9 hC9 L6
  clear q0 q1 q2 q3 q4 q5 ql
  clear p0 p1 p2 p3 p4 p5 p6 p7 p8 p9 pl
  have q0 := (L7.out.at (b1) (t1) (e1) (by simp)).c0
  have q1 := (L7.out.at (b1) (t1) (e1) (by simp)).c1
  have q2 := (L7.out.at (b1) (t1) (e1) (by simp)).c2
  have q3 := (L7.out.at (b1) (t1) (e1) (by simp)).c3
  have q4 := (L7.out.at (b1) (t1) (e1) (by simp)).c4
  have q5 := (L7.out.at (b1) (t1) (e1) (by simp)).c5
  have ql := (L7.out.at (b1) (t1) (e1) (by simp)).lt
  have p0 := (L7.out.cat (b1 + 1) (kw k v1 o1) (x1) (by simp)).c0
  have p1 := (L7.out.cat (b1 + 1) (kw k v1 o1) (x1) (by simp)).c1
  have p2 := (L7.out.cat (b1 + 1) (kw k v1 o1) (x1) (by simp)).c2
  have p3 := (L7.out.cat (b1 + 1) (kw k v1 o1) (x1) (by simp)).c3
  have p4 := (L7.out.cat (b1 + 1) (kw k v1 o1) (x1) (by simp)).c4
  have p5 := (L7.out.cat (b1 + 1) (kw k v1 o1) (x1) (by simp)).c5
  have p6 := (L7.out.cat (b1 + 1) (kw k v1 o1) (x1) (by simp)).c6
  have p7 := (L7.out.cat (b1 + 1) (kw k v1 o1) (x1) (by simp)).c7
  have p8 := (L7.out.cat (b1 + 1) (kw k v1 o1) (x1) (by simp)).c8
  have p9 := (L7.out.cat (b1 + 1) (kw k v1 o1) (x1) (by simp)).c9
  have pl := (L7.out.cat (b1 + 1) (kw k v1 o1) (x1) (by simp)).lt
  dsimp only [kw] at p0 p1 p2 p3 p4 p5 p6 p7 p8 p9
  go_wp2_with fail
  have hC9 := listed_any t1 e1 (kw k v1 o1) x1 w7 (L7.out.hp (b1) (t1) (e1) (by simp)) (L7.out.wr (b1 + 1) (kw k v1 o1) (x1) (by simp)) (HZ.out.over L7.out.bel hz0) ((KN.out t1 TL1.out).fine FI.out) (by have h1 := XL.out; have h2 := HX.out; have h3 := HXX.out; omega)
  rw [show listB t1 e1 (kw k v1 o1).mj (kw k v1 o1).ep (kw k v1 o1).ov x1 = true from L2X.out t1 TL1.out] at hC9
  refine hC9.mono ?_
  rintro e9 w8 ⟨rfl, hb9⟩
  have L8 := Lib.hid (L7.out.next hb9)
  clear hb9 hC9 L7
  clear q0 q1 q2 q3 q4 q5 ql
  clear p0 p1 p2 p3 p4 p5 p6 p7 p8 p9 pl
  have p0 := (L8.out.cat (b1 + 1) (kw k v1 o1) (x1) (by simp)).c0
  have p1 := (L8.out.cat (b1 + 1) (kw k v1 o1) (x1) (by simp)).c1
  have p2 := (L8.out.cat (b1 + 1) (kw k v1 o1) (x1) (by simp)).c2
  have p3 := (L8.out.cat (b1 + 1) (kw k v1 o1) (x1) (by simp)).c3
  have p4 := (L8.out.cat (b1 + 1) (kw k v1 o1) (x1) (by simp)).c4
  have p5 := (L8.out.cat (b1 + 1) (kw k v1 o1) (x1) (by simp)).c5
  have p6 := (L8.out.cat (b1 + 1) (kw k v1 o1) (x1) (by simp)).c6
  have p7 := (L8.out.cat (b1 + 1) (kw k v1 o1) (x1) (by simp)).c7
  have p8 := (L8.out.cat (b1 + 1) (kw k v1 o1) (x1) (by simp)).c8
  have p9 := (L8.out.cat (b1 + 1) (kw k v1 o1) (x1) (by simp)).c9
  have pl := (L8.out.cat (b1 + 1) (kw k v1 o1) (x1) (by simp)).lt
  dsimp only [kw] at p0 p1 p2 p3 p4 p5 p6 p7 p8 p9
  have z0 := (L8.out.cat (w.heap.size + 1) (k) (xs) (by simp)).c0
  have z1 := (L8.out.cat (w.heap.size + 1) (k) (xs) (by simp)).c1
  have z2 := (L8.out.cat (w.heap.size + 1) (k) (xs) (by simp)).c2
  have z3 := (L8.out.cat (w.heap.size + 1) (k) (xs) (by simp)).c3
  have z4 := (L8.out.cat (w.heap.size + 1) (k) (xs) (by simp)).c4
  have z5 := (L8.out.cat (w.heap.size + 1) (k) (xs) (by simp)).c5
  have z6 := (L8.out.cat (w.heap.size + 1) (k) (xs) (by simp)).c6
  have z7 := (L8.out.cat (w.heap.size + 1) (k) (xs) (by simp)).c7
  have z8 := (L8.out.cat (w.heap.size + 1) (k) (xs) (by simp)).c8
  have z9 := (L8.out.cat (w.heap.size + 1) (k) (xs) (by simp)).c9
  have zl := (L8.out.cat (w.heap.size + 1) (k) (xs) (by simp)).lt
  have hv1 := (L8.out.wr (b1 + 1) (kw k v1 o1) x1 (by simp)).len
  have hv2 := (L8.out.wr (w.heap.size + 1) k xs (by simp)).len
  rw [HO.out] at z4
  rw [OV.out] at p4
  have hvv : v1.n ≤ k.wk.n + 1 := by have h1 := XL.out; simp only [kw] at hv1; omega
  have hvb : k.wk.n ≤ 1000000 := by have h1 := HX.out; omega
  have dg : decide ((k.wk.n : Int) + 1 < v1.n) = false := decide_eq_false (by omega)
  have dg2 : decide (k.wk.n + 1 < v1.n) = false := decide_eq_false (by omega)
  clear hv1 hv2 hvv
  go_upto_region 8 with fail
  clear p0 p1 p2 p3 p4 p5 p6 p7 p8 p9 pl
  clear z0 z1 z2 z3 z4 z5 z6 z7 z8 z9 zl
  clear dg dg2 hvb
  have q0 := (L8.out.at (w.heap.size) (s) (d) (by simp)).c0
  have q1 := (L8.out.at (w.heap.size) (s) (d) (by simp)).c1
  have q2 := (L8.out.at (w.heap.size) (s) (d) (by simp)).c2
  have q3 := (L8.out.at (w.heap.size) (s) (d) (by simp)).c3
  have q4 := (L8.out.at (w.heap.size) (s) (d) (by simp)).c4
  have q5 := (L8.out.at (w.heap.size) (s) (d) (by simp)).c5
  have ql := (L8.out.at (w.heap.size) (s) (d) (by simp)).lt
  have p0 := (L8.out.cat (w.heap.size + 1) (k) (xs) (by simp)).c0
  have p1 := (L8.out.cat (w.heap.size + 1) (k) (xs) (by simp)).c1
  have p2 := (L8.out.cat (w.heap.size + 1) (k) (xs) (by simp)).c2
  have p3 := (L8.out.cat (w.heap.size + 1) (k) (xs) (by simp)).c3
  have p4 := (L8.out.cat (w.heap.size + 1) (k) (xs) (by simp)).c4
  have p5 := (L8.out.cat (w.heap.size + 1) (k) (xs) (by simp)).c5
  have p6 := (L8.out.cat (w.heap.size + 1) (k) (xs) (by simp)).c6
  have p7 := (L8.out.cat (w.heap.size + 1) (k) (xs) (by simp)).c7
  have p8 := (L8.out.cat (w.heap.size + 1) (k) (xs) (by simp)).c8
  have p9 := (L8.out.cat (w.heap.size + 1) (k) (xs) (by simp)).c9
  have pl := (L8.out.cat (w.heap.size + 1) (k) (xs) (by simp)).lt
  go_wp2_with fail
  have hC9 := white_any s d k xs a _ (L8.out.hp (w.heap.size) (s) (d) (by simp)) (L8.out.wr (w.heap.size + 1) (k) (xs) (by simp)) (HZ.out.over L8.out.bel hz0) FI.out
  rw [HC.out] at hC9
  refine hC9.mono ?_
  rintro e9 wa ⟨rfl, hb9⟩
  have LA := Lib.hid (L8.out.next hb9)
  clear hb9 hC9 L8
  clear q0 q1 q2 q3 q4 q5 ql
  clear p0 p1 p2 p3 p4 p5 p6 p7 p8 p9 pl
  go_upto_region 10 with fail
  go_loopw [12] (fun i wr => ∃ q : Nat, q ≤ s.w.n ∧ i = .int .i64 q ∧ Hid (Lk w wr [(b1, t1, e1), (w.heap.size, s, d)] [(b1 + 1, kw k v1 o1, x1), (w.heap.size + 1, k, xs)])) (fun i _ => s.w.n - (intOf i).toNat)
  case atStart => exact ⟨0, Nat.zero_le _, rfl, LA⟩
  case round =>
    obtain ⟨q, hq, rfl, HA⟩ := hrel
    have q0 := (HA.out.at (w.heap.size) s d (by simp)).c0
    have ql := (HA.out.at (w.heap.size) s d (by simp)).lt
    have r0 := (HA.out.at b1 t1 e1 (by simp)).c0
    have rl := (HA.out.at b1 t1 e1 (by simp)).lt
    by_cases hlt : q < s.w.n
    · have i0 : (0 : Int) ≤ q := by omega
      have i1 : (q : Int) < s.w.n := by omega
      have i2 : decide ((q : Int) < s.w.n) = true := decide_eq_true i1
      have i3 : decide (q < s.w.n) = true := decide_eq_true hlt
      have i4 : (q : Int) < t1.w.n := by have := TL1.out.1; omega
      obtain ⟨x, hx⟩ : ∃ x, x = d.ws.getD q 0 := ⟨_, rfl⟩
      obtain ⟨y, hy⟩ : ∃ y, y = e1.ws.getD q 0 := ⟨_, rfl⟩
      obtain ⟨b', off', ea, hl1, hc1⟩ := (HA.out.hp (w.heap.size) s d (by simp)).words.2 (by omega)
      obtain ⟨b6, off6, ea6, hl2, hc2⟩ := (HA.out.hp b1 t1 e1 (by simp)).words.2 (by omega)
      have k1 := hc1 q hlt
      have k2 := hc2 q (by omega)
      rw [← hx] at k1
      rw [← hy] at k2
      rw [ea] at q0
      rw [ea6] at r0
      have HW := Lib.hid (WD.out q)
      rw [← hx, ← hy] at HW
      clear hx hy hc1 hc2 ea ea6
      by_cases hxy : y = x
      · have dxy : (y != x) = false := by simp [hxy]
        clear hxy
        go_wp2
        go_quiet (fail)
        have HB := Lib.hid (HA.out.next (below_drawn' (Below.refl _ _) nq))
        go_wp2
        go_roundw
        case rel => exact ⟨q + 1, by omega, by go_num, HB⟩
        case measure => simp [intOf]; omega
      · have dxy : (y != x) = true := by simp [hxy]
        obtain ⟨hct, ha⟩ := HW.out hxy
        subst hct
        have wa : IntKind.i64.wrap (a - 16) = a - 16 := by rw [← ha]; simp [IntKind.wrap, IntKind.signed, IntKind.bits]; omega
        have dq : ((q : Int) != a - 16) = false := by simp [ha]
        clear hxy ha
        go_wp2
        go_quiet (fail)
        have HB := Lib.hid (HA.out.next (below_drawn' (Below.refl _ _) nq))
        go_wp2
        go_roundw
        case rel => exact ⟨q + 1, by omega, by go_num, HB⟩
        case measure => simp [intOf]; omega
    · obtain rfl : q = s.w.n := by omega
      have i2 : decide ((s.w.n : Int) < s.w.n) = false := by simp
      have i3 : decide (s.w.n < s.w.n) = false := by simp
      go_upto_region 14 with fail
      clear q0 ql r0 rl i2 i3
      have q0 := (HA.out.at (b1) (t1) (e1) (by simp)).c0
      have q1 := (HA.out.at (b1) (t1) (e1) (by simp)).c1
      have q2 := (HA.out.at (b1) (t1) (e1) (by simp)).c2
      have q3 := (HA.out.at (b1) (t1) (e1) (by simp)).c3
      have q4 := (HA.out.at (b1) (t1) (e1) (by simp)).c4
      have q5 := (HA.out.at (b1) (t1) (e1) (by simp)).c5
      have ql := (HA.out.at (b1) (t1) (e1) (by simp)).lt
      have p0 := (HA.out.cat (b1 + 1) (kw k v1 o1) (x1) (by simp)).c0
      have p1 := (HA.out.cat (b1 + 1) (kw k v1 o1) (x1) (by simp)).c1
      have p2 := (HA.out.cat (b1 + 1) (kw k v1 o1) (x1) (by simp)).c2
      have p3 := (HA.out.cat (b1 + 1) (kw k v1 o1) (x1) (by simp)).c3
      have p4 := (HA.out.cat (b1 + 1) (kw k v1 o1) (x1) (by simp)).c4
      have p5 := (HA.out.cat (b1 + 1) (kw k v1 o1) (x1) (by simp)).c5
      have p6 := (HA.out.cat (b1 + 1) (kw k v1 o1) (x1) (by simp)).c6
      have p7 := (HA.out.cat (b1 + 1) (kw k v1 o1) (x1) (by simp)).c7
      have p8 := (HA.out.cat (b1 + 1) (kw k v1 o1) (x1) (by simp)).c8
      have p9 := (HA.out.cat (b1 + 1) (kw k v1 o1) (x1) (by simp)).c9
      have pl := (HA.out.cat (b1 + 1) (kw k v1 o1) (x1) (by simp)).lt
      dsimp only [kw] at p0 p1 p2 p3 p4 p5 p6 p7 p8 p9
      go_wp2_with fail
      have hC9 := (show Calls Tryd.prog 10 #[(.agg #[.slice t1.w.a t1.w.n t1.w.c, .slice t1.p.a t1.p.n t1.p.c, .slice (t1.u 0).a (t1.u 0).n (t1.u 0).c, .slice (t1.u 1).a (t1.u 1).n (t1.u 1).c, .slice (t1.u 2).a (t1.u 2).n (t1.u 2).c, .slice t1.c.a t1.c.n t1.c.c]), (.agg #[.int .i64 k.ph, .int .i64 k.ep, .bool k.mj, .slice v1.a v1.n v1.c, .bool o1, .int .i64 k.pa, .int .i64 k.pf, .int .i64 k.ps, .int .i64 k.pc, .bool k.me]), .int .i64 a] wr (ShOut wr t1 k e1 o1 x1) by
        have h9 := shade_any t1 e1 (kw k v1 o1) x1 a wr (by have h1 := XL.out; have h2 := HX.out; have h3 := HXX.out; omega) (HA.out.hp (b1) (t1) (e1) (by simp)) (HA.out.wr (b1 + 1) (kw k v1 o1) (x1) (by simp)) (HZ.out.over HA.out.bel hz0) ((KN.out t1 TL1.out).fine FI.out)
        rw [show isC t1 e1 (kw k v1 o1).mj (kw k v1 o1).ep a 1 = false from WNX.out t1 TL1.out, show shD t1 e1 (kw k v1 o1).mj (kw k v1 o1).ep a = e1 from if_neg (by rw [show isC t1 e1 (kw k v1 o1).mj (kw k v1 o1).ep a 1 = false from WNX.out t1 TL1.out]; decide), show shX false x1 a = x1 from if_neg (by simp), show shO false x1 (kw k v1 o1).ov = o1 by simp [shO, kw]] at h9
        exact h9)
      refine hC9.mono ?_
      rintro e9 w9 ⟨t2, v2, rfl, hp9, hl9, _, ha9⟩
      have TL2 := Lib.hid hl9
      have AP := Lib.hid (And.intro ha9 hp9)
      clear hp9 hl9 ha9 hC9
      clear q0 q1 q2 q3 q4 q5 ql
      clear p0 p1 p2 p3 p4 p5 p6 p7 p8 p9 pl
      go_upto_region 15 with fail
      obtain ⟨Wb, hW⟩ : ∃ W, W = (w9.alloc (.cells #[.slice t2.w.a t2.w.n t2.w.c, .slice t2.p.a t2.p.n t2.p.c, .slice (t2.u 0).a (t2.u 0).n (t2.u 0).c, .slice (t2.u 1).a (t2.u 1).n (t2.u 1).c, .slice (t2.u 2).a (t2.u 2).n (t2.u 2).c, .slice t2.c.a t2.c.n t2.c.c] 28)).alloc (.cells #[.int .i64 k.ph, .int .i64 k.ep, .bool k.mj, .slice v2.a v2.n v2.c, .bool o1, .int .i64 k.pa, .int .i64 k.pf, .int .i64 k.ps, .int .i64 k.pc, .bool k.me] 30) := ⟨_, rfl⟩
      obtain ⟨b2, hb⟩ : ∃ b, b = w9.heap.size := ⟨_, rfl⟩
      have LB := Lib.hid (HA.out.addSh AP.out.1 AP.out.2 hW)
      rw [← hb] at LB
      rw [← hW, ← hb]
      clear hW hb AP HA
      have q0 := (LB.out.at (b1) (t1) (e1) (by simp)).c0
      have q1 := (LB.out.at (b1) (t1) (e1) (by simp)).c1
      have q2 := (LB.out.at (b1) (t1) (e1) (by simp)).c2
      have q3 := (LB.out.at (b1) (t1) (e1) (by simp)).c3
      have q4 := (LB.out.at (b1) (t1) (e1) (by simp)).c4
      have q5 := (LB.out.at (b1) (t1) (e1) (by simp)).c5
      have ql := (LB.out.at (b1) (t1) (e1) (by simp)).lt
      go_wp2_with fail
      have hC9 := pmay0_any t1 e1 Wb (LB.out.hp (b1) (t1) (e1) (by simp)) (HZ.out.over LB.out.bel hz0) ((KN.out t1 TL1.out).fine FI.out)
      rw [(KN.out t1 TL1.out).may, HM.out] at hC9
      refine hC9.mono ?_
      rintro e9 wc ⟨rfl, hb9⟩
      have LC := Lib.hid (LB.out.next hb9)
      clear hb9 hC9 LB
      clear q0 q1 q2 q3 q4 q5 ql
      have q0 := (LC.out.at (b2) (t2) (e1) (by simp)).c0
      have q1 := (LC.out.at (b2) (t2) (e1) (by simp)).c1
      have q2 := (LC.out.at (b2) (t2) (e1) (by simp)).c2
      have q3 := (LC.out.at (b2) (t2) (e1) (by simp)).c3
      have q4 := (LC.out.at (b2) (t2) (e1) (by simp)).c4
      have q5 := (LC.out.at (b2) (t2) (e1) (by simp)).c5
      have ql := (LC.out.at (b2) (t2) (e1) (by simp)).lt
      have r0 := (LC.out.at (b1) (t1) (e1) (by simp)).c0
      have r1 := (LC.out.at (b1) (t1) (e1) (by simp)).c1
      have r2 := (LC.out.at (b1) (t1) (e1) (by simp)).c2
      have r3 := (LC.out.at (b1) (t1) (e1) (by simp)).c3
      have r4 := (LC.out.at (b1) (t1) (e1) (by simp)).c4
      have r5 := (LC.out.at (b1) (t1) (e1) (by simp)).c5
      have rl := (LC.out.at (b1) (t1) (e1) (by simp)).lt
      go_wp2_with fail
      have hC9 := hsame_yes t2 t1 e1 wc TL2.out (LC.out.hp (b1) (t1) (e1) (by simp)) (LC.out.hp (b2) (t2) (e1) (by simp)) ((KN.out t1 TL1.out).fine FI.out)
      refine hC9.mono ?_
      rintro e9 wd ⟨rfl, hb9⟩
      have LD := Lib.hid (LC.out.next hb9)
      clear hb9 hC9 LC
      clear q0 q1 q2 q3 q4 q5 ql
      clear r0 r1 r2 r3 r4 r5 rl
      have p0 := (LD.out.cat (b2 + 1) (kw k v2 o1) (x1) (by simp)).c0
      have p1 := (LD.out.cat (b2 + 1) (kw k v2 o1) (x1) (by simp)).c1
      have p2 := (LD.out.cat (b2 + 1) (kw k v2 o1) (x1) (by simp)).c2
      have p3 := (LD.out.cat (b2 + 1) (kw k v2 o1) (x1) (by simp)).c3
      have p4 := (LD.out.cat (b2 + 1) (kw k v2 o1) (x1) (by simp)).c4
      have p5 := (LD.out.cat (b2 + 1) (kw k v2 o1) (x1) (by simp)).c5
      have p6 := (LD.out.cat (b2 + 1) (kw k v2 o1) (x1) (by simp)).c6
      have p7 := (LD.out.cat (b2 + 1) (kw k v2 o1) (x1) (by simp)).c7
      have p8 := (LD.out.cat (b2 + 1) (kw k v2 o1) (x1) (by simp)).c8
      have p9 := (LD.out.cat (b2 + 1) (kw k v2 o1) (x1) (by simp)).c9
      have pl := (LD.out.cat (b2 + 1) (kw k v2 o1) (x1) (by simp)).lt
      dsimp only [kw] at p0 p1 p2 p3 p4 p5 p6 p7 p8 p9
      have z0 := (LD.out.cat (b1 + 1) (kw k v1 o1) (x1) (by simp)).c0
      have z1 := (LD.out.cat (b1 + 1) (kw k v1 o1) (x1) (by simp)).c1
      have z2 := (LD.out.cat (b1 + 1) (kw k v1 o1) (x1) (by simp)).c2
      have z3 := (LD.out.cat (b1 + 1) (kw k v1 o1) (x1) (by simp)).c3
      have z4 := (LD.out.cat (b1 + 1) (kw k v1 o1) (x1) (by simp)).c4
      have z5 := (LD.out.cat (b1 + 1) (kw k v1 o1) (x1) (by simp)).c5
      have z6 := (LD.out.cat (b1 + 1) (kw k v1 o1) (x1) (by simp)).c6
      have z7 := (LD.out.cat (b1 + 1) (kw k v1 o1) (x1) (by simp)).c7
      have z8 := (LD.out.cat (b1 + 1) (kw k v1 o1) (x1) (by simp)).c8
      have z9 := (LD.out.cat (b1 + 1) (kw k v1 o1) (x1) (by simp)).c9
      have zl := (LD.out.cat (b1 + 1) (kw k v1 o1) (x1) (by simp)).lt
      dsimp only [kw] at z0 z1 z2 z3 z4 z5 z6 z7 z8 z9
      go_wp2_with fail
      have hC9 := ksame_yes k v2 v1 o1 x1 wd (LD.out.wr (b2 + 1) (kw k v2 o1) (x1) (by simp)) (LD.out.wr (b1 + 1) (kw k v1 o1) (x1) (by simp)) (by have h1 := XL.out; have h2 := HX.out; have h3 := HXX.out; omega)
      refine hC9.mono ?_
      rintro e9 we ⟨rfl, hb9⟩
      have LE := Lib.hid (LD.out.next hb9)
      clear hb9 hC9 LD
      clear p0 p1 p2 p3 p4 p5 p6 p7 p8 p9 pl
      clear z0 z1 z2 z3 z4 z5 z6 z7 z8 z9 zl
      go_wp2
      go_ret
      exact ⟨rfl, LE.out.bel⟩
end
theorem walk (s : Hs) (d : Hd_) (k : Ks) (xs : List Int) (a : Int) (w : World) (hz : Cl.Sz w) (hp : Hp w w.heap.size s d) (hv : Fit64 d.ws) (_ : s.p.n ≤ s.p.c) (hk : WRow w w.heap.size k xs) (_ : k.wk.n ≤ k.wk.c) (_ : k.wk.c ≤ maxLen) (_ : (Lit.int .i64 k.ep).wf = true) (_ : (Lit.int .i64 a).wf = true) :
    Calls Tryd.prog 3 #[(.agg #[.slice s.w.a s.w.n s.w.c, .slice s.p.a s.p.n s.p.c, .slice (s.u 0).a (s.u 0).n (s.u 0).c, .slice (s.u 1).a (s.u 1).n (s.u 1).c, .slice (s.u 2).a (s.u 2).n (s.u 2).c, .slice s.c.a s.c.n s.c.c]), (.agg #[.int .i64 k.ph, .int .i64 k.ep, .bool k.mj, .slice k.wk.a k.wk.n k.wk.c, .bool k.ov, .int .i64 k.pa, .int .i64 k.pf, .int .i64 k.ps, .int .i64 k.pc, .bool k.me]), .int .i64 a] w fun e w' => e = .returned (.bool true) ∧ Below w.heap.size w w' := by
  cases hf : fewK s k
  · exact walk_few s d k xs a w hf hz hp hk
  have hf' := hf
  unfold fewK at hf'
  rw [Bool.and_eq_true, decide_eq_true_eq] at hf'
  have hfi := fine_few hf'.1 hp hv
  have hwn := (few_parts hf'.1).1
  have hxl : xs.length ≤ 100 := by rw [← hk.len]; exact hf'.2
  have hlen : d.ws.length = s.w.n := hp.words.1
  cases hm : mayB0 s d
  · exact walk_may s d k xs a w hm hfi hf hz hp hk
  by_cases hl : listB s d k.mj k.ep k.ov xs = true
  · by_cases ho : k.ov = true
    · exact core_11 s d k xs a w hl ho hm hxl hwn hfi hlen hf hz hp hk
    · exact core_10 s d k xs a w hl (by simpa using ho) hm hxl hwn hfi hlen hf hz hp hk
  · by_cases ho : k.ov = true
    · exact core_01 s d k xs a w (by simpa using hl) ho hm hxl hwn hfi hlen hf hz hp hk
    · exact core_00 s d k xs a w (by simpa using hl) (by simpa using ho) hm hxl hwn hfi hlen hf hz hp hk
-- the frame (hp11frame.py)
set_option maxRecDepth 100000 in
theorem lifted (os : Os) (started : os.Started) (H : Type) (enc : TypeId × Value → H) :
    ReturnsInHanded {} Tryd.checked os 3 .any (fun w args => (Rows.shadeKeepsSpec.pre enc Tryd.prog Tryd.f3 [] false w args ∧ laidMetH Tryd.prog laidSizes w) ∧ sizedMet enc Tryd.prog Tryd.f3 (OpenSpec.ofChange Rows.shadeKeepsSpec) false w args)
      (Rows.shadeKeepsSpec.post enc Tryd.prog Tryd.f3 false true false false) := by
  refine returnsInHanded_of_change_and (C := Tryd.checked) (X := fun w _ => laidMetH Tryd.prog laidSizes w) (fun _ _ _ hh h => h.of_heap hh) own started (by kernel_rfl) Tryd.func3
    (ChangeSpec.witness_shaped (enc := enc) (C := Tryd.checked) (os := os) (X := fun w _ => laidMetH Tryd.prog laidSizes w) false (World.doorLaid Tryd.prog 400 os) #[.agg #[.slice none 0 0, .slice none 0 0, .slice none 0 0, .slice none 0 0, .slice none 0 0, .slice none 0 0], .agg #[.int .i64 0, .int .i64 0, .bool false, .slice none 0 0, .bool false, .int .i64 0, .int .i64 0, .int .i64 0, .int .i64 0, .bool false], .int .i64 0] 8 rfl (World.shaped_of_RefB (by kernel_rfl) (by kernel_rfl)) (by kernel_rfl) (by kernel_rfl) (by kernel_rfl) (door_met os _)) ?_
  intro W base args ds gs before hval0 hW _ _ hL _
  have hval : ∀ (j : Nat) t v, Tryd.f3.params[j]? = some t → args[j]? = some v → Value.okWide Tryd.prog W .any base t v := hval0
  have hW' := hW
  obtain ⟨p, q, hA0, hV, rfl, hfz, hnd⟩ := hW
  have hA : DataW.TrodAll enc Tryd.prog W 0 (fun _ => true) true Tryd.f3.params.toList args.toList ds p := hA0
  rw [Tryd.params3] at hA hval
  obtain ⟨v0, vs0, d0, ds0, p0, q0, hargs, rfl, rfl, h0, r0⟩ := trodAll_cons hA
  obtain ⟨v1, vs1, d1, ds1, p1, q1, rfl, rfl, rfl, h1, r1⟩ := trodAll_cons r0
  obtain ⟨v2, vs2, d2, ds2, p2, q2, rfl, rfl, rfl, h2, r2⟩ := trodAll_cons r1
  obtain ⟨rfl, rfl, rfl⟩ := trodAll_nil r2
  obtain rfl : args = #[v0, v1, v2] := by cases args; simp_all
  obtain ⟨rfl, rfl⟩ := trodVars_none hV
  have k0 := h0
  have lt0 : ∀ x ∈ p0, x.block < W.heap.size := by obtain ⟨m, hm⟩ := k0; exact DataW.trod_lt m _ _ _ hm
  obtain ⟨s0, z0, rfl, w0, f0, b0⟩ := heap_of8 (hval 0 28 v0 rfl rfl) h0
  have k1 := h1
  have lt1 : ∀ x ∈ p1, x.block < W.heap.size := by obtain ⟨m, hm⟩ := k1; exact DataW.trod_lt m _ _ _ hm
  obtain ⟨k1', z1, rfl, w1, m1, x1, f1⟩ := Sh.col_of (hval 1 30 v1 rfl rfl) h1
  obtain ⟨a2, rfl, rfl, rfl, w2⟩ := open_int Tryd.underlying3 (hval 2 3 v2 rfl rfl) h2
  clear hA0 hval0
  refine (walk s0 z0 k1' z1 a2 W (of_laid hL) w0 f0 b0 w1 m1 x1 f1 w2).mono fun e W' ⟨he, bel⟩ => ?_
  subst he
  exact ⟨_, rfl, _, _, _, [], _, [], hW', trodAll_mk1 (shut_bool Tryd.underlying4 _), (trodAll_cons_mk (Below.trod laidOut (by kernel_rfl) (of_decide_eq_true (by kernel_rfl)) k0 bel lt0) (trodAll_cons_mk (Below.trod laidOut (by kernel_rfl) (of_decide_eq_true (by kernel_rfl)) k1 bel lt1) (trodAll_cons_mk (shut_int Tryd.underlying3 w2) trodAll_mk0))), rfl, bel.frame _, fun h => by cases h⟩

theorem over : Rows.ShadeKeepsSaid :=
  OpenClaim.holds_of_wide 3 Tryd.f3 rfl rfl rfl rfl rfl rfl rfl ⟨rfl, rfl, rfl, rfl, rfl⟩ rfl rfl rfl rfl rfl (by kernel_rfl) Tryd.func3 (by kernel_rfl)
    (of_decide_eq_true (by kernel_rfl)) (by unfold Func.isWrapper; first | (rw [if_pos (by decide +kernel)]; kernel_rfl) | (rw [if_neg (by decide +kernel)]; exact ⟨rfl, rfl⟩))
    (fun os started H enc _ => lifted os started H enc)

/-- The statement: the card. -/
theorem proved : Rows.ShadeKeepsCardSaid :=
  Claim7.holds_tied_plain_at .later [] [.data] true Rows.shadeKeepsCard.stood.harness false
    over (fun _ h => by cases h) (by kernel_rfl) (fun _ h => by cases h) shadeKeeps_row_tie rfl ⟨rfl, rfl⟩ (by kernel_rfl) rfl
    (fun f fn hf hfn => by
      obtain rfl : f = 3 := Option.some.inj ((show Tryd.prog.funcNamed "ragpicker/ragpickerlaw11.ShadeKeeps" = some 3 by kernel_rfl).symm.trans hf) |>.symm
      obtain rfl : fn = Tryd.f3 := (Option.some.inj (Tryd.func3.symm.trans hfn)).symm
      exact ⟨by kernel_rfl, fun j t ht => by
        rw [Tryd.params3] at ht
        have hm : t ∈ [28, 30, 3] := by simpa using Array.mem_of_getElem? ht
        have hall : ([28, 30, 3].all fun u => !Tryd.prog.wantsStandIn u) = true := by kernel_rfl
        exact (show Tryd.prog.wantsStandIn t = false by simpa using List.all_eq_true.1 hall t hm)⟩)
    (by kernel_rfl)
#print axioms proved
end Go.Proofs.YtdmclfolooiccaaDoor.ShadeKeeps
