/-
  ShadeNone: shading what is no object, what is not white, or nothing, changes nothing; nor does making black what is not grey: for every heap of at most 9 pages and 130 words, and every work list of at most 100; the table of sizes is tied to the program's text by the card.
-/
import Derived.Test.YtdmclfolooiccaaDoorHpSG
import Derived.Test.YtdmclfolooiccaaDoorHpSH
namespace Go.Proofs.YtdmclfolooiccaaDoor.ShadeNone
open Go.Proofs.YtdmclfolooiccaaDoor Go.Proofs.YtdmclfolooiccaaDoor.Sh
open Go.ChangeShapes Go.WideShapes Go.ChangeAt Go.RowKit
set_option maxRecDepth 100000

section
variable (s : Hs) (d : Hd_) (k : Ks) (xs : List Int) (a : Int) (w : World)
set_option maxHeartbeats 1000000 in
theorem walk_few (hf : fewK s k = false) (hz : Cl.Sz w) (hp : Hp w w.heap.size s d) (hk : WRow w w.heap.size k xs) : Calls Tryd.prog 6 #[(.agg #[.slice s.w.a s.w.n s.w.c, .slice s.p.a s.p.n s.p.c, .slice (s.u 0).a (s.u 0).n (s.u 0).c, .slice (s.u 1).a (s.u 1).n (s.u 1).c, .slice (s.u 2).a (s.u 2).n (s.u 2).c, .slice s.c.a s.c.n s.c.c]), (.agg #[.int .i64 k.ph, .int .i64 k.ep, .bool k.mj, .slice k.wk.a k.wk.n k.wk.c, .bool k.ov, .int .i64 k.pa, .int .i64 k.pf, .int .i64 k.ps, .int .i64 k.pc, .bool k.me]), .int .i64 a] w fun e w' => e = .returned (.bool true) ∧ Below w.heap.size w w' := by
  have HZ := Lib.hid hz
  have hz0 := hz.pos
  have HP := Lib.hid hp
  have HK := Lib.hid hk
  have HF := Lib.hid hf
  clear hz hp hk hf
  go_enter Tryd.func6, Tryd.ntmps6
  go_wp2_with fail
  obtain ⟨W1, hW1⟩ : ∃ W1, W1 = (w.alloc (.cells #[.slice s.w.a s.w.n s.w.c, .slice s.p.a s.p.n s.p.c, .slice (s.u 0).a (s.u 0).n (s.u 0).c, .slice (s.u 1).a (s.u 1).n (s.u 1).c, .slice (s.u 2).a (s.u 2).n (s.u 2).c, .slice s.c.a s.c.n s.c.c] 28)).alloc (.cells #[.int .i64 k.ph, .int .i64 k.ep, .bool k.mj, .slice k.wk.a k.wk.n k.wk.c, .bool k.ov, .int .i64 k.pa, .int .i64 k.pf, .int .i64 k.ps, .int .i64 k.pc, .bool k.me] 30) := ⟨_, rfl⟩
  have L1 := Lib.hid (lk_start HP.out HK.out hW1)
  rw [← hW1]
  clear hW1
  refine (Sh.awake_any W1 (HZ.out.over L1.out.bel hz0)).mono ?_
  rintro e9 w1 ⟨rfl, hb1⟩
  have L2 := Lib.hid (L1.out.next hb1)
  clear hb1 L1
  have q0 := (L2.out.at (w.heap.size) (s) (d) (by simp)).c0
  have q1 := (L2.out.at (w.heap.size) (s) (d) (by simp)).c1
  have q2 := (L2.out.at (w.heap.size) (s) (d) (by simp)).c2
  have q3 := (L2.out.at (w.heap.size) (s) (d) (by simp)).c3
  have q4 := (L2.out.at (w.heap.size) (s) (d) (by simp)).c4
  have q5 := (L2.out.at (w.heap.size) (s) (d) (by simp)).c5
  have ql := (L2.out.at (w.heap.size) (s) (d) (by simp)).lt
  have p0 := (L2.out.cat (w.heap.size + 1) (k) (xs) (by simp)).c0
  have p1 := (L2.out.cat (w.heap.size + 1) (k) (xs) (by simp)).c1
  have p2 := (L2.out.cat (w.heap.size + 1) (k) (xs) (by simp)).c2
  have p3 := (L2.out.cat (w.heap.size + 1) (k) (xs) (by simp)).c3
  have p4 := (L2.out.cat (w.heap.size + 1) (k) (xs) (by simp)).c4
  have p5 := (L2.out.cat (w.heap.size + 1) (k) (xs) (by simp)).c5
  have p6 := (L2.out.cat (w.heap.size + 1) (k) (xs) (by simp)).c6
  have p7 := (L2.out.cat (w.heap.size + 1) (k) (xs) (by simp)).c7
  have p8 := (L2.out.cat (w.heap.size + 1) (k) (xs) (by simp)).c8
  have p9 := (L2.out.cat (w.heap.size + 1) (k) (xs) (by simp)).c9
  have pl := (L2.out.cat (w.heap.size + 1) (k) (xs) (by simp)).lt
  go_wp2_with fail
  refine (few_any s k w1).mono ?_
  rw [HF.out]
  rintro e9 w2 ⟨rfl, hb2⟩
  have L3 := Lib.hid (L2.out.next hb2)
  clear hb2 L2
  clear q0 q1 q2 q3 q4 q5 ql
  clear p0 p1 p2 p3 p4 p5 p6 p7 p8 p9 pl
  go_wp2
  go_ret
  exact ⟨rfl, L3.out.bel⟩
set_option maxHeartbeats 8000000 in
theorem core_00 (hc : isC s d k.mj k.ep a 1 = false) (hg : isC s d k.mj k.ep a 2 = false) (h0 : isC s d k.mj k.ep 0 1 = false) (hxl : xs.length ≤ 100) (hfi : Fine s d) (hlen : d.ws.length = s.w.n) (hf : fewK s k = true) (hz : Cl.Sz w) (hp : Hp w w.heap.size s d) (hk : WRow w w.heap.size k xs) : Calls Tryd.prog 6 #[(.agg #[.slice s.w.a s.w.n s.w.c, .slice s.p.a s.p.n s.p.c, .slice (s.u 0).a (s.u 0).n (s.u 0).c, .slice (s.u 1).a (s.u 1).n (s.u 1).c, .slice (s.u 2).a (s.u 2).n (s.u 2).c, .slice s.c.a s.c.n s.c.c]), (.agg #[.int .i64 k.ph, .int .i64 k.ep, .bool k.mj, .slice k.wk.a k.wk.n k.wk.c, .bool k.ov, .int .i64 k.pa, .int .i64 k.pf, .int .i64 k.ps, .int .i64 k.pc, .bool k.me]), .int .i64 a] w fun e w' => e = .returned (.bool true) ∧ Below w.heap.size w w' := by
  have HZ := Lib.hid hz
  have hz0 := hz.pos
  have HP := Lib.hid hp
  have HK := Lib.hid hk
  have HF := Lib.hid hf
  have HC := Lib.hid hc
  have HG := Lib.hid hg
  have H0 := Lib.hid h0
  have FI := Lib.hid hfi
  have HL := Lib.hid hlen
  have HX := Lib.hid (show xs.length ≤ 1000000 by omega)
  have D0 : Hid (shD s d k.mj k.ep 0 = d ∧ shO false xs k.ov = k.ov ∧ shX false xs 0 = xs) := Lib.hid ⟨if_neg (by rw [h0]; decide), by simp [shO], if_neg (by simp)⟩
  have D1 : Hid (shD s d k.mj k.ep a = d ∧ shO false xs k.ov = k.ov ∧ shX false xs a = xs) := Lib.hid ⟨if_neg (by rw [hc]; decide), by simp [shO], if_neg (by simp)⟩
  have DB : Hid (blD s d k.mj k.ep a = d) := Lib.hid (if_neg (by rw [hg]; decide))
  clear hz hp hk hf hc hg h0 hxl hfi hlen
  go_enter Tryd.func6, Tryd.ntmps6
  go_wp2_with fail
  obtain ⟨W1, hW1⟩ : ∃ W1, W1 = (w.alloc (.cells #[.slice s.w.a s.w.n s.w.c, .slice s.p.a s.p.n s.p.c, .slice (s.u 0).a (s.u 0).n (s.u 0).c, .slice (s.u 1).a (s.u 1).n (s.u 1).c, .slice (s.u 2).a (s.u 2).n (s.u 2).c, .slice s.c.a s.c.n s.c.c] 28)).alloc (.cells #[.int .i64 k.ph, .int .i64 k.ep, .bool k.mj, .slice k.wk.a k.wk.n k.wk.c, .bool k.ov, .int .i64 k.pa, .int .i64 k.pf, .int .i64 k.ps, .int .i64 k.pc, .bool k.me] 30) := ⟨_, rfl⟩
  have L1 := Lib.hid (lk_start HP.out HK.out hW1)
  rw [← hW1]
  clear hW1
  refine (Sh.awake_any W1 (HZ.out.over L1.out.bel hz0)).mono ?_
  rintro e9 w1 ⟨rfl, hb1⟩
  have L2 := Lib.hid (L1.out.next hb1)
  clear hb1 L1
  have q0 := (L2.out.at (w.heap.size) (s) (d) (by simp)).c0
  have q1 := (L2.out.at (w.heap.size) (s) (d) (by simp)).c1
  have q2 := (L2.out.at (w.heap.size) (s) (d) (by simp)).c2
  have q3 := (L2.out.at (w.heap.size) (s) (d) (by simp)).c3
  have q4 := (L2.out.at (w.heap.size) (s) (d) (by simp)).c4
  have q5 := (L2.out.at (w.heap.size) (s) (d) (by simp)).c5
  have ql := (L2.out.at (w.heap.size) (s) (d) (by simp)).lt
  have p0 := (L2.out.cat (w.heap.size + 1) (k) (xs) (by simp)).c0
  have p1 := (L2.out.cat (w.heap.size + 1) (k) (xs) (by simp)).c1
  have p2 := (L2.out.cat (w.heap.size + 1) (k) (xs) (by simp)).c2
  have p3 := (L2.out.cat (w.heap.size + 1) (k) (xs) (by simp)).c3
  have p4 := (L2.out.cat (w.heap.size + 1) (k) (xs) (by simp)).c4
  have p5 := (L2.out.cat (w.heap.size + 1) (k) (xs) (by simp)).c5
  have p6 := (L2.out.cat (w.heap.size + 1) (k) (xs) (by simp)).c6
  have p7 := (L2.out.cat (w.heap.size + 1) (k) (xs) (by simp)).c7
  have p8 := (L2.out.cat (w.heap.size + 1) (k) (xs) (by simp)).c8
  have p9 := (L2.out.cat (w.heap.size + 1) (k) (xs) (by simp)).c9
  have pl := (L2.out.cat (w.heap.size + 1) (k) (xs) (by simp)).lt
  go_wp2_with fail
  refine (few_any s k w1).mono ?_
  rw [HF.out]
  rintro e9 w2 ⟨rfl, hb2⟩
  have L3 := Lib.hid (L2.out.next hb2)
  clear hb2 L2
  clear q0 q1 q2 q3 q4 q5 ql
  clear p0 p1 p2 p3 p4 p5 p6 p7 p8 p9 pl
  have q0 := (L3.out.at (w.heap.size) (s) (d) (by simp)).c0
  have q1 := (L3.out.at (w.heap.size) (s) (d) (by simp)).c1
  have q2 := (L3.out.at (w.heap.size) (s) (d) (by simp)).c2
  have q3 := (L3.out.at (w.heap.size) (s) (d) (by simp)).c3
  have q4 := (L3.out.at (w.heap.size) (s) (d) (by simp)).c4
  have q5 := (L3.out.at (w.heap.size) (s) (d) (by simp)).c5
  have ql := (L3.out.at (w.heap.size) (s) (d) (by simp)).lt
  have p0 := (L3.out.cat (w.heap.size + 1) (k) (xs) (by simp)).c0
  have p1 := (L3.out.cat (w.heap.size + 1) (k) (xs) (by simp)).c1
  have p2 := (L3.out.cat (w.heap.size + 1) (k) (xs) (by simp)).c2
  have p3 := (L3.out.cat (w.heap.size + 1) (k) (xs) (by simp)).c3
  have p4 := (L3.out.cat (w.heap.size + 1) (k) (xs) (by simp)).c4
  have p5 := (L3.out.cat (w.heap.size + 1) (k) (xs) (by simp)).c5
  have p6 := (L3.out.cat (w.heap.size + 1) (k) (xs) (by simp)).c6
  have p7 := (L3.out.cat (w.heap.size + 1) (k) (xs) (by simp)).c7
  have p8 := (L3.out.cat (w.heap.size + 1) (k) (xs) (by simp)).c8
  have p9 := (L3.out.cat (w.heap.size + 1) (k) (xs) (by simp)).c9
  have pl := (L3.out.cat (w.heap.size + 1) (k) (xs) (by simp)).lt
  go_wp2_with fail
  have hC9 := shade_any s d k xs 0 w2 HX.out (L3.out.hp (w.heap.size) (s) (d) (by simp)) (L3.out.wr (w.heap.size + 1) (k) (xs) (by simp)) (HZ.out.over L3.out.bel hz0) FI.out
  rw [H0.out, D0.out.1, D0.out.2.1, D0.out.2.2] at hC9
  refine hC9.mono ?_
  rintro e9 w9 ⟨t1, v1, rfl, hp9, hl9, _, ha9⟩
  have TL1 := Lib.hid hl9
  have AP := Lib.hid (And.intro ha9 hp9)
  clear hp9 hl9 ha9 hC9
  clear q0 q1 q2 q3 q4 q5 ql
  clear p0 p1 p2 p3 p4 p5 p6 p7 p8 p9 pl
  go_upto_region 6 with fail
  obtain ⟨W5, hW⟩ : ∃ W, W = (w9.alloc (.cells #[.slice t1.w.a t1.w.n t1.w.c, .slice t1.p.a t1.p.n t1.p.c, .slice (t1.u 0).a (t1.u 0).n (t1.u 0).c, .slice (t1.u 1).a (t1.u 1).n (t1.u 1).c, .slice (t1.u 2).a (t1.u 2).n (t1.u 2).c, .slice t1.c.a t1.c.n t1.c.c] 28)).alloc (.cells #[.int .i64 k.ph, .int .i64 k.ep, .bool k.mj, .slice v1.a v1.n v1.c, .bool k.ov, .int .i64 k.pa, .int .i64 k.pf, .int .i64 k.ps, .int .i64 k.pc, .bool k.me] 30) := ⟨_, rfl⟩
  obtain ⟨b1, hb⟩ : ∃ b, b = w9.heap.size := ⟨_, rfl⟩
  have L5 := Lib.hid (L3.out.addSh AP.out.1 AP.out.2 hW)
  rw [← hb] at L5
  rw [← hW, ← hb]
  clear hW hb AP L3
  have q0 := (L5.out.at (b1) (t1) (d) (by simp)).c0
  have q1 := (L5.out.at (b1) (t1) (d) (by simp)).c1
  have q2 := (L5.out.at (b1) (t1) (d) (by simp)).c2
  have q3 := (L5.out.at (b1) (t1) (d) (by simp)).c3
  have q4 := (L5.out.at (b1) (t1) (d) (by simp)).c4
  have q5 := (L5.out.at (b1) (t1) (d) (by simp)).c5
  have ql := (L5.out.at (b1) (t1) (d) (by simp)).lt
  have r0 := (L5.out.at (w.heap.size) (s) (d) (by simp)).c0
  have r1 := (L5.out.at (w.heap.size) (s) (d) (by simp)).c1
  have r2 := (L5.out.at (w.heap.size) (s) (d) (by simp)).c2
  have r3 := (L5.out.at (w.heap.size) (s) (d) (by simp)).c3
  have r4 := (L5.out.at (w.heap.size) (s) (d) (by simp)).c4
  have r5 := (L5.out.at (w.heap.size) (s) (d) (by simp)).c5
  have rl := (L5.out.at (w.heap.size) (s) (d) (by simp)).lt
  go_wp2_with fail
  have hC9 := hsame_yes t1 s d W5 TL1.out (L5.out.hp (w.heap.size) (s) (d) (by simp)) (L5.out.hp (b1) (t1) (d) (by simp)) FI.out
  refine hC9.mono ?_
  rintro e9 w6 ⟨rfl, hb9⟩
  have L6 := Lib.hid (L5.out.next hb9)
  clear hb9 hC9 L5
  clear q0 q1 q2 q3 q4 q5 ql
  clear r0 r1 r2 r3 r4 r5 rl
  have p0 := (L6.out.cat (b1 + 1) (kw k v1 k.ov) (xs) (by simp)).c0
  have p1 := (L6.out.cat (b1 + 1) (kw k v1 k.ov) (xs) (by simp)).c1
  have p2 := (L6.out.cat (b1 + 1) (kw k v1 k.ov) (xs) (by simp)).c2
  have p3 := (L6.out.cat (b1 + 1) (kw k v1 k.ov) (xs) (by simp)).c3
  have p4 := (L6.out.cat (b1 + 1) (kw k v1 k.ov) (xs) (by simp)).c4
  have p5 := (L6.out.cat (b1 + 1) (kw k v1 k.ov) (xs) (by simp)).c5
  have p6 := (L6.out.cat (b1 + 1) (kw k v1 k.ov) (xs) (by simp)).c6
  have p7 := (L6.out.cat (b1 + 1) (kw k v1 k.ov) (xs) (by simp)).c7
  have p8 := (L6.out.cat (b1 + 1) (kw k v1 k.ov) (xs) (by simp)).c8
  have p9 := (L6.out.cat (b1 + 1) (kw k v1 k.ov) (xs) (by simp)).c9
  have pl := (L6.out.cat (b1 + 1) (kw k v1 k.ov) (xs) (by simp)).lt
  dsimp only [kw] at p0 p1 p2 p3 p4 p5 p6 p7 p8 p9
  have z0 := (L6.out.cat (w.heap.size + 1) (k) (xs) (by simp)).c0
  have z1 := (L6.out.cat (w.heap.size + 1) (k) (xs) (by simp)).c1
  have z2 := (L6.out.cat (w.heap.size + 1) (k) (xs) (by simp)).c2
  have z3 := (L6.out.cat (w.heap.size + 1) (k) (xs) (by simp)).c3
  have z4 := (L6.out.cat (w.heap.size + 1) (k) (xs) (by simp)).c4
  have z5 := (L6.out.cat (w.heap.size + 1) (k) (xs) (by simp)).c5
  have z6 := (L6.out.cat (w.heap.size + 1) (k) (xs) (by simp)).c6
  have z7 := (L6.out.cat (w.heap.size + 1) (k) (xs) (by simp)).c7
  have z8 := (L6.out.cat (w.heap.size + 1) (k) (xs) (by simp)).c8
  have z9 := (L6.out.cat (w.heap.size + 1) (k) (xs) (by simp)).c9
  have zl := (L6.out.cat (w.heap.size + 1) (k) (xs) (by simp)).lt
  go_wp2_with fail
  have hC9 := ksame_yes k v1 k.wk k.ov xs w6 (L6.out.wr (b1 + 1) (kw k v1 k.ov) (xs) (by simp)) (L6.out.wr (w.heap.size + 1) (k) (xs) (by simp)) HX.out
  refine hC9.mono ?_
  rintro e9 w7 ⟨rfl, hb9⟩
  have L7 := Lib.hid (L6.out.next hb9)
  clear hb9 hC9 L6
  clear p0 p1 p2 p3 p4 p5 p6 p7 p8 p9 pl
  clear z0 z1 z2 z3 z4 z5 z6 z7 z8 z9 zl
  have q0 := (L7.out.at (w.heap.size) (s) (d) (by simp)).c0
  have q1 := (L7.out.at (w.heap.size) (s) (d) (by simp)).c1
  have q2 := (L7.out.at (w.heap.size) (s) (d) (by simp)).c2
  have q3 := (L7.out.at (w.heap.size) (s) (d) (by simp)).c3
  have q4 := (L7.out.at (w.heap.size) (s) (d) (by simp)).c4
  have q5 := (L7.out.at (w.heap.size) (s) (d) (by simp)).c5
  have ql := (L7.out.at (w.heap.size) (s) (d) (by simp)).lt
  have p0 := (L7.out.cat (w.heap.size + 1) (k) (xs) (by simp)).c0
  have p1 := (L7.out.cat (w.heap.size + 1) (k) (xs) (by simp)).c1
  have p2 := (L7.out.cat (w.heap.size + 1) (k) (xs) (by simp)).c2
  have p3 := (L7.out.cat (w.heap.size + 1) (k) (xs) (by simp)).c3
  have p4 := (L7.out.cat (w.heap.size + 1) (k) (xs) (by simp)).c4
  have p5 := (L7.out.cat (w.heap.size + 1) (k) (xs) (by simp)).c5
  have p6 := (L7.out.cat (w.heap.size + 1) (k) (xs) (by simp)).c6
  have p7 := (L7.out.cat (w.heap.size + 1) (k) (xs) (by simp)).c7
  have p8 := (L7.out.cat (w.heap.size + 1) (k) (xs) (by simp)).c8
  have p9 := (L7.out.cat (w.heap.size + 1) (k) (xs) (by simp)).c9
  have pl := (L7.out.cat (w.heap.size + 1) (k) (xs) (by simp)).lt
  go_wp2_with fail
  have hC9 := shade_any s d k xs a w7 HX.out (L7.out.hp (w.heap.size) (s) (d) (by simp)) (L7.out.wr (w.heap.size + 1) (k) (xs) (by simp)) (HZ.out.over L7.out.bel hz0) FI.out
  rw [HC.out, D1.out.1, D1.out.2.1, D1.out.2.2] at hC9
  refine hC9.mono ?_
  rintro e9 w9 ⟨t2, v2, rfl, hp9, hl9, _, ha9⟩
  have TL2 := Lib.hid hl9
  have AP := Lib.hid (And.intro ha9 hp9)
  clear hp9 hl9 ha9 hC9
  clear q0 q1 q2 q3 q4 q5 ql
  clear p0 p1 p2 p3 p4 p5 p6 p7 p8 p9 pl
  go_upto_region 8 with fail
  obtain ⟨W8, hW⟩ : ∃ W, W = (w9.alloc (.cells #[.slice t2.w.a t2.w.n t2.w.c, .slice t2.p.a t2.p.n t2.p.c, .slice (t2.u 0).a (t2.u 0).n (t2.u 0).c, .slice (t2.u 1).a (t2.u 1).n (t2.u 1).c, .slice (t2.u 2).a (t2.u 2).n (t2.u 2).c, .slice t2.c.a t2.c.n t2.c.c] 28)).alloc (.cells #[.int .i64 k.ph, .int .i64 k.ep, .bool k.mj, .slice v2.a v2.n v2.c, .bool k.ov, .int .i64 k.pa, .int .i64 k.pf, .int .i64 k.ps, .int .i64 k.pc, .bool k.me] 30) := ⟨_, rfl⟩
  obtain ⟨b2, hb⟩ : ∃ b, b = w9.heap.size := ⟨_, rfl⟩
  have L8 := Lib.hid (L7.out.addSh AP.out.1 AP.out.2 hW)
  rw [← hb] at L8
  rw [← hW, ← hb]
  clear hW hb AP L7
  have q0 := (L8.out.at (w.heap.size) (s) (d) (by simp)).c0
  have q1 := (L8.out.at (w.heap.size) (s) (d) (by simp)).c1
  have q2 := (L8.out.at (w.heap.size) (s) (d) (by simp)).c2
  have q3 := (L8.out.at (w.heap.size) (s) (d) (by simp)).c3
  have q4 := (L8.out.at (w.heap.size) (s) (d) (by simp)).c4
  have q5 := (L8.out.at (w.heap.size) (s) (d) (by simp)).c5
  have ql := (L8.out.at (w.heap.size) (s) (d) (by simp)).lt
  have p0 := (L8.out.cat (w.heap.size + 1) (k) (xs) (by simp)).c0
  have p1 := (L8.out.cat (w.heap.size + 1) (k) (xs) (by simp)).c1
  have p2 := (L8.out.cat (w.heap.size + 1) (k) (xs) (by simp)).c2
  have p3 := (L8.out.cat (w.heap.size + 1) (k) (xs) (by simp)).c3
  have p4 := (L8.out.cat (w.heap.size + 1) (k) (xs) (by simp)).c4
  have p5 := (L8.out.cat (w.heap.size + 1) (k) (xs) (by simp)).c5
  have p6 := (L8.out.cat (w.heap.size + 1) (k) (xs) (by simp)).c6
  have p7 := (L8.out.cat (w.heap.size + 1) (k) (xs) (by simp)).c7
  have p8 := (L8.out.cat (w.heap.size + 1) (k) (xs) (by simp)).c8
  have p9 := (L8.out.cat (w.heap.size + 1) (k) (xs) (by simp)).c9
  have pl := (L8.out.cat (w.heap.size + 1) (k) (xs) (by simp)).lt
  go_wp2_with fail
  have hC9 := white_any s d k xs a W8 (L8.out.hp (w.heap.size) (s) (d) (by simp)) (L8.out.wr (w.heap.size + 1) (k) (xs) (by simp)) (HZ.out.over L8.out.bel hz0) FI.out
  rw [HC.out] at hC9
  refine hC9.mono ?_
  rintro e9 w9 ⟨rfl, hb9⟩
  have L9 := Lib.hid (L8.out.next hb9)
  clear hb9 hC9 L8
  clear q0 q1 q2 q3 q4 q5 ql
  clear p0 p1 p2 p3 p4 p5 p6 p7 p8 p9 pl
  have q0 := (L9.out.at (b2) (t2) (d) (by simp)).c0
  have q1 := (L9.out.at (b2) (t2) (d) (by simp)).c1
  have q2 := (L9.out.at (b2) (t2) (d) (by simp)).c2
  have q3 := (L9.out.at (b2) (t2) (d) (by simp)).c3
  have q4 := (L9.out.at (b2) (t2) (d) (by simp)).c4
  have q5 := (L9.out.at (b2) (t2) (d) (by simp)).c5
  have ql := (L9.out.at (b2) (t2) (d) (by simp)).lt
  have r0 := (L9.out.at (w.heap.size) (s) (d) (by simp)).c0
  have r1 := (L9.out.at (w.heap.size) (s) (d) (by simp)).c1
  have r2 := (L9.out.at (w.heap.size) (s) (d) (by simp)).c2
  have r3 := (L9.out.at (w.heap.size) (s) (d) (by simp)).c3
  have r4 := (L9.out.at (w.heap.size) (s) (d) (by simp)).c4
  have r5 := (L9.out.at (w.heap.size) (s) (d) (by simp)).c5
  have rl := (L9.out.at (w.heap.size) (s) (d) (by simp)).lt
  go_wp2_with fail
  have hC9 := hsame_yes t2 s d w9 TL2.out (L9.out.hp (w.heap.size) (s) (d) (by simp)) (L9.out.hp (b2) (t2) (d) (by simp)) FI.out
  refine hC9.mono ?_
  rintro e9 w10 ⟨rfl, hb9⟩
  have L10 := Lib.hid (L9.out.next hb9)
  clear hb9 hC9 L9
  clear q0 q1 q2 q3 q4 q5 ql
  clear r0 r1 r2 r3 r4 r5 rl
  have p0 := (L10.out.cat (b2 + 1) (kw k v2 k.ov) (xs) (by simp)).c0
  have p1 := (L10.out.cat (b2 + 1) (kw k v2 k.ov) (xs) (by simp)).c1
  have p2 := (L10.out.cat (b2 + 1) (kw k v2 k.ov) (xs) (by simp)).c2
  have p3 := (L10.out.cat (b2 + 1) (kw k v2 k.ov) (xs) (by simp)).c3
  have p4 := (L10.out.cat (b2 + 1) (kw k v2 k.ov) (xs) (by simp)).c4
  have p5 := (L10.out.cat (b2 + 1) (kw k v2 k.ov) (xs) (by simp)).c5
  have p6 := (L10.out.cat (b2 + 1) (kw k v2 k.ov) (xs) (by simp)).c6
  have p7 := (L10.out.cat (b2 + 1) (kw k v2 k.ov) (xs) (by simp)).c7
  have p8 := (L10.out.cat (b2 + 1) (kw k v2 k.ov) (xs) (by simp)).c8
  have p9 := (L10.out.cat (b2 + 1) (kw k v2 k.ov) (xs) (by simp)).c9
  have pl := (L10.out.cat (b2 + 1) (kw k v2 k.ov) (xs) (by simp)).lt
  dsimp only [kw] at p0 p1 p2 p3 p4 p5 p6 p7 p8 p9
  have z0 := (L10.out.cat (w.heap.size + 1) (k) (xs) (by simp)).c0
  have z1 := (L10.out.cat (w.heap.size + 1) (k) (xs) (by simp)).c1
  have z2 := (L10.out.cat (w.heap.size + 1) (k) (xs) (by simp)).c2
  have z3 := (L10.out.cat (w.heap.size + 1) (k) (xs) (by simp)).c3
  have z4 := (L10.out.cat (w.heap.size + 1) (k) (xs) (by simp)).c4
  have z5 := (L10.out.cat (w.heap.size + 1) (k) (xs) (by simp)).c5
  have z6 := (L10.out.cat (w.heap.size + 1) (k) (xs) (by simp)).c6
  have z7 := (L10.out.cat (w.heap.size + 1) (k) (xs) (by simp)).c7
  have z8 := (L10.out.cat (w.heap.size + 1) (k) (xs) (by simp)).c8
  have z9 := (L10.out.cat (w.heap.size + 1) (k) (xs) (by simp)).c9
  have zl := (L10.out.cat (w.heap.size + 1) (k) (xs) (by simp)).lt
  go_wp2_with fail
  have hC9 := ksame_yes k v2 k.wk k.ov xs w10 (L10.out.wr (b2 + 1) (kw k v2 k.ov) (xs) (by simp)) (L10.out.wr (w.heap.size + 1) (k) (xs) (by simp)) HX.out
  refine hC9.mono ?_
  rintro e9 w11 ⟨rfl, hb9⟩
  have L11 := Lib.hid (L10.out.next hb9)
  clear hb9 hC9 L10
  clear p0 p1 p2 p3 p4 p5 p6 p7 p8 p9 pl
  clear z0 z1 z2 z3 z4 z5 z6 z7 z8 z9 zl
  have q0 := (L11.out.at (w.heap.size) (s) (d) (by simp)).c0
  have q1 := (L11.out.at (w.heap.size) (s) (d) (by simp)).c1
  have q2 := (L11.out.at (w.heap.size) (s) (d) (by simp)).c2
  have q3 := (L11.out.at (w.heap.size) (s) (d) (by simp)).c3
  have q4 := (L11.out.at (w.heap.size) (s) (d) (by simp)).c4
  have q5 := (L11.out.at (w.heap.size) (s) (d) (by simp)).c5
  have ql := (L11.out.at (w.heap.size) (s) (d) (by simp)).lt
  have p0 := (L11.out.cat (w.heap.size + 1) (k) (xs) (by simp)).c0
  have p1 := (L11.out.cat (w.heap.size + 1) (k) (xs) (by simp)).c1
  have p2 := (L11.out.cat (w.heap.size + 1) (k) (xs) (by simp)).c2
  have p3 := (L11.out.cat (w.heap.size + 1) (k) (xs) (by simp)).c3
  have p4 := (L11.out.cat (w.heap.size + 1) (k) (xs) (by simp)).c4
  have p5 := (L11.out.cat (w.heap.size + 1) (k) (xs) (by simp)).c5
  have p6 := (L11.out.cat (w.heap.size + 1) (k) (xs) (by simp)).c6
  have p7 := (L11.out.cat (w.heap.size + 1) (k) (xs) (by simp)).c7
  have p8 := (L11.out.cat (w.heap.size + 1) (k) (xs) (by simp)).c8
  have p9 := (L11.out.cat (w.heap.size + 1) (k) (xs) (by simp)).c9
  have pl := (L11.out.cat (w.heap.size + 1) (k) (xs) (by simp)).lt
  go_wp2_with fail
  have hC9 := black_any s d k xs a w11 (L11.out.hp (w.heap.size) (s) (d) (by simp)) (L11.out.wr (w.heap.size + 1) (k) (xs) (by simp)) (HZ.out.over L11.out.bel hz0) FI.out
  rw [HG.out, DB.out] at hC9
  refine hC9.mono ?_
  rintro e9 w9 ⟨t3, rfl, hp9, hl9, hb9⟩
  have TL3 := Lib.hid hl9
  have AP := Lib.hid (And.intro hb9 hp9)
  clear hp9 hl9 hb9 hC9
  clear q0 q1 q2 q3 q4 q5 ql
  clear p0 p1 p2 p3 p4 p5 p6 p7 p8 p9 pl
  go_upto_region 11 with fail
  obtain ⟨W12, hW⟩ : ∃ W, W = w9.alloc (.cells #[.slice t3.w.a t3.w.n t3.w.c, .slice t3.p.a t3.p.n t3.p.c, .slice (t3.u 0).a (t3.u 0).n (t3.u 0).c, .slice (t3.u 1).a (t3.u 1).n (t3.u 1).c, .slice (t3.u 2).a (t3.u 2).n (t3.u 2).c, .slice t3.c.a t3.c.n t3.c.c] 28) := ⟨_, rfl⟩
  obtain ⟨b3, hb⟩ : ∃ b, b = w9.heap.size := ⟨_, rfl⟩
  have L12 := Lib.hid (L11.out.addBl AP.out.1 AP.out.2 hW)
  rw [← hb] at L12
  rw [← hW, ← hb]
  clear hW hb AP L11
  have q0 := (L12.out.at (b3) (t3) (d) (by simp)).c0
  have q1 := (L12.out.at (b3) (t3) (d) (by simp)).c1
  have q2 := (L12.out.at (b3) (t3) (d) (by simp)).c2
  have q3 := (L12.out.at (b3) (t3) (d) (by simp)).c3
  have q4 := (L12.out.at (b3) (t3) (d) (by simp)).c4
  have q5 := (L12.out.at (b3) (t3) (d) (by simp)).c5
  have ql := (L12.out.at (b3) (t3) (d) (by simp)).lt
  have r0 := (L12.out.at (w.heap.size) (s) (d) (by simp)).c0
  have r1 := (L12.out.at (w.heap.size) (s) (d) (by simp)).c1
  have r2 := (L12.out.at (w.heap.size) (s) (d) (by simp)).c2
  have r3 := (L12.out.at (w.heap.size) (s) (d) (by simp)).c3
  have r4 := (L12.out.at (w.heap.size) (s) (d) (by simp)).c4
  have r5 := (L12.out.at (w.heap.size) (s) (d) (by simp)).c5
  have rl := (L12.out.at (w.heap.size) (s) (d) (by simp)).lt
  go_wp2_with fail
  have hC9 := hsame_yes t3 s d W12 TL3.out (L12.out.hp (w.heap.size) (s) (d) (by simp)) (L12.out.hp (b3) (t3) (d) (by simp)) FI.out
  refine hC9.mono ?_
  rintro e9 w13 ⟨rfl, hb9⟩
  have L13 := Lib.hid (L12.out.next hb9)
  clear hb9 hC9 L12
  clear q0 q1 q2 q3 q4 q5 ql
  clear r0 r1 r2 r3 r4 r5 rl
  go_wp2
  go_ret
  exact ⟨rfl, L13.out.bel⟩
set_option maxHeartbeats 8000000 in
theorem core_01 (hc : isC s d k.mj k.ep a 1 = false) (hg : isC s d k.mj k.ep a 2 = true) (h0 : isC s d k.mj k.ep 0 1 = false) (hxl : xs.length ≤ 100) (hfi : Fine s d) (hlen : d.ws.length = s.w.n) (hf : fewK s k = true) (hz : Cl.Sz w) (hp : Hp w w.heap.size s d) (hk : WRow w w.heap.size k xs) : Calls Tryd.prog 6 #[(.agg #[.slice s.w.a s.w.n s.w.c, .slice s.p.a s.p.n s.p.c, .slice (s.u 0).a (s.u 0).n (s.u 0).c, .slice (s.u 1).a (s.u 1).n (s.u 1).c, .slice (s.u 2).a (s.u 2).n (s.u 2).c, .slice s.c.a s.c.n s.c.c]), (.agg #[.int .i64 k.ph, .int .i64 k.ep, .bool k.mj, .slice k.wk.a k.wk.n k.wk.c, .bool k.ov, .int .i64 k.pa, .int .i64 k.pf, .int .i64 k.ps, .int .i64 k.pc, .bool k.me]), .int .i64 a] w fun e w' => e = .returned (.bool true) ∧ Below w.heap.size w w' := by
  have HZ := Lib.hid hz
  have hz0 := hz.pos
  have HP := Lib.hid hp
  have HK := Lib.hid hk
  have HF := Lib.hid hf
  have HC := Lib.hid hc
  have HG := Lib.hid hg
  have H0 := Lib.hid h0
  have FI := Lib.hid hfi
  have HL := Lib.hid hlen
  have HX := Lib.hid (show xs.length ≤ 1000000 by omega)
  have D0 : Hid (shD s d k.mj k.ep 0 = d ∧ shO false xs k.ov = k.ov ∧ shX false xs 0 = xs) := Lib.hid ⟨if_neg (by rw [h0]; decide), by simp [shO], if_neg (by simp)⟩
  have D1 : Hid (shD s d k.mj k.ep a = d ∧ shO false xs k.ov = k.ov ∧ shX false xs a = xs) := Lib.hid ⟨if_neg (by rw [hc]; decide), by simp [shO], if_neg (by simp)⟩
  obtain ⟨db, hdb⟩ : ∃ x, x = blD s d k.mj k.ep a := ⟨_, rfl⟩
  have DB := Lib.hid hdb.symm
  clear hdb
  clear hz hp hk hf hc hg h0 hxl hfi hlen
  go_enter Tryd.func6, Tryd.ntmps6
  go_wp2_with fail
  obtain ⟨W1, hW1⟩ : ∃ W1, W1 = (w.alloc (.cells #[.slice s.w.a s.w.n s.w.c, .slice s.p.a s.p.n s.p.c, .slice (s.u 0).a (s.u 0).n (s.u 0).c, .slice (s.u 1).a (s.u 1).n (s.u 1).c, .slice (s.u 2).a (s.u 2).n (s.u 2).c, .slice s.c.a s.c.n s.c.c] 28)).alloc (.cells #[.int .i64 k.ph, .int .i64 k.ep, .bool k.mj, .slice k.wk.a k.wk.n k.wk.c, .bool k.ov, .int .i64 k.pa, .int .i64 k.pf, .int .i64 k.ps, .int .i64 k.pc, .bool k.me] 30) := ⟨_, rfl⟩
  have L1 := Lib.hid (lk_start HP.out HK.out hW1)
  rw [← hW1]
  clear hW1
  refine (Sh.awake_any W1 (HZ.out.over L1.out.bel hz0)).mono ?_
  rintro e9 w1 ⟨rfl, hb1⟩
  have L2 := Lib.hid (L1.out.next hb1)
  clear hb1 L1
  have q0 := (L2.out.at (w.heap.size) (s) (d) (by simp)).c0
  have q1 := (L2.out.at (w.heap.size) (s) (d) (by simp)).c1
  have q2 := (L2.out.at (w.heap.size) (s) (d) (by simp)).c2
  have q3 := (L2.out.at (w.heap.size) (s) (d) (by simp)).c3
  have q4 := (L2.out.at (w.heap.size) (s) (d) (by simp)).c4
  have q5 := (L2.out.at (w.heap.size) (s) (d) (by simp)).c5
  have ql := (L2.out.at (w.heap.size) (s) (d) (by simp)).lt
  have p0 := (L2.out.cat (w.heap.size + 1) (k) (xs) (by simp)).c0
  have p1 := (L2.out.cat (w.heap.size + 1) (k) (xs) (by simp)).c1
  have p2 := (L2.out.cat (w.heap.size + 1) (k) (xs) (by simp)).c2
  have p3 := (L2.out.cat (w.heap.size + 1) (k) (xs) (by simp)).c3
  have p4 := (L2.out.cat (w.heap.size + 1) (k) (xs) (by simp)).c4
  have p5 := (L2.out.cat (w.heap.size + 1) (k) (xs) (by simp)).c5
  have p6 := (L2.out.cat (w.heap.size + 1) (k) (xs) (by simp)).c6
  have p7 := (L2.out.cat (w.heap.size + 1) (k) (xs) (by simp)).c7
  have p8 := (L2.out.cat (w.heap.size + 1) (k) (xs) (by simp)).c8
  have p9 := (L2.out.cat (w.heap.size + 1) (k) (xs) (by simp)).c9
  have pl := (L2.out.cat (w.heap.size + 1) (k) (xs) (by simp)).lt
  go_wp2_with fail
  refine (few_any s k w1).mono ?_
  rw [HF.out]
  rintro e9 w2 ⟨rfl, hb2⟩
  have L3 := Lib.hid (L2.out.next hb2)
  clear hb2 L2
  clear q0 q1 q2 q3 q4 q5 ql
  clear p0 p1 p2 p3 p4 p5 p6 p7 p8 p9 pl
  have q0 := (L3.out.at (w.heap.size) (s) (d) (by simp)).c0
  have q1 := (L3.out.at (w.heap.size) (s) (d) (by simp)).c1
  have q2 := (L3.out.at (w.heap.size) (s) (d) (by simp)).c2
  have q3 := (L3.out.at (w.heap.size) (s) (d) (by simp)).c3
  have q4 := (L3.out.at (w.heap.size) (s) (d) (by simp)).c4
  have q5 := (L3.out.at (w.heap.size) (s) (d) (by simp)).c5
  have ql := (L3.out.at (w.heap.size) (s) (d) (by simp)).lt
  have p0 := (L3.out.cat (w.heap.size + 1) (k) (xs) (by simp)).c0
  have p1 := (L3.out.cat (w.heap.size + 1) (k) (xs) (by simp)).c1
  have p2 := (L3.out.cat (w.heap.size + 1) (k) (xs) (by simp)).c2
  have p3 := (L3.out.cat (w.heap.size + 1) (k) (xs) (by simp)).c3
  have p4 := (L3.out.cat (w.heap.size + 1) (k) (xs) (by simp)).c4
  have p5 := (L3.out.cat (w.heap.size + 1) (k) (xs) (by simp)).c5
  have p6 := (L3.out.cat (w.heap.size + 1) (k) (xs) (by simp)).c6
  have p7 := (L3.out.cat (w.heap.size + 1) (k) (xs) (by simp)).c7
  have p8 := (L3.out.cat (w.heap.size + 1) (k) (xs) (by simp)).c8
  have p9 := (L3.out.cat (w.heap.size + 1) (k) (xs) (by simp)).c9
  have pl := (L3.out.cat (w.heap.size + 1) (k) (xs) (by simp)).lt
  go_wp2_with fail
  have hC9 := shade_any s d k xs 0 w2 HX.out (L3.out.hp (w.heap.size) (s) (d) (by simp)) (L3.out.wr (w.heap.size + 1) (k) (xs) (by simp)) (HZ.out.over L3.out.bel hz0) FI.out
  rw [H0.out, D0.out.1, D0.out.2.1, D0.out.2.2] at hC9
  refine hC9.mono ?_
  rintro e9 w9 ⟨t1, v1, rfl, hp9, hl9, _, ha9⟩
  have TL1 := Lib.hid hl9
  have AP := Lib.hid (And.intro ha9 hp9)
  clear hp9 hl9 ha9 hC9
  clear q0 q1 q2 q3 q4 q5 ql
  clear p0 p1 p2 p3 p4 p5 p6 p7 p8 p9 pl
  go_upto_region 6 with fail
  obtain ⟨W5, hW⟩ : ∃ W, W = (w9.alloc (.cells #[.slice t1.w.a t1.w.n t1.w.c, .slice t1.p.a t1.p.n t1.p.c, .slice (t1.u 0).a (t1.u 0).n (t1.u 0).c, .slice (t1.u 1).a (t1.u 1).n (t1.u 1).c, .slice (t1.u 2).a (t1.u 2).n (t1.u 2).c, .slice t1.c.a t1.c.n t1.c.c] 28)).alloc (.cells #[.int .i64 k.ph, .int .i64 k.ep, .bool k.mj, .slice v1.a v1.n v1.c, .bool k.ov, .int .i64 k.pa, .int .i64 k.pf, .int .i64 k.ps, .int .i64 k.pc, .bool k.me] 30) := ⟨_, rfl⟩
  obtain ⟨b1, hb⟩ : ∃ b, b = w9.heap.size := ⟨_, rfl⟩
  have L5 := Lib.hid (L3.out.addSh AP.out.1 AP.out.2 hW)
  rw [← hb] at L5
  rw [← hW, ← hb]
  clear hW hb AP L3
  have q0 := (L5.out.at (b1) (t1) (d) (by simp)).c0
  have q1 := (L5.out.at (b1) (t1) (d) (by simp)).c1
  have q2 := (L5.out.at (b1) (t1) (d) (by simp)).c2
  have q3 := (L5.out.at (b1) (t1) (d) (by simp)).c3
  have q4 := (L5.out.at (b1) (t1) (d) (by simp)).c4
  have q5 := (L5.out.at (b1) (t1) (d) (by simp)).c5
  have ql := (L5.out.at (b1) (t1) (d) (by simp)).lt
  have r0 := (L5.out.at (w.heap.size) (s) (d) (by simp)).c0
  have r1 := (L5.out.at (w.heap.size) (s) (d) (by simp)).c1
  have r2 := (L5.out.at (w.heap.size) (s) (d) (by simp)).c2
  have r3 := (L5.out.at (w.heap.size) (s) (d) (by simp)).c3
  have r4 := (L5.out.at (w.heap.size) (s) (d) (by simp)).c4
  have r5 := (L5.out.at (w.heap.size) (s) (d) (by simp)).c5
  have rl := (L5.out.at (w.heap.size) (s) (d) (by simp)).lt
  go_wp2_with fail
  have hC9 := hsame_yes t1 s d W5 TL1.out (L5.out.hp (w.heap.size) (s) (d) (by simp)) (L5.out.hp (b1) (t1) (d) (by simp)) FI.out
  refine hC9.mono ?_
  rintro e9 w6 ⟨rfl, hb9⟩
  have L6 := Lib.hid (L5.out.next hb9)
  clear hb9 hC9 L5
  clear q0 q1 q2 q3 q4 q5 ql
  clear r0 r1 r2 r3 r4 r5 rl
  have p0 := (L6.out.cat (b1 + 1) (kw k v1 k.ov) (xs) (by simp)).c0
  have p1 := (L6.out.cat (b1 + 1) (kw k v1 k.ov) (xs) (by simp)).c1
  have p2 := (L6.out.cat (b1 + 1) (kw k v1 k.ov) (xs) (by simp)).c2
  have p3 := (L6.out.cat (b1 + 1) (kw k v1 k.ov) (xs) (by simp)).c3
  have p4 := (L6.out.cat (b1 + 1) (kw k v1 k.ov) (xs) (by simp)).c4
  have p5 := (L6.out.cat (b1 + 1) (kw k v1 k.ov) (xs) (by simp)).c5
  have p6 := (L6.out.cat (b1 + 1) (kw k v1 k.ov) (xs) (by simp)).c6
  have p7 := (L6.out.cat (b1 + 1) (kw k v1 k.ov) (xs) (by simp)).c7
  have p8 := (L6.out.cat (b1 + 1) (kw k v1 k.ov) (xs) (by simp)).c8
  have p9 := (L6.out.cat (b1 + 1) (kw k v1 k.ov) (xs) (by simp)).c9
  have pl := (L6.out.cat (b1 + 1) (kw k v1 k.ov) (xs) (by simp)).lt
  dsimp only [kw] at p0 p1 p2 p3 p4 p5 p6 p7 p8 p9
  have z0 := (L6.out.cat (w.heap.size + 1) (k) (xs) (by simp)).c0
  have z1 := (L6.out.cat (w.heap.size + 1) (k) (xs) (by simp)).c1
  have z2 := (L6.out.cat (w.heap.size + 1) (k) (xs) (by simp)).c2
  have z3 := (L6.out.cat (w.heap.size + 1) (k) (xs) (by simp)).c3
  have z4 := (L6.out.cat (w.heap.size + 1) (k) (xs) (by simp)).c4
  have z5 := (L6.out.cat (w.heap.size + 1) (k) (xs) (by simp)).c5
  have z6 := (L6.out.cat (w.heap.size + 1) (k) (xs) (by simp)).c6
  have z7 := (L6.out.cat (w.heap.size + 1) (k) (xs) (by simp)).c7
  have z8 := (L6.out.cat (w.heap.size + 1) (k) (xs) (by simp)).c8
  have z9 := (L6.out.cat (w.heap.size + 1) (k) (xs) (by simp)).c9
  have zl := (L6.out.cat (w.heap.size + 1) (k) (xs) (by simp)).lt
  go_wp2_with fail
  have hC9 := ksame_yes k v1 k.wk k.ov xs w6 (L6.out.wr (b1 + 1) (kw k v1 k.ov) (xs) (by simp)) (L6.out.wr (w.heap.size + 1) (k) (xs) (by simp)) HX.out
  refine hC9.mono ?_
  rintro e9 w7 ⟨rfl, hb9⟩
  have L7 := Lib.hid (L6.out.next hb9)
  clear hb9 hC9 L6
  clear p0 p1 p2 p3 p4 p5 p6 p7 p8 p9 pl
  clear z0 z1 z2 z3 z4 z5 z6 z7 z8 z9 zl
  have q0 := (L7.out.at (w.heap.size) (s) (d) (by simp)).c0
  have q1 := (L7.out.at (w.heap.size) (s) (d) (by simp)).c1
  have q2 := (L7.out.at (w.heap.size) (s) (d) (by simp)).c2
  have q3 := (L7.out.at (w.heap.size) (s) (d) (by simp)).c3
  have q4 := (L7.out.at (w.heap.size) (s) (d) (by simp)).c4
  have q5 := (L7.out.at (w.heap.size) (s) (d) (by simp)).c5
  have ql := (L7.out.at (w.heap.size) (s) (d) (by simp)).lt
  have p0 := (L7.out.cat (w.heap.size + 1) (k) (xs) (by simp)).c0
  have p1 := (L7.out.cat (w.heap.size + 1) (k) (xs) (by simp)).c1
  have p2 := (L7.out.cat (w.heap.size + 1) (k) (xs) (by simp)).c2
  have p3 := (L7.out.cat (w.heap.size + 1) (k) (xs) (by simp)).c3
  have p4 := (L7.out.cat (w.heap.size + 1) (k) (xs) (by simp)).c4
  have p5 := (L7.out.cat (w.heap.size + 1) (k) (xs) (by simp)).c5
  have p6 := (L7.out.cat (w.heap.size + 1) (k) (xs) (by simp)).c6
  have p7 := (L7.out.cat (w.heap.size + 1) (k) (xs) (by simp)).c7
  have p8 := (L7.out.cat (w.heap.size + 1) (k) (xs) (by simp)).c8
  have p9 := (L7.out.cat (w.heap.size + 1) (k) (xs) (by simp)).c9
  have pl := (L7.out.cat (w.heap.size + 1) (k) (xs) (by simp)).lt
  go_wp2_with fail
  have hC9 := shade_any s d k xs a w7 HX.out (L7.out.hp (w.heap.size) (s) (d) (by simp)) (L7.out.wr (w.heap.size + 1) (k) (xs) (by simp)) (HZ.out.over L7.out.bel hz0) FI.out
  rw [HC.out, D1.out.1, D1.out.2.1, D1.out.2.2] at hC9
  refine hC9.mono ?_
  rintro e9 w9 ⟨t2, v2, rfl, hp9, hl9, _, ha9⟩
  have TL2 := Lib.hid hl9
  have AP := Lib.hid (And.intro ha9 hp9)
  clear hp9 hl9 ha9 hC9
  clear q0 q1 q2 q3 q4 q5 ql
  clear p0 p1 p2 p3 p4 p5 p6 p7 p8 p9 pl
  go_upto_region 8 with fail
  obtain ⟨W8, hW⟩ : ∃ W, W = (w9.alloc (.cells #[.slice t2.w.a t2.w.n t2.w.c, .slice t2.p.a t2.p.n t2.p.c, .slice (t2.u 0).a (t2.u 0).n (t2.u 0).c, .slice (t2.u 1).a (t2.u 1).n (t2.u 1).c, .slice (t2.u 2).a (t2.u 2).n (t2.u 2).c, .slice t2.c.a t2.c.n t2.c.c] 28)).alloc (.cells #[.int .i64 k.ph, .int .i64 k.ep, .bool k.mj, .slice v2.a v2.n v2.c, .bool k.ov, .int .i64 k.pa, .int .i64 k.pf, .int .i64 k.ps, .int .i64 k.pc, .bool k.me] 30) := ⟨_, rfl⟩
  obtain ⟨b2, hb⟩ : ∃ b, b = w9.heap.size := ⟨_, rfl⟩
  have L8 := Lib.hid (L7.out.addSh AP.out.1 AP.out.2 hW)
  rw [← hb] at L8
  rw [← hW, ← hb]
  clear hW hb AP L7
  have q0 := (L8.out.at (w.heap.size) (s) (d) (by simp)).c0
  have q1 := (L8.out.at (w.heap.size) (s) (d) (by simp)).c1
  have q2 := (L8.out.at (w.heap.size) (s) (d) (by simp)).c2
  have q3 := (L8.out.at (w.heap.size) (s) (d) (by simp)).c3
  have q4 := (L8.out.at (w.heap.size) (s) (d) (by simp)).c4
  have q5 := (L8.out.at (w.heap.size) (s) (d) (by simp)).c5
  have ql := (L8.out.at (w.heap.size) (s) (d) (by simp)).lt
  have p0 := (L8.out.cat (w.heap.size + 1) (k) (xs) (by simp)).c0
  have p1 := (L8.out.cat (w.heap.size + 1) (k) (xs) (by simp)).c1
  have p2 := (L8.out.cat (w.heap.size + 1) (k) (xs) (by simp)).c2
  have p3 := (L8.out.cat (w.heap.size + 1) (k) (xs) (by simp)).c3
  have p4 := (L8.out.cat (w.heap.size + 1) (k) (xs) (by simp)).c4
  have p5 := (L8.out.cat (w.heap.size + 1) (k) (xs) (by simp)).c5
  have p6 := (L8.out.cat (w.heap.size + 1) (k) (xs) (by simp)).c6
  have p7 := (L8.out.cat (w.heap.size + 1) (k) (xs) (by simp)).c7
  have p8 := (L8.out.cat (w.heap.size + 1) (k) (xs) (by simp)).c8
  have p9 := (L8.out.cat (w.heap.size + 1) (k) (xs) (by simp)).c9
  have pl := (L8.out.cat (w.heap.size + 1) (k) (xs) (by simp)).lt
  go_wp2_with fail
  have hC9 := white_any s d k xs a W8 (L8.out.hp (w.heap.size) (s) (d) (by simp)) (L8.out.wr (w.heap.size + 1) (k) (xs) (by simp)) (HZ.out.over L8.out.bel hz0) FI.out
  rw [HC.out] at hC9
  refine hC9.mono ?_
  rintro e9 w9 ⟨rfl, hb9⟩
  have L9 := Lib.hid (L8.out.next hb9)
  clear hb9 hC9 L8
  clear q0 q1 q2 q3 q4 q5 ql
  clear p0 p1 p2 p3 p4 p5 p6 p7 p8 p9 pl
  have q0 := (L9.out.at (b2) (t2) (d) (by simp)).c0
  have q1 := (L9.out.at (b2) (t2) (d) (by simp)).c1
  have q2 := (L9.out.at (b2) (t2) (d) (by simp)).c2
  have q3 := (L9.out.at (b2) (t2) (d) (by simp)).c3
  have q4 := (L9.out.at (b2) (t2) (d) (by simp)).c4
  have q5 := (L9.out.at (b2) (t2) (d) (by simp)).c5
  have ql := (L9.out.at (b2) (t2) (d) (by simp)).lt
  have r0 := (L9.out.at (w.heap.size) (s) (d) (by simp)).c0
  have r1 := (L9.out.at (w.heap.size) (s) (d) (by simp)).c1
  have r2 := (L9.out.at (w.heap.size) (s) (d) (by simp)).c2
  have r3 := (L9.out.at (w.heap.size) (s) (d) (by simp)).c3
  have r4 := (L9.out.at (w.heap.size) (s) (d) (by simp)).c4
  have r5 := (L9.out.at (w.heap.size) (s) (d) (by simp)).c5
  have rl := (L9.out.at (w.heap.size) (s) (d) (by simp)).lt
  go_wp2_with fail
  have hC9 := hsame_yes t2 s d w9 TL2.out (L9.out.hp (w.heap.size) (s) (d) (by simp)) (L9.out.hp (b2) (t2) (d) (by simp)) FI.out
  refine hC9.mono ?_
  rintro e9 w10 ⟨rfl, hb9⟩
  have L10 := Lib.hid (L9.out.next hb9)
  clear hb9 hC9 L9
  clear q0 q1 q2 q3 q4 q5 ql
  clear r0 r1 r2 r3 r4 r5 rl
  have p0 := (L10.out.cat (b2 + 1) (kw k v2 k.ov) (xs) (by simp)).c0
  have p1 := (L10.out.cat (b2 + 1) (kw k v2 k.ov) (xs) (by simp)).c1
  have p2 := (L10.out.cat (b2 + 1) (kw k v2 k.ov) (xs) (by simp)).c2
  have p3 := (L10.out.cat (b2 + 1) (kw k v2 k.ov) (xs) (by simp)).c3
  have p4 := (L10.out.cat (b2 + 1) (kw k v2 k.ov) (xs) (by simp)).c4
  have p5 := (L10.out.cat (b2 + 1) (kw k v2 k.ov) (xs) (by simp)).c5
  have p6 := (L10.out.cat (b2 + 1) (kw k v2 k.ov) (xs) (by simp)).c6
  have p7 := (L10.out.cat (b2 + 1) (kw k v2 k.ov) (xs) (by simp)).c7
  have p8 := (L10.out.cat (b2 + 1) (kw k v2 k.ov) (xs) (by simp)).c8
  have p9 := (L10.out.cat (b2 + 1) (kw k v2 k.ov) (xs) (by simp)).c9
  have pl := (L10.out.cat (b2 + 1) (kw k v2 k.ov) (xs) (by simp)).lt
  dsimp only [kw] at p0 p1 p2 p3 p4 p5 p6 p7 p8 p9
  have z0 := (L10.out.cat (w.heap.size + 1) (k) (xs) (by simp)).c0
  have z1 := (L10.out.cat (w.heap.size + 1) (k) (xs) (by simp)).c1
  have z2 := (L10.out.cat (w.heap.size + 1) (k) (xs) (by simp)).c2
  have z3 := (L10.out.cat (w.heap.size + 1) (k) (xs) (by simp)).c3
  have z4 := (L10.out.cat (w.heap.size + 1) (k) (xs) (by simp)).c4
  have z5 := (L10.out.cat (w.heap.size + 1) (k) (xs) (by simp)).c5
  have z6 := (L10.out.cat (w.heap.size + 1) (k) (xs) (by simp)).c6
  have z7 := (L10.out.cat (w.heap.size + 1) (k) (xs) (by simp)).c7
  have z8 := (L10.out.cat (w.heap.size + 1) (k) (xs) (by simp)).c8
  have z9 := (L10.out.cat (w.heap.size + 1) (k) (xs) (by simp)).c9
  have zl := (L10.out.cat (w.heap.size + 1) (k) (xs) (by simp)).lt
  go_wp2_with fail
  have hC9 := ksame_yes k v2 k.wk k.ov xs w10 (L10.out.wr (b2 + 1) (kw k v2 k.ov) (xs) (by simp)) (L10.out.wr (w.heap.size + 1) (k) (xs) (by simp)) HX.out
  refine hC9.mono ?_
  rintro e9 w11 ⟨rfl, hb9⟩
  have L11 := Lib.hid (L10.out.next hb9)
  clear hb9 hC9 L10
  clear p0 p1 p2 p3 p4 p5 p6 p7 p8 p9 pl
  clear z0 z1 z2 z3 z4 z5 z6 z7 z8 z9 zl
  have q0 := (L11.out.at (w.heap.size) (s) (d) (by simp)).c0
  have q1 := (L11.out.at (w.heap.size) (s) (d) (by simp)).c1
  have q2 := (L11.out.at (w.heap.size) (s) (d) (by simp)).c2
  have q3 := (L11.out.at (w.heap.size) (s) (d) (by simp)).c3
  have q4 := (L11.out.at (w.heap.size) (s) (d) (by simp)).c4
  have q5 := (L11.out.at (w.heap.size) (s) (d) (by simp)).c5
  have ql := (L11.out.at (w.heap.size) (s) (d) (by simp)).lt
  have p0 := (L11.out.cat (w.heap.size + 1) (k) (xs) (by simp)).c0
  have p1 := (L11.out.cat (w.heap.size + 1) (k) (xs) (by simp)).c1
  have p2 := (L11.out.cat (w.heap.size + 1) (k) (xs) (by simp)).c2
  have p3 := (L11.out.cat (w.heap.size + 1) (k) (xs) (by simp)).c3
  have p4 := (L11.out.cat (w.heap.size + 1) (k) (xs) (by simp)).c4
  have p5 := (L11.out.cat (w.heap.size + 1) (k) (xs) (by simp)).c5
  have p6 := (L11.out.cat (w.heap.size + 1) (k) (xs) (by simp)).c6
  have p7 := (L11.out.cat (w.heap.size + 1) (k) (xs) (by simp)).c7
  have p8 := (L11.out.cat (w.heap.size + 1) (k) (xs) (by simp)).c8
  have p9 := (L11.out.cat (w.heap.size + 1) (k) (xs) (by simp)).c9
  have pl := (L11.out.cat (w.heap.size + 1) (k) (xs) (by simp)).lt
  go_wp2_with fail
  have hC9 := black_any s d k xs a w11 (L11.out.hp (w.heap.size) (s) (d) (by simp)) (L11.out.wr (w.heap.size + 1) (k) (xs) (by simp)) (HZ.out.over L11.out.bel hz0) FI.out
  rw [HG.out, DB.out] at hC9
  refine hC9.mono ?_
  rintro e9 w9 ⟨t3, rfl, hp9, hl9, hb9⟩
  have TL3 := Lib.hid hl9
  have AP := Lib.hid (And.intro hb9 hp9)
  clear hp9 hl9 hb9 hC9
  clear q0 q1 q2 q3 q4 q5 ql
  clear p0 p1 p2 p3 p4 p5 p6 p7 p8 p9 pl
  go_upto_region 11 with fail
  obtain ⟨W12, hW⟩ : ∃ W, W = w9.alloc (.cells #[.slice t3.w.a t3.w.n t3.w.c, .slice t3.p.a t3.p.n t3.p.c, .slice (t3.u 0).a (t3.u 0).n (t3.u 0).c, .slice (t3.u 1).a (t3.u 1).n (t3.u 1).c, .slice (t3.u 2).a (t3.u 2).n (t3.u 2).c, .slice t3.c.a t3.c.n t3.c.c] 28) := ⟨_, rfl⟩
  obtain ⟨b3, hb⟩ : ∃ b, b = w9.heap.size := ⟨_, rfl⟩
  have L12 := Lib.hid (L11.out.addBl AP.out.1 AP.out.2 hW)
  rw [← hb] at L12
  rw [← hW, ← hb]
  clear hW hb AP L11
  go_wp2
  go_ret
  exact ⟨rfl, L12.out.bel⟩
set_option maxHeartbeats 8000000 in
theorem core_10 (hc : isC s d k.mj k.ep a 1 = true) (hg : isC s d k.mj k.ep a 2 = false) (h0 : isC s d k.mj k.ep 0 1 = false) (hxl : xs.length ≤ 100) (hfi : Fine s d) (hlen : d.ws.length = s.w.n) (hf : fewK s k = true) (hz : Cl.Sz w) (hp : Hp w w.heap.size s d) (hk : WRow w w.heap.size k xs) : Calls Tryd.prog 6 #[(.agg #[.slice s.w.a s.w.n s.w.c, .slice s.p.a s.p.n s.p.c, .slice (s.u 0).a (s.u 0).n (s.u 0).c, .slice (s.u 1).a (s.u 1).n (s.u 1).c, .slice (s.u 2).a (s.u 2).n (s.u 2).c, .slice s.c.a s.c.n s.c.c]), (.agg #[.int .i64 k.ph, .int .i64 k.ep, .bool k.mj, .slice k.wk.a k.wk.n k.wk.c, .bool k.ov, .int .i64 k.pa, .int .i64 k.pf, .int .i64 k.ps, .int .i64 k.pc, .bool k.me]), .int .i64 a] w fun e w' => e = .returned (.bool true) ∧ Below w.heap.size w w' := by
  have HZ := Lib.hid hz
  have hz0 := hz.pos
  have HP := Lib.hid hp
  have HK := Lib.hid hk
  have HF := Lib.hid hf
  have HC := Lib.hid hc
  have HG := Lib.hid hg
  have H0 := Lib.hid h0
  have FI := Lib.hid hfi
  have HL := Lib.hid hlen
  have HX := Lib.hid (show xs.length ≤ 1000000 by omega)
  have D0 : Hid (shD s d k.mj k.ep 0 = d ∧ shO false xs k.ov = k.ov ∧ shX false xs 0 = xs) := Lib.hid ⟨if_neg (by rw [h0]; decide), by simp [shO], if_neg (by simp)⟩
  have X1 : Hid (¬ (shD s d k.mj k.ep a).ws = d.ws ∧ (shD s d k.mj k.ep a).f = d.f ∧ (shD s d k.mj k.ep a).F = d.F) := Lib.hid ⟨sh_other hlen hc, sh_f s d k.mj k.ep a⟩
  obtain ⟨e1, he1⟩ : ∃ e, e = shD s d k.mj k.ep a := ⟨_, rfl⟩
  obtain ⟨o1, ho1⟩ : ∃ o, o = shO true xs k.ov := ⟨_, rfl⟩
  obtain ⟨x1, hx1⟩ : ∃ x, x = shX true xs a := ⟨_, rfl⟩
  rw [← he1] at X1
  have E1 := Lib.hid (And.intro he1 (And.intro ho1 hx1))
  clear he1 ho1 hx1
  have DB : Hid (blD s d k.mj k.ep a = d) := Lib.hid (if_neg (by rw [hg]; decide))
  clear hz hp hk hf hc hg h0 hxl hfi hlen
  go_enter Tryd.func6, Tryd.ntmps6
  go_wp2_with fail
  obtain ⟨W1, hW1⟩ : ∃ W1, W1 = (w.alloc (.cells #[.slice s.w.a s.w.n s.w.c, .slice s.p.a s.p.n s.p.c, .slice (s.u 0).a (s.u 0).n (s.u 0).c, .slice (s.u 1).a (s.u 1).n (s.u 1).c, .slice (s.u 2).a (s.u 2).n (s.u 2).c, .slice s.c.a s.c.n s.c.c] 28)).alloc (.cells #[.int .i64 k.ph, .int .i64 k.ep, .bool k.mj, .slice k.wk.a k.wk.n k.wk.c, .bool k.ov, .int .i64 k.pa, .int .i64 k.pf, .int .i64 k.ps, .int .i64 k.pc, .bool k.me] 30) := ⟨_, rfl⟩
  have L1 := Lib.hid (lk_start HP.out HK.out hW1)
  rw [← hW1]
  clear hW1
  refine (Sh.awake_any W1 (HZ.out.over L1.out.bel hz0)).mono ?_
  rintro e9 w1 ⟨rfl, hb1⟩
  have L2 := Lib.hid (L1.out.next hb1)
  clear hb1 L1
  have q0 := (L2.out.at (w.heap.size) (s) (d) (by simp)).c0
  have q1 := (L2.out.at (w.heap.size) (s) (d) (by simp)).c1
  have q2 := (L2.out.at (w.heap.size) (s) (d) (by simp)).c2
  have q3 := (L2.out.at (w.heap.size) (s) (d) (by simp)).c3
  have q4 := (L2.out.at (w.heap.size) (s) (d) (by simp)).c4
  have q5 := (L2.out.at (w.heap.size) (s) (d) (by simp)).c5
  have ql := (L2.out.at (w.heap.size) (s) (d) (by simp)).lt
  have p0 := (L2.out.cat (w.heap.size + 1) (k) (xs) (by simp)).c0
  have p1 := (L2.out.cat (w.heap.size + 1) (k) (xs) (by simp)).c1
  have p2 := (L2.out.cat (w.heap.size + 1) (k) (xs) (by simp)).c2
  have p3 := (L2.out.cat (w.heap.size + 1) (k) (xs) (by simp)).c3
  have p4 := (L2.out.cat (w.heap.size + 1) (k) (xs) (by simp)).c4
  have p5 := (L2.out.cat (w.heap.size + 1) (k) (xs) (by simp)).c5
  have p6 := (L2.out.cat (w.heap.size + 1) (k) (xs) (by simp)).c6
  have p7 := (L2.out.cat (w.heap.size + 1) (k) (xs) (by simp)).c7
  have p8 := (L2.out.cat (w.heap.size + 1) (k) (xs) (by simp)).c8
  have p9 := (L2.out.cat (w.heap.size + 1) (k) (xs) (by simp)).c9
  have pl := (L2.out.cat (w.heap.size + 1) (k) (xs) (by simp)).lt
  go_wp2_with fail
  refine (few_any s k w1).mono ?_
  rw [HF.out]
  rintro e9 w2 ⟨rfl, hb2⟩
  have L3 := Lib.hid (L2.out.next hb2)
  clear hb2 L2
  clear q0 q1 q2 q3 q4 q5 ql
  clear p0 p1 p2 p3 p4 p5 p6 p7 p8 p9 pl
  have q0 := (L3.out.at (w.heap.size) (s) (d) (by simp)).c0
  have q1 := (L3.out.at (w.heap.size) (s) (d) (by simp)).c1
  have q2 := (L3.out.at (w.heap.size) (s) (d) (by simp)).c2
  have q3 := (L3.out.at (w.heap.size) (s) (d) (by simp)).c3
  have q4 := (L3.out.at (w.heap.size) (s) (d) (by simp)).c4
  have q5 := (L3.out.at (w.heap.size) (s) (d) (by simp)).c5
  have ql := (L3.out.at (w.heap.size) (s) (d) (by simp)).lt
  have p0 := (L3.out.cat (w.heap.size + 1) (k) (xs) (by simp)).c0
  have p1 := (L3.out.cat (w.heap.size + 1) (k) (xs) (by simp)).c1
  have p2 := (L3.out.cat (w.heap.size + 1) (k) (xs) (by simp)).c2
  have p3 := (L3.out.cat (w.heap.size + 1) (k) (xs) (by simp)).c3
  have p4 := (L3.out.cat (w.heap.size + 1) (k) (xs) (by simp)).c4
  have p5 := (L3.out.cat (w.heap.size + 1) (k) (xs) (by simp)).c5
  have p6 := (L3.out.cat (w.heap.size + 1) (k) (xs) (by simp)).c6
  have p7 := (L3.out.cat (w.heap.size + 1) (k) (xs) (by simp)).c7
  have p8 := (L3.out.cat (w.heap.size + 1) (k) (xs) (by simp)).c8
  have p9 := (L3.out.cat (w.heap.size + 1) (k) (xs) (by simp)).c9
  have pl := (L3.out.cat (w.heap.size + 1) (k) (xs) (by simp)).lt
  go_wp2_with fail
  have hC9 := shade_any s d k xs 0 w2 HX.out (L3.out.hp (w.heap.size) (s) (d) (by simp)) (L3.out.wr (w.heap.size + 1) (k) (xs) (by simp)) (HZ.out.over L3.out.bel hz0) FI.out
  rw [H0.out, D0.out.1, D0.out.2.1, D0.out.2.2] at hC9
  refine hC9.mono ?_
  rintro e9 w9 ⟨t1, v1, rfl, hp9, hl9, _, ha9⟩
  have TL1 := Lib.hid hl9
  have AP := Lib.hid (And.intro ha9 hp9)
  clear hp9 hl9 ha9 hC9
  clear q0 q1 q2 q3 q4 q5 ql
  clear p0 p1 p2 p3 p4 p5 p6 p7 p8 p9 pl
  go_upto_region 6 with fail
  obtain ⟨W5, hW⟩ : ∃ W, W = (w9.alloc (.cells #[.slice t1.w.a t1.w.n t1.w.c, .slice t1.p.a t1.p.n t1.p.c, .slice (t1.u 0).a (t1.u 0).n (t1.u 0).c, .slice (t1.u 1).a (t1.u 1).n (t1.u 1).c, .slice (t1.u 2).a (t1.u 2).n (t1.u 2).c, .slice t1.c.a t1.c.n t1.c.c] 28)).alloc (.cells #[.int .i64 k.ph, .int .i64 k.ep, .bool k.mj, .slice v1.a v1.n v1.c, .bool k.ov, .int .i64 k.pa, .int .i64 k.pf, .int .i64 k.ps, .int .i64 k.pc, .bool k.me] 30) := ⟨_, rfl⟩
  obtain ⟨b1, hb⟩ : ∃ b, b = w9.heap.size := ⟨_, rfl⟩
  have L5 := Lib.hid (L3.out.addSh AP.out.1 AP.out.2 hW)
  rw [← hb] at L5
  rw [← hW, ← hb]
  clear hW hb AP L3
  have q0 := (L5.out.at (b1) (t1) (d) (by simp)).c0
  have q1 := (L5.out.at (b1) (t1) (d) (by simp)).c1
  have q2 := (L5.out.at (b1) (t1) (d) (by simp)).c2
  have q3 := (L5.out.at (b1) (t1) (d) (by simp)).c3
  have q4 := (L5.out.at (b1) (t1) (d) (by simp)).c4
  have q5 := (L5.out.at (b1) (t1) (d) (by simp)).c5
  have ql := (L5.out.at (b1) (t1) (d) (by simp)).lt
  have r0 := (L5.out.at (w.heap.size) (s) (d) (by simp)).c0
  have r1 := (L5.out.at (w.heap.size) (s) (d) (by simp)).c1
  have r2 := (L5.out.at (w.heap.size) (s) (d) (by simp)).c2
  have r3 := (L5.out.at (w.heap.size) (s) (d) (by simp)).c3
  have r4 := (L5.out.at (w.heap.size) (s) (d) (by simp)).c4
  have r5 := (L5.out.at (w.heap.size) (s) (d) (by simp)).c5
  have rl := (L5.out.at (w.heap.size) (s) (d) (by simp)).lt
  go_wp2_with fail
  have hC9 := hsame_yes t1 s d W5 TL1.out (L5.out.hp (w.heap.size) (s) (d) (by simp)) (L5.out.hp (b1) (t1) (d) (by simp)) FI.out
  refine hC9.mono ?_
  rintro e9 w6 ⟨rfl, hb9⟩
  have L6 := Lib.hid (L5.out.next hb9)
  clear hb9 hC9 L5
  clear q0 q1 q2 q3 q4 q5 ql
  clear r0 r1 r2 r3 r4 r5 rl
  have p0 := (L6.out.cat (b1 + 1) (kw k v1 k.ov) (xs) (by simp)).c0
  have p1 := (L6.out.cat (b1 + 1) (kw k v1 k.ov) (xs) (by simp)).c1
  have p2 := (L6.out.cat (b1 + 1) (kw k v1 k.ov) (xs) (by simp)).c2
  have p3 := (L6.out.cat (b1 + 1) (kw k v1 k.ov) (xs) (by simp)).c3
  have p4 := (L6.out.cat (b1 + 1) (kw k v1 k.ov) (xs) (by simp)).c4
  have p5 := (L6.out.cat (b1 + 1) (kw k v1 k.ov) (xs) (by simp)).c5
  have p6 := (L6.out.cat (b1 + 1) (kw k v1 k.ov) (xs) (by simp)).c6
  have p7 := (L6.out.cat (b1 + 1) (kw k v1 k.ov) (xs) (by simp)).c7
  have p8 := (L6.out.cat (b1 + 1) (kw k v1 k.ov) (xs) (by simp)).c8
  have p9 := (L6.out.cat (b1 + 1) (kw k v1 k.ov) (xs) (by simp)).c9
  have pl := (L6.out.cat (b1 + 1) (kw k v1 k.ov) (xs) (by simp)).lt
  dsimp only [kw] at p0 p1 p2 p3 p4 p5 p6 p7 p8 p9
  have z0 := (L6.out.cat (w.heap.size + 1) (k) (xs) (by simp)).c0
  have z1 := (L6.out.cat (w.heap.size + 1) (k) (xs) (by simp)).c1
  have z2 := (L6.out.cat (w.heap.size + 1) (k) (xs) (by simp)).c2
  have z3 := (L6.out.cat (w.heap.size + 1) (k) (xs) (by simp)).c3
  have z4 := (L6.out.cat (w.heap.size + 1) (k) (xs) (by simp)).c4
  have z5 := (L6.out.cat (w.heap.size + 1) (k) (xs) (by simp)).c5
  have z6 := (L6.out.cat (w.heap.size + 1) (k) (xs) (by simp)).c6
  have z7 := (L6.out.cat (w.heap.size + 1) (k) (xs) (by simp)).c7
  have z8 := (L6.out.cat (w.heap.size + 1) (k) (xs) (by simp)).c8
  have z9 := (L6.out.cat (w.heap.size + 1) (k) (xs) (by simp)).c9
  have zl := (L6.out.cat (w.heap.size + 1) (k) (xs) (by simp)).lt
  go_wp2_with fail
  have hC9 := ksame_yes k v1 k.wk k.ov xs w6 (L6.out.wr (b1 + 1) (kw k v1 k.ov) (xs) (by simp)) (L6.out.wr (w.heap.size + 1) (k) (xs) (by simp)) HX.out
  refine hC9.mono ?_
  rintro e9 w7 ⟨rfl, hb9⟩
  have L7 := Lib.hid (L6.out.next hb9)
  clear hb9 hC9 L6
  clear p0 p1 p2 p3 p4 p5 p6 p7 p8 p9 pl
  clear z0 z1 z2 z3 z4 z5 z6 z7 z8 z9 zl
  have q0 := (L7.out.at (w.heap.size) (s) (d) (by simp)).c0
  have q1 := (L7.out.at (w.heap.size) (s) (d) (by simp)).c1
  have q2 := (L7.out.at (w.heap.size) (s) (d) (by simp)).c2
  have q3 := (L7.out.at (w.heap.size) (s) (d) (by simp)).c3
  have q4 := (L7.out.at (w.heap.size) (s) (d) (by simp)).c4
  have q5 := (L7.out.at (w.heap.size) (s) (d) (by simp)).c5
  have ql := (L7.out.at (w.heap.size) (s) (d) (by simp)).lt
  have p0 := (L7.out.cat (w.heap.size + 1) (k) (xs) (by simp)).c0
  have p1 := (L7.out.cat (w.heap.size + 1) (k) (xs) (by simp)).c1
  have p2 := (L7.out.cat (w.heap.size + 1) (k) (xs) (by simp)).c2
  have p3 := (L7.out.cat (w.heap.size + 1) (k) (xs) (by simp)).c3
  have p4 := (L7.out.cat (w.heap.size + 1) (k) (xs) (by simp)).c4
  have p5 := (L7.out.cat (w.heap.size + 1) (k) (xs) (by simp)).c5
  have p6 := (L7.out.cat (w.heap.size + 1) (k) (xs) (by simp)).c6
  have p7 := (L7.out.cat (w.heap.size + 1) (k) (xs) (by simp)).c7
  have p8 := (L7.out.cat (w.heap.size + 1) (k) (xs) (by simp)).c8
  have p9 := (L7.out.cat (w.heap.size + 1) (k) (xs) (by simp)).c9
  have pl := (L7.out.cat (w.heap.size + 1) (k) (xs) (by simp)).lt
  go_wp2_with fail
  have hC9 := shade_any s d k xs a w7 HX.out (L7.out.hp (w.heap.size) (s) (d) (by simp)) (L7.out.wr (w.heap.size + 1) (k) (xs) (by simp)) (HZ.out.over L7.out.bel hz0) FI.out
  rw [HC.out, ← E1.out.1, ← E1.out.2.1, ← E1.out.2.2] at hC9
  refine hC9.mono ?_
  rintro e9 w9 ⟨t2, v2, rfl, hp9, hl9, _, ha9⟩
  have TL2 := Lib.hid hl9
  have AP := Lib.hid (And.intro ha9 hp9)
  clear hp9 hl9 ha9 hC9
  clear q0 q1 q2 q3 q4 q5 ql
  clear p0 p1 p2 p3 p4 p5 p6 p7 p8 p9 pl
  go_upto_region 8 with fail
  obtain ⟨W8, hW⟩ : ∃ W, W = (w9.alloc (.cells #[.slice t2.w.a t2.w.n t2.w.c, .slice t2.p.a t2.p.n t2.p.c, .slice (t2.u 0).a (t2.u 0).n (t2.u 0).c, .slice (t2.u 1).a (t2.u 1).n (t2.u 1).c, .slice (t2.u 2).a (t2.u 2).n (t2.u 2).c, .slice t2.c.a t2.c.n t2.c.c] 28)).alloc (.cells #[.int .i64 k.ph, .int .i64 k.ep, .bool k.mj, .slice v2.a v2.n v2.c, .bool o1, .int .i64 k.pa, .int .i64 k.pf, .int .i64 k.ps, .int .i64 k.pc, .bool k.me] 30) := ⟨_, rfl⟩
  obtain ⟨b2, hb⟩ : ∃ b, b = w9.heap.size := ⟨_, rfl⟩
  have L8 := Lib.hid (L7.out.addSh AP.out.1 AP.out.2 hW)
  rw [← hb] at L8
  rw [← hW, ← hb]
  clear hW hb AP L7
  have q0 := (L8.out.at (w.heap.size) (s) (d) (by simp)).c0
  have q1 := (L8.out.at (w.heap.size) (s) (d) (by simp)).c1
  have q2 := (L8.out.at (w.heap.size) (s) (d) (by simp)).c2
  have q3 := (L8.out.at (w.heap.size) (s) (d) (by simp)).c3
  have q4 := (L8.out.at (w.heap.size) (s) (d) (by simp)).c4
  have q5 := (L8.out.at (w.heap.size) (s) (d) (by simp)).c5
  have ql := (L8.out.at (w.heap.size) (s) (d) (by simp)).lt
  have p0 := (L8.out.cat (w.heap.size + 1) (k) (xs) (by simp)).c0
  have p1 := (L8.out.cat (w.heap.size + 1) (k) (xs) (by simp)).c1
  have p2 := (L8.out.cat (w.heap.size + 1) (k) (xs) (by simp)).c2
  have p3 := (L8.out.cat (w.heap.size + 1) (k) (xs) (by simp)).c3
  have p4 := (L8.out.cat (w.heap.size + 1) (k) (xs) (by simp)).c4
  have p5 := (L8.out.cat (w.heap.size + 1) (k) (xs) (by simp)).c5
  have p6 := (L8.out.cat (w.heap.size + 1) (k) (xs) (by simp)).c6
  have p7 := (L8.out.cat (w.heap.size + 1) (k) (xs) (by simp)).c7
  have p8 := (L8.out.cat (w.heap.size + 1) (k) (xs) (by simp)).c8
  have p9 := (L8.out.cat (w.heap.size + 1) (k) (xs) (by simp)).c9
  have pl := (L8.out.cat (w.heap.size + 1) (k) (xs) (by simp)).lt
  go_wp2_with fail
  have hC9 := white_any s d k xs a W8 (L8.out.hp (w.heap.size) (s) (d) (by simp)) (L8.out.wr (w.heap.size + 1) (k) (xs) (by simp)) (HZ.out.over L8.out.bel hz0) FI.out
  rw [HC.out] at hC9
  refine hC9.mono ?_
  rintro e9 w9 ⟨rfl, hb9⟩
  have L9 := Lib.hid (L8.out.next hb9)
  clear hb9 hC9 L8
  clear q0 q1 q2 q3 q4 q5 ql
  clear p0 p1 p2 p3 p4 p5 p6 p7 p8 p9 pl
  have q0 := (L9.out.at (b2) (t2) (e1) (by simp)).c0
  have q1 := (L9.out.at (b2) (t2) (e1) (by simp)).c1
  have q2 := (L9.out.at (b2) (t2) (e1) (by simp)).c2
  have q3 := (L9.out.at (b2) (t2) (e1) (by simp)).c3
  have q4 := (L9.out.at (b2) (t2) (e1) (by simp)).c4
  have q5 := (L9.out.at (b2) (t2) (e1) (by simp)).c5
  have ql := (L9.out.at (b2) (t2) (e1) (by simp)).lt
  have r0 := (L9.out.at (w.heap.size) (s) (d) (by simp)).c0
  have r1 := (L9.out.at (w.heap.size) (s) (d) (by simp)).c1
  have r2 := (L9.out.at (w.heap.size) (s) (d) (by simp)).c2
  have r3 := (L9.out.at (w.heap.size) (s) (d) (by simp)).c3
  have r4 := (L9.out.at (w.heap.size) (s) (d) (by simp)).c4
  have r5 := (L9.out.at (w.heap.size) (s) (d) (by simp)).c5
  have rl := (L9.out.at (w.heap.size) (s) (d) (by simp)).lt
  go_wp2_with fail
  have hC9 := hsame_no t2 s d e1 w9 TL2.out (L9.out.hp (w.heap.size) (s) (d) (by simp)) (L9.out.hp (b2) (t2) (e1) (by simp)) FI.out X1.out.1 X1.out.2.1 X1.out.2.2
  refine hC9.mono ?_
  rintro e9 w11 ⟨rfl, hb9⟩
  have L11 := Lib.hid (L9.out.next hb9)
  clear hb9 hC9 L9
  clear q0 q1 q2 q3 q4 q5 ql
  clear r0 r1 r2 r3 r4 r5 rl
  have q0 := (L11.out.at (w.heap.size) (s) (d) (by simp)).c0
  have q1 := (L11.out.at (w.heap.size) (s) (d) (by simp)).c1
  have q2 := (L11.out.at (w.heap.size) (s) (d) (by simp)).c2
  have q3 := (L11.out.at (w.heap.size) (s) (d) (by simp)).c3
  have q4 := (L11.out.at (w.heap.size) (s) (d) (by simp)).c4
  have q5 := (L11.out.at (w.heap.size) (s) (d) (by simp)).c5
  have ql := (L11.out.at (w.heap.size) (s) (d) (by simp)).lt
  have p0 := (L11.out.cat (w.heap.size + 1) (k) (xs) (by simp)).c0
  have p1 := (L11.out.cat (w.heap.size + 1) (k) (xs) (by simp)).c1
  have p2 := (L11.out.cat (w.heap.size + 1) (k) (xs) (by simp)).c2
  have p3 := (L11.out.cat (w.heap.size + 1) (k) (xs) (by simp)).c3
  have p4 := (L11.out.cat (w.heap.size + 1) (k) (xs) (by simp)).c4
  have p5 := (L11.out.cat (w.heap.size + 1) (k) (xs) (by simp)).c5
  have p6 := (L11.out.cat (w.heap.size + 1) (k) (xs) (by simp)).c6
  have p7 := (L11.out.cat (w.heap.size + 1) (k) (xs) (by simp)).c7
  have p8 := (L11.out.cat (w.heap.size + 1) (k) (xs) (by simp)).c8
  have p9 := (L11.out.cat (w.heap.size + 1) (k) (xs) (by simp)).c9
  have pl := (L11.out.cat (w.heap.size + 1) (k) (xs) (by simp)).lt
  go_wp2_with fail
  have hC9 := black_any s d k xs a w11 (L11.out.hp (w.heap.size) (s) (d) (by simp)) (L11.out.wr (w.heap.size + 1) (k) (xs) (by simp)) (HZ.out.over L11.out.bel hz0) FI.out
  rw [HG.out, DB.out] at hC9
  refine hC9.mono ?_
  rintro e9 w9 ⟨t3, rfl, hp9, hl9, hb9⟩
  have TL3 := Lib.hid hl9
  have AP := Lib.hid (And.intro hb9 hp9)
  clear hp9 hl9 hb9 hC9
  clear q0 q1 q2 q3 q4 q5 ql
  clear p0 p1 p2 p3 p4 p5 p6 p7 p8 p9 pl
  go_upto_region 11 with fail
  obtain ⟨W12, hW⟩ : ∃ W, W = w9.alloc (.cells #[.slice t3.w.a t3.w.n t3.w.c, .slice t3.p.a t3.p.n t3.p.c, .slice (t3.u 0).a (t3.u 0).n (t3.u 0).c, .slice (t3.u 1).a (t3.u 1).n (t3.u 1).c, .slice (t3.u 2).a (t3.u 2).n (t3.u 2).c, .slice t3.c.a t3.c.n t3.c.c] 28) := ⟨_, rfl⟩
  obtain ⟨b3, hb⟩ : ∃ b, b = w9.heap.size := ⟨_, rfl⟩
  have L12 := Lib.hid (L11.out.addBl AP.out.1 AP.out.2 hW)
  rw [← hb] at L12
  rw [← hW, ← hb]
  clear hW hb AP L11
  have q0 := (L12.out.at (b3) (t3) (d) (by simp)).c0
  have q1 := (L12.out.at (b3) (t3) (d) (by simp)).c1
  have q2 := (L12.out.at (b3) (t3) (d) (by simp)).c2
  have q3 := (L12.out.at (b3) (t3) (d) (by simp)).c3
  have q4 := (L12.out.at (b3) (t3) (d) (by simp)).c4
  have q5 := (L12.out.at (b3) (t3) (d) (by simp)).c5
  have ql := (L12.out.at (b3) (t3) (d) (by simp)).lt
  have r0 := (L12.out.at (w.heap.size) (s) (d) (by simp)).c0
  have r1 := (L12.out.at (w.heap.size) (s) (d) (by simp)).c1
  have r2 := (L12.out.at (w.heap.size) (s) (d) (by simp)).c2
  have r3 := (L12.out.at (w.heap.size) (s) (d) (by simp)).c3
  have r4 := (L12.out.at (w.heap.size) (s) (d) (by simp)).c4
  have r5 := (L12.out.at (w.heap.size) (s) (d) (by simp)).c5
  have rl := (L12.out.at (w.heap.size) (s) (d) (by simp)).lt
  go_wp2_with fail
  have hC9 := hsame_yes t3 s d W12 TL3.out (L12.out.hp (w.heap.size) (s) (d) (by simp)) (L12.out.hp (b3) (t3) (d) (by simp)) FI.out
  refine hC9.mono ?_
  rintro e9 w13 ⟨rfl, hb9⟩
  have L13 := Lib.hid (L12.out.next hb9)
  clear hb9 hC9 L12
  clear q0 q1 q2 q3 q4 q5 ql
  clear r0 r1 r2 r3 r4 r5 rl
  go_wp2
  go_ret
  exact ⟨rfl, L13.out.bel⟩
end
theorem walk (s : Hs) (d : Hd_) (k : Ks) (xs : List Int) (a : Int) (w : World) (hz : Cl.Sz w) (hp : Hp w w.heap.size s d) (hv : Fit64 d.ws) (_ : s.p.n ≤ s.p.c) (hk : WRow w w.heap.size k xs) (_ : k.wk.n ≤ k.wk.c) (_ : k.wk.c ≤ maxLen) (_ : (Lit.int .i64 k.ep).wf = true) (_ : (Lit.int .i64 a).wf = true) :
    Calls Tryd.prog 6 #[(.agg #[.slice s.w.a s.w.n s.w.c, .slice s.p.a s.p.n s.p.c, .slice (s.u 0).a (s.u 0).n (s.u 0).c, .slice (s.u 1).a (s.u 1).n (s.u 1).c, .slice (s.u 2).a (s.u 2).n (s.u 2).c, .slice s.c.a s.c.n s.c.c]), (.agg #[.int .i64 k.ph, .int .i64 k.ep, .bool k.mj, .slice k.wk.a k.wk.n k.wk.c, .bool k.ov, .int .i64 k.pa, .int .i64 k.pf, .int .i64 k.ps, .int .i64 k.pc, .bool k.me]), .int .i64 a] w fun e w' => e = .returned (.bool true) ∧ Below w.heap.size w w' := by
  cases hf : fewK s k
  · exact walk_few s d k xs a w hf hz hp hk
  have hf' := hf
  unfold fewK at hf'
  rw [Bool.and_eq_true, decide_eq_true_eq] at hf'
  have hfi := fine_few hf'.1 hp hv
  have hxl : xs.length ≤ 100 := by rw [← hk.len]; exact hf'.2
  have hlen : d.ws.length = s.w.n := hp.words.1
  have h0 : isC s d k.mj k.ep 0 1 = false := Bool.eq_false_iff.2 fun h => by have := (obj_of (isC_iff.1 h).2.1).lo; omega
  cases hc : isC s d k.mj k.ep a 1
  · cases hg : isC s d k.mj k.ep a 2
    · exact core_00 s d k xs a w hc hg h0 hxl hfi hlen hf hz hp hk
    · exact core_01 s d k xs a w hc hg h0 hxl hfi hlen hf hz hp hk
  · cases hg : isC s d k.mj k.ep a 2
    · exact core_10 s d k xs a w hc hg h0 hxl hfi hlen hf hz hp hk
    · have h1 := (isC_iff.1 hc).2.2
      have h2 := (isC_iff.1 hg).2.2
      omega
-- the frame (hp11frame.py)
set_option maxRecDepth 100000 in
theorem lifted (os : Os) (started : os.Started) (H : Type) (enc : TypeId × Value → H) :
    ReturnsInHanded {} Tryd.checked os 6 .any (fun w args => (Rows.shadeNoneSpec.pre enc Tryd.prog Tryd.f6 [] false w args ∧ laidMetH Tryd.prog laidSizes w) ∧ sizedMet enc Tryd.prog Tryd.f6 (OpenSpec.ofChange Rows.shadeNoneSpec) false w args)
      (Rows.shadeNoneSpec.post enc Tryd.prog Tryd.f6 false true false false) := by
  refine returnsInHanded_of_change_and (C := Tryd.checked) (X := fun w _ => laidMetH Tryd.prog laidSizes w) (fun _ _ _ hh h => h.of_heap hh) own started (by kernel_rfl) Tryd.func6
    (ChangeSpec.witness_shaped (enc := enc) (C := Tryd.checked) (os := os) (X := fun w _ => laidMetH Tryd.prog laidSizes w) false (World.doorLaid Tryd.prog 400 os) #[.agg #[.slice none 0 0, .slice none 0 0, .slice none 0 0, .slice none 0 0, .slice none 0 0, .slice none 0 0], .agg #[.int .i64 0, .int .i64 0, .bool false, .slice none 0 0, .bool false, .int .i64 0, .int .i64 0, .int .i64 0, .int .i64 0, .bool false], .int .i64 0] 8 rfl (World.shaped_of_RefB (by kernel_rfl) (by kernel_rfl)) (by kernel_rfl) (by kernel_rfl) (by kernel_rfl) (door_met os _)) ?_
  intro W base args ds gs before hval0 hW _ _ hL _
  have hval : ∀ (j : Nat) t v, Tryd.f6.params[j]? = some t → args[j]? = some v → Value.okWide Tryd.prog W .any base t v := hval0
  have hW' := hW
  obtain ⟨p, q, hA0, hV, rfl, hfz, hnd⟩ := hW
  have hA : DataW.TrodAll enc Tryd.prog W 0 (fun _ => true) true Tryd.f6.params.toList args.toList ds p := hA0
  rw [Tryd.params6] at hA hval
  obtain ⟨v0, vs0, d0, ds0, p0, q0, hargs, rfl, rfl, h0, r0⟩ := trodAll_cons hA
  obtain ⟨v1, vs1, d1, ds1, p1, q1, rfl, rfl, rfl, h1, r1⟩ := trodAll_cons r0
  obtain ⟨v2, vs2, d2, ds2, p2, q2, rfl, rfl, rfl, h2, r2⟩ := trodAll_cons r1
  obtain ⟨rfl, rfl, rfl⟩ := trodAll_nil r2
  obtain rfl : args = #[v0, v1, v2] := by cases args; simp_all
  obtain ⟨rfl, rfl⟩ := trodVars_none hV
  have k0 := h0
  have lt0 : ∀ x ∈ p0, x.block < W.heap.size := by obtain ⟨m, hm⟩ := k0; exact DataW.trod_lt m _ _ _ hm
  obtain ⟨s0, z0, rfl, w0, f0, b0⟩ := heap_of8 (hval 0 28 v0 rfl rfl) h0
  have k1 := h1
  have lt1 : ∀ x ∈ p1, x.block < W.heap.size := by obtain ⟨m, hm⟩ := k1; exact DataW.trod_lt m _ _ _ hm
  obtain ⟨k1', z1, rfl, w1, m1, x1, f1⟩ := Sh.col_of (hval 1 30 v1 rfl rfl) h1
  obtain ⟨a2, rfl, rfl, rfl, w2⟩ := open_int Tryd.underlying3 (hval 2 3 v2 rfl rfl) h2
  clear hA0 hval0
  refine (walk s0 z0 k1' z1 a2 W (of_laid hL) w0 f0 b0 w1 m1 x1 f1 w2).mono fun e W' ⟨he, bel⟩ => ?_
  subst he
  exact ⟨_, rfl, _, _, _, [], _, [], hW', trodAll_mk1 (shut_bool Tryd.underlying4 _), (trodAll_cons_mk (Below.trod laidOut (by kernel_rfl) (of_decide_eq_true (by kernel_rfl)) k0 bel lt0) (trodAll_cons_mk (Below.trod laidOut (by kernel_rfl) (of_decide_eq_true (by kernel_rfl)) k1 bel lt1) (trodAll_cons_mk (shut_int Tryd.underlying3 w2) trodAll_mk0))), rfl, bel.frame _, fun h => by cases h⟩

theorem over : Rows.ShadeNoneSaid :=
  OpenClaim.holds_of_wide 6 Tryd.f6 rfl rfl rfl rfl rfl rfl rfl ⟨rfl, rfl, rfl, rfl, rfl⟩ rfl rfl rfl rfl rfl (by kernel_rfl) Tryd.func6 (by kernel_rfl)
    (of_decide_eq_true (by kernel_rfl)) (by unfold Func.isWrapper; first | (rw [if_pos (by decide +kernel)]; kernel_rfl) | (rw [if_neg (by decide +kernel)]; exact ⟨rfl, rfl⟩))
    (fun os started H enc _ => lifted os started H enc)

/-- The statement: the card. -/
theorem proved : Rows.ShadeNoneCardSaid :=
  Claim7.holds_tied_plain_at .later [] [.data] true Rows.shadeNoneCard.stood.harness false
    over (fun _ h => by cases h) (by kernel_rfl) (fun _ h => by cases h) shadeNone_row_tie rfl ⟨rfl, rfl⟩ (by kernel_rfl) rfl
    (fun f fn hf hfn => by
      obtain rfl : f = 6 := Option.some.inj ((show Tryd.prog.funcNamed "ragpicker/ragpickerlaw11.ShadeNone" = some 6 by kernel_rfl).symm.trans hf) |>.symm
      obtain rfl : fn = Tryd.f6 := (Option.some.inj (Tryd.func6.symm.trans hfn)).symm
      exact ⟨by kernel_rfl, fun j t ht => by
        rw [Tryd.params6] at ht
        have hm : t ∈ [28, 30, 3] := by simpa using Array.mem_of_getElem? ht
        have hall : ([28, 30, 3].all fun u => !Tryd.prog.wantsStandIn u) = true := by kernel_rfl
        exact (show Tryd.prog.wantsStandIn t = false by simpa using List.all_eq_true.1 hall t hm)⟩)
    (by kernel_rfl)
#print axioms proved
end Go.Proofs.YtdmclfolooiccaaDoor.ShadeNone
