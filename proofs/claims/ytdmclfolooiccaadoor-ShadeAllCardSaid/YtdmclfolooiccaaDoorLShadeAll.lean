/-
  ShadeAll: all that is white, shaded one by one, is grey then, in whichever order; none of it is white, and the collector is over, if there are more than the work list has room for: for every heap of at most 9 pages and 130 words, and every work list of at most 100; the table of sizes is tied to the program's text by the card.
-/
import Derived.Test.YtdmclfolooiccaaDoorHpLG
import Derived.Test.YtdmclfolooiccaaDoorLShAllM
namespace Go.Proofs.YtdmclfolooiccaaDoor.ShadeAll
open Go.Proofs.YtdmclfolooiccaaDoor Go.Proofs.YtdmclfolooiccaaDoor.Sh
open Go.ChangeShapes Go.WideShapes Go.ChangeAt Go.RowKit
set_option maxRecDepth 100000

section
variable (s : Hs) (d : Hd_) (k : Ks) (xs : List Int) (w : World)
set_option maxHeartbeats 1000000 in
theorem walk_few (hf : fewK s k = false) (hz : Cl.Sz w) (hp : Hp w w.heap.size s d) (hk : WRow w w.heap.size k xs) : Calls Tryd.prog 4 #[(.agg #[.slice s.w.a s.w.n s.w.c, .slice s.p.a s.p.n s.p.c, .slice (s.u 0).a (s.u 0).n (s.u 0).c, .slice (s.u 1).a (s.u 1).n (s.u 1).c, .slice (s.u 2).a (s.u 2).n (s.u 2).c, .slice s.c.a s.c.n s.c.c]), (.agg #[.int .i64 k.ph, .int .i64 k.ep, .bool k.mj, .slice k.wk.a k.wk.n k.wk.c, .bool k.ov, .int .i64 k.pa, .int .i64 k.pf, .int .i64 k.ps, .int .i64 k.pc, .bool k.me])] w fun e w' => e = .returned (.bool true) ∧ Below w.heap.size w w' := by
  have HZ := Lib.hid hz
  have hz0 := hz.pos
  have HP := Lib.hid hp
  have HK := Lib.hid hk
  have HF := Lib.hid hf
  clear hz hp hk hf
  go_enter Tryd.func4, Tryd.ntmps4
  go_wp2_with fail
  obtain ⟨W1, hW1⟩ : ∃ W1, W1 = (w.alloc (.cells #[.slice s.w.a s.w.n s.w.c, .slice s.p.a s.p.n s.p.c, .slice (s.u 0).a (s.u 0).n (s.u 0).c, .slice (s.u 1).a (s.u 1).n (s.u 1).c, .slice (s.u 2).a (s.u 2).n (s.u 2).c, .slice s.c.a s.c.n s.c.c] 28)).alloc (.cells #[.int .i64 k.ph, .int .i64 k.ep, .bool k.mj, .slice k.wk.a k.wk.n k.wk.c, .bool k.ov, .int .i64 k.pa, .int .i64 k.pf, .int .i64 k.ps, .int .i64 k.pc, .bool k.me] 30) := ⟨_, rfl⟩
  have L1 := Lib.hid (lk_start HP.out HK.out hW1)
  rw [← hW1]
  clear hW1
  refine (Sh.awake_any W1 (HZ.out.over L1.out.bel hz0)).mono ?_
  rintro e9 w1 ⟨rfl, hb1⟩
  have L2 := Lib.hid (L1.out.next hb1)
  clear hb1 L1
  have q0 := (L2.out.at (w.heap.size) (s) (d) (by simp)).c0
  have q1 := (L2.out.at (w.heap.size) (s) (d) (by simp)).c1
  have q2 := (L2.out.at (w.heap.size) (s) (d) (by simp)).c2
  have q3 := (L2.out.at (w.heap.size) (s) (d) (by simp)).c3
  have q4 := (L2.out.at (w.heap.size) (s) (d) (by simp)).c4
  have q5 := (L2.out.at (w.heap.size) (s) (d) (by simp)).c5
  have ql := (L2.out.at (w.heap.size) (s) (d) (by simp)).lt
  have p0 := (L2.out.cat (w.heap.size + 1) (k) (xs) (by simp)).c0
  have p1 := (L2.out.cat (w.heap.size + 1) (k) (xs) (by simp)).c1
  have p2 := (L2.out.cat (w.heap.size + 1) (k) (xs) (by simp)).c2
  have p3 := (L2.out.cat (w.heap.size + 1) (k) (xs) (by simp)).c3
  have p4 := (L2.out.cat (w.heap.size + 1) (k) (xs) (by simp)).c4
  have p5 := (L2.out.cat (w.heap.size + 1) (k) (xs) (by simp)).c5
  have p6 := (L2.out.cat (w.heap.size + 1) (k) (xs) (by simp)).c6
  have p7 := (L2.out.cat (w.heap.size + 1) (k) (xs) (by simp)).c7
  have p8 := (L2.out.cat (w.heap.size + 1) (k) (xs) (by simp)).c8
  have p9 := (L2.out.cat (w.heap.size + 1) (k) (xs) (by simp)).c9
  have pl := (L2.out.cat (w.heap.size + 1) (k) (xs) (by simp)).lt
  go_wp2_with fail
  refine (few_any s k w1).mono ?_
  rw [HF.out]
  rintro e9 w2 ⟨rfl, hb2⟩
  have L3 := Lib.hid (L2.out.next hb2)
  clear hb2 L2
  clear q0 q1 q2 q3 q4 q5 ql
  clear p0 p1 p2 p3 p4 p5 p6 p7 p8 p9 pl
  go_wp2
  go_ret
  exact ⟨rfl, L3.out.bel⟩
set_option maxHeartbeats 1000000 in
theorem walk_may (hm : mayB0 s d = false) (hfi : Fine s d) (hf : fewK s k = true) (hz : Cl.Sz w) (hp : Hp w w.heap.size s d) (hk : WRow w w.heap.size k xs) : Calls Tryd.prog 4 #[(.agg #[.slice s.w.a s.w.n s.w.c, .slice s.p.a s.p.n s.p.c, .slice (s.u 0).a (s.u 0).n (s.u 0).c, .slice (s.u 1).a (s.u 1).n (s.u 1).c, .slice (s.u 2).a (s.u 2).n (s.u 2).c, .slice s.c.a s.c.n s.c.c]), (.agg #[.int .i64 k.ph, .int .i64 k.ep, .bool k.mj, .slice k.wk.a k.wk.n k.wk.c, .bool k.ov, .int .i64 k.pa, .int .i64 k.pf, .int .i64 k.ps, .int .i64 k.pc, .bool k.me])] w fun e w' => e = .returned (.bool true) ∧ Below w.heap.size w w' := by
  have HZ := Lib.hid hz
  have hz0 := hz.pos
  have HP := Lib.hid hp
  have HK := Lib.hid hk
  have HF := Lib.hid hf
  have HM := Lib.hid hm
  have FI := Lib.hid hfi
  clear hz hp hk hf hm hfi
  go_enter Tryd.func4, Tryd.ntmps4
  go_wp2_with fail
  obtain ⟨W1, hW1⟩ : ∃ W1, W1 = (w.alloc (.cells #[.slice s.w.a s.w.n s.w.c, .slice s.p.a s.p.n s.p.c, .slice (s.u 0).a (s.u 0).n (s.u 0).c, .slice (s.u 1).a (s.u 1).n (s.u 1).c, .slice (s.u 2).a (s.u 2).n (s.u 2).c, .slice s.c.a s.c.n s.c.c] 28)).alloc (.cells #[.int .i64 k.ph, .int .i64 k.ep, .bool k.mj, .slice k.wk.a k.wk.n k.wk.c, .bool k.ov, .int .i64 k.pa, .int .i64 k.pf, .int .i64 k.ps, .int .i64 k.pc, .bool k.me] 30) := ⟨_, rfl⟩
  have L1 := Lib.hid (lk_start HP.out HK.out hW1)
  rw [← hW1]
  clear hW1
  refine (Sh.awake_any W1 (HZ.out.over L1.out.bel hz0)).mono ?_
  rintro e9 w1 ⟨rfl, hb1⟩
  have L2 := Lib.hid (L1.out.next hb1)
  clear hb1 L1
  have q0 := (L2.out.at (w.heap.size) (s) (d) (by simp)).c0
  have q1 := (L2.out.at (w.heap.size) (s) (d) (by simp)).c1
  have q2 := (L2.out.at (w.heap.size) (s) (d) (by simp)).c2
  have q3 := (L2.out.at (w.heap.size) (s) (d) (by simp)).c3
  have q4 := (L2.out.at (w.heap.size) (s) (d) (by simp)).c4
  have q5 := (L2.out.at (w.heap.size) (s) (d) (by simp)).c5
  have ql := (L2.out.at (w.heap.size) (s) (d) (by simp)).lt
  have p0 := (L2.out.cat (w.heap.size + 1) (k) (xs) (by simp)).c0
  have p1 := (L2.out.cat (w.heap.size + 1) (k) (xs) (by simp)).c1
  have p2 := (L2.out.cat (w.heap.size + 1) (k) (xs) (by simp)).c2
  have p3 := (L2.out.cat (w.heap.size + 1) (k) (xs) (by simp)).c3
  have p4 := (L2.out.cat (w.heap.size + 1) (k) (xs) (by simp)).c4
  have p5 := (L2.out.cat (w.heap.size + 1) (k) (xs) (by simp)).c5
  have p6 := (L2.out.cat (w.heap.size + 1) (k) (xs) (by simp)).c6
  have p7 := (L2.out.cat (w.heap.size + 1) (k) (xs) (by simp)).c7
  have p8 := (L2.out.cat (w.heap.size + 1) (k) (xs) (by simp)).c8
  have p9 := (L2.out.cat (w.heap.size + 1) (k) (xs) (by simp)).c9
  have pl := (L2.out.cat (w.heap.size + 1) (k) (xs) (by simp)).lt
  go_wp2_with fail
  refine (few_any s k w1).mono ?_
  rw [HF.out]
  rintro e9 w2 ⟨rfl, hb2⟩
  have L3 := Lib.hid (L2.out.next hb2)
  clear hb2 L2
  clear q0 q1 q2 q3 q4 q5 ql
  clear p0 p1 p2 p3 p4 p5 p6 p7 p8 p9 pl
  have q0 := (L3.out.at (w.heap.size) (s) (d) (by simp)).c0
  have q1 := (L3.out.at (w.heap.size) (s) (d) (by simp)).c1
  have q2 := (L3.out.at (w.heap.size) (s) (d) (by simp)).c2
  have q3 := (L3.out.at (w.heap.size) (s) (d) (by simp)).c3
  have q4 := (L3.out.at (w.heap.size) (s) (d) (by simp)).c4
  have q5 := (L3.out.at (w.heap.size) (s) (d) (by simp)).c5
  have ql := (L3.out.at (w.heap.size) (s) (d) (by simp)).lt
  go_wp2_with fail
  have hC9 := pmay0_any s d w2 (L3.out.hp (w.heap.size) (s) (d) (by simp)) (HZ.out.over L3.out.bel hz0) FI.out
  rw [HM.out] at hC9
  refine hC9.mono ?_
  rintro e9 w4 ⟨rfl, hb9⟩
  have L4 := Lib.hid (L3.out.next hb9)
  clear hb9 hC9 L3
  clear q0 q1 q2 q3 q4 q5 ql
  go_wp2
  go_ret
  exact ⟨rfl, L4.out.bel⟩
set_option maxHeartbeats 1000000 in
theorem walk_ep (he : ¬ (0 ≤ k.ep ∧ k.ep ≤ 1048576)) (hm : mayB0 s d = true) (hfi : Fine s d) (hf : fewK s k = true) (hz : Cl.Sz w) (hp : Hp w w.heap.size s d) (hk : WRow w w.heap.size k xs) : Calls Tryd.prog 4 #[(.agg #[.slice s.w.a s.w.n s.w.c, .slice s.p.a s.p.n s.p.c, .slice (s.u 0).a (s.u 0).n (s.u 0).c, .slice (s.u 1).a (s.u 1).n (s.u 1).c, .slice (s.u 2).a (s.u 2).n (s.u 2).c, .slice s.c.a s.c.n s.c.c]), (.agg #[.int .i64 k.ph, .int .i64 k.ep, .bool k.mj, .slice k.wk.a k.wk.n k.wk.c, .bool k.ov, .int .i64 k.pa, .int .i64 k.pf, .int .i64 k.ps, .int .i64 k.pc, .bool k.me])] w fun e w' => e = .returned (.bool true) ∧ Below w.heap.size w w' := by
  have HZ := Lib.hid hz
  have hz0 := hz.pos
  have HP := Lib.hid hp
  have HK := Lib.hid hk
  have HF := Lib.hid hf
  have HM := Lib.hid hm
  have FI := Lib.hid hfi
  have HE := Lib.hid he
  clear hz hp hk hf hm hfi he
  go_enter Tryd.func4, Tryd.ntmps4
  go_wp2_with fail
  obtain ⟨W1, hW1⟩ : ∃ W1, W1 = (w.alloc (.cells #[.slice s.w.a s.w.n s.w.c, .slice s.p.a s.p.n s.p.c, .slice (s.u 0).a (s.u 0).n (s.u 0).c, .slice (s.u 1).a (s.u 1).n (s.u 1).c, .slice (s.u 2).a (s.u 2).n (s.u 2).c, .slice s.c.a s.c.n s.c.c] 28)).alloc (.cells #[.int .i64 k.ph, .int .i64 k.ep, .bool k.mj, .slice k.wk.a k.wk.n k.wk.c, .bool k.ov, .int .i64 k.pa, .int .i64 k.pf, .int .i64 k.ps, .int .i64 k.pc, .bool k.me] 30) := ⟨_, rfl⟩
  have L1 := Lib.hid (lk_start HP.out HK.out hW1)
  rw [← hW1]
  clear hW1
  refine (Sh.awake_any W1 (HZ.out.over L1.out.bel hz0)).mono ?_
  rintro e9 w1 ⟨rfl, hb1⟩
  have L2 := Lib.hid (L1.out.next hb1)
  clear hb1 L1
  have q0 := (L2.out.at (w.heap.size) (s) (d) (by simp)).c0
  have q1 := (L2.out.at (w.heap.size) (s) (d) (by simp)).c1
  have q2 := (L2.out.at (w.heap.size) (s) (d) (by simp)).c2
  have q3 := (L2.out.at (w.heap.size) (s) (d) (by simp)).c3
  have q4 := (L2.out.at (w.heap.size) (s) (d) (by simp)).c4
  have q5 := (L2.out.at (w.heap.size) (s) (d) (by simp)).c5
  have ql := (L2.out.at (w.heap.size) (s) (d) (by simp)).lt
  have p0 := (L2.out.cat (w.heap.size + 1) (k) (xs) (by simp)).c0
  have p1 := (L2.out.cat (w.heap.size + 1) (k) (xs) (by simp)).c1
  have p2 := (L2.out.cat (w.heap.size + 1) (k) (xs) (by simp)).c2
  have p3 := (L2.out.cat (w.heap.size + 1) (k) (xs) (by simp)).c3
  have p4 := (L2.out.cat (w.heap.size + 1) (k) (xs) (by simp)).c4
  have p5 := (L2.out.cat (w.heap.size + 1) (k) (xs) (by simp)).c5
  have p6 := (L2.out.cat (w.heap.size + 1) (k) (xs) (by simp)).c6
  have p7 := (L2.out.cat (w.heap.size + 1) (k) (xs) (by simp)).c7
  have p8 := (L2.out.cat (w.heap.size + 1) (k) (xs) (by simp)).c8
  have p9 := (L2.out.cat (w.heap.size + 1) (k) (xs) (by simp)).c9
  have pl := (L2.out.cat (w.heap.size + 1) (k) (xs) (by simp)).lt
  go_wp2_with fail
  refine (few_any s k w1).mono ?_
  rw [HF.out]
  rintro e9 w2 ⟨rfl, hb2⟩
  have L3 := Lib.hid (L2.out.next hb2)
  clear hb2 L2
  clear q0 q1 q2 q3 q4 q5 ql
  clear p0 p1 p2 p3 p4 p5 p6 p7 p8 p9 pl
  have q0 := (L3.out.at (w.heap.size) (s) (d) (by simp)).c0
  have q1 := (L3.out.at (w.heap.size) (s) (d) (by simp)).c1
  have q2 := (L3.out.at (w.heap.size) (s) (d) (by simp)).c2
  have q3 := (L3.out.at (w.heap.size) (s) (d) (by simp)).c3
  have q4 := (L3.out.at (w.heap.size) (s) (d) (by simp)).c4
  have q5 := (L3.out.at (w.heap.size) (s) (d) (by simp)).c5
  have ql := (L3.out.at (w.heap.size) (s) (d) (by simp)).lt
  go_wp2_with fail
  have hC9 := pmay0_any s d w2 (L3.out.hp (w.heap.size) (s) (d) (by simp)) (HZ.out.over L3.out.bel hz0) FI.out
  rw [HM.out] at hC9
  refine hC9.mono ?_
  rintro e9 w4 ⟨rfl, hb9⟩
  have L4 := Lib.hid (L3.out.next hb9)
  clear hb9 hC9 L3
  clear q0 q1 q2 q3 q4 q5 ql
  have p1 := (L4.out.cat (w.heap.size + 1) k xs (by simp)).c1
  have pl := (L4.out.cat (w.heap.size + 1) k xs (by simp)).lt
  by_cases h0 : k.ep < 0
  · have a0 : decide (k.ep < 0) = true := decide_eq_true h0
    clear h0
    go_wp2
    go_ret
    exact ⟨rfl, L4.out.bel⟩
  · have a0 : decide (k.ep < 0) = false := decide_eq_false h0
    have a1 : decide (1048576 < k.ep) = true := decide_eq_true (by have := HE.out; omega)
    clear h0
    go_wp2
    go_ret
    exact ⟨rfl, L4.out.bel⟩
end
theorem al_keep4 {W5 W W' : World} {k : Ks} {tk tm : Hs} {dk dm : Hd_} {vk vm : Ls.Sl} {ok om : Bool} {xk xm : List Int} (h : Al W5 W k tk dk vk ok xk tm dm vm om xm ∧ True) (hb : Below W.heap.size W W') : (Al W5 W' k tk dk vk ok xk tm dm vm om xm ∧ True) ∧ (W5.heap.size < W'.heap.size ∧ W'.cell? ⟨W5.heap.size, 0, none⟩ = some (.slice tk.w.a tk.w.n tk.w.c) ∧ W'.cell? ⟨W5.heap.size, 1, none⟩ = some (.slice tk.p.a tk.p.n tk.p.c) ∧ W'.cell? ⟨W5.heap.size, 2, none⟩ = some (.slice (tk.u 0).a (tk.u 0).n (tk.u 0).c) ∧ W'.cell? ⟨W5.heap.size, 3, none⟩ = some (.slice (tk.u 1).a (tk.u 1).n (tk.u 1).c) ∧ W'.cell? ⟨W5.heap.size, 4, none⟩ = some (.slice (tk.u 2).a (tk.u 2).n (tk.u 2).c) ∧ W'.cell? ⟨W5.heap.size, 5, none⟩ = some (.slice tk.c.a tk.c.n tk.c.c)) ∧ (W5.heap.size + 1 < W'.heap.size ∧ W'.cell? ⟨W5.heap.size + 1, 0, none⟩ = some (.int .i64 (kw k vk ok).ph) ∧ W'.cell? ⟨W5.heap.size + 1, 1, none⟩ = some (.int .i64 (kw k vk ok).ep) ∧ W'.cell? ⟨W5.heap.size + 1, 2, none⟩ = some (.bool (kw k vk ok).mj) ∧ W'.cell? ⟨W5.heap.size + 1, 3, none⟩ = some (.slice (kw k vk ok).wk.a (kw k vk ok).wk.n (kw k vk ok).wk.c) ∧ W'.cell? ⟨W5.heap.size + 1, 4, none⟩ = some (.bool (kw k vk ok).ov) ∧ W'.cell? ⟨W5.heap.size + 1, 5, none⟩ = some (.int .i64 (kw k vk ok).pa) ∧ W'.cell? ⟨W5.heap.size + 1, 6, none⟩ = some (.int .i64 (kw k vk ok).pf) ∧ W'.cell? ⟨W5.heap.size + 1, 7, none⟩ = some (.int .i64 (kw k vk ok).ps) ∧ W'.cell? ⟨W5.heap.size + 1, 8, none⟩ = some (.int .i64 (kw k vk ok).pc) ∧ W'.cell? ⟨W5.heap.size + 1, 9, none⟩ = some (.bool (kw k vk ok).me)) ∧ (W5.heap.size + 1 + 1 < W'.heap.size ∧ W'.cell? ⟨W5.heap.size + 1 + 1, 0, none⟩ = some (.slice tm.w.a tm.w.n tm.w.c) ∧ W'.cell? ⟨W5.heap.size + 1 + 1, 1, none⟩ = some (.slice tm.p.a tm.p.n tm.p.c) ∧ W'.cell? ⟨W5.heap.size + 1 + 1, 2, none⟩ = some (.slice (tm.u 0).a (tm.u 0).n (tm.u 0).c) ∧ W'.cell? ⟨W5.heap.size + 1 + 1, 3, none⟩ = some (.slice (tm.u 1).a (tm.u 1).n (tm.u 1).c) ∧ W'.cell? ⟨W5.heap.size + 1 + 1, 4, none⟩ = some (.slice (tm.u 2).a (tm.u 2).n (tm.u 2).c) ∧ W'.cell? ⟨W5.heap.size + 1 + 1, 5, none⟩ = some (.slice tm.c.a tm.c.n tm.c.c)) ∧ (W5.heap.size + 1 + 1 + 1 < W'.heap.size ∧ W'.cell? ⟨W5.heap.size + 1 + 1 + 1, 0, none⟩ = some (.int .i64 (kw k vm om).ph) ∧ W'.cell? ⟨W5.heap.size + 1 + 1 + 1, 1, none⟩ = some (.int .i64 (kw k vm om).ep) ∧ W'.cell? ⟨W5.heap.size + 1 + 1 + 1, 2, none⟩ = some (.bool (kw k vm om).mj) ∧ W'.cell? ⟨W5.heap.size + 1 + 1 + 1, 3, none⟩ = some (.slice (kw k vm om).wk.a (kw k vm om).wk.n (kw k vm om).wk.c) ∧ W'.cell? ⟨W5.heap.size + 1 + 1 + 1, 4, none⟩ = some (.bool (kw k vm om).ov) ∧ W'.cell? ⟨W5.heap.size + 1 + 1 + 1, 5, none⟩ = some (.int .i64 (kw k vm om).pa) ∧ W'.cell? ⟨W5.heap.size + 1 + 1 + 1, 6, none⟩ = some (.int .i64 (kw k vm om).pf) ∧ W'.cell? ⟨W5.heap.size + 1 + 1 + 1, 7, none⟩ = some (.int .i64 (kw k vm om).ps) ∧ W'.cell? ⟨W5.heap.size + 1 + 1 + 1, 8, none⟩ = some (.int .i64 (kw k vm om).pc) ∧ W'.cell? ⟨W5.heap.size + 1 + 1 + 1, 9, none⟩ = some (.bool (kw k vm om).me)) :=
  have g := h.1.next hb
  ⟨⟨g, trivial⟩, sixh_of g.pk.hb, ten_of g.pk.cb, sixh_of g.pm.hb, ten_of g.pm.cb⟩
set_option maxHeartbeats 32000000 in
theorem core (s : Hs) (d : Hd_) (k : Ks) (xs : List Int) (w : World) (us : List Int) (hus : usedL s d = us) (he : 0 ≤ k.ep ∧ k.ep ≤ 1048576) (hm : mayB0 s d = true) (hxl : xs.length ≤ 100) (hlen : d.ws.length = s.w.n) (hfi : Fine s d) (hf : fewK s k = true) (hz : Cl.Sz w) (hp : Hp w w.heap.size s d) (hk : WRow w w.heap.size k xs) : Calls Tryd.prog 4 #[(.agg #[.slice s.w.a s.w.n s.w.c, .slice s.p.a s.p.n s.p.c, .slice (s.u 0).a (s.u 0).n (s.u 0).c, .slice (s.u 1).a (s.u 1).n (s.u 1).c, .slice (s.u 2).a (s.u 2).n (s.u 2).c, .slice s.c.a s.c.n s.c.c]), (.agg #[.int .i64 k.ph, .int .i64 k.ep, .bool k.mj, .slice k.wk.a k.wk.n k.wk.c, .bool k.ov, .int .i64 k.pa, .int .i64 k.pf, .int .i64 k.ps, .int .i64 k.pc, .bool k.me])] w fun e w' => e = .returned (.bool true) ∧ Below w.heap.size w w' := by
  have HZ := Lib.hid hz
  have hz0 := hz.pos
  have HP := Lib.hid hp
  have HK := Lib.hid hk
  have HF := Lib.hid hf
  have HM := Lib.hid hm
  have FI := Lib.hid hfi
  have HU := Lib.hid hus
  have HL := Lib.hid hlen
  have HXL := Lib.hid hxl
  have HX := Lib.hid (show xs.length ≤ 1000000 by omega)
  have HXN := Lib.hid hk.len
  have ND : Hid us.Nodup := Lib.hid (by rw [← hus]; exact (used_rise s d).imp fun h => by omega)
  have a0 : decide (k.ep < 0) = false := decide_eq_false (by omega)
  have a1 : decide (1048576 < k.ep) = false := decide_eq_false (by omega)
  have hul : us.length ≤ 512 := by rw [← hus]; exact Nat.le_trans (used_len s d) (allS_len d.f s.p.n)
  obtain ⟨n, hn⟩ : ∃ n, us.length = n := ⟨_, rfl⟩
  have HN := Lib.hid hn
  rw [hn] at hul
  clear hz hp hk hf hm hfi he hus hn hlen hxl
  go_enter Tryd.func4, Tryd.ntmps4
  go_wp2_with fail
  obtain ⟨W1, hW1⟩ : ∃ W1, W1 = (w.alloc (.cells #[.slice s.w.a s.w.n s.w.c, .slice s.p.a s.p.n s.p.c, .slice (s.u 0).a (s.u 0).n (s.u 0).c, .slice (s.u 1).a (s.u 1).n (s.u 1).c, .slice (s.u 2).a (s.u 2).n (s.u 2).c, .slice s.c.a s.c.n s.c.c] 28)).alloc (.cells #[.int .i64 k.ph, .int .i64 k.ep, .bool k.mj, .slice k.wk.a k.wk.n k.wk.c, .bool k.ov, .int .i64 k.pa, .int .i64 k.pf, .int .i64 k.ps, .int .i64 k.pc, .bool k.me] 30) := ⟨_, rfl⟩
  have L1 := Lib.hid (lk_start HP.out HK.out hW1)
  rw [← hW1]
  clear hW1
  refine (Sh.awake_any W1 (HZ.out.over L1.out.bel hz0)).mono ?_
  rintro e9 w1 ⟨rfl, hb1⟩
  have L2 := Lib.hid (L1.out.next hb1)
  clear hb1 L1
  have q0 := (L2.out.at (w.heap.size) (s) (d) (by simp)).c0
  have q1 := (L2.out.at (w.heap.size) (s) (d) (by simp)).c1
  have q2 := (L2.out.at (w.heap.size) (s) (d) (by simp)).c2
  have q3 := (L2.out.at (w.heap.size) (s) (d) (by simp)).c3
  have q4 := (L2.out.at (w.heap.size) (s) (d) (by simp)).c4
  have q5 := (L2.out.at (w.heap.size) (s) (d) (by simp)).c5
  have ql := (L2.out.at (w.heap.size) (s) (d) (by simp)).lt
  have p0 := (L2.out.cat (w.heap.size + 1) (k) (xs) (by simp)).c0
  have p1 := (L2.out.cat (w.heap.size + 1) (k) (xs) (by simp)).c1
  have p2 := (L2.out.cat (w.heap.size + 1) (k) (xs) (by simp)).c2
  have p3 := (L2.out.cat (w.heap.size + 1) (k) (xs) (by simp)).c3
  have p4 := (L2.out.cat (w.heap.size + 1) (k) (xs) (by simp)).c4
  have p5 := (L2.out.cat (w.heap.size + 1) (k) (xs) (by simp)).c5
  have p6 := (L2.out.cat (w.heap.size + 1) (k) (xs) (by simp)).c6
  have p7 := (L2.out.cat (w.heap.size + 1) (k) (xs) (by simp)).c7
  have p8 := (L2.out.cat (w.heap.size + 1) (k) (xs) (by simp)).c8
  have p9 := (L2.out.cat (w.heap.size + 1) (k) (xs) (by simp)).c9
  have pl := (L2.out.cat (w.heap.size + 1) (k) (xs) (by simp)).lt
  go_wp2_with fail
  refine (few_any s k w1).mono ?_
  rw [HF.out]
  rintro e9 w2 ⟨rfl, hb2⟩
  have L3 := Lib.hid (L2.out.next hb2)
  clear hb2 L2
  clear q0 q1 q2 q3 q4 q5 ql
  clear p0 p1 p2 p3 p4 p5 p6 p7 p8 p9 pl
  have q0 := (L3.out.at (w.heap.size) (s) (d) (by simp)).c0
  have q1 := (L3.out.at (w.heap.size) (s) (d) (by simp)).c1
  have q2 := (L3.out.at (w.heap.size) (s) (d) (by simp)).c2
  have q3 := (L3.out.at (w.heap.size) (s) (d) (by simp)).c3
  have q4 := (L3.out.at (w.heap.size) (s) (d) (by simp)).c4
  have q5 := (L3.out.at (w.heap.size) (s) (d) (by simp)).c5
  have ql := (L3.out.at (w.heap.size) (s) (d) (by simp)).lt
  go_wp2_with fail
  have hC9 := pmay0_any s d w2 (L3.out.hp (w.heap.size) (s) (d) (by simp)) (HZ.out.over L3.out.bel hz0) FI.out
  rw [HM.out] at hC9
  refine hC9.mono ?_
  rintro e9 w4 ⟨rfl, hb9⟩
  have L4 := Lib.hid (L3.out.next hb9)
  clear hb9 hC9 L3
  clear q0 q1 q2 q3 q4 q5 ql
  have p1 := (L4.out.cat (w.heap.size + 1) k xs (by simp)).c1
  have pl := (L4.out.cat (w.heap.size + 1) k xs (by simp)).lt
  go_upto_region 5 with fail
  clear a0 a1 p1 pl
  have q0 := (L4.out.at (w.heap.size) (s) (d) (by simp)).c0
  have q1 := (L4.out.at (w.heap.size) (s) (d) (by simp)).c1
  have q2 := (L4.out.at (w.heap.size) (s) (d) (by simp)).c2
  have q3 := (L4.out.at (w.heap.size) (s) (d) (by simp)).c3
  have q4 := (L4.out.at (w.heap.size) (s) (d) (by simp)).c4
  have q5 := (L4.out.at (w.heap.size) (s) (d) (by simp)).c5
  have ql := (L4.out.at (w.heap.size) (s) (d) (by simp)).lt
  go_wp2_with fail
  have hC9 := pused_any s d w4 (L4.out.hp (w.heap.size) (s) (d) (by simp)) (HZ.out.over L4.out.bel hz0) FI.out
  rw [HU.out] at hC9
  refine hC9.mono ?_
  rintro e9 w5 ⟨⟨va, vn, vc⟩, rfl, ho, hb5⟩
  have L5 := Lib.hid (L4.out.next hb5)
  obtain rfl : vn = n := by have h1 := ho.1; have h2 := HN.out; simp only [List.length_map] at h1; omega
  have R5 := Lib.hid (row_of ho)
  clear hb5 ho hC9 L4
  clear q0 q1 q2 q3 q4 q5 ql
  have q0 := (L5.out.at (w.heap.size) (s) (d) (by simp)).c0
  have q1 := (L5.out.at (w.heap.size) (s) (d) (by simp)).c1
  have q2 := (L5.out.at (w.heap.size) (s) (d) (by simp)).c2
  have q3 := (L5.out.at (w.heap.size) (s) (d) (by simp)).c3
  have q4 := (L5.out.at (w.heap.size) (s) (d) (by simp)).c4
  have q5 := (L5.out.at (w.heap.size) (s) (d) (by simp)).c5
  have ql := (L5.out.at (w.heap.size) (s) (d) (by simp)).lt
  have p0 := (L5.out.cat (w.heap.size + 1) (k) (xs) (by simp)).c0
  have p1 := (L5.out.cat (w.heap.size + 1) (k) (xs) (by simp)).c1
  have p2 := (L5.out.cat (w.heap.size + 1) (k) (xs) (by simp)).c2
  have p3 := (L5.out.cat (w.heap.size + 1) (k) (xs) (by simp)).c3
  have p4 := (L5.out.cat (w.heap.size + 1) (k) (xs) (by simp)).c4
  have p5 := (L5.out.cat (w.heap.size + 1) (k) (xs) (by simp)).c5
  have p6 := (L5.out.cat (w.heap.size + 1) (k) (xs) (by simp)).c6
  have p7 := (L5.out.cat (w.heap.size + 1) (k) (xs) (by simp)).c7
  have p8 := (L5.out.cat (w.heap.size + 1) (k) (xs) (by simp)).c8
  have p9 := (L5.out.cat (w.heap.size + 1) (k) (xs) (by simp)).c9
  have pl := (L5.out.cat (w.heap.size + 1) (k) (xs) (by simp)).lt
  go_upto_region 12 with fail
  obtain ⟨W6, hW6⟩ : ∃ W, W = (((w5.alloc (.cells #[.slice s.w.a s.w.n s.w.c, .slice s.p.a s.p.n s.p.c, .slice (s.u 0).a (s.u 0).n (s.u 0).c, .slice (s.u 1).a (s.u 1).n (s.u 1).c, .slice (s.u 2).a (s.u 2).n (s.u 2).c, .slice s.c.a s.c.n s.c.c] 28)).alloc (.cells #[.int .i64 k.ph, .int .i64 k.ep, .bool k.mj, .slice k.wk.a k.wk.n k.wk.c, .bool k.ov, .int .i64 k.pa, .int .i64 k.pf, .int .i64 k.ps, .int .i64 k.pc, .bool k.me] 30)).alloc (.cells #[.slice s.w.a s.w.n s.w.c, .slice s.p.a s.p.n s.p.c, .slice (s.u 0).a (s.u 0).n (s.u 0).c, .slice (s.u 1).a (s.u 1).n (s.u 1).c, .slice (s.u 2).a (s.u 2).n (s.u 2).c, .slice s.c.a s.c.n s.c.c] 28)).alloc (.cells #[.int .i64 k.ph, .int .i64 k.ep, .bool k.mj, .slice k.wk.a k.wk.n k.wk.c, .bool k.ov, .int .i64 k.pa, .int .i64 k.pf, .int .i64 k.ps, .int .i64 k.pc, .bool k.me] 30) := ⟨_, rfl⟩
  have A6 := Lib.hid (al_start (L5.out.hp (w.heap.size) (s) (d) (by simp)) (L5.out.wr (w.heap.size + 1) (k) (xs) (by simp)) hW6)
  rw [← hW6]
  clear hW6
  clear q0 q1 q2 q3 q4 q5 ql
  clear p0 p1 p2 p3 p4 p5 p6 p7 p8 p9 pl
  go_loopw [12, 13] (fun c i wr => ∃ (q : Nat) (tk tm : Hs) (dk dm : Hd_) (vk vm : Ls.Sl) (ok om : Bool) (xk xm : List Int), q ≤ vn ∧ c = .int .i64 ((nW s d k.mj k.ep (us.take q) : Nat) : Int) ∧ i = .int .i64 q ∧ Hid (Al w5 wr k tk dk vk ok xk tm dm vm om xm) ∧ Hid (Run s tk d dk k.mj k.ep (us.take (q)) ∧ Wk xs.length k.ov (nW s d k.mj k.ep (us.take (q))) xk ok ∧ Run s tm d dm k.mj k.ep (us.reverse.take (q)) ∧ Wk xs.length k.ov (nW s d k.mj k.ep (us.reverse.take (q))) xm om)) (fun _ i _ => vn - (intOf i).toNat)
  case atStart => exact ⟨0, s, s, d, d, k.wk, k.wk, k.ov, k.ov, xs, xs, Nat.zero_le _, rfl, rfl, A6, Lib.hid ⟨Run.nil s d k.mj k.ep, wk_nil xs k.ov, Run.nil s d k.mj k.ep, wk_nil xs k.ov⟩⟩
  case round =>
    obtain ⟨q, tk, tm, dk, dm, vk, vm, ok, om, xk, xm, hq, rfl, rfl, HA, HR⟩ := hrel
    by_cases hlt : q < vn
    · have HQ : Hid (q < us.length) := Lib.hid (by have := HN.out; omega)
      have LB := Lib.hid (L5.out.next HA.out.bel)
      obtain ⟨bb, off, rfl, hbl', hcell⟩ := (Row.below R5.out HA.out.bel).2 (by omega)
      have hq1 := hcell q hlt
      have hq2 := hcell (vn - 1 - q) (by omega)
      have hbl : bb < wr.heap.size := by have := HA.out.bel.size; omega
      obtain ⟨y, hy⟩ : ∃ y, y = us.getD q 0 := ⟨_, rfl⟩
      obtain ⟨z, hz⟩ : ∃ z, z = us.getD (vn - 1 - q) 0 := ⟨_, rfl⟩
      rw [← hy] at hq1
      rw [← hz] at hq2
      obtain ⟨m, hmw⟩ : ∃ m, m = nW s d k.mj k.ep (us.take q) := ⟨_, rfl⟩
      have HMW := Lib.hid hmw
      rw [← hmw]
      have hm5 : m ≤ 512 := by rw [hmw]; have h1 := nW_le s d k.mj k.ep (us.take q); rw [List.length_take] at h1; omega
      have TY : Hid (us.take (q + 1) = us.take q ++ [y] ∧ ¬ y ∈ us.take q) := Lib.hid ⟨by rw [hy]; exact take_cat HQ.out, by rw [hy]; exact take_new ND.out HQ.out⟩
      have TZ : Hid (us.reverse.take (q + 1) = us.reverse.take q ++ [z] ∧ ¬ z ∈ us.reverse.take q) := Lib.hid (by
        have hz2 : z = us.reverse.getD q 0 := by rw [hz, rev_at HQ.out, HN.out]
        rw [hz2]
        exact ⟨take_cat (by rw [List.length_reverse]; exact HQ.out), take_new (List.pairwise_reverse.2 (ND.out.imp fun h => h.symm)) (by rw [List.length_reverse]; exact HQ.out)⟩)
      have F14 := Lib.hid (And.intro (sixh_of (LB.out.at w.heap.size s d (by simp))) (And.intro (ten_of (LB.out.cat (w.heap.size + 1) k xs (by simp))) (And.intro hbl hq1)))
      have F17 := Lib.hid (And.intro hbl hq2)
      have HZV := Lib.hid hz
      have FB : Hid (∀ W : World, Below w5.heap.size w5 W → bb < W.heap.size ∧ W.cell? ⟨bb, off + (vn - 1 - q), none⟩ = some (.int .i64 z)) := Lib.hid fun W h => by
        obtain ⟨b', off', e, hl', hc'⟩ := (Row.below R5.out h).2 (by omega)
        cases e
        have h9 := hc' (vn - 1 - q) (by omega)
        rw [← HZV.out] at h9
        exact ⟨by have := h.size; omega, h9⟩
      obtain ⟨cw, hcw⟩ : ∃ c, c = isC s d k.mj k.ep y 1 := ⟨_, rfl⟩
      obtain ⟨cz, hcz⟩ : ∃ c, c = isC s d k.mj k.ep z 1 := ⟨_, rfl⟩
      have HCW := Lib.hid hcw
      have HCZ := Lib.hid hcz
      have HW : Hid (∀ W, Below wr.heap.size wr W → Calls Tryd.prog 11 #[(.agg #[.slice s.w.a s.w.n s.w.c, .slice s.p.a s.p.n s.p.c, .slice (s.u 0).a (s.u 0).n (s.u 0).c, .slice (s.u 1).a (s.u 1).n (s.u 1).c, .slice (s.u 2).a (s.u 2).n (s.u 2).c, .slice s.c.a s.c.n s.c.c]), (.agg #[.int .i64 k.ph, .int .i64 k.ep, .bool k.mj, .slice k.wk.a k.wk.n k.wk.c, .bool k.ov, .int .i64 k.pa, .int .i64 k.pf, .int .i64 k.ps, .int .i64 k.pc, .bool k.me]), .int .i64 y] W fun e w' => e = .returned (.bool cw) ∧ Below W.heap.size W w') := Lib.hid fun W h => by
        have h9 := white_any s d k xs y W ((LB.out.next h).hp w.heap.size s d (by simp)) ((LB.out.next h).wr (w.heap.size + 1) k xs (by simp)) (HZ.out.over (LB.out.next h).bel hz0) FI.out
        rw [← hcw] at h9
        exact h9
      have HLT := Lib.hid (And.intro hlt hq)
      have i0 : (0 : Int) ≤ q := by omega
      have i1 : (q : Int) < vn := by omega
      have i2 : decide ((q : Int) < vn) = true := decide_eq_true i1
      have i3 : decide (q < vn) = true := decide_eq_true hlt
      have j0 : (0 : Int) ≤ (vn : Int) - 1 - q := by omega
      have j1 : (vn : Int) - 1 - q < vn := by omega
      have jq : (q : Int) ≤ (vn : Int) - 1 := by omega
      have wv1 : IntKind.i64.wrap ((vn : Int) - 1) = (vn : Int) - 1 := by simp [IntKind.wrap, IntKind.signed, IntKind.bits]; omega
      have wv2 : IntKind.i64.wrap ((vn : Int) - 1 - q) = (vn : Int) - 1 - q := by simp [IntKind.wrap, IntKind.signed, IntKind.bits]; omega
      have wm : IntKind.i64.wrap ((m : Int) + 1) = (m : Int) + 1 := by simp [IntKind.wrap, IntKind.signed, IntKind.bits]; omega
      have ji : (((vn : Int) - 1 - q).toNat) = vn - 1 - q := by omega
      have jk : ((vn - 1 - q : Nat) : Int) = (vn : Int) - 1 - q := by omega
      clear hcell hbl' hbl hq1 hq2 hy hz hmw hcw hcz LB
      go_upto_region 14 with fail
      go_region_held3 (fun W => (Below wr.heap.size wr W ∧ True) ∧ (w.heap.size < W.heap.size ∧ W.cell? ⟨w.heap.size, 0, none⟩ = some (.slice s.w.a s.w.n s.w.c) ∧ W.cell? ⟨w.heap.size, 1, none⟩ = some (.slice s.p.a s.p.n s.p.c) ∧ W.cell? ⟨w.heap.size, 2, none⟩ = some (.slice (s.u 0).a (s.u 0).n (s.u 0).c) ∧ W.cell? ⟨w.heap.size, 3, none⟩ = some (.slice (s.u 1).a (s.u 1).n (s.u 1).c) ∧ W.cell? ⟨w.heap.size, 4, none⟩ = some (.slice (s.u 2).a (s.u 2).n (s.u 2).c) ∧ W.cell? ⟨w.heap.size, 5, none⟩ = some (.slice s.c.a s.c.n s.c.c)) ∧ (w.heap.size + 1 < W.heap.size ∧ W.cell? ⟨w.heap.size + 1, 0, none⟩ = some (.int .i64 k.ph) ∧ W.cell? ⟨w.heap.size + 1, 1, none⟩ = some (.int .i64 k.ep) ∧ W.cell? ⟨w.heap.size + 1, 2, none⟩ = some (.bool k.mj) ∧ W.cell? ⟨w.heap.size + 1, 3, none⟩ = some (.slice k.wk.a k.wk.n k.wk.c) ∧ W.cell? ⟨w.heap.size + 1, 4, none⟩ = some (.bool k.ov) ∧ W.cell? ⟨w.heap.size + 1, 5, none⟩ = some (.int .i64 k.pa) ∧ W.cell? ⟨w.heap.size + 1, 6, none⟩ = some (.int .i64 k.pf) ∧ W.cell? ⟨w.heap.size + 1, 7, none⟩ = some (.int .i64 k.ps) ∧ W.cell? ⟨w.heap.size + 1, 8, none⟩ = some (.int .i64 k.pc) ∧ W.cell? ⟨w.heap.size + 1, 9, none⟩ = some (.bool k.me)) ∧ (bb < W.heap.size ∧ W.cell? ⟨bb, off + q, none⟩ = some (.int .i64 y))) (first
        | with_reducible exact sa_keep F14.out (‹(Below wr.heap.size wr _ ∧ _) ∧ _›).1 ‹Below _ _ _›
        | with_reducible exact sa_keep F14.out ⟨Below.refl _ _, trivial⟩ (Below.refl _ _)
        | exact sa_keep F14.out ⟨Below.refl _ _, trivial⟩ (below_drawn' (Below.refl _ _) 1)) (first
        | ((go_at_call 11; refine (HW.out _ (‹(Below wr.heap.size wr _ ∧ _) ∧ _›).1.1).mono ?_; rintro e w9 ⟨rfl, hb9⟩; have N9 := Lib.hid ((‹(Below wr.heap.size wr _ ∧ _) ∧ _›).1.1.trans (hb9.mono (‹(Below wr.heap.size wr _ ∧ _) ∧ _›).1.1.size)))))
      have HA9 := Lib.hid (HA.out.next N9.out)
      have NX : Hid (nW s d k.mj k.ep (us.take (q + 1)) = m + if cw = true then 1 else 0) := Lib.hid (by rw [TY.out.1, nW_next, ← HCW.out, ← HMW.out])
      have NZ : Hid (nW s d k.mj k.ep (us.reverse.take (q + 1)) = nW s d k.mj k.ep (us.reverse.take q) + if cz = true then 1 else 0) := Lib.hid (by rw [TZ.out.1, nW_next, ← HCZ.out])
      obtain ⟨d2, hd2⟩ : ∃ x, x = shD tk dk k.mj k.ep y := ⟨_, rfl⟩
      obtain ⟨o2, ho2⟩ : ∃ x, x = shO cw xk ok := ⟨_, rfl⟩
      obtain ⟨x2, hx2⟩ : ∃ x, x = shX cw xk y := ⟨_, rfl⟩
      obtain ⟨d3, hd3⟩ : ∃ x, x = shD tm dm k.mj k.ep z := ⟨_, rfl⟩
      obtain ⟨o3, ho3⟩ : ∃ x, x = shO cz xm om := ⟨_, rfl⟩
      obtain ⟨x3, hx3⟩ : ∃ x, x = shX cz xm z := ⟨_, rfl⟩
      have CY : isC tk dk k.mj k.ep y 1 = cw := (HR.out.1.white TY.out.2).trans HCW.out.symm
      have CZ : isC tm dm k.mj k.ep z 1 = cz := (HR.out.2.2.1.white TZ.out.2).trans HCZ.out.symm
      have HCK : Hid (∀ W, Below w9.heap.size w9 W → Calls Tryd.prog 10 #[(.agg #[.slice tk.w.a tk.w.n tk.w.c, .slice tk.p.a tk.p.n tk.p.c, .slice (tk.u 0).a (tk.u 0).n (tk.u 0).c, .slice (tk.u 1).a (tk.u 1).n (tk.u 1).c, .slice (tk.u 2).a (tk.u 2).n (tk.u 2).c, .slice tk.c.a tk.c.n tk.c.c]), (.agg #[.int .i64 k.ph, .int .i64 k.ep, .bool k.mj, .slice vk.a vk.n vk.c, .bool ok, .int .i64 k.pa, .int .i64 k.pf, .int .i64 k.ps, .int .i64 k.pc, .bool k.me]), .int .i64 y] W (ShOut W tk k d2 o2 x2)) := Lib.hid fun W h => by
        have G := HA9.out.next h
        have h9 := shade_any tk dk (kw k vk ok) xk y W (by have h1 := wk_len HR.out.2.1; have h2 := HXL.out; omega) G.pk.hp G.pk.wr (HZ.out.over (L5.out.next G.bel).bel hz0) (HR.out.1.kin.fine FI.out)
        rw [show shD tk dk (kw k vk ok).mj (kw k vk ok).ep y = d2 from hd2.symm, show isC tk dk (kw k vk ok).mj (kw k vk ok).ep y 1 = cw from CY, show shO cw xk (kw k vk ok).ov = o2 from ho2.symm, show shX cw xk y = x2 from hx2.symm] at h9
        exact h9
      have HCM : Hid (∀ W w0 tq dq vq oq xq, Al w5 w0 k tq dq vq oq xq tm dm vm om xm → Below w0.heap.size w0 W → Calls Tryd.prog 10 #[(.agg #[.slice tm.w.a tm.w.n tm.w.c, .slice tm.p.a tm.p.n tm.p.c, .slice (tm.u 0).a (tm.u 0).n (tm.u 0).c, .slice (tm.u 1).a (tm.u 1).n (tm.u 1).c, .slice (tm.u 2).a (tm.u 2).n (tm.u 2).c, .slice tm.c.a tm.c.n tm.c.c]), (.agg #[.int .i64 k.ph, .int .i64 k.ep, .bool k.mj, .slice vm.a vm.n vm.c, .bool om, .int .i64 k.pa, .int .i64 k.pf, .int .i64 k.ps, .int .i64 k.pc, .bool k.me]), .int .i64 z] W (ShOut W tm k d3 o3 x3)) := Lib.hid fun W w0 tq dq vq oq xq g0 h => by
        have G := g0.next h
        have h9 := shade_any tm dm (kw k vm om) xm z W (by have h1 := wk_len HR.out.2.2.2; have h2 := HXL.out; omega) G.pm.hp G.pm.wr (HZ.out.over (L5.out.next G.bel).bel hz0) (HR.out.2.2.1.kin.fine FI.out)
        rw [show shD tm dm (kw k vm om).mj (kw k vm om).ep z = d3 from hd3.symm, show isC tm dm (kw k vm om).mj (kw k vm om).ep z 1 = cz from CZ, show shO cz xm (kw k vm om).ov = o3 from ho3.symm, show shX cz xm z = x3 from hx3.symm] at h9
        exact h9
      have RS : Hid (∀ t2 t3, Lens tk t2 → Lens tm t3 → Run s t2 d d2 k.mj k.ep (us.take (q + 1)) ∧ Wk xs.length k.ov (nW s d k.mj k.ep (us.take (q + 1))) x2 o2 ∧ Run s t3 d d3 k.mj k.ep (us.reverse.take (q + 1)) ∧ Wk xs.length k.ov (nW s d k.mj k.ep (us.reverse.take (q + 1))) x3 o3) := Lib.hid fun t2 t3 h2 h3 => by
        have l1 : dk.ws.length = tk.w.n := by rw [HR.out.1.kin.wlen, HR.out.1.kin.len.1]; exact HL.out
        have l2 : dm.ws.length = tm.w.n := by rw [HR.out.2.2.1.kin.wlen, HR.out.2.2.1.kin.len.1]; exact HL.out
        refine ⟨?_, ?_, ?_, ?_⟩
        · rw [TY.out.1, hd2]; exact HR.out.1.step h2 l1
        · rw [NX.out, ho2, hx2, HMW.out]; exact wk_step HR.out.2.1 cw y
        · rw [TZ.out.1, hd3]; exact HR.out.2.2.1.step h3 l2
        · rw [NZ.out, ho3, hx3]; exact wk_step HR.out.2.2.2 cz z
      clear CY CZ hd2 ho2 hx2 hd3 ho3 hx3 HR HA HW
      have c14 : bb < w9.heap.size ∧ w9.cell? ⟨bb, off + q, none⟩ = some (.int .i64 y) := ⟨by have h1 := F14.out.2.2.1; have h2 := N9.out.size; omega, (N9.out.cell (p := ⟨bb, off + q, none⟩) F14.out.2.2.1).trans F14.out.2.2.2⟩
      have FK : Hid (HBox w9 (w5.heap.size) tk ∧ CBox w9 (w5.heap.size + 1) (kw k vk ok) ∧ bb < w9.heap.size ∧ w9.cell? ⟨bb, off + q, none⟩ = some (.int .i64 y)) := Lib.hid ⟨HA9.out.pk.hb, HA9.out.pk.cb, c14⟩
      have F18 : Hid (bb < w9.heap.size ∧ w9.cell? ⟨bb, off + (vn - 1 - q), none⟩ = some (.int .i64 z)) := Lib.hid ⟨c14.1, (N9.out.cell (p := ⟨bb, off + (vn - 1 - q), none⟩) F17.out.1).trans F17.out.2⟩
      clear c14 F14 F17 N9
      cases cw
      · skip
        go_upto_region 16 with fail
        refine region_gen fun a0 ha0 => ?_
        have T8 : a0.tmps[8]? = some (.pointer (some ⟨w5.heap.size, 0, none⟩)) := by rw [ha0]; rfl
        have T9 : a0.tmps[9]? = some (.pointer (some ⟨w5.heap.size + 1, 0, none⟩)) := by rw [ha0]; rfl
        have T7 : a0.tmps[7]? = some (.slice (some ⟨bb, off, none⟩) vn vc) := by rw [ha0]; rfl
        have T13 : a0.tmps[13]? = some (.int .i64 (q : Int)) := by rw [ha0]; rfl
        have HS0 : 74 ≤ a0.tmps.size := by rw [ha0]; show 74 ≤ 146; omega
        have HA0 := Lib.hid ha0
        clear ha0
        refine wp_region_from (by kernel_rfl) (KGInv w9 (w5.heap.size) tk tk (kw k vk ok) k d2 o2 x2 ((.agg #[.slice tk.w.a tk.w.n tk.w.c, .slice tk.p.a tk.p.n tk.p.c, .slice (tk.u 0).a (tk.u 0).n (tk.u 0).c, .slice (tk.u 1).a (tk.u 1).n (tk.u 1).c, .slice (tk.u 2).a (tk.u 2).n (tk.u 2).c, .slice tk.c.a tk.c.n tk.c.c])) ((.agg #[.int .i64 k.ph, .int .i64 k.ep, .bool k.mj, .slice vk.a vk.n vk.c, .bool ok, .int .i64 k.pa, .int .i64 k.pf, .int .i64 k.ps, .int .i64 k.pc, .bool k.me])) (.slice (some ⟨bb, off, none⟩) vn vc) (.int .i64 (q : Int)) (.pointer (some ⟨bb, off + q, none⟩)) (.int .i64 y)) ?dag ?start ?step ?done
        case dag => exact dag_any (by kernel_rfl)
        case start => exact ⟨Rg.refl _ _ _, ⟨(fun h => by cases h), (fun h => by cases h), (fun h => by cases h), (fun h => by cases h), (fun h => by cases h), (fun h => by cases h)⟩, (fun h => by cases h), undef, undef, undef, undef, tk, vk, w9, ⟨(fun h => by cases h), (fun h => by cases h), (fun h => by cases h), (fun h => by cases h)⟩, RK.start⟩
        case step =>
          rintro i o9 l a9 wc ho ⟨hG, ⟨h0, h1, h2, h3, h4, h5⟩, hcc, x6, x7, x8, x9, t, v, wz, ⟨p0, p1, p2, p3⟩, hR⟩ hl haft K hK
          have hi : i < 12 := (Array.getElem?_eq_some_iff.1 ho).1
          refine wpOp_of ho ?_
          rcases (show i = 0 ∨ i = 1 ∨ i = 2 ∨ i = 3 ∨ i = 4 ∨ i = 5 ∨ i = 6 ∨ i = 7 ∨ i = 8 ∨ i = 9 ∨ i = 10 ∨ i = 11 by omega) with rfl | rfl | rfl | rfl | rfl | rfl | rfl | rfl | rfl | rfl | rfl | rfl
          · obtain rfl := Option.some.inj ho
            have o8 := (hG.out 8 (by omega)).trans T8
            have hc6 : l 6 = false := by
              cases e : l 6
              · rfl
              · have := hcc e
                simp [hl] at this
            have hbl := (hR.pre hc6).1
            have q0 := (FK.out.1.next hbl).c0
            have q1 := (FK.out.1.next hbl).c1
            have q2 := (FK.out.1.next hbl).c2
            have q3 := (FK.out.1.next hbl).c3
            have q4 := (FK.out.1.next hbl).c4
            have q5 := (FK.out.1.next hbl).c5
            have ql := (FK.out.1.next hbl).lt
            go_simp
            exact hK _ _ (show KGInv _ _ _ _ _ _ _ _ _ _ _ _ _ _ _ a0 (Ls.upd l 0 true) (a9.put (some 65) ((.agg #[.slice tk.w.a tk.w.n tk.w.c, .slice tk.p.a tk.p.n tk.p.c, .slice (tk.u 0).a (tk.u 0).n (tk.u 0).c, .slice (tk.u 1).a (tk.u 1).n (tk.u 1).c, .slice (tk.u 2).a (tk.u 2).n (tk.u 2).c, .slice tk.c.a tk.c.n tk.c.c]))) _ from ⟨hG.put ((.agg #[.slice tk.w.a tk.w.n tk.w.c, .slice tk.p.a tk.p.n tk.p.c, .slice (tk.u 0).a (tk.u 0).n (tk.u 0).c, .slice (tk.u 1).a (tk.u 1).n (tk.u 1).c, .slice (tk.u 2).a (tk.u 2).n (tk.u 2).c, .slice tk.c.a tk.c.n tk.c.c])) (by omega) (by omega), ⟨fun _ => put_at (by rw [hG.sz]; omega), fun e => (put_ne (show ¬ 65 = 66 by omega)).trans (h1 e), fun e => (put_ne (show ¬ 65 = 67 by omega)).trans (h2 e), fun e => (put_ne (show ¬ 65 = 68 by omega)).trans (h3 e), fun e => (put_ne (show ¬ 65 = 69 by omega)).trans (h4 e), fun e => (put_ne (show ¬ 65 = 70 by omega)).trans (h5 e)⟩, (fun e => by have h9 := hcc e; exact (by first | exact h9 | exact ⟨rfl, h9.2.1, h9.2.2⟩ | exact ⟨h9.1, rfl, h9.2.2⟩ | exact ⟨h9.1, h9.2.1, rfl⟩)), _, _, _, _, t, v, wz, ⟨fun e => (put_ne (show ¬ 65 = 71 by omega)).trans (p0 e), fun e => (put_ne (show ¬ 65 = 64 by omega)).trans (p1 e), fun e => (put_ne (show ¬ 65 = 72 by omega)).trans (p2 e), fun e => (put_ne (show ¬ 65 = 73 by omega)).trans (p3 e)⟩, hR⟩)
          · obtain rfl := Option.some.inj ho
            have o9 := (hG.out 9 (by omega)).trans T9
            have hc6 : l 6 = false := by
              cases e : l 6
              · rfl
              · have := hcc e
                simp [hl] at this
            have hbl := (hR.pre hc6).1
            have q0 := (FK.out.2.1.next hbl).c0
            have q1 := (FK.out.2.1.next hbl).c1
            have q2 := (FK.out.2.1.next hbl).c2
            have q3 := (FK.out.2.1.next hbl).c3
            have q4 := (FK.out.2.1.next hbl).c4
            have q5 := (FK.out.2.1.next hbl).c5
            have q6 := (FK.out.2.1.next hbl).c6
            have q7 := (FK.out.2.1.next hbl).c7
            have q8 := (FK.out.2.1.next hbl).c8
            have q9 := (FK.out.2.1.next hbl).c9
            have ql := (FK.out.2.1.next hbl).lt
            dsimp only [kw] at q0 q1 q2 q3 q4 q5 q6 q7 q8 q9
            go_simp
            exact hK _ _ (show KGInv _ _ _ _ _ _ _ _ _ _ _ _ _ _ _ a0 (Ls.upd l 1 true) (a9.put (some 66) ((.agg #[.int .i64 k.ph, .int .i64 k.ep, .bool k.mj, .slice vk.a vk.n vk.c, .bool ok, .int .i64 k.pa, .int .i64 k.pf, .int .i64 k.ps, .int .i64 k.pc, .bool k.me]))) _ from ⟨hG.put ((.agg #[.int .i64 k.ph, .int .i64 k.ep, .bool k.mj, .slice vk.a vk.n vk.c, .bool ok, .int .i64 k.pa, .int .i64 k.pf, .int .i64 k.ps, .int .i64 k.pc, .bool k.me])) (by omega) (by omega), ⟨fun e => (put_ne (show ¬ 66 = 65 by omega)).trans (h0 e), fun _ => put_at (by rw [hG.sz]; omega), fun e => (put_ne (show ¬ 66 = 67 by omega)).trans (h2 e), fun e => (put_ne (show ¬ 66 = 68 by omega)).trans (h3 e), fun e => (put_ne (show ¬ 66 = 69 by omega)).trans (h4 e), fun e => (put_ne (show ¬ 66 = 70 by omega)).trans (h5 e)⟩, (fun e => by have h9 := hcc e; exact (by first | exact h9 | exact ⟨rfl, h9.2.1, h9.2.2⟩ | exact ⟨h9.1, rfl, h9.2.2⟩ | exact ⟨h9.1, h9.2.1, rfl⟩)), _, _, _, _, t, v, wz, ⟨fun e => (put_ne (show ¬ 66 = 71 by omega)).trans (p0 e), fun e => (put_ne (show ¬ 66 = 64 by omega)).trans (p1 e), fun e => (put_ne (show ¬ 66 = 72 by omega)).trans (p2 e), fun e => (put_ne (show ¬ 66 = 73 by omega)).trans (p3 e)⟩, hR⟩)
          · obtain rfl := Option.some.inj ho
            have o7 := (hG.out 7 (by omega)).trans T7
            go_simp
            exact hK _ _ (show KGInv _ _ _ _ _ _ _ _ _ _ _ _ _ _ _ a0 (Ls.upd l 2 true) (a9.put (some 67) (.slice (some ⟨bb, off, none⟩) vn vc)) _ from ⟨hG.put (.slice (some ⟨bb, off, none⟩) vn vc) (by omega) (by omega), ⟨fun e => (put_ne (show ¬ 67 = 65 by omega)).trans (h0 e), fun e => (put_ne (show ¬ 67 = 66 by omega)).trans (h1 e), fun _ => put_at (by rw [hG.sz]; omega), fun e => (put_ne (show ¬ 67 = 68 by omega)).trans (h3 e), fun e => (put_ne (show ¬ 67 = 69 by omega)).trans (h4 e), fun e => (put_ne (show ¬ 67 = 70 by omega)).trans (h5 e)⟩, (fun e => by have h9 := hcc e; exact (by first | exact h9 | exact ⟨rfl, h9.2.1, h9.2.2⟩ | exact ⟨h9.1, rfl, h9.2.2⟩ | exact ⟨h9.1, h9.2.1, rfl⟩)), _, _, _, _, t, v, wz, ⟨fun e => (put_ne (show ¬ 67 = 71 by omega)).trans (p0 e), fun e => (put_ne (show ¬ 67 = 64 by omega)).trans (p1 e), fun e => (put_ne (show ¬ 67 = 72 by omega)).trans (p2 e), fun e => (put_ne (show ¬ 67 = 73 by omega)).trans (p3 e)⟩, hR⟩)
          · obtain rfl := Option.some.inj ho
            have o13 := (hG.out 13 (by omega)).trans T13
            go_simp
            exact hK _ _ (show KGInv _ _ _ _ _ _ _ _ _ _ _ _ _ _ _ a0 (Ls.upd l 3 true) (a9.put (some 68) (.int .i64 (q : Int))) _ from ⟨hG.put (.int .i64 (q : Int)) (by omega) (by omega), ⟨fun e => (put_ne (show ¬ 68 = 65 by omega)).trans (h0 e), fun e => (put_ne (show ¬ 68 = 66 by omega)).trans (h1 e), fun e => (put_ne (show ¬ 68 = 67 by omega)).trans (h2 e), fun _ => put_at (by rw [hG.sz]; omega), fun e => (put_ne (show ¬ 68 = 69 by omega)).trans (h4 e), fun e => (put_ne (show ¬ 68 = 70 by omega)).trans (h5 e)⟩, (fun e => by have h9 := hcc e; exact (by first | exact h9 | exact ⟨rfl, h9.2.1, h9.2.2⟩ | exact ⟨h9.1, rfl, h9.2.2⟩ | exact ⟨h9.1, h9.2.1, rfl⟩)), _, _, _, _, t, v, wz, ⟨fun e => (put_ne (show ¬ 68 = 71 by omega)).trans (p0 e), fun e => (put_ne (show ¬ 68 = 64 by omega)).trans (p1 e), fun e => (put_ne (show ¬ 68 = 72 by omega)).trans (p2 e), fun e => (put_ne (show ¬ 68 = 73 by omega)).trans (p3 e)⟩, hR⟩)
          · obtain rfl := Option.some.inj ho
            have e2 := h2 (haft ⟨2, .data⟩ (by simp) rfl)
            have e3 := h3 (haft ⟨3, .data⟩ (by simp) rfl)
            go_simp
            exact hK _ _ (show KGInv _ _ _ _ _ _ _ _ _ _ _ _ _ _ _ a0 (Ls.upd l 4 true) (a9.put (some 69) (.pointer (some ⟨bb, off + q, none⟩))) _ from ⟨hG.put (.pointer (some ⟨bb, off + q, none⟩)) (by omega) (by omega), ⟨fun e => (put_ne (show ¬ 69 = 65 by omega)).trans (h0 e), fun e => (put_ne (show ¬ 69 = 66 by omega)).trans (h1 e), fun e => (put_ne (show ¬ 69 = 67 by omega)).trans (h2 e), fun e => (put_ne (show ¬ 69 = 68 by omega)).trans (h3 e), fun _ => put_at (by rw [hG.sz]; omega), fun e => (put_ne (show ¬ 69 = 70 by omega)).trans (h5 e)⟩, (fun e => by have h9 := hcc e; exact (by first | exact h9 | exact ⟨rfl, h9.2.1, h9.2.2⟩ | exact ⟨h9.1, rfl, h9.2.2⟩ | exact ⟨h9.1, h9.2.1, rfl⟩)), _, _, _, _, t, v, wz, ⟨fun e => (put_ne (show ¬ 69 = 71 by omega)).trans (p0 e), fun e => (put_ne (show ¬ 69 = 64 by omega)).trans (p1 e), fun e => (put_ne (show ¬ 69 = 72 by omega)).trans (p2 e), fun e => (put_ne (show ¬ 69 = 73 by omega)).trans (p3 e)⟩, hR⟩)
          · obtain rfl := Option.some.inj ho
            have e4 := h4 (haft ⟨4, .data⟩ (by simp) rfl)
            have hc6 : l 6 = false := by
              cases e : l 6
              · rfl
              · have := hcc e
                simp [hl] at this
            have hbl := (hR.pre hc6).1
            have cy := (hbl.cell (p := ⟨bb, off + q, none⟩) FK.out.2.2.1).trans FK.out.2.2.2
            have cyl : bb < wc.heap.size := by have h1 := hbl.size; have h2 := FK.out.2.2.1; omega
            go_simp
            exact hK _ _ (show KGInv _ _ _ _ _ _ _ _ _ _ _ _ _ _ _ a0 (Ls.upd l 5 true) (a9.put (some 70) (.int .i64 y)) _ from ⟨hG.put (.int .i64 y) (by omega) (by omega), ⟨fun e => (put_ne (show ¬ 70 = 65 by omega)).trans (h0 e), fun e => (put_ne (show ¬ 70 = 66 by omega)).trans (h1 e), fun e => (put_ne (show ¬ 70 = 67 by omega)).trans (h2 e), fun e => (put_ne (show ¬ 70 = 68 by omega)).trans (h3 e), fun e => (put_ne (show ¬ 70 = 69 by omega)).trans (h4 e), fun _ => put_at (by rw [hG.sz]; omega)⟩, (fun e => by have h9 := hcc e; exact (by first | exact h9 | exact ⟨rfl, h9.2.1, h9.2.2⟩ | exact ⟨h9.1, rfl, h9.2.2⟩ | exact ⟨h9.1, h9.2.1, rfl⟩)), _, _, _, _, t, v, wz, ⟨fun e => (put_ne (show ¬ 70 = 71 by omega)).trans (p0 e), fun e => (put_ne (show ¬ 70 = 64 by omega)).trans (p1 e), fun e => (put_ne (show ¬ 70 = 72 by omega)).trans (p2 e), fun e => (put_ne (show ¬ 70 = 73 by omega)).trans (p3 e)⟩, hR⟩)
          · obtain rfl := Option.some.inj ho
            have g0 := haft ⟨0, .data⟩ (by simp) rfl
            have e0 := h0 g0
            have g1 := haft ⟨1, .data⟩ (by simp) rfl
            have e1 := h1 g1
            have g5 := haft ⟨5, .data⟩ (by simp) rfl
            have e5 := h5 g5
            have hbl := (hR.pre hl).1
            go_simp
            refine (HCK.out wc hbl).mono ?_
            rintro e9 wn ⟨t9, v9, rfl, hp9, hl9, hn9, ha9⟩
            exact hK _ _ (show KGInv _ _ _ _ _ _ _ _ _ _ _ _ _ _ _ a0 (Ls.upd l 6 true) (a9.put (some 71) (.tuple #[(.agg #[.slice t9.w.a t9.w.n t9.w.c, .slice t9.p.a t9.p.n t9.p.c, .slice (t9.u 0).a (t9.u 0).n (t9.u 0).c, .slice (t9.u 1).a (t9.u 1).n (t9.u 1).c, .slice (t9.u 2).a (t9.u 2).n (t9.u 2).c, .slice t9.c.a t9.c.n t9.c.c]), (.agg #[.int .i64 k.ph, .int .i64 k.ep, .bool k.mj, .slice v9.a v9.n v9.c, .bool o2, .int .i64 k.pa, .int .i64 k.pf, .int .i64 k.ps, .int .i64 k.pc, .bool k.me])])) _ from ⟨hG.put (.tuple #[(.agg #[.slice t9.w.a t9.w.n t9.w.c, .slice t9.p.a t9.p.n t9.p.c, .slice (t9.u 0).a (t9.u 0).n (t9.u 0).c, .slice (t9.u 1).a (t9.u 1).n (t9.u 1).c, .slice (t9.u 2).a (t9.u 2).n (t9.u 2).c, .slice t9.c.a t9.c.n t9.c.c]), (.agg #[.int .i64 k.ph, .int .i64 k.ep, .bool k.mj, .slice v9.a v9.n v9.c, .bool o2, .int .i64 k.pa, .int .i64 k.pf, .int .i64 k.ps, .int .i64 k.pc, .bool k.me])]) (by omega) (by omega), ⟨fun e => (put_ne (show ¬ 71 = 65 by omega)).trans (h0 e), fun e => (put_ne (show ¬ 71 = 66 by omega)).trans (h1 e), fun e => (put_ne (show ¬ 71 = 67 by omega)).trans (h2 e), fun e => (put_ne (show ¬ 71 = 68 by omega)).trans (h3 e), fun e => (put_ne (show ¬ 71 = 69 by omega)).trans (h4 e), fun e => (put_ne (show ¬ 71 = 70 by omega)).trans (h5 e)⟩, (fun _ => ⟨g0, g1, g5⟩), _, _, _, _, t9, v9, wn, ⟨fun _ => put_at (by rw [hG.sz]; omega), fun e => (put_ne (show ¬ 71 = 64 by omega)).trans (p1 e), fun e => (put_ne (show ¬ 71 = 72 by omega)).trans (p2 e), fun e => (put_ne (show ¬ 71 = 73 by omega)).trans (p3 e)⟩, hR.call hl ((HA9.out.pk.next hbl).next ha9.bel) rfl ha9.bel hp9 hl9 hn9 ha9.own⟩)
          · obtain rfl := Option.some.inj ho
            have g6 := haft ⟨6, .data⟩ (by simp) rfl
            have z6 := (hR.c6 g6).1
            subst z6
            have e6 := p0 g6
            go_simp
            exact hK _ _ (show KGInv _ _ _ _ _ _ _ _ _ _ _ _ _ _ _ a0 (Ls.upd l 7 true) (a9.put (some 64) (.tuple #[(.agg #[.slice t.w.a t.w.n t.w.c, .slice t.p.a t.p.n t.p.c, .slice (t.u 0).a (t.u 0).n (t.u 0).c, .slice (t.u 1).a (t.u 1).n (t.u 1).c, .slice (t.u 2).a (t.u 2).n (t.u 2).c, .slice t.c.a t.c.n t.c.c]), (.agg #[.int .i64 k.ph, .int .i64 k.ep, .bool k.mj, .slice v.a v.n v.c, .bool o2, .int .i64 k.pa, .int .i64 k.pf, .int .i64 k.ps, .int .i64 k.pc, .bool k.me])])) _ from ⟨hG.put (.tuple #[(.agg #[.slice t.w.a t.w.n t.w.c, .slice t.p.a t.p.n t.p.c, .slice (t.u 0).a (t.u 0).n (t.u 0).c, .slice (t.u 1).a (t.u 1).n (t.u 1).c, .slice (t.u 2).a (t.u 2).n (t.u 2).c, .slice t.c.a t.c.n t.c.c]), (.agg #[.int .i64 k.ph, .int .i64 k.ep, .bool k.mj, .slice v.a v.n v.c, .bool o2, .int .i64 k.pa, .int .i64 k.pf, .int .i64 k.ps, .int .i64 k.pc, .bool k.me])]) (by omega) (by omega), ⟨fun e => (put_ne (show ¬ 64 = 65 by omega)).trans (h0 e), fun e => (put_ne (show ¬ 64 = 66 by omega)).trans (h1 e), fun e => (put_ne (show ¬ 64 = 67 by omega)).trans (h2 e), fun e => (put_ne (show ¬ 64 = 68 by omega)).trans (h3 e), fun e => (put_ne (show ¬ 64 = 69 by omega)).trans (h4 e), fun e => (put_ne (show ¬ 64 = 70 by omega)).trans (h5 e)⟩, hcc, _, _, _, _, t, v, wz, ⟨fun e => (put_ne (show ¬ 64 = 71 by omega)).trans (p0 e), fun _ => put_at (by rw [hG.sz]; omega), fun e => (put_ne (show ¬ 64 = 72 by omega)).trans (p2 e), fun e => (put_ne (show ¬ 64 = 73 by omega)).trans (p3 e)⟩, hR.did7 g6⟩)
          · obtain rfl := Option.some.inj ho
            have g7 := haft ⟨7, .data⟩ (by simp) rfl
            have g6 := hR.lc_of (.inl g7)
            have z7 := hR.c7 g7
            subst z7
            have e7 := p1 g7
            go_simp
            exact hK _ _ (show KGInv _ _ _ _ _ _ _ _ _ _ _ _ _ _ _ a0 (Ls.upd l 8 true) (a9.put (some 72) ((.agg #[.slice t.w.a t.w.n t.w.c, .slice t.p.a t.p.n t.p.c, .slice (t.u 0).a (t.u 0).n (t.u 0).c, .slice (t.u 1).a (t.u 1).n (t.u 1).c, .slice (t.u 2).a (t.u 2).n (t.u 2).c, .slice t.c.a t.c.n t.c.c]))) _ from ⟨hG.put ((.agg #[.slice t.w.a t.w.n t.w.c, .slice t.p.a t.p.n t.p.c, .slice (t.u 0).a (t.u 0).n (t.u 0).c, .slice (t.u 1).a (t.u 1).n (t.u 1).c, .slice (t.u 2).a (t.u 2).n (t.u 2).c, .slice t.c.a t.c.n t.c.c])) (by omega) (by omega), ⟨fun e => (put_ne (show ¬ 72 = 65 by omega)).trans (h0 e), fun e => (put_ne (show ¬ 72 = 66 by omega)).trans (h1 e), fun e => (put_ne (show ¬ 72 = 67 by omega)).trans (h2 e), fun e => (put_ne (show ¬ 72 = 68 by omega)).trans (h3 e), fun e => (put_ne (show ¬ 72 = 69 by omega)).trans (h4 e), fun e => (put_ne (show ¬ 72 = 70 by omega)).trans (h5 e)⟩, hcc, _, _, _, _, t, v, wz, ⟨fun e => (put_ne (show ¬ 72 = 71 by omega)).trans (p0 e), fun e => (put_ne (show ¬ 72 = 64 by omega)).trans (p1 e), fun _ => put_at (by rw [hG.sz]; omega), fun e => (put_ne (show ¬ 72 = 73 by omega)).trans (p3 e)⟩, hR.did8 g6⟩)
          · obtain rfl := Option.some.inj ho
            have g7 := haft ⟨7, .data⟩ (by simp) rfl
            have g6 := hR.lc_of (.inl g7)
            have z7 := hR.c7 g7
            subst z7
            have e7 := p1 g7
            go_simp
            exact hK _ _ (show KGInv _ _ _ _ _ _ _ _ _ _ _ _ _ _ _ a0 (Ls.upd l 9 true) (a9.put (some 73) (.agg #[.int .i64 k.ph, .int .i64 k.ep, .bool k.mj, .slice v.a v.n v.c, .bool o2, .int .i64 k.pa, .int .i64 k.pf, .int .i64 k.ps, .int .i64 k.pc, .bool k.me])) _ from ⟨hG.put (.agg #[.int .i64 k.ph, .int .i64 k.ep, .bool k.mj, .slice v.a v.n v.c, .bool o2, .int .i64 k.pa, .int .i64 k.pf, .int .i64 k.ps, .int .i64 k.pc, .bool k.me]) (by omega) (by omega), ⟨fun e => (put_ne (show ¬ 73 = 65 by omega)).trans (h0 e), fun e => (put_ne (show ¬ 73 = 66 by omega)).trans (h1 e), fun e => (put_ne (show ¬ 73 = 67 by omega)).trans (h2 e), fun e => (put_ne (show ¬ 73 = 68 by omega)).trans (h3 e), fun e => (put_ne (show ¬ 73 = 69 by omega)).trans (h4 e), fun e => (put_ne (show ¬ 73 = 70 by omega)).trans (h5 e)⟩, hcc, _, _, _, _, t, v, wz, ⟨fun e => (put_ne (show ¬ 73 = 71 by omega)).trans (p0 e), fun e => (put_ne (show ¬ 73 = 64 by omega)).trans (p1 e), fun e => (put_ne (show ¬ 73 = 72 by omega)).trans (p2 e), fun _ => put_at (by rw [hG.sz]; omega)⟩, hR.did9 g6⟩)
          · obtain rfl := Option.some.inj ho
            have o8 := (hG.out 8 (by omega)).trans T8
            have g8 := haft ⟨8, .data⟩ (by simp) rfl
            have g6 := hR.lc_of (.inr (.inl g8))
            have z8 := hR.c8 g8
            subst z8
            have e8 := p2 g8
            have S6 := (hR.c6 g6).2.2.2.2.2.2.h6
            obtain ⟨u0, i0⟩ := S6.has 0 (by decide)
            obtain ⟨u1, i1⟩ := S6.has 1 (by decide)
            obtain ⟨u2, i2⟩ := S6.has 2 (by decide)
            obtain ⟨u3, i3⟩ := S6.has 3 (by decide)
            obtain ⟨u4, i4⟩ := S6.has 4 (by decide)
            obtain ⟨u5, i5⟩ := S6.has 5 (by decide)
            have f0 := S6.free 0
            have f1 := S6.free 1
            have f2 := S6.free 2
            have f3 := S6.free 3
            have f4 := S6.free 4
            have f5 := S6.free 5
            have zl := S6.lt
            have HS := Lib.hid (hR.did10 g6)
            clear S6
            go_simp
            exact hK _ _ (show KGInv _ _ _ _ _ _ _ _ _ _ _ _ _ _ _ a0 (Ls.upd l 10 true) a9 _ from ⟨hG, ⟨h0, h1, h2, h3, h4, h5⟩, hcc, _, _, _, _, t, v, wz, ⟨p0, p1, p2, p3⟩, HS.out⟩)
          · obtain rfl := Option.some.inj ho
            have o9 := (hG.out 9 (by omega)).trans T9
            have g8 := haft ⟨9, .data⟩ (by simp) rfl
            have g6 := hR.lc_of (.inr (.inr g8))
            have z8 := hR.c9 g8
            subst z8
            have e8 := p3 g8
            have S6 := (hR.c6 g6).2.2.2.2.2.2.c10
            obtain ⟨u0, i0⟩ := S6.has 0 (by decide)
            obtain ⟨u1, i1⟩ := S6.has 1 (by decide)
            obtain ⟨u2, i2⟩ := S6.has 2 (by decide)
            obtain ⟨u3, i3⟩ := S6.has 3 (by decide)
            obtain ⟨u4, i4⟩ := S6.has 4 (by decide)
            obtain ⟨u5, i5⟩ := S6.has 5 (by decide)
            obtain ⟨u6, i6⟩ := S6.has 6 (by decide)
            obtain ⟨u7, i7⟩ := S6.has 7 (by decide)
            obtain ⟨u8, i8⟩ := S6.has 8 (by decide)
            obtain ⟨u9, i9⟩ := S6.has 9 (by decide)
            have f0 := S6.free 0
            have f1 := S6.free 1
            have f2 := S6.free 2
            have f3 := S6.free 3
            have f4 := S6.free 4
            have f5 := S6.free 5
            have f6 := S6.free 6
            have f7 := S6.free 7
            have f8 := S6.free 8
            have f9 := S6.free 9
            have zl := S6.lt
            have HS := Lib.hid (hR.did11 g6)
            clear S6
            go_simp
            exact hK _ _ (show KGInv _ _ _ _ _ _ _ _ _ _ _ _ _ _ _ a0 (Ls.upd l 11 true) a9 _ from ⟨hG, ⟨h0, h1, h2, h3, h4, h5⟩, hcc, _, _, _, _, t, v, wz, ⟨p0, p1, p2, p3⟩, HS.out⟩)
        case done =>
          rintro l a9 wc ⟨hG, ⟨h0, h1, h2, h3, h4, h5⟩, hcc, x6, x7, x8, x9, t, v, wz, ⟨p0, p1, p2, p3⟩, hR⟩ hall
          have e65 := h0 (hall 0 (by simp))
          have e66 := h1 (hall 1 (by simp))
          have e67 := h2 (hall 2 (by simp))
          have e68 := h3 (hall 3 (by simp))
          have e69 := h4 (hall 4 (by simp))
          have e70 := h5 (hall 5 (by simp))
          have e71 := p0 (hall 6 (by simp))
          have e64 := p1 (hall 7 (by simp))
          have e72 := p2 (hall 8 (by simp))
          have e73 := p3 (hall 9 (by simp))
          obtain ⟨f6, f1, f2, f3, f4, f5, hS⟩ := hR.c6 (hall 6 (by simp))
          rw [f6] at e71
          rw [hR.c7 (hall 7 (by simp))] at e64
          rw [hR.c8 (hall 8 (by simp))] at e72
          rw [hR.c9 (hall 9 (by simp))] at e73
          rw [hall 10 (by simp), hall 11 (by simp)] at hS
          have A16 := Lib.hid (al_putk HA9.out f1 f2 f4 f5 hS)
          have TL := Lib.hid f3
          obtain rfl := KG_back hG HS0 e64 e65 e66 e67 e68 e69 e70 e71 e72 e73
          clear hG hR hall hcc hS f1 f2 f3 f4 f5 f6 h0 h1 h2 h3 h4 h5 p0 p1 p2 p3 e65 e66 e67 e68 e69 e70 e71 e64 e72 e73
          rw [HA0.out]
          obtain ⟨wk, rfl⟩ : ∃ x : World, x = wc := ⟨_, rfl⟩
          obtain ⟨t2, rfl⟩ : ∃ x : Hs, x = t := ⟨_, rfl⟩
          obtain ⟨v2, rfl⟩ : ∃ x : Ls.Sl, x = v := ⟨_, rfl⟩
          simp only [KGBack, Act.put, List.setIfInBounds_toArray, List.set_cons_succ, List.set_cons_zero]
          have TL2 := Lib.hid TL.out
          clear TL FK HCK
          have BK : Hid (Below w5.heap.size w5 wk) := Lib.hid A16.out.bel
          have FM : Hid (HBox wk (w5.heap.size + 1 + 1) tm ∧ CBox wk (w5.heap.size + 1 + 1 + 1) (kw k vm om) ∧ bb < wk.heap.size ∧ wk.cell? ⟨bb, off + (vn - 1 - q), none⟩ = some (.int .i64 z)) := Lib.hid ⟨A16.out.pm.hb, A16.out.pm.cb, FB.out wk A16.out.bel⟩
          have HCN : Hid (∀ W, Below wk.heap.size wk W → Calls Tryd.prog 10 #[(.agg #[.slice tm.w.a tm.w.n tm.w.c, .slice tm.p.a tm.p.n tm.p.c, .slice (tm.u 0).a (tm.u 0).n (tm.u 0).c, .slice (tm.u 1).a (tm.u 1).n (tm.u 1).c, .slice (tm.u 2).a (tm.u 2).n (tm.u 2).c, .slice tm.c.a tm.c.n tm.c.c]), (.agg #[.int .i64 k.ph, .int .i64 k.ep, .bool k.mj, .slice vm.a vm.n vm.c, .bool om, .int .i64 k.pa, .int .i64 k.pf, .int .i64 k.ps, .int .i64 k.pc, .bool k.me]), .int .i64 z] W (ShOut W tm k d3 o3 x3)) := Lib.hid fun W h => HCM.out W wk t2 d2 v2 o2 x2 A16.out h
          go_upto_region 17 with fail
          refine region_gen fun a0 ha0 => ?_
          have T10 : a0.tmps[10]? = some (.pointer (some ⟨w5.heap.size + 1 + 1, 0, none⟩)) := by rw [ha0]; rfl
          have T11 : a0.tmps[11]? = some (.pointer (some ⟨w5.heap.size + 1 + 1 + 1, 0, none⟩)) := by rw [ha0]; rfl
          have T7 : a0.tmps[7]? = some (.slice (some ⟨bb, off, none⟩) vn vc) := by rw [ha0]; rfl
          have T13 : a0.tmps[13]? = some (.int .i64 (q : Int)) := by rw [ha0]; rfl
          have HS0 : 88 ≤ a0.tmps.size := by rw [ha0]; show 88 ≤ 146; omega
          have HA0 := Lib.hid ha0
          clear ha0
          refine wp_region_from (by kernel_rfl) (KMInv wk (w5.heap.size + 1 + 1) tm tm (kw k vm om) k d3 o3 x3 ((.agg #[.slice tm.w.a tm.w.n tm.w.c, .slice tm.p.a tm.p.n tm.p.c, .slice (tm.u 0).a (tm.u 0).n (tm.u 0).c, .slice (tm.u 1).a (tm.u 1).n (tm.u 1).c, .slice (tm.u 2).a (tm.u 2).n (tm.u 2).c, .slice tm.c.a tm.c.n tm.c.c])) ((.agg #[.int .i64 k.ph, .int .i64 k.ep, .bool k.mj, .slice vm.a vm.n vm.c, .bool om, .int .i64 k.pa, .int .i64 k.pf, .int .i64 k.ps, .int .i64 k.pc, .bool k.me])) (.slice (some ⟨bb, off, none⟩) vn vc) (.slice (some ⟨bb, off, none⟩) vn vc) (.int .i64 (vn : Int)) (.int .i64 ((vn : Int) - 1)) (.int .i64 (q : Int)) (.int .i64 ((vn : Int) - 1 - q)) (.pointer (some ⟨bb, off + (vn - 1 - q), none⟩)) (.int .i64 z)) ?dag ?start ?step ?done
          case dag => exact dag_any (by kernel_rfl)
          case start => exact ⟨Rg.refl _ _ _, ⟨(fun h => by cases h), (fun h => by cases h), (fun h => by cases h), (fun h => by cases h), (fun h => by cases h), (fun h => by cases h), (fun h => by cases h), (fun h => by cases h), (fun h => by cases h), (fun h => by cases h)⟩, (fun h => by cases h), undef, undef, undef, undef, tm, vm, wk, ⟨(fun h => by cases h), (fun h => by cases h), (fun h => by cases h), (fun h => by cases h)⟩, RK.start⟩
          case step =>
            rintro i o9 l a9 wc ho ⟨hG, ⟨h0, h1, h2, h3, h4, h5, h6, h7, h8, h9⟩, hcc, x6, x7, x8, x9, t, v, wz, ⟨p0, p1, p2, p3⟩, hR⟩ hl haft K hK
            have hi : i < 16 := (Array.getElem?_eq_some_iff.1 ho).1
            refine wpOp_of ho ?_
            rcases (show i = 0 ∨ i = 1 ∨ i = 2 ∨ i = 3 ∨ i = 4 ∨ i = 5 ∨ i = 6 ∨ i = 7 ∨ i = 8 ∨ i = 9 ∨ i = 10 ∨ i = 11 ∨ i = 12 ∨ i = 13 ∨ i = 14 ∨ i = 15 by omega) with rfl | rfl | rfl | rfl | rfl | rfl | rfl | rfl | rfl | rfl | rfl | rfl | rfl | rfl | rfl | rfl
            · obtain rfl := Option.some.inj ho
              have o10 := (hG.out 10 (by omega)).trans T10
              have hc6 : l 10 = false := by
                cases e : l 10
                · rfl
                · have := hcc e
                  simp [hl] at this
              have hbl := (hR.pre hc6).1
              have q0 := (FM.out.1.next hbl).c0
              have q1 := (FM.out.1.next hbl).c1
              have q2 := (FM.out.1.next hbl).c2
              have q3 := (FM.out.1.next hbl).c3
              have q4 := (FM.out.1.next hbl).c4
              have q5 := (FM.out.1.next hbl).c5
              have ql := (FM.out.1.next hbl).lt
              go_simp
              exact hK _ _ (show KMInv _ _ _ _ _ _ _ _ _ _ _ _ _ _ _ _ _ _ _ a0 (Ls.upd l 0 true) (a9.put (some 75) ((.agg #[.slice tm.w.a tm.w.n tm.w.c, .slice tm.p.a tm.p.n tm.p.c, .slice (tm.u 0).a (tm.u 0).n (tm.u 0).c, .slice (tm.u 1).a (tm.u 1).n (tm.u 1).c, .slice (tm.u 2).a (tm.u 2).n (tm.u 2).c, .slice tm.c.a tm.c.n tm.c.c]))) _ from ⟨hG.put ((.agg #[.slice tm.w.a tm.w.n tm.w.c, .slice tm.p.a tm.p.n tm.p.c, .slice (tm.u 0).a (tm.u 0).n (tm.u 0).c, .slice (tm.u 1).a (tm.u 1).n (tm.u 1).c, .slice (tm.u 2).a (tm.u 2).n (tm.u 2).c, .slice tm.c.a tm.c.n tm.c.c])) (by omega) (by omega), ⟨fun _ => put_at (by rw [hG.sz]; omega), fun e => (put_ne (show ¬ 75 = 76 by omega)).trans (h1 e), fun e => (put_ne (show ¬ 75 = 77 by omega)).trans (h2 e), fun e => (put_ne (show ¬ 75 = 78 by omega)).trans (h3 e), fun e => (put_ne (show ¬ 75 = 79 by omega)).trans (h4 e), fun e => (put_ne (show ¬ 75 = 80 by omega)).trans (h5 e), fun e => (put_ne (show ¬ 75 = 81 by omega)).trans (h6 e), fun e => (put_ne (show ¬ 75 = 82 by omega)).trans (h7 e), fun e => (put_ne (show ¬ 75 = 83 by omega)).trans (h8 e), fun e => (put_ne (show ¬ 75 = 84 by omega)).trans (h9 e)⟩, (fun e => by have h9 := hcc e; exact (by first | exact h9 | exact ⟨rfl, h9.2.1, h9.2.2⟩ | exact ⟨h9.1, rfl, h9.2.2⟩ | exact ⟨h9.1, h9.2.1, rfl⟩)), _, _, _, _, t, v, wz, ⟨fun e => (put_ne (show ¬ 75 = 85 by omega)).trans (p0 e), fun e => (put_ne (show ¬ 75 = 74 by omega)).trans (p1 e), fun e => (put_ne (show ¬ 75 = 86 by omega)).trans (p2 e), fun e => (put_ne (show ¬ 75 = 87 by omega)).trans (p3 e)⟩, hR⟩)
            · obtain rfl := Option.some.inj ho
              have o11 := (hG.out 11 (by omega)).trans T11
              have hc6 : l 10 = false := by
                cases e : l 10
                · rfl
                · have := hcc e
                  simp [hl] at this
              have hbl := (hR.pre hc6).1
              have q0 := (FM.out.2.1.next hbl).c0
              have q1 := (FM.out.2.1.next hbl).c1
              have q2 := (FM.out.2.1.next hbl).c2
              have q3 := (FM.out.2.1.next hbl).c3
              have q4 := (FM.out.2.1.next hbl).c4
              have q5 := (FM.out.2.1.next hbl).c5
              have q6 := (FM.out.2.1.next hbl).c6
              have q7 := (FM.out.2.1.next hbl).c7
              have q8 := (FM.out.2.1.next hbl).c8
              have q9 := (FM.out.2.1.next hbl).c9
              have ql := (FM.out.2.1.next hbl).lt
              dsimp only [kw] at q0 q1 q2 q3 q4 q5 q6 q7 q8 q9
              go_simp
              exact hK _ _ (show KMInv _ _ _ _ _ _ _ _ _ _ _ _ _ _ _ _ _ _ _ a0 (Ls.upd l 1 true) (a9.put (some 76) ((.agg #[.int .i64 k.ph, .int .i64 k.ep, .bool k.mj, .slice vm.a vm.n vm.c, .bool om, .int .i64 k.pa, .int .i64 k.pf, .int .i64 k.ps, .int .i64 k.pc, .bool k.me]))) _ from ⟨hG.put ((.agg #[.int .i64 k.ph, .int .i64 k.ep, .bool k.mj, .slice vm.a vm.n vm.c, .bool om, .int .i64 k.pa, .int .i64 k.pf, .int .i64 k.ps, .int .i64 k.pc, .bool k.me])) (by omega) (by omega), ⟨fun e => (put_ne (show ¬ 76 = 75 by omega)).trans (h0 e), fun _ => put_at (by rw [hG.sz]; omega), fun e => (put_ne (show ¬ 76 = 77 by omega)).trans (h2 e), fun e => (put_ne (show ¬ 76 = 78 by omega)).trans (h3 e), fun e => (put_ne (show ¬ 76 = 79 by omega)).trans (h4 e), fun e => (put_ne (show ¬ 76 = 80 by omega)).trans (h5 e), fun e => (put_ne (show ¬ 76 = 81 by omega)).trans (h6 e), fun e => (put_ne (show ¬ 76 = 82 by omega)).trans (h7 e), fun e => (put_ne (show ¬ 76 = 83 by omega)).trans (h8 e), fun e => (put_ne (show ¬ 76 = 84 by omega)).trans (h9 e)⟩, (fun e => by have h9 := hcc e; exact (by first | exact h9 | exact ⟨rfl, h9.2.1, h9.2.2⟩ | exact ⟨h9.1, rfl, h9.2.2⟩ | exact ⟨h9.1, h9.2.1, rfl⟩)), _, _, _, _, t, v, wz, ⟨fun e => (put_ne (show ¬ 76 = 85 by omega)).trans (p0 e), fun e => (put_ne (show ¬ 76 = 74 by omega)).trans (p1 e), fun e => (put_ne (show ¬ 76 = 86 by omega)).trans (p2 e), fun e => (put_ne (show ¬ 76 = 87 by omega)).trans (p3 e)⟩, hR⟩)
            · obtain rfl := Option.some.inj ho
              have o7 := (hG.out 7 (by omega)).trans T7
              go_simp
              exact hK _ _ (show KMInv _ _ _ _ _ _ _ _ _ _ _ _ _ _ _ _ _ _ _ a0 (Ls.upd l 2 true) (a9.put (some 77) (.slice (some ⟨bb, off, none⟩) vn vc)) _ from ⟨hG.put (.slice (some ⟨bb, off, none⟩) vn vc) (by omega) (by omega), ⟨fun e => (put_ne (show ¬ 77 = 75 by omega)).trans (h0 e), fun e => (put_ne (show ¬ 77 = 76 by omega)).trans (h1 e), fun _ => put_at (by rw [hG.sz]; omega), fun e => (put_ne (show ¬ 77 = 78 by omega)).trans (h3 e), fun e => (put_ne (show ¬ 77 = 79 by omega)).trans (h4 e), fun e => (put_ne (show ¬ 77 = 80 by omega)).trans (h5 e), fun e => (put_ne (show ¬ 77 = 81 by omega)).trans (h6 e), fun e => (put_ne (show ¬ 77 = 82 by omega)).trans (h7 e), fun e => (put_ne (show ¬ 77 = 83 by omega)).trans (h8 e), fun e => (put_ne (show ¬ 77 = 84 by omega)).trans (h9 e)⟩, (fun e => by have h9 := hcc e; exact (by first | exact h9 | exact ⟨rfl, h9.2.1, h9.2.2⟩ | exact ⟨h9.1, rfl, h9.2.2⟩ | exact ⟨h9.1, h9.2.1, rfl⟩)), _, _, _, _, t, v, wz, ⟨fun e => (put_ne (show ¬ 77 = 85 by omega)).trans (p0 e), fun e => (put_ne (show ¬ 77 = 74 by omega)).trans (p1 e), fun e => (put_ne (show ¬ 77 = 86 by omega)).trans (p2 e), fun e => (put_ne (show ¬ 77 = 87 by omega)).trans (p3 e)⟩, hR⟩)
            · obtain rfl := Option.some.inj ho
              have o7 := (hG.out 7 (by omega)).trans T7
              go_simp
              exact hK _ _ (show KMInv _ _ _ _ _ _ _ _ _ _ _ _ _ _ _ _ _ _ _ a0 (Ls.upd l 3 true) (a9.put (some 78) (.slice (some ⟨bb, off, none⟩) vn vc)) _ from ⟨hG.put (.slice (some ⟨bb, off, none⟩) vn vc) (by omega) (by omega), ⟨fun e => (put_ne (show ¬ 78 = 75 by omega)).trans (h0 e), fun e => (put_ne (show ¬ 78 = 76 by omega)).trans (h1 e), fun e => (put_ne (show ¬ 78 = 77 by omega)).trans (h2 e), fun _ => put_at (by rw [hG.sz]; omega), fun e => (put_ne (show ¬ 78 = 79 by omega)).trans (h4 e), fun e => (put_ne (show ¬ 78 = 80 by omega)).trans (h5 e), fun e => (put_ne (show ¬ 78 = 81 by omega)).trans (h6 e), fun e => (put_ne (show ¬ 78 = 82 by omega)).trans (h7 e), fun e => (put_ne (show ¬ 78 = 83 by omega)).trans (h8 e), fun e => (put_ne (show ¬ 78 = 84 by omega)).trans (h9 e)⟩, (fun e => by have h9 := hcc e; exact (by first | exact h9 | exact ⟨rfl, h9.2.1, h9.2.2⟩ | exact ⟨h9.1, rfl, h9.2.2⟩ | exact ⟨h9.1, h9.2.1, rfl⟩)), _, _, _, _, t, v, wz, ⟨fun e => (put_ne (show ¬ 78 = 85 by omega)).trans (p0 e), fun e => (put_ne (show ¬ 78 = 74 by omega)).trans (p1 e), fun e => (put_ne (show ¬ 78 = 86 by omega)).trans (p2 e), fun e => (put_ne (show ¬ 78 = 87 by omega)).trans (p3 e)⟩, hR⟩)
            · obtain rfl := Option.some.inj ho
              have e3 := h3 (haft ⟨3, .data⟩ (by simp) rfl)
              go_simp
              exact hK _ _ (show KMInv _ _ _ _ _ _ _ _ _ _ _ _ _ _ _ _ _ _ _ a0 (Ls.upd l 4 true) (a9.put (some 79) (.int .i64 (vn : Int))) _ from ⟨hG.put (.int .i64 (vn : Int)) (by omega) (by omega), ⟨fun e => (put_ne (show ¬ 79 = 75 by omega)).trans (h0 e), fun e => (put_ne (show ¬ 79 = 76 by omega)).trans (h1 e), fun e => (put_ne (show ¬ 79 = 77 by omega)).trans (h2 e), fun e => (put_ne (show ¬ 79 = 78 by omega)).trans (h3 e), fun _ => put_at (by rw [hG.sz]; omega), fun e => (put_ne (show ¬ 79 = 80 by omega)).trans (h5 e), fun e => (put_ne (show ¬ 79 = 81 by omega)).trans (h6 e), fun e => (put_ne (show ¬ 79 = 82 by omega)).trans (h7 e), fun e => (put_ne (show ¬ 79 = 83 by omega)).trans (h8 e), fun e => (put_ne (show ¬ 79 = 84 by omega)).trans (h9 e)⟩, (fun e => by have h9 := hcc e; exact (by first | exact h9 | exact ⟨rfl, h9.2.1, h9.2.2⟩ | exact ⟨h9.1, rfl, h9.2.2⟩ | exact ⟨h9.1, h9.2.1, rfl⟩)), _, _, _, _, t, v, wz, ⟨fun e => (put_ne (show ¬ 79 = 85 by omega)).trans (p0 e), fun e => (put_ne (show ¬ 79 = 74 by omega)).trans (p1 e), fun e => (put_ne (show ¬ 79 = 86 by omega)).trans (p2 e), fun e => (put_ne (show ¬ 79 = 87 by omega)).trans (p3 e)⟩, hR⟩)
            · obtain rfl := Option.some.inj ho
              have e4 := h4 (haft ⟨4, .data⟩ (by simp) rfl)
              go_simp
              exact hK _ _ (show KMInv _ _ _ _ _ _ _ _ _ _ _ _ _ _ _ _ _ _ _ a0 (Ls.upd l 5 true) (a9.put (some 80) (.int .i64 ((vn : Int) - 1))) _ from ⟨hG.put (.int .i64 ((vn : Int) - 1)) (by omega) (by omega), ⟨fun e => (put_ne (show ¬ 80 = 75 by omega)).trans (h0 e), fun e => (put_ne (show ¬ 80 = 76 by omega)).trans (h1 e), fun e => (put_ne (show ¬ 80 = 77 by omega)).trans (h2 e), fun e => (put_ne (show ¬ 80 = 78 by omega)).trans (h3 e), fun e => (put_ne (show ¬ 80 = 79 by omega)).trans (h4 e), fun _ => put_at (by rw [hG.sz]; omega), fun e => (put_ne (show ¬ 80 = 81 by omega)).trans (h6 e), fun e => (put_ne (show ¬ 80 = 82 by omega)).trans (h7 e), fun e => (put_ne (show ¬ 80 = 83 by omega)).trans (h8 e), fun e => (put_ne (show ¬ 80 = 84 by omega)).trans (h9 e)⟩, (fun e => by have h9 := hcc e; exact (by first | exact h9 | exact ⟨rfl, h9.2.1, h9.2.2⟩ | exact ⟨h9.1, rfl, h9.2.2⟩ | exact ⟨h9.1, h9.2.1, rfl⟩)), _, _, _, _, t, v, wz, ⟨fun e => (put_ne (show ¬ 80 = 85 by omega)).trans (p0 e), fun e => (put_ne (show ¬ 80 = 74 by omega)).trans (p1 e), fun e => (put_ne (show ¬ 80 = 86 by omega)).trans (p2 e), fun e => (put_ne (show ¬ 80 = 87 by omega)).trans (p3 e)⟩, hR⟩)
            · obtain rfl := Option.some.inj ho
              have o13 := (hG.out 13 (by omega)).trans T13
              go_simp
              exact hK _ _ (show KMInv _ _ _ _ _ _ _ _ _ _ _ _ _ _ _ _ _ _ _ a0 (Ls.upd l 6 true) (a9.put (some 81) (.int .i64 (q : Int))) _ from ⟨hG.put (.int .i64 (q : Int)) (by omega) (by omega), ⟨fun e => (put_ne (show ¬ 81 = 75 by omega)).trans (h0 e), fun e => (put_ne (show ¬ 81 = 76 by omega)).trans (h1 e), fun e => (put_ne (show ¬ 81 = 77 by omega)).trans (h2 e), fun e => (put_ne (show ¬ 81 = 78 by omega)).trans (h3 e), fun e => (put_ne (show ¬ 81 = 79 by omega)).trans (h4 e), fun e => (put_ne (show ¬ 81 = 80 by omega)).trans (h5 e), fun _ => put_at (by rw [hG.sz]; omega), fun e => (put_ne (show ¬ 81 = 82 by omega)).trans (h7 e), fun e => (put_ne (show ¬ 81 = 83 by omega)).trans (h8 e), fun e => (put_ne (show ¬ 81 = 84 by omega)).trans (h9 e)⟩, (fun e => by have h9 := hcc e; exact (by first | exact h9 | exact ⟨rfl, h9.2.1, h9.2.2⟩ | exact ⟨h9.1, rfl, h9.2.2⟩ | exact ⟨h9.1, h9.2.1, rfl⟩)), _, _, _, _, t, v, wz, ⟨fun e => (put_ne (show ¬ 81 = 85 by omega)).trans (p0 e), fun e => (put_ne (show ¬ 81 = 74 by omega)).trans (p1 e), fun e => (put_ne (show ¬ 81 = 86 by omega)).trans (p2 e), fun e => (put_ne (show ¬ 81 = 87 by omega)).trans (p3 e)⟩, hR⟩)
            · obtain rfl := Option.some.inj ho
              have e5 := h5 (haft ⟨5, .data⟩ (by simp) rfl)
              have e6 := h6 (haft ⟨6, .data⟩ (by simp) rfl)
              go_simp
              exact hK _ _ (show KMInv _ _ _ _ _ _ _ _ _ _ _ _ _ _ _ _ _ _ _ a0 (Ls.upd l 7 true) (a9.put (some 82) (.int .i64 ((vn : Int) - 1 - q))) _ from ⟨hG.put (.int .i64 ((vn : Int) - 1 - q)) (by omega) (by omega), ⟨fun e => (put_ne (show ¬ 82 = 75 by omega)).trans (h0 e), fun e => (put_ne (show ¬ 82 = 76 by omega)).trans (h1 e), fun e => (put_ne (show ¬ 82 = 77 by omega)).trans (h2 e), fun e => (put_ne (show ¬ 82 = 78 by omega)).trans (h3 e), fun e => (put_ne (show ¬ 82 = 79 by omega)).trans (h4 e), fun e => (put_ne (show ¬ 82 = 80 by omega)).trans (h5 e), fun e => (put_ne (show ¬ 82 = 81 by omega)).trans (h6 e), fun _ => put_at (by rw [hG.sz]; omega), fun e => (put_ne (show ¬ 82 = 83 by omega)).trans (h8 e), fun e => (put_ne (show ¬ 82 = 84 by omega)).trans (h9 e)⟩, (fun e => by have h9 := hcc e; exact (by first | exact h9 | exact ⟨rfl, h9.2.1, h9.2.2⟩ | exact ⟨h9.1, rfl, h9.2.2⟩ | exact ⟨h9.1, h9.2.1, rfl⟩)), _, _, _, _, t, v, wz, ⟨fun e => (put_ne (show ¬ 82 = 85 by omega)).trans (p0 e), fun e => (put_ne (show ¬ 82 = 74 by omega)).trans (p1 e), fun e => (put_ne (show ¬ 82 = 86 by omega)).trans (p2 e), fun e => (put_ne (show ¬ 82 = 87 by omega)).trans (p3 e)⟩, hR⟩)
            · obtain rfl := Option.some.inj ho
              have e2 := h2 (haft ⟨2, .data⟩ (by simp) rfl)
              have e7 := h7 (haft ⟨7, .data⟩ (by simp) rfl)
              go_simp
              exact hK _ _ (show KMInv _ _ _ _ _ _ _ _ _ _ _ _ _ _ _ _ _ _ _ a0 (Ls.upd l 8 true) (a9.put (some 83) (.pointer (some ⟨bb, off + (vn - 1 - q), none⟩))) _ from ⟨hG.put (.pointer (some ⟨bb, off + (vn - 1 - q), none⟩)) (by omega) (by omega), ⟨fun e => (put_ne (show ¬ 83 = 75 by omega)).trans (h0 e), fun e => (put_ne (show ¬ 83 = 76 by omega)).trans (h1 e), fun e => (put_ne (show ¬ 83 = 77 by omega)).trans (h2 e), fun e => (put_ne (show ¬ 83 = 78 by omega)).trans (h3 e), fun e => (put_ne (show ¬ 83 = 79 by omega)).trans (h4 e), fun e => (put_ne (show ¬ 83 = 80 by omega)).trans (h5 e), fun e => (put_ne (show ¬ 83 = 81 by omega)).trans (h6 e), fun e => (put_ne (show ¬ 83 = 82 by omega)).trans (h7 e), fun _ => put_at (by rw [hG.sz]; omega), fun e => (put_ne (show ¬ 83 = 84 by omega)).trans (h9 e)⟩, (fun e => by have h9 := hcc e; exact (by first | exact h9 | exact ⟨rfl, h9.2.1, h9.2.2⟩ | exact ⟨h9.1, rfl, h9.2.2⟩ | exact ⟨h9.1, h9.2.1, rfl⟩)), _, _, _, _, t, v, wz, ⟨fun e => (put_ne (show ¬ 83 = 85 by omega)).trans (p0 e), fun e => (put_ne (show ¬ 83 = 74 by omega)).trans (p1 e), fun e => (put_ne (show ¬ 83 = 86 by omega)).trans (p2 e), fun e => (put_ne (show ¬ 83 = 87 by omega)).trans (p3 e)⟩, hR⟩)
            · obtain rfl := Option.some.inj ho
              have e8 := h8 (haft ⟨8, .data⟩ (by simp) rfl)
              have hc6 : l 10 = false := by
                cases e : l 10
                · rfl
                · have := hcc e
                  simp [hl] at this
              have hbl := (hR.pre hc6).1
              have cy := (hbl.cell (p := ⟨bb, off + (vn - 1 - q), none⟩) FM.out.2.2.1).trans FM.out.2.2.2
              have cyl : bb < wc.heap.size := by have h1 := hbl.size; have h2 := FM.out.2.2.1; omega
              go_simp
              exact hK _ _ (show KMInv _ _ _ _ _ _ _ _ _ _ _ _ _ _ _ _ _ _ _ a0 (Ls.upd l 9 true) (a9.put (some 84) (.int .i64 z)) _ from ⟨hG.put (.int .i64 z) (by omega) (by omega), ⟨fun e => (put_ne (show ¬ 84 = 75 by omega)).trans (h0 e), fun e => (put_ne (show ¬ 84 = 76 by omega)).trans (h1 e), fun e => (put_ne (show ¬ 84 = 77 by omega)).trans (h2 e), fun e => (put_ne (show ¬ 84 = 78 by omega)).trans (h3 e), fun e => (put_ne (show ¬ 84 = 79 by omega)).trans (h4 e), fun e => (put_ne (show ¬ 84 = 80 by omega)).trans (h5 e), fun e => (put_ne (show ¬ 84 = 81 by omega)).trans (h6 e), fun e => (put_ne (show ¬ 84 = 82 by omega)).trans (h7 e), fun e => (put_ne (show ¬ 84 = 83 by omega)).trans (h8 e), fun _ => put_at (by rw [hG.sz]; omega)⟩, (fun e => by have h9 := hcc e; exact (by first | exact h9 | exact ⟨rfl, h9.2.1, h9.2.2⟩ | exact ⟨h9.1, rfl, h9.2.2⟩ | exact ⟨h9.1, h9.2.1, rfl⟩)), _, _, _, _, t, v, wz, ⟨fun e => (put_ne (show ¬ 84 = 85 by omega)).trans (p0 e), fun e => (put_ne (show ¬ 84 = 74 by omega)).trans (p1 e), fun e => (put_ne (show ¬ 84 = 86 by omega)).trans (p2 e), fun e => (put_ne (show ¬ 84 = 87 by omega)).trans (p3 e)⟩, hR⟩)
            · obtain rfl := Option.some.inj ho
              have g0 := haft ⟨0, .data⟩ (by simp) rfl
              have e0 := h0 g0
              have g1 := haft ⟨1, .data⟩ (by simp) rfl
              have e1 := h1 g1
              have g9 := haft ⟨9, .data⟩ (by simp) rfl
              have e9 := h9 g9
              have hbl := (hR.pre hl).1
              go_simp
              refine (HCN.out wc hbl).mono ?_
              rintro e9 wn ⟨t9, v9, rfl, hp9, hl9, hn9, ha9⟩
              exact hK _ _ (show KMInv _ _ _ _ _ _ _ _ _ _ _ _ _ _ _ _ _ _ _ a0 (Ls.upd l 10 true) (a9.put (some 85) (.tuple #[(.agg #[.slice t9.w.a t9.w.n t9.w.c, .slice t9.p.a t9.p.n t9.p.c, .slice (t9.u 0).a (t9.u 0).n (t9.u 0).c, .slice (t9.u 1).a (t9.u 1).n (t9.u 1).c, .slice (t9.u 2).a (t9.u 2).n (t9.u 2).c, .slice t9.c.a t9.c.n t9.c.c]), (.agg #[.int .i64 k.ph, .int .i64 k.ep, .bool k.mj, .slice v9.a v9.n v9.c, .bool o3, .int .i64 k.pa, .int .i64 k.pf, .int .i64 k.ps, .int .i64 k.pc, .bool k.me])])) _ from ⟨hG.put (.tuple #[(.agg #[.slice t9.w.a t9.w.n t9.w.c, .slice t9.p.a t9.p.n t9.p.c, .slice (t9.u 0).a (t9.u 0).n (t9.u 0).c, .slice (t9.u 1).a (t9.u 1).n (t9.u 1).c, .slice (t9.u 2).a (t9.u 2).n (t9.u 2).c, .slice t9.c.a t9.c.n t9.c.c]), (.agg #[.int .i64 k.ph, .int .i64 k.ep, .bool k.mj, .slice v9.a v9.n v9.c, .bool o3, .int .i64 k.pa, .int .i64 k.pf, .int .i64 k.ps, .int .i64 k.pc, .bool k.me])]) (by omega) (by omega), ⟨fun e => (put_ne (show ¬ 85 = 75 by omega)).trans (h0 e), fun e => (put_ne (show ¬ 85 = 76 by omega)).trans (h1 e), fun e => (put_ne (show ¬ 85 = 77 by omega)).trans (h2 e), fun e => (put_ne (show ¬ 85 = 78 by omega)).trans (h3 e), fun e => (put_ne (show ¬ 85 = 79 by omega)).trans (h4 e), fun e => (put_ne (show ¬ 85 = 80 by omega)).trans (h5 e), fun e => (put_ne (show ¬ 85 = 81 by omega)).trans (h6 e), fun e => (put_ne (show ¬ 85 = 82 by omega)).trans (h7 e), fun e => (put_ne (show ¬ 85 = 83 by omega)).trans (h8 e), fun e => (put_ne (show ¬ 85 = 84 by omega)).trans (h9 e)⟩, (fun _ => ⟨g0, g1, g9⟩), _, _, _, _, t9, v9, wn, ⟨fun _ => put_at (by rw [hG.sz]; omega), fun e => (put_ne (show ¬ 85 = 74 by omega)).trans (p1 e), fun e => (put_ne (show ¬ 85 = 86 by omega)).trans (p2 e), fun e => (put_ne (show ¬ 85 = 87 by omega)).trans (p3 e)⟩, hR.call hl ((A16.out.pm.next hbl).next ha9.bel) rfl ha9.bel hp9 hl9 hn9 ha9.own⟩)
            · obtain rfl := Option.some.inj ho
              have g6 := haft ⟨10, .data⟩ (by simp) rfl
              have z6 := (hR.c6 g6).1
              subst z6
              have e6 := p0 g6
              go_simp
              exact hK _ _ (show KMInv _ _ _ _ _ _ _ _ _ _ _ _ _ _ _ _ _ _ _ a0 (Ls.upd l 11 true) (a9.put (some 74) (.tuple #[(.agg #[.slice t.w.a t.w.n t.w.c, .slice t.p.a t.p.n t.p.c, .slice (t.u 0).a (t.u 0).n (t.u 0).c, .slice (t.u 1).a (t.u 1).n (t.u 1).c, .slice (t.u 2).a (t.u 2).n (t.u 2).c, .slice t.c.a t.c.n t.c.c]), (.agg #[.int .i64 k.ph, .int .i64 k.ep, .bool k.mj, .slice v.a v.n v.c, .bool o3, .int .i64 k.pa, .int .i64 k.pf, .int .i64 k.ps, .int .i64 k.pc, .bool k.me])])) _ from ⟨hG.put (.tuple #[(.agg #[.slice t.w.a t.w.n t.w.c, .slice t.p.a t.p.n t.p.c, .slice (t.u 0).a (t.u 0).n (t.u 0).c, .slice (t.u 1).a (t.u 1).n (t.u 1).c, .slice (t.u 2).a (t.u 2).n (t.u 2).c, .slice t.c.a t.c.n t.c.c]), (.agg #[.int .i64 k.ph, .int .i64 k.ep, .bool k.mj, .slice v.a v.n v.c, .bool o3, .int .i64 k.pa, .int .i64 k.pf, .int .i64 k.ps, .int .i64 k.pc, .bool k.me])]) (by omega) (by omega), ⟨fun e => (put_ne (show ¬ 74 = 75 by omega)).trans (h0 e), fun e => (put_ne (show ¬ 74 = 76 by omega)).trans (h1 e), fun e => (put_ne (show ¬ 74 = 77 by omega)).trans (h2 e), fun e => (put_ne (show ¬ 74 = 78 by omega)).trans (h3 e), fun e => (put_ne (show ¬ 74 = 79 by omega)).trans (h4 e), fun e => (put_ne (show ¬ 74 = 80 by omega)).trans (h5 e), fun e => (put_ne (show ¬ 74 = 81 by omega)).trans (h6 e), fun e => (put_ne (show ¬ 74 = 82 by omega)).trans (h7 e), fun e => (put_ne (show ¬ 74 = 83 by omega)).trans (h8 e), fun e => (put_ne (show ¬ 74 = 84 by omega)).trans (h9 e)⟩, hcc, _, _, _, _, t, v, wz, ⟨fun e => (put_ne (show ¬ 74 = 85 by omega)).trans (p0 e), fun _ => put_at (by rw [hG.sz]; omega), fun e => (put_ne (show ¬ 74 = 86 by omega)).trans (p2 e), fun e => (put_ne (show ¬ 74 = 87 by omega)).trans (p3 e)⟩, hR.did7 g6⟩)
            · obtain rfl := Option.some.inj ho
              have g7 := haft ⟨11, .data⟩ (by simp) rfl
              have g6 := hR.lc_of (.inl g7)
              have z7 := hR.c7 g7
              subst z7
              have e7 := p1 g7
              go_simp
              exact hK _ _ (show KMInv _ _ _ _ _ _ _ _ _ _ _ _ _ _ _ _ _ _ _ a0 (Ls.upd l 12 true) (a9.put (some 86) ((.agg #[.slice t.w.a t.w.n t.w.c, .slice t.p.a t.p.n t.p.c, .slice (t.u 0).a (t.u 0).n (t.u 0).c, .slice (t.u 1).a (t.u 1).n (t.u 1).c, .slice (t.u 2).a (t.u 2).n (t.u 2).c, .slice t.c.a t.c.n t.c.c]))) _ from ⟨hG.put ((.agg #[.slice t.w.a t.w.n t.w.c, .slice t.p.a t.p.n t.p.c, .slice (t.u 0).a (t.u 0).n (t.u 0).c, .slice (t.u 1).a (t.u 1).n (t.u 1).c, .slice (t.u 2).a (t.u 2).n (t.u 2).c, .slice t.c.a t.c.n t.c.c])) (by omega) (by omega), ⟨fun e => (put_ne (show ¬ 86 = 75 by omega)).trans (h0 e), fun e => (put_ne (show ¬ 86 = 76 by omega)).trans (h1 e), fun e => (put_ne (show ¬ 86 = 77 by omega)).trans (h2 e), fun e => (put_ne (show ¬ 86 = 78 by omega)).trans (h3 e), fun e => (put_ne (show ¬ 86 = 79 by omega)).trans (h4 e), fun e => (put_ne (show ¬ 86 = 80 by omega)).trans (h5 e), fun e => (put_ne (show ¬ 86 = 81 by omega)).trans (h6 e), fun e => (put_ne (show ¬ 86 = 82 by omega)).trans (h7 e), fun e => (put_ne (show ¬ 86 = 83 by omega)).trans (h8 e), fun e => (put_ne (show ¬ 86 = 84 by omega)).trans (h9 e)⟩, hcc, _, _, _, _, t, v, wz, ⟨fun e => (put_ne (show ¬ 86 = 85 by omega)).trans (p0 e), fun e => (put_ne (show ¬ 86 = 74 by omega)).trans (p1 e), fun _ => put_at (by rw [hG.sz]; omega), fun e => (put_ne (show ¬ 86 = 87 by omega)).trans (p3 e)⟩, hR.did8 g6⟩)
            · obtain rfl := Option.some.inj ho
              have g7 := haft ⟨11, .data⟩ (by simp) rfl
              have g6 := hR.lc_of (.inl g7)
              have z7 := hR.c7 g7
              subst z7
              have e7 := p1 g7
              go_simp
              exact hK _ _ (show KMInv _ _ _ _ _ _ _ _ _ _ _ _ _ _ _ _ _ _ _ a0 (Ls.upd l 13 true) (a9.put (some 87) (.agg #[.int .i64 k.ph, .int .i64 k.ep, .bool k.mj, .slice v.a v.n v.c, .bool o3, .int .i64 k.pa, .int .i64 k.pf, .int .i64 k.ps, .int .i64 k.pc, .bool k.me])) _ from ⟨hG.put (.agg #[.int .i64 k.ph, .int .i64 k.ep, .bool k.mj, .slice v.a v.n v.c, .bool o3, .int .i64 k.pa, .int .i64 k.pf, .int .i64 k.ps, .int .i64 k.pc, .bool k.me]) (by omega) (by omega), ⟨fun e => (put_ne (show ¬ 87 = 75 by omega)).trans (h0 e), fun e => (put_ne (show ¬ 87 = 76 by omega)).trans (h1 e), fun e => (put_ne (show ¬ 87 = 77 by omega)).trans (h2 e), fun e => (put_ne (show ¬ 87 = 78 by omega)).trans (h3 e), fun e => (put_ne (show ¬ 87 = 79 by omega)).trans (h4 e), fun e => (put_ne (show ¬ 87 = 80 by omega)).trans (h5 e), fun e => (put_ne (show ¬ 87 = 81 by omega)).trans (h6 e), fun e => (put_ne (show ¬ 87 = 82 by omega)).trans (h7 e), fun e => (put_ne (show ¬ 87 = 83 by omega)).trans (h8 e), fun e => (put_ne (show ¬ 87 = 84 by omega)).trans (h9 e)⟩, hcc, _, _, _, _, t, v, wz, ⟨fun e => (put_ne (show ¬ 87 = 85 by omega)).trans (p0 e), fun e => (put_ne (show ¬ 87 = 74 by omega)).trans (p1 e), fun e => (put_ne (show ¬ 87 = 86 by omega)).trans (p2 e), fun _ => put_at (by rw [hG.sz]; omega)⟩, hR.did9 g6⟩)
            · obtain rfl := Option.some.inj ho
              have o10 := (hG.out 10 (by omega)).trans T10
              have g8 := haft ⟨12, .data⟩ (by simp) rfl
              have g6 := hR.lc_of (.inr (.inl g8))
              have z8 := hR.c8 g8
              subst z8
              have e8 := p2 g8
              have S6 := (hR.c6 g6).2.2.2.2.2.2.h6
              obtain ⟨u0, i0⟩ := S6.has 0 (by decide)
              obtain ⟨u1, i1⟩ := S6.has 1 (by decide)
              obtain ⟨u2, i2⟩ := S6.has 2 (by decide)
              obtain ⟨u3, i3⟩ := S6.has 3 (by decide)
              obtain ⟨u4, i4⟩ := S6.has 4 (by decide)
              obtain ⟨u5, i5⟩ := S6.has 5 (by decide)
              have f0 := S6.free 0
              have f1 := S6.free 1
              have f2 := S6.free 2
              have f3 := S6.free 3
              have f4 := S6.free 4
              have f5 := S6.free 5
              have zl := S6.lt
              have HS := Lib.hid (hR.did10 g6)
              clear S6
              go_simp
              exact hK _ _ (show KMInv _ _ _ _ _ _ _ _ _ _ _ _ _ _ _ _ _ _ _ a0 (Ls.upd l 14 true) a9 _ from ⟨hG, ⟨h0, h1, h2, h3, h4, h5, h6, h7, h8, h9⟩, hcc, _, _, _, _, t, v, wz, ⟨p0, p1, p2, p3⟩, HS.out⟩)
            · obtain rfl := Option.some.inj ho
              have o11 := (hG.out 11 (by omega)).trans T11
              have g8 := haft ⟨13, .data⟩ (by simp) rfl
              have g6 := hR.lc_of (.inr (.inr g8))
              have z8 := hR.c9 g8
              subst z8
              have e8 := p3 g8
              have S6 := (hR.c6 g6).2.2.2.2.2.2.c10
              obtain ⟨u0, i0⟩ := S6.has 0 (by decide)
              obtain ⟨u1, i1⟩ := S6.has 1 (by decide)
              obtain ⟨u2, i2⟩ := S6.has 2 (by decide)
              obtain ⟨u3, i3⟩ := S6.has 3 (by decide)
              obtain ⟨u4, i4⟩ := S6.has 4 (by decide)
              obtain ⟨u5, i5⟩ := S6.has 5 (by decide)
              obtain ⟨u6, i6⟩ := S6.has 6 (by decide)
              obtain ⟨u7, i7⟩ := S6.has 7 (by decide)
              obtain ⟨u8, i8⟩ := S6.has 8 (by decide)
              obtain ⟨u9, i9⟩ := S6.has 9 (by decide)
              have f0 := S6.free 0
              have f1 := S6.free 1
              have f2 := S6.free 2
              have f3 := S6.free 3
              have f4 := S6.free 4
              have f5 := S6.free 5
              have f6 := S6.free 6
              have f7 := S6.free 7
              have f8 := S6.free 8
              have f9 := S6.free 9
              have zl := S6.lt
              have HS := Lib.hid (hR.did11 g6)
              clear S6
              go_simp
              exact hK _ _ (show KMInv _ _ _ _ _ _ _ _ _ _ _ _ _ _ _ _ _ _ _ a0 (Ls.upd l 15 true) a9 _ from ⟨hG, ⟨h0, h1, h2, h3, h4, h5, h6, h7, h8, h9⟩, hcc, _, _, _, _, t, v, wz, ⟨p0, p1, p2, p3⟩, HS.out⟩)
          case done =>
            rintro l a9 wc ⟨hG, ⟨h0, h1, h2, h3, h4, h5, h6, h7, h8, h9⟩, hcc, x6, x7, x8, x9, t, v, wz, ⟨p0, p1, p2, p3⟩, hR⟩ hall
            have e75 := h0 (hall 0 (by simp))
            have e76 := h1 (hall 1 (by simp))
            have e77 := h2 (hall 2 (by simp))
            have e78 := h3 (hall 3 (by simp))
            have e79 := h4 (hall 4 (by simp))
            have e80 := h5 (hall 5 (by simp))
            have e81 := h6 (hall 6 (by simp))
            have e82 := h7 (hall 7 (by simp))
            have e83 := h8 (hall 8 (by simp))
            have e84 := h9 (hall 9 (by simp))
            have e85 := p0 (hall 10 (by simp))
            have e74 := p1 (hall 11 (by simp))
            have e86 := p2 (hall 12 (by simp))
            have e87 := p3 (hall 13 (by simp))
            obtain ⟨f6, f1, f2, f3, f4, f5, hS⟩ := hR.c6 (hall 10 (by simp))
            rw [f6] at e85
            rw [hR.c7 (hall 11 (by simp))] at e74
            rw [hR.c8 (hall 12 (by simp))] at e86
            rw [hR.c9 (hall 13 (by simp))] at e87
            rw [hall 14 (by simp), hall 15 (by simp)] at hS
            have A17 := Lib.hid (al_putm A16.out f1 f2 f4 f5 hS)
            have TL := Lib.hid f3
            obtain rfl := KM_back hG HS0 e74 e75 e76 e77 e78 e79 e80 e81 e82 e83 e84 e85 e86 e87
            clear hG hR hall hcc hS f1 f2 f3 f4 f5 f6 h0 h1 h2 h3 h4 h5 h6 h7 h8 h9 p0 p1 p2 p3 e75 e76 e77 e78 e79 e80 e81 e82 e83 e84 e85 e74 e86 e87
            rw [HA0.out]
            obtain ⟨wm9, rfl⟩ : ∃ x : World, x = wc := ⟨_, rfl⟩
            obtain ⟨t3, rfl⟩ : ∃ x : Hs, x = t := ⟨_, rfl⟩
            obtain ⟨v3, rfl⟩ : ∃ x : Ls.Sl, x = v := ⟨_, rfl⟩
            simp only [KMBack, Act.put, List.setIfInBounds_toArray, List.set_cons_succ, List.set_cons_zero]
            have R17 := Lib.hid (RS.out t2 t3 TL2.out TL.out)
            clear TL TL2 FM HCN A16 BK
            go_wp2
            go_roundw
            case rel => exact ⟨q + 1, t2, t3, d2, d3, v2, v3, o2, o3, x2, x3, by have := HLT.out; omega, by rw [NX.out]; go_num, by go_num, A17, R17⟩
            case measure => have := HLT.out; simp [intOf]; omega
      · skip
        go_upto_region 16 with fail
        refine region_gen fun a0 ha0 => ?_
        have T8 : a0.tmps[8]? = some (.pointer (some ⟨w5.heap.size, 0, none⟩)) := by rw [ha0]; rfl
        have T9 : a0.tmps[9]? = some (.pointer (some ⟨w5.heap.size + 1, 0, none⟩)) := by rw [ha0]; rfl
        have T7 : a0.tmps[7]? = some (.slice (some ⟨bb, off, none⟩) vn vc) := by rw [ha0]; rfl
        have T13 : a0.tmps[13]? = some (.int .i64 (q : Int)) := by rw [ha0]; rfl
        have HS0 : 74 ≤ a0.tmps.size := by rw [ha0]; show 74 ≤ 146; omega
        have HA0 := Lib.hid ha0
        clear ha0
        refine wp_region_from (by kernel_rfl) (KGInv w9 (w5.heap.size) tk tk (kw k vk ok) k d2 o2 x2 ((.agg #[.slice tk.w.a tk.w.n tk.w.c, .slice tk.p.a tk.p.n tk.p.c, .slice (tk.u 0).a (tk.u 0).n (tk.u 0).c, .slice (tk.u 1).a (tk.u 1).n (tk.u 1).c, .slice (tk.u 2).a (tk.u 2).n (tk.u 2).c, .slice tk.c.a tk.c.n tk.c.c])) ((.agg #[.int .i64 k.ph, .int .i64 k.ep, .bool k.mj, .slice vk.a vk.n vk.c, .bool ok, .int .i64 k.pa, .int .i64 k.pf, .int .i64 k.ps, .int .i64 k.pc, .bool k.me])) (.slice (some ⟨bb, off, none⟩) vn vc) (.int .i64 (q : Int)) (.pointer (some ⟨bb, off + q, none⟩)) (.int .i64 y)) ?dag ?start ?step ?done
        case dag => exact dag_any (by kernel_rfl)
        case start => exact ⟨Rg.refl _ _ _, ⟨(fun h => by cases h), (fun h => by cases h), (fun h => by cases h), (fun h => by cases h), (fun h => by cases h), (fun h => by cases h)⟩, (fun h => by cases h), undef, undef, undef, undef, tk, vk, w9, ⟨(fun h => by cases h), (fun h => by cases h), (fun h => by cases h), (fun h => by cases h)⟩, RK.start⟩
        case step =>
          rintro i o9 l a9 wc ho ⟨hG, ⟨h0, h1, h2, h3, h4, h5⟩, hcc, x6, x7, x8, x9, t, v, wz, ⟨p0, p1, p2, p3⟩, hR⟩ hl haft K hK
          have hi : i < 12 := (Array.getElem?_eq_some_iff.1 ho).1
          refine wpOp_of ho ?_
          rcases (show i = 0 ∨ i = 1 ∨ i = 2 ∨ i = 3 ∨ i = 4 ∨ i = 5 ∨ i = 6 ∨ i = 7 ∨ i = 8 ∨ i = 9 ∨ i = 10 ∨ i = 11 by omega) with rfl | rfl | rfl | rfl | rfl | rfl | rfl | rfl | rfl | rfl | rfl | rfl
          · obtain rfl := Option.some.inj ho
            have o8 := (hG.out 8 (by omega)).trans T8
            have hc6 : l 6 = false := by
              cases e : l 6
              · rfl
              · have := hcc e
                simp [hl] at this
            have hbl := (hR.pre hc6).1
            have q0 := (FK.out.1.next hbl).c0
            have q1 := (FK.out.1.next hbl).c1
            have q2 := (FK.out.1.next hbl).c2
            have q3 := (FK.out.1.next hbl).c3
            have q4 := (FK.out.1.next hbl).c4
            have q5 := (FK.out.1.next hbl).c5
            have ql := (FK.out.1.next hbl).lt
            go_simp
            exact hK _ _ (show KGInv _ _ _ _ _ _ _ _ _ _ _ _ _ _ _ a0 (Ls.upd l 0 true) (a9.put (some 65) ((.agg #[.slice tk.w.a tk.w.n tk.w.c, .slice tk.p.a tk.p.n tk.p.c, .slice (tk.u 0).a (tk.u 0).n (tk.u 0).c, .slice (tk.u 1).a (tk.u 1).n (tk.u 1).c, .slice (tk.u 2).a (tk.u 2).n (tk.u 2).c, .slice tk.c.a tk.c.n tk.c.c]))) _ from ⟨hG.put ((.agg #[.slice tk.w.a tk.w.n tk.w.c, .slice tk.p.a tk.p.n tk.p.c, .slice (tk.u 0).a (tk.u 0).n (tk.u 0).c, .slice (tk.u 1).a (tk.u 1).n (tk.u 1).c, .slice (tk.u 2).a (tk.u 2).n (tk.u 2).c, .slice tk.c.a tk.c.n tk.c.c])) (by omega) (by omega), ⟨fun _ => put_at (by rw [hG.sz]; omega), fun e => (put_ne (show ¬ 65 = 66 by omega)).trans (h1 e), fun e => (put_ne (show ¬ 65 = 67 by omega)).trans (h2 e), fun e => (put_ne (show ¬ 65 = 68 by omega)).trans (h3 e), fun e => (put_ne (show ¬ 65 = 69 by omega)).trans (h4 e), fun e => (put_ne (show ¬ 65 = 70 by omega)).trans (h5 e)⟩, (fun e => by have h9 := hcc e; exact (by first | exact h9 | exact ⟨rfl, h9.2.1, h9.2.2⟩ | exact ⟨h9.1, rfl, h9.2.2⟩ | exact ⟨h9.1, h9.2.1, rfl⟩)), _, _, _, _, t, v, wz, ⟨fun e => (put_ne (show ¬ 65 = 71 by omega)).trans (p0 e), fun e => (put_ne (show ¬ 65 = 64 by omega)).trans (p1 e), fun e => (put_ne (show ¬ 65 = 72 by omega)).trans (p2 e), fun e => (put_ne (show ¬ 65 = 73 by omega)).trans (p3 e)⟩, hR⟩)
          · obtain rfl := Option.some.inj ho
            have o9 := (hG.out 9 (by omega)).trans T9
            have hc6 : l 6 = false := by
              cases e : l 6
              · rfl
              · have := hcc e
                simp [hl] at this
            have hbl := (hR.pre hc6).1
            have q0 := (FK.out.2.1.next hbl).c0
            have q1 := (FK.out.2.1.next hbl).c1
            have q2 := (FK.out.2.1.next hbl).c2
            have q3 := (FK.out.2.1.next hbl).c3
            have q4 := (FK.out.2.1.next hbl).c4
            have q5 := (FK.out.2.1.next hbl).c5
            have q6 := (FK.out.2.1.next hbl).c6
            have q7 := (FK.out.2.1.next hbl).c7
            have q8 := (FK.out.2.1.next hbl).c8
            have q9 := (FK.out.2.1.next hbl).c9
            have ql := (FK.out.2.1.next hbl).lt
            dsimp only [kw] at q0 q1 q2 q3 q4 q5 q6 q7 q8 q9
            go_simp
            exact hK _ _ (show KGInv _ _ _ _ _ _ _ _ _ _ _ _ _ _ _ a0 (Ls.upd l 1 true) (a9.put (some 66) ((.agg #[.int .i64 k.ph, .int .i64 k.ep, .bool k.mj, .slice vk.a vk.n vk.c, .bool ok, .int .i64 k.pa, .int .i64 k.pf, .int .i64 k.ps, .int .i64 k.pc, .bool k.me]))) _ from ⟨hG.put ((.agg #[.int .i64 k.ph, .int .i64 k.ep, .bool k.mj, .slice vk.a vk.n vk.c, .bool ok, .int .i64 k.pa, .int .i64 k.pf, .int .i64 k.ps, .int .i64 k.pc, .bool k.me])) (by omega) (by omega), ⟨fun e => (put_ne (show ¬ 66 = 65 by omega)).trans (h0 e), fun _ => put_at (by rw [hG.sz]; omega), fun e => (put_ne (show ¬ 66 = 67 by omega)).trans (h2 e), fun e => (put_ne (show ¬ 66 = 68 by omega)).trans (h3 e), fun e => (put_ne (show ¬ 66 = 69 by omega)).trans (h4 e), fun e => (put_ne (show ¬ 66 = 70 by omega)).trans (h5 e)⟩, (fun e => by have h9 := hcc e; exact (by first | exact h9 | exact ⟨rfl, h9.2.1, h9.2.2⟩ | exact ⟨h9.1, rfl, h9.2.2⟩ | exact ⟨h9.1, h9.2.1, rfl⟩)), _, _, _, _, t, v, wz, ⟨fun e => (put_ne (show ¬ 66 = 71 by omega)).trans (p0 e), fun e => (put_ne (show ¬ 66 = 64 by omega)).trans (p1 e), fun e => (put_ne (show ¬ 66 = 72 by omega)).trans (p2 e), fun e => (put_ne (show ¬ 66 = 73 by omega)).trans (p3 e)⟩, hR⟩)
          · obtain rfl := Option.some.inj ho
            have o7 := (hG.out 7 (by omega)).trans T7
            go_simp
            exact hK _ _ (show KGInv _ _ _ _ _ _ _ _ _ _ _ _ _ _ _ a0 (Ls.upd l 2 true) (a9.put (some 67) (.slice (some ⟨bb, off, none⟩) vn vc)) _ from ⟨hG.put (.slice (some ⟨bb, off, none⟩) vn vc) (by omega) (by omega), ⟨fun e => (put_ne (show ¬ 67 = 65 by omega)).trans (h0 e), fun e => (put_ne (show ¬ 67 = 66 by omega)).trans (h1 e), fun _ => put_at (by rw [hG.sz]; omega), fun e => (put_ne (show ¬ 67 = 68 by omega)).trans (h3 e), fun e => (put_ne (show ¬ 67 = 69 by omega)).trans (h4 e), fun e => (put_ne (show ¬ 67 = 70 by omega)).trans (h5 e)⟩, (fun e => by have h9 := hcc e; exact (by first | exact h9 | exact ⟨rfl, h9.2.1, h9.2.2⟩ | exact ⟨h9.1, rfl, h9.2.2⟩ | exact ⟨h9.1, h9.2.1, rfl⟩)), _, _, _, _, t, v, wz, ⟨fun e => (put_ne (show ¬ 67 = 71 by omega)).trans (p0 e), fun e => (put_ne (show ¬ 67 = 64 by omega)).trans (p1 e), fun e => (put_ne (show ¬ 67 = 72 by omega)).trans (p2 e), fun e => (put_ne (show ¬ 67 = 73 by omega)).trans (p3 e)⟩, hR⟩)
          · obtain rfl := Option.some.inj ho
            have o13 := (hG.out 13 (by omega)).trans T13
            go_simp
            exact hK _ _ (show KGInv _ _ _ _ _ _ _ _ _ _ _ _ _ _ _ a0 (Ls.upd l 3 true) (a9.put (some 68) (.int .i64 (q : Int))) _ from ⟨hG.put (.int .i64 (q : Int)) (by omega) (by omega), ⟨fun e => (put_ne (show ¬ 68 = 65 by omega)).trans (h0 e), fun e => (put_ne (show ¬ 68 = 66 by omega)).trans (h1 e), fun e => (put_ne (show ¬ 68 = 67 by omega)).trans (h2 e), fun _ => put_at (by rw [hG.sz]; omega), fun e => (put_ne (show ¬ 68 = 69 by omega)).trans (h4 e), fun e => (put_ne (show ¬ 68 = 70 by omega)).trans (h5 e)⟩, (fun e => by have h9 := hcc e; exact (by first | exact h9 | exact ⟨rfl, h9.2.1, h9.2.2⟩ | exact ⟨h9.1, rfl, h9.2.2⟩ | exact ⟨h9.1, h9.2.1, rfl⟩)), _, _, _, _, t, v, wz, ⟨fun e => (put_ne (show ¬ 68 = 71 by omega)).trans (p0 e), fun e => (put_ne (show ¬ 68 = 64 by omega)).trans (p1 e), fun e => (put_ne (show ¬ 68 = 72 by omega)).trans (p2 e), fun e => (put_ne (show ¬ 68 = 73 by omega)).trans (p3 e)⟩, hR⟩)
          · obtain rfl := Option.some.inj ho
            have e2 := h2 (haft ⟨2, .data⟩ (by simp) rfl)
            have e3 := h3 (haft ⟨3, .data⟩ (by simp) rfl)
            go_simp
            exact hK _ _ (show KGInv _ _ _ _ _ _ _ _ _ _ _ _ _ _ _ a0 (Ls.upd l 4 true) (a9.put (some 69) (.pointer (some ⟨bb, off + q, none⟩))) _ from ⟨hG.put (.pointer (some ⟨bb, off + q, none⟩)) (by omega) (by omega), ⟨fun e => (put_ne (show ¬ 69 = 65 by omega)).trans (h0 e), fun e => (put_ne (show ¬ 69 = 66 by omega)).trans (h1 e), fun e => (put_ne (show ¬ 69 = 67 by omega)).trans (h2 e), fun e => (put_ne (show ¬ 69 = 68 by omega)).trans (h3 e), fun _ => put_at (by rw [hG.sz]; omega), fun e => (put_ne (show ¬ 69 = 70 by omega)).trans (h5 e)⟩, (fun e => by have h9 := hcc e; exact (by first | exact h9 | exact ⟨rfl, h9.2.1, h9.2.2⟩ | exact ⟨h9.1, rfl, h9.2.2⟩ | exact ⟨h9.1, h9.2.1, rfl⟩)), _, _, _, _, t, v, wz, ⟨fun e => (put_ne (show ¬ 69 = 71 by omega)).trans (p0 e), fun e => (put_ne (show ¬ 69 = 64 by omega)).trans (p1 e), fun e => (put_ne (show ¬ 69 = 72 by omega)).trans (p2 e), fun e => (put_ne (show ¬ 69 = 73 by omega)).trans (p3 e)⟩, hR⟩)
          · obtain rfl := Option.some.inj ho
            have e4 := h4 (haft ⟨4, .data⟩ (by simp) rfl)
            have hc6 : l 6 = false := by
              cases e : l 6
              · rfl
              · have := hcc e
                simp [hl] at this
            have hbl := (hR.pre hc6).1
            have cy := (hbl.cell (p := ⟨bb, off + q, none⟩) FK.out.2.2.1).trans FK.out.2.2.2
            have cyl : bb < wc.heap.size := by have h1 := hbl.size; have h2 := FK.out.2.2.1; omega
            go_simp
            exact hK _ _ (show KGInv _ _ _ _ _ _ _ _ _ _ _ _ _ _ _ a0 (Ls.upd l 5 true) (a9.put (some 70) (.int .i64 y)) _ from ⟨hG.put (.int .i64 y) (by omega) (by omega), ⟨fun e => (put_ne (show ¬ 70 = 65 by omega)).trans (h0 e), fun e => (put_ne (show ¬ 70 = 66 by omega)).trans (h1 e), fun e => (put_ne (show ¬ 70 = 67 by omega)).trans (h2 e), fun e => (put_ne (show ¬ 70 = 68 by omega)).trans (h3 e), fun e => (put_ne (show ¬ 70 = 69 by omega)).trans (h4 e), fun _ => put_at (by rw [hG.sz]; omega)⟩, (fun e => by have h9 := hcc e; exact (by first | exact h9 | exact ⟨rfl, h9.2.1, h9.2.2⟩ | exact ⟨h9.1, rfl, h9.2.2⟩ | exact ⟨h9.1, h9.2.1, rfl⟩)), _, _, _, _, t, v, wz, ⟨fun e => (put_ne (show ¬ 70 = 71 by omega)).trans (p0 e), fun e => (put_ne (show ¬ 70 = 64 by omega)).trans (p1 e), fun e => (put_ne (show ¬ 70 = 72 by omega)).trans (p2 e), fun e => (put_ne (show ¬ 70 = 73 by omega)).trans (p3 e)⟩, hR⟩)
          · obtain rfl := Option.some.inj ho
            have g0 := haft ⟨0, .data⟩ (by simp) rfl
            have e0 := h0 g0
            have g1 := haft ⟨1, .data⟩ (by simp) rfl
            have e1 := h1 g1
            have g5 := haft ⟨5, .data⟩ (by simp) rfl
            have e5 := h5 g5
            have hbl := (hR.pre hl).1
            go_simp
            refine (HCK.out wc hbl).mono ?_
            rintro e9 wn ⟨t9, v9, rfl, hp9, hl9, hn9, ha9⟩
            exact hK _ _ (show KGInv _ _ _ _ _ _ _ _ _ _ _ _ _ _ _ a0 (Ls.upd l 6 true) (a9.put (some 71) (.tuple #[(.agg #[.slice t9.w.a t9.w.n t9.w.c, .slice t9.p.a t9.p.n t9.p.c, .slice (t9.u 0).a (t9.u 0).n (t9.u 0).c, .slice (t9.u 1).a (t9.u 1).n (t9.u 1).c, .slice (t9.u 2).a (t9.u 2).n (t9.u 2).c, .slice t9.c.a t9.c.n t9.c.c]), (.agg #[.int .i64 k.ph, .int .i64 k.ep, .bool k.mj, .slice v9.a v9.n v9.c, .bool o2, .int .i64 k.pa, .int .i64 k.pf, .int .i64 k.ps, .int .i64 k.pc, .bool k.me])])) _ from ⟨hG.put (.tuple #[(.agg #[.slice t9.w.a t9.w.n t9.w.c, .slice t9.p.a t9.p.n t9.p.c, .slice (t9.u 0).a (t9.u 0).n (t9.u 0).c, .slice (t9.u 1).a (t9.u 1).n (t9.u 1).c, .slice (t9.u 2).a (t9.u 2).n (t9.u 2).c, .slice t9.c.a t9.c.n t9.c.c]), (.agg #[.int .i64 k.ph, .int .i64 k.ep, .bool k.mj, .slice v9.a v9.n v9.c, .bool o2, .int .i64 k.pa, .int .i64 k.pf, .int .i64 k.ps, .int .i64 k.pc, .bool k.me])]) (by omega) (by omega), ⟨fun e => (put_ne (show ¬ 71 = 65 by omega)).trans (h0 e), fun e => (put_ne (show ¬ 71 = 66 by omega)).trans (h1 e), fun e => (put_ne (show ¬ 71 = 67 by omega)).trans (h2 e), fun e => (put_ne (show ¬ 71 = 68 by omega)).trans (h3 e), fun e => (put_ne (show ¬ 71 = 69 by omega)).trans (h4 e), fun e => (put_ne (show ¬ 71 = 70 by omega)).trans (h5 e)⟩, (fun _ => ⟨g0, g1, g5⟩), _, _, _, _, t9, v9, wn, ⟨fun _ => put_at (by rw [hG.sz]; omega), fun e => (put_ne (show ¬ 71 = 64 by omega)).trans (p1 e), fun e => (put_ne (show ¬ 71 = 72 by omega)).trans (p2 e), fun e => (put_ne (show ¬ 71 = 73 by omega)).trans (p3 e)⟩, hR.call hl ((HA9.out.pk.next hbl).next ha9.bel) rfl ha9.bel hp9 hl9 hn9 ha9.own⟩)
          · obtain rfl := Option.some.inj ho
            have g6 := haft ⟨6, .data⟩ (by simp) rfl
            have z6 := (hR.c6 g6).1
            subst z6
            have e6 := p0 g6
            go_simp
            exact hK _ _ (show KGInv _ _ _ _ _ _ _ _ _ _ _ _ _ _ _ a0 (Ls.upd l 7 true) (a9.put (some 64) (.tuple #[(.agg #[.slice t.w.a t.w.n t.w.c, .slice t.p.a t.p.n t.p.c, .slice (t.u 0).a (t.u 0).n (t.u 0).c, .slice (t.u 1).a (t.u 1).n (t.u 1).c, .slice (t.u 2).a (t.u 2).n (t.u 2).c, .slice t.c.a t.c.n t.c.c]), (.agg #[.int .i64 k.ph, .int .i64 k.ep, .bool k.mj, .slice v.a v.n v.c, .bool o2, .int .i64 k.pa, .int .i64 k.pf, .int .i64 k.ps, .int .i64 k.pc, .bool k.me])])) _ from ⟨hG.put (.tuple #[(.agg #[.slice t.w.a t.w.n t.w.c, .slice t.p.a t.p.n t.p.c, .slice (t.u 0).a (t.u 0).n (t.u 0).c, .slice (t.u 1).a (t.u 1).n (t.u 1).c, .slice (t.u 2).a (t.u 2).n (t.u 2).c, .slice t.c.a t.c.n t.c.c]), (.agg #[.int .i64 k.ph, .int .i64 k.ep, .bool k.mj, .slice v.a v.n v.c, .bool o2, .int .i64 k.pa, .int .i64 k.pf, .int .i64 k.ps, .int .i64 k.pc, .bool k.me])]) (by omega) (by omega), ⟨fun e => (put_ne (show ¬ 64 = 65 by omega)).trans (h0 e), fun e => (put_ne (show ¬ 64 = 66 by omega)).trans (h1 e), fun e => (put_ne (show ¬ 64 = 67 by omega)).trans (h2 e), fun e => (put_ne (show ¬ 64 = 68 by omega)).trans (h3 e), fun e => (put_ne (show ¬ 64 = 69 by omega)).trans (h4 e), fun e => (put_ne (show ¬ 64 = 70 by omega)).trans (h5 e)⟩, hcc, _, _, _, _, t, v, wz, ⟨fun e => (put_ne (show ¬ 64 = 71 by omega)).trans (p0 e), fun _ => put_at (by rw [hG.sz]; omega), fun e => (put_ne (show ¬ 64 = 72 by omega)).trans (p2 e), fun e => (put_ne (show ¬ 64 = 73 by omega)).trans (p3 e)⟩, hR.did7 g6⟩)
          · obtain rfl := Option.some.inj ho
            have g7 := haft ⟨7, .data⟩ (by simp) rfl
            have g6 := hR.lc_of (.inl g7)
            have z7 := hR.c7 g7
            subst z7
            have e7 := p1 g7
            go_simp
            exact hK _ _ (show KGInv _ _ _ _ _ _ _ _ _ _ _ _ _ _ _ a0 (Ls.upd l 8 true) (a9.put (some 72) ((.agg #[.slice t.w.a t.w.n t.w.c, .slice t.p.a t.p.n t.p.c, .slice (t.u 0).a (t.u 0).n (t.u 0).c, .slice (t.u 1).a (t.u 1).n (t.u 1).c, .slice (t.u 2).a (t.u 2).n (t.u 2).c, .slice t.c.a t.c.n t.c.c]))) _ from ⟨hG.put ((.agg #[.slice t.w.a t.w.n t.w.c, .slice t.p.a t.p.n t.p.c, .slice (t.u 0).a (t.u 0).n (t.u 0).c, .slice (t.u 1).a (t.u 1).n (t.u 1).c, .slice (t.u 2).a (t.u 2).n (t.u 2).c, .slice t.c.a t.c.n t.c.c])) (by omega) (by omega), ⟨fun e => (put_ne (show ¬ 72 = 65 by omega)).trans (h0 e), fun e => (put_ne (show ¬ 72 = 66 by omega)).trans (h1 e), fun e => (put_ne (show ¬ 72 = 67 by omega)).trans (h2 e), fun e => (put_ne (show ¬ 72 = 68 by omega)).trans (h3 e), fun e => (put_ne (show ¬ 72 = 69 by omega)).trans (h4 e), fun e => (put_ne (show ¬ 72 = 70 by omega)).trans (h5 e)⟩, hcc, _, _, _, _, t, v, wz, ⟨fun e => (put_ne (show ¬ 72 = 71 by omega)).trans (p0 e), fun e => (put_ne (show ¬ 72 = 64 by omega)).trans (p1 e), fun _ => put_at (by rw [hG.sz]; omega), fun e => (put_ne (show ¬ 72 = 73 by omega)).trans (p3 e)⟩, hR.did8 g6⟩)
          · obtain rfl := Option.some.inj ho
            have g7 := haft ⟨7, .data⟩ (by simp) rfl
            have g6 := hR.lc_of (.inl g7)
            have z7 := hR.c7 g7
            subst z7
            have e7 := p1 g7
            go_simp
            exact hK _ _ (show KGInv _ _ _ _ _ _ _ _ _ _ _ _ _ _ _ a0 (Ls.upd l 9 true) (a9.put (some 73) (.agg #[.int .i64 k.ph, .int .i64 k.ep, .bool k.mj, .slice v.a v.n v.c, .bool o2, .int .i64 k.pa, .int .i64 k.pf, .int .i64 k.ps, .int .i64 k.pc, .bool k.me])) _ from ⟨hG.put (.agg #[.int .i64 k.ph, .int .i64 k.ep, .bool k.mj, .slice v.a v.n v.c, .bool o2, .int .i64 k.pa, .int .i64 k.pf, .int .i64 k.ps, .int .i64 k.pc, .bool k.me]) (by omega) (by omega), ⟨fun e => (put_ne (show ¬ 73 = 65 by omega)).trans (h0 e), fun e => (put_ne (show ¬ 73 = 66 by omega)).trans (h1 e), fun e => (put_ne (show ¬ 73 = 67 by omega)).trans (h2 e), fun e => (put_ne (show ¬ 73 = 68 by omega)).trans (h3 e), fun e => (put_ne (show ¬ 73 = 69 by omega)).trans (h4 e), fun e => (put_ne (show ¬ 73 = 70 by omega)).trans (h5 e)⟩, hcc, _, _, _, _, t, v, wz, ⟨fun e => (put_ne (show ¬ 73 = 71 by omega)).trans (p0 e), fun e => (put_ne (show ¬ 73 = 64 by omega)).trans (p1 e), fun e => (put_ne (show ¬ 73 = 72 by omega)).trans (p2 e), fun _ => put_at (by rw [hG.sz]; omega)⟩, hR.did9 g6⟩)
          · obtain rfl := Option.some.inj ho
            have o8 := (hG.out 8 (by omega)).trans T8
            have g8 := haft ⟨8, .data⟩ (by simp) rfl
            have g6 := hR.lc_of (.inr (.inl g8))
            have z8 := hR.c8 g8
            subst z8
            have e8 := p2 g8
            have S6 := (hR.c6 g6).2.2.2.2.2.2.h6
            obtain ⟨u0, i0⟩ := S6.has 0 (by decide)
            obtain ⟨u1, i1⟩ := S6.has 1 (by decide)
            obtain ⟨u2, i2⟩ := S6.has 2 (by decide)
            obtain ⟨u3, i3⟩ := S6.has 3 (by decide)
            obtain ⟨u4, i4⟩ := S6.has 4 (by decide)
            obtain ⟨u5, i5⟩ := S6.has 5 (by decide)
            have f0 := S6.free 0
            have f1 := S6.free 1
            have f2 := S6.free 2
            have f3 := S6.free 3
            have f4 := S6.free 4
            have f5 := S6.free 5
            have zl := S6.lt
            have HS := Lib.hid (hR.did10 g6)
            clear S6
            go_simp
            exact hK _ _ (show KGInv _ _ _ _ _ _ _ _ _ _ _ _ _ _ _ a0 (Ls.upd l 10 true) a9 _ from ⟨hG, ⟨h0, h1, h2, h3, h4, h5⟩, hcc, _, _, _, _, t, v, wz, ⟨p0, p1, p2, p3⟩, HS.out⟩)
          · obtain rfl := Option.some.inj ho
            have o9 := (hG.out 9 (by omega)).trans T9
            have g8 := haft ⟨9, .data⟩ (by simp) rfl
            have g6 := hR.lc_of (.inr (.inr g8))
            have z8 := hR.c9 g8
            subst z8
            have e8 := p3 g8
            have S6 := (hR.c6 g6).2.2.2.2.2.2.c10
            obtain ⟨u0, i0⟩ := S6.has 0 (by decide)
            obtain ⟨u1, i1⟩ := S6.has 1 (by decide)
            obtain ⟨u2, i2⟩ := S6.has 2 (by decide)
            obtain ⟨u3, i3⟩ := S6.has 3 (by decide)
            obtain ⟨u4, i4⟩ := S6.has 4 (by decide)
            obtain ⟨u5, i5⟩ := S6.has 5 (by decide)
            obtain ⟨u6, i6⟩ := S6.has 6 (by decide)
            obtain ⟨u7, i7⟩ := S6.has 7 (by decide)
            obtain ⟨u8, i8⟩ := S6.has 8 (by decide)
            obtain ⟨u9, i9⟩ := S6.has 9 (by decide)
            have f0 := S6.free 0
            have f1 := S6.free 1
            have f2 := S6.free 2
            have f3 := S6.free 3
            have f4 := S6.free 4
            have f5 := S6.free 5
            have f6 := S6.free 6
            have f7 := S6.free 7
            have f8 := S6.free 8
            have f9 := S6.free 9
            have zl := S6.lt
            have HS := Lib.hid (hR.did11 g6)
            clear S6
            go_simp
            exact hK _ _ (show KGInv _ _ _ _ _ _ _ _ _ _ _ _ _ _ _ a0 (Ls.upd l 11 true) a9 _ from ⟨hG, ⟨h0, h1, h2, h3, h4, h5⟩, hcc, _, _, _, _, t, v, wz, ⟨p0, p1, p2, p3⟩, HS.out⟩)
        case done =>
          rintro l a9 wc ⟨hG, ⟨h0, h1, h2, h3, h4, h5⟩, hcc, x6, x7, x8, x9, t, v, wz, ⟨p0, p1, p2, p3⟩, hR⟩ hall
          have e65 := h0 (hall 0 (by simp))
          have e66 := h1 (hall 1 (by simp))
          have e67 := h2 (hall 2 (by simp))
          have e68 := h3 (hall 3 (by simp))
          have e69 := h4 (hall 4 (by simp))
          have e70 := h5 (hall 5 (by simp))
          have e71 := p0 (hall 6 (by simp))
          have e64 := p1 (hall 7 (by simp))
          have e72 := p2 (hall 8 (by simp))
          have e73 := p3 (hall 9 (by simp))
          obtain ⟨f6, f1, f2, f3, f4, f5, hS⟩ := hR.c6 (hall 6 (by simp))
          rw [f6] at e71
          rw [hR.c7 (hall 7 (by simp))] at e64
          rw [hR.c8 (hall 8 (by simp))] at e72
          rw [hR.c9 (hall 9 (by simp))] at e73
          rw [hall 10 (by simp), hall 11 (by simp)] at hS
          have A16 := Lib.hid (al_putk HA9.out f1 f2 f4 f5 hS)
          have TL := Lib.hid f3
          obtain rfl := KG_back hG HS0 e64 e65 e66 e67 e68 e69 e70 e71 e72 e73
          clear hG hR hall hcc hS f1 f2 f3 f4 f5 f6 h0 h1 h2 h3 h4 h5 p0 p1 p2 p3 e65 e66 e67 e68 e69 e70 e71 e64 e72 e73
          rw [HA0.out]
          obtain ⟨wk, rfl⟩ : ∃ x : World, x = wc := ⟨_, rfl⟩
          obtain ⟨t2, rfl⟩ : ∃ x : Hs, x = t := ⟨_, rfl⟩
          obtain ⟨v2, rfl⟩ : ∃ x : Ls.Sl, x = v := ⟨_, rfl⟩
          simp only [KGBack, Act.put, List.setIfInBounds_toArray, List.set_cons_succ, List.set_cons_zero]
          have TL2 := Lib.hid TL.out
          clear TL FK HCK
          have BK : Hid (Below w5.heap.size w5 wk) := Lib.hid A16.out.bel
          have FM : Hid (HBox wk (w5.heap.size + 1 + 1) tm ∧ CBox wk (w5.heap.size + 1 + 1 + 1) (kw k vm om) ∧ bb < wk.heap.size ∧ wk.cell? ⟨bb, off + (vn - 1 - q), none⟩ = some (.int .i64 z)) := Lib.hid ⟨A16.out.pm.hb, A16.out.pm.cb, FB.out wk A16.out.bel⟩
          have HCN : Hid (∀ W, Below wk.heap.size wk W → Calls Tryd.prog 10 #[(.agg #[.slice tm.w.a tm.w.n tm.w.c, .slice tm.p.a tm.p.n tm.p.c, .slice (tm.u 0).a (tm.u 0).n (tm.u 0).c, .slice (tm.u 1).a (tm.u 1).n (tm.u 1).c, .slice (tm.u 2).a (tm.u 2).n (tm.u 2).c, .slice tm.c.a tm.c.n tm.c.c]), (.agg #[.int .i64 k.ph, .int .i64 k.ep, .bool k.mj, .slice vm.a vm.n vm.c, .bool om, .int .i64 k.pa, .int .i64 k.pf, .int .i64 k.ps, .int .i64 k.pc, .bool k.me]), .int .i64 z] W (ShOut W tm k d3 o3 x3)) := Lib.hid fun W h => HCM.out W wk t2 d2 v2 o2 x2 A16.out h
          go_upto_region 17 with fail
          refine region_gen fun a0 ha0 => ?_
          have T10 : a0.tmps[10]? = some (.pointer (some ⟨w5.heap.size + 1 + 1, 0, none⟩)) := by rw [ha0]; rfl
          have T11 : a0.tmps[11]? = some (.pointer (some ⟨w5.heap.size + 1 + 1 + 1, 0, none⟩)) := by rw [ha0]; rfl
          have T7 : a0.tmps[7]? = some (.slice (some ⟨bb, off, none⟩) vn vc) := by rw [ha0]; rfl
          have T13 : a0.tmps[13]? = some (.int .i64 (q : Int)) := by rw [ha0]; rfl
          have HS0 : 88 ≤ a0.tmps.size := by rw [ha0]; show 88 ≤ 146; omega
          have HA0 := Lib.hid ha0
          clear ha0
          refine wp_region_from (by kernel_rfl) (KMInv wk (w5.heap.size + 1 + 1) tm tm (kw k vm om) k d3 o3 x3 ((.agg #[.slice tm.w.a tm.w.n tm.w.c, .slice tm.p.a tm.p.n tm.p.c, .slice (tm.u 0).a (tm.u 0).n (tm.u 0).c, .slice (tm.u 1).a (tm.u 1).n (tm.u 1).c, .slice (tm.u 2).a (tm.u 2).n (tm.u 2).c, .slice tm.c.a tm.c.n tm.c.c])) ((.agg #[.int .i64 k.ph, .int .i64 k.ep, .bool k.mj, .slice vm.a vm.n vm.c, .bool om, .int .i64 k.pa, .int .i64 k.pf, .int .i64 k.ps, .int .i64 k.pc, .bool k.me])) (.slice (some ⟨bb, off, none⟩) vn vc) (.slice (some ⟨bb, off, none⟩) vn vc) (.int .i64 (vn : Int)) (.int .i64 ((vn : Int) - 1)) (.int .i64 (q : Int)) (.int .i64 ((vn : Int) - 1 - q)) (.pointer (some ⟨bb, off + (vn - 1 - q), none⟩)) (.int .i64 z)) ?dag ?start ?step ?done
          case dag => exact dag_any (by kernel_rfl)
          case start => exact ⟨Rg.refl _ _ _, ⟨(fun h => by cases h), (fun h => by cases h), (fun h => by cases h), (fun h => by cases h), (fun h => by cases h), (fun h => by cases h), (fun h => by cases h), (fun h => by cases h), (fun h => by cases h), (fun h => by cases h)⟩, (fun h => by cases h), undef, undef, undef, undef, tm, vm, wk, ⟨(fun h => by cases h), (fun h => by cases h), (fun h => by cases h), (fun h => by cases h)⟩, RK.start⟩
          case step =>
            rintro i o9 l a9 wc ho ⟨hG, ⟨h0, h1, h2, h3, h4, h5, h6, h7, h8, h9⟩, hcc, x6, x7, x8, x9, t, v, wz, ⟨p0, p1, p2, p3⟩, hR⟩ hl haft K hK
            have hi : i < 16 := (Array.getElem?_eq_some_iff.1 ho).1
            refine wpOp_of ho ?_
            rcases (show i = 0 ∨ i = 1 ∨ i = 2 ∨ i = 3 ∨ i = 4 ∨ i = 5 ∨ i = 6 ∨ i = 7 ∨ i = 8 ∨ i = 9 ∨ i = 10 ∨ i = 11 ∨ i = 12 ∨ i = 13 ∨ i = 14 ∨ i = 15 by omega) with rfl | rfl | rfl | rfl | rfl | rfl | rfl | rfl | rfl | rfl | rfl | rfl | rfl | rfl | rfl | rfl
            · obtain rfl := Option.some.inj ho
              have o10 := (hG.out 10 (by omega)).trans T10
              have hc6 : l 10 = false := by
                cases e : l 10
                · rfl
                · have := hcc e
                  simp [hl] at this
              have hbl := (hR.pre hc6).1
              have q0 := (FM.out.1.next hbl).c0
              have q1 := (FM.out.1.next hbl).c1
              have q2 := (FM.out.1.next hbl).c2
              have q3 := (FM.out.1.next hbl).c3
              have q4 := (FM.out.1.next hbl).c4
              have q5 := (FM.out.1.next hbl).c5
              have ql := (FM.out.1.next hbl).lt
              go_simp
              exact hK _ _ (show KMInv _ _ _ _ _ _ _ _ _ _ _ _ _ _ _ _ _ _ _ a0 (Ls.upd l 0 true) (a9.put (some 75) ((.agg #[.slice tm.w.a tm.w.n tm.w.c, .slice tm.p.a tm.p.n tm.p.c, .slice (tm.u 0).a (tm.u 0).n (tm.u 0).c, .slice (tm.u 1).a (tm.u 1).n (tm.u 1).c, .slice (tm.u 2).a (tm.u 2).n (tm.u 2).c, .slice tm.c.a tm.c.n tm.c.c]))) _ from ⟨hG.put ((.agg #[.slice tm.w.a tm.w.n tm.w.c, .slice tm.p.a tm.p.n tm.p.c, .slice (tm.u 0).a (tm.u 0).n (tm.u 0).c, .slice (tm.u 1).a (tm.u 1).n (tm.u 1).c, .slice (tm.u 2).a (tm.u 2).n (tm.u 2).c, .slice tm.c.a tm.c.n tm.c.c])) (by omega) (by omega), ⟨fun _ => put_at (by rw [hG.sz]; omega), fun e => (put_ne (show ¬ 75 = 76 by omega)).trans (h1 e), fun e => (put_ne (show ¬ 75 = 77 by omega)).trans (h2 e), fun e => (put_ne (show ¬ 75 = 78 by omega)).trans (h3 e), fun e => (put_ne (show ¬ 75 = 79 by omega)).trans (h4 e), fun e => (put_ne (show ¬ 75 = 80 by omega)).trans (h5 e), fun e => (put_ne (show ¬ 75 = 81 by omega)).trans (h6 e), fun e => (put_ne (show ¬ 75 = 82 by omega)).trans (h7 e), fun e => (put_ne (show ¬ 75 = 83 by omega)).trans (h8 e), fun e => (put_ne (show ¬ 75 = 84 by omega)).trans (h9 e)⟩, (fun e => by have h9 := hcc e; exact (by first | exact h9 | exact ⟨rfl, h9.2.1, h9.2.2⟩ | exact ⟨h9.1, rfl, h9.2.2⟩ | exact ⟨h9.1, h9.2.1, rfl⟩)), _, _, _, _, t, v, wz, ⟨fun e => (put_ne (show ¬ 75 = 85 by omega)).trans (p0 e), fun e => (put_ne (show ¬ 75 = 74 by omega)).trans (p1 e), fun e => (put_ne (show ¬ 75 = 86 by omega)).trans (p2 e), fun e => (put_ne (show ¬ 75 = 87 by omega)).trans (p3 e)⟩, hR⟩)
            · obtain rfl := Option.some.inj ho
              have o11 := (hG.out 11 (by omega)).trans T11
              have hc6 : l 10 = false := by
                cases e : l 10
                · rfl
                · have := hcc e
                  simp [hl] at this
              have hbl := (hR.pre hc6).1
              have q0 := (FM.out.2.1.next hbl).c0
              have q1 := (FM.out.2.1.next hbl).c1
              have q2 := (FM.out.2.1.next hbl).c2
              have q3 := (FM.out.2.1.next hbl).c3
              have q4 := (FM.out.2.1.next hbl).c4
              have q5 := (FM.out.2.1.next hbl).c5
              have q6 := (FM.out.2.1.next hbl).c6
              have q7 := (FM.out.2.1.next hbl).c7
              have q8 := (FM.out.2.1.next hbl).c8
              have q9 := (FM.out.2.1.next hbl).c9
              have ql := (FM.out.2.1.next hbl).lt
              dsimp only [kw] at q0 q1 q2 q3 q4 q5 q6 q7 q8 q9
              go_simp
              exact hK _ _ (show KMInv _ _ _ _ _ _ _ _ _ _ _ _ _ _ _ _ _ _ _ a0 (Ls.upd l 1 true) (a9.put (some 76) ((.agg #[.int .i64 k.ph, .int .i64 k.ep, .bool k.mj, .slice vm.a vm.n vm.c, .bool om, .int .i64 k.pa, .int .i64 k.pf, .int .i64 k.ps, .int .i64 k.pc, .bool k.me]))) _ from ⟨hG.put ((.agg #[.int .i64 k.ph, .int .i64 k.ep, .bool k.mj, .slice vm.a vm.n vm.c, .bool om, .int .i64 k.pa, .int .i64 k.pf, .int .i64 k.ps, .int .i64 k.pc, .bool k.me])) (by omega) (by omega), ⟨fun e => (put_ne (show ¬ 76 = 75 by omega)).trans (h0 e), fun _ => put_at (by rw [hG.sz]; omega), fun e => (put_ne (show ¬ 76 = 77 by omega)).trans (h2 e), fun e => (put_ne (show ¬ 76 = 78 by omega)).trans (h3 e), fun e => (put_ne (show ¬ 76 = 79 by omega)).trans (h4 e), fun e => (put_ne (show ¬ 76 = 80 by omega)).trans (h5 e), fun e => (put_ne (show ¬ 76 = 81 by omega)).trans (h6 e), fun e => (put_ne (show ¬ 76 = 82 by omega)).trans (h7 e), fun e => (put_ne (show ¬ 76 = 83 by omega)).trans (h8 e), fun e => (put_ne (show ¬ 76 = 84 by omega)).trans (h9 e)⟩, (fun e => by have h9 := hcc e; exact (by first | exact h9 | exact ⟨rfl, h9.2.1, h9.2.2⟩ | exact ⟨h9.1, rfl, h9.2.2⟩ | exact ⟨h9.1, h9.2.1, rfl⟩)), _, _, _, _, t, v, wz, ⟨fun e => (put_ne (show ¬ 76 = 85 by omega)).trans (p0 e), fun e => (put_ne (show ¬ 76 = 74 by omega)).trans (p1 e), fun e => (put_ne (show ¬ 76 = 86 by omega)).trans (p2 e), fun e => (put_ne (show ¬ 76 = 87 by omega)).trans (p3 e)⟩, hR⟩)
            · obtain rfl := Option.some.inj ho
              have o7 := (hG.out 7 (by omega)).trans T7
              go_simp
              exact hK _ _ (show KMInv _ _ _ _ _ _ _ _ _ _ _ _ _ _ _ _ _ _ _ a0 (Ls.upd l 2 true) (a9.put (some 77) (.slice (some ⟨bb, off, none⟩) vn vc)) _ from ⟨hG.put (.slice (some ⟨bb, off, none⟩) vn vc) (by omega) (by omega), ⟨fun e => (put_ne (show ¬ 77 = 75 by omega)).trans (h0 e), fun e => (put_ne (show ¬ 77 = 76 by omega)).trans (h1 e), fun _ => put_at (by rw [hG.sz]; omega), fun e => (put_ne (show ¬ 77 = 78 by omega)).trans (h3 e), fun e => (put_ne (show ¬ 77 = 79 by omega)).trans (h4 e), fun e => (put_ne (show ¬ 77 = 80 by omega)).trans (h5 e), fun e => (put_ne (show ¬ 77 = 81 by omega)).trans (h6 e), fun e => (put_ne (show ¬ 77 = 82 by omega)).trans (h7 e), fun e => (put_ne (show ¬ 77 = 83 by omega)).trans (h8 e), fun e => (put_ne (show ¬ 77 = 84 by omega)).trans (h9 e)⟩, (fun e => by have h9 := hcc e; exact (by first | exact h9 | exact ⟨rfl, h9.2.1, h9.2.2⟩ | exact ⟨h9.1, rfl, h9.2.2⟩ | exact ⟨h9.1, h9.2.1, rfl⟩)), _, _, _, _, t, v, wz, ⟨fun e => (put_ne (show ¬ 77 = 85 by omega)).trans (p0 e), fun e => (put_ne (show ¬ 77 = 74 by omega)).trans (p1 e), fun e => (put_ne (show ¬ 77 = 86 by omega)).trans (p2 e), fun e => (put_ne (show ¬ 77 = 87 by omega)).trans (p3 e)⟩, hR⟩)
            · obtain rfl := Option.some.inj ho
              have o7 := (hG.out 7 (by omega)).trans T7
              go_simp
              exact hK _ _ (show KMInv _ _ _ _ _ _ _ _ _ _ _ _ _ _ _ _ _ _ _ a0 (Ls.upd l 3 true) (a9.put (some 78) (.slice (some ⟨bb, off, none⟩) vn vc)) _ from ⟨hG.put (.slice (some ⟨bb, off, none⟩) vn vc) (by omega) (by omega), ⟨fun e => (put_ne (show ¬ 78 = 75 by omega)).trans (h0 e), fun e => (put_ne (show ¬ 78 = 76 by omega)).trans (h1 e), fun e => (put_ne (show ¬ 78 = 77 by omega)).trans (h2 e), fun _ => put_at (by rw [hG.sz]; omega), fun e => (put_ne (show ¬ 78 = 79 by omega)).trans (h4 e), fun e => (put_ne (show ¬ 78 = 80 by omega)).trans (h5 e), fun e => (put_ne (show ¬ 78 = 81 by omega)).trans (h6 e), fun e => (put_ne (show ¬ 78 = 82 by omega)).trans (h7 e), fun e => (put_ne (show ¬ 78 = 83 by omega)).trans (h8 e), fun e => (put_ne (show ¬ 78 = 84 by omega)).trans (h9 e)⟩, (fun e => by have h9 := hcc e; exact (by first | exact h9 | exact ⟨rfl, h9.2.1, h9.2.2⟩ | exact ⟨h9.1, rfl, h9.2.2⟩ | exact ⟨h9.1, h9.2.1, rfl⟩)), _, _, _, _, t, v, wz, ⟨fun e => (put_ne (show ¬ 78 = 85 by omega)).trans (p0 e), fun e => (put_ne (show ¬ 78 = 74 by omega)).trans (p1 e), fun e => (put_ne (show ¬ 78 = 86 by omega)).trans (p2 e), fun e => (put_ne (show ¬ 78 = 87 by omega)).trans (p3 e)⟩, hR⟩)
            · obtain rfl := Option.some.inj ho
              have e3 := h3 (haft ⟨3, .data⟩ (by simp) rfl)
              go_simp
              exact hK _ _ (show KMInv _ _ _ _ _ _ _ _ _ _ _ _ _ _ _ _ _ _ _ a0 (Ls.upd l 4 true) (a9.put (some 79) (.int .i64 (vn : Int))) _ from ⟨hG.put (.int .i64 (vn : Int)) (by omega) (by omega), ⟨fun e => (put_ne (show ¬ 79 = 75 by omega)).trans (h0 e), fun e => (put_ne (show ¬ 79 = 76 by omega)).trans (h1 e), fun e => (put_ne (show ¬ 79 = 77 by omega)).trans (h2 e), fun e => (put_ne (show ¬ 79 = 78 by omega)).trans (h3 e), fun _ => put_at (by rw [hG.sz]; omega), fun e => (put_ne (show ¬ 79 = 80 by omega)).trans (h5 e), fun e => (put_ne (show ¬ 79 = 81 by omega)).trans (h6 e), fun e => (put_ne (show ¬ 79 = 82 by omega)).trans (h7 e), fun e => (put_ne (show ¬ 79 = 83 by omega)).trans (h8 e), fun e => (put_ne (show ¬ 79 = 84 by omega)).trans (h9 e)⟩, (fun e => by have h9 := hcc e; exact (by first | exact h9 | exact ⟨rfl, h9.2.1, h9.2.2⟩ | exact ⟨h9.1, rfl, h9.2.2⟩ | exact ⟨h9.1, h9.2.1, rfl⟩)), _, _, _, _, t, v, wz, ⟨fun e => (put_ne (show ¬ 79 = 85 by omega)).trans (p0 e), fun e => (put_ne (show ¬ 79 = 74 by omega)).trans (p1 e), fun e => (put_ne (show ¬ 79 = 86 by omega)).trans (p2 e), fun e => (put_ne (show ¬ 79 = 87 by omega)).trans (p3 e)⟩, hR⟩)
            · obtain rfl := Option.some.inj ho
              have e4 := h4 (haft ⟨4, .data⟩ (by simp) rfl)
              go_simp
              exact hK _ _ (show KMInv _ _ _ _ _ _ _ _ _ _ _ _ _ _ _ _ _ _ _ a0 (Ls.upd l 5 true) (a9.put (some 80) (.int .i64 ((vn : Int) - 1))) _ from ⟨hG.put (.int .i64 ((vn : Int) - 1)) (by omega) (by omega), ⟨fun e => (put_ne (show ¬ 80 = 75 by omega)).trans (h0 e), fun e => (put_ne (show ¬ 80 = 76 by omega)).trans (h1 e), fun e => (put_ne (show ¬ 80 = 77 by omega)).trans (h2 e), fun e => (put_ne (show ¬ 80 = 78 by omega)).trans (h3 e), fun e => (put_ne (show ¬ 80 = 79 by omega)).trans (h4 e), fun _ => put_at (by rw [hG.sz]; omega), fun e => (put_ne (show ¬ 80 = 81 by omega)).trans (h6 e), fun e => (put_ne (show ¬ 80 = 82 by omega)).trans (h7 e), fun e => (put_ne (show ¬ 80 = 83 by omega)).trans (h8 e), fun e => (put_ne (show ¬ 80 = 84 by omega)).trans (h9 e)⟩, (fun e => by have h9 := hcc e; exact (by first | exact h9 | exact ⟨rfl, h9.2.1, h9.2.2⟩ | exact ⟨h9.1, rfl, h9.2.2⟩ | exact ⟨h9.1, h9.2.1, rfl⟩)), _, _, _, _, t, v, wz, ⟨fun e => (put_ne (show ¬ 80 = 85 by omega)).trans (p0 e), fun e => (put_ne (show ¬ 80 = 74 by omega)).trans (p1 e), fun e => (put_ne (show ¬ 80 = 86 by omega)).trans (p2 e), fun e => (put_ne (show ¬ 80 = 87 by omega)).trans (p3 e)⟩, hR⟩)
            · obtain rfl := Option.some.inj ho
              have o13 := (hG.out 13 (by omega)).trans T13
              go_simp
              exact hK _ _ (show KMInv _ _ _ _ _ _ _ _ _ _ _ _ _ _ _ _ _ _ _ a0 (Ls.upd l 6 true) (a9.put (some 81) (.int .i64 (q : Int))) _ from ⟨hG.put (.int .i64 (q : Int)) (by omega) (by omega), ⟨fun e => (put_ne (show ¬ 81 = 75 by omega)).trans (h0 e), fun e => (put_ne (show ¬ 81 = 76 by omega)).trans (h1 e), fun e => (put_ne (show ¬ 81 = 77 by omega)).trans (h2 e), fun e => (put_ne (show ¬ 81 = 78 by omega)).trans (h3 e), fun e => (put_ne (show ¬ 81 = 79 by omega)).trans (h4 e), fun e => (put_ne (show ¬ 81 = 80 by omega)).trans (h5 e), fun _ => put_at (by rw [hG.sz]; omega), fun e => (put_ne (show ¬ 81 = 82 by omega)).trans (h7 e), fun e => (put_ne (show ¬ 81 = 83 by omega)).trans (h8 e), fun e => (put_ne (show ¬ 81 = 84 by omega)).trans (h9 e)⟩, (fun e => by have h9 := hcc e; exact (by first | exact h9 | exact ⟨rfl, h9.2.1, h9.2.2⟩ | exact ⟨h9.1, rfl, h9.2.2⟩ | exact ⟨h9.1, h9.2.1, rfl⟩)), _, _, _, _, t, v, wz, ⟨fun e => (put_ne (show ¬ 81 = 85 by omega)).trans (p0 e), fun e => (put_ne (show ¬ 81 = 74 by omega)).trans (p1 e), fun e => (put_ne (show ¬ 81 = 86 by omega)).trans (p2 e), fun e => (put_ne (show ¬ 81 = 87 by omega)).trans (p3 e)⟩, hR⟩)
            · obtain rfl := Option.some.inj ho
              have e5 := h5 (haft ⟨5, .data⟩ (by simp) rfl)
              have e6 := h6 (haft ⟨6, .data⟩ (by simp) rfl)
              go_simp
              exact hK _ _ (show KMInv _ _ _ _ _ _ _ _ _ _ _ _ _ _ _ _ _ _ _ a0 (Ls.upd l 7 true) (a9.put (some 82) (.int .i64 ((vn : Int) - 1 - q))) _ from ⟨hG.put (.int .i64 ((vn : Int) - 1 - q)) (by omega) (by omega), ⟨fun e => (put_ne (show ¬ 82 = 75 by omega)).trans (h0 e), fun e => (put_ne (show ¬ 82 = 76 by omega)).trans (h1 e), fun e => (put_ne (show ¬ 82 = 77 by omega)).trans (h2 e), fun e => (put_ne (show ¬ 82 = 78 by omega)).trans (h3 e), fun e => (put_ne (show ¬ 82 = 79 by omega)).trans (h4 e), fun e => (put_ne (show ¬ 82 = 80 by omega)).trans (h5 e), fun e => (put_ne (show ¬ 82 = 81 by omega)).trans (h6 e), fun _ => put_at (by rw [hG.sz]; omega), fun e => (put_ne (show ¬ 82 = 83 by omega)).trans (h8 e), fun e => (put_ne (show ¬ 82 = 84 by omega)).trans (h9 e)⟩, (fun e => by have h9 := hcc e; exact (by first | exact h9 | exact ⟨rfl, h9.2.1, h9.2.2⟩ | exact ⟨h9.1, rfl, h9.2.2⟩ | exact ⟨h9.1, h9.2.1, rfl⟩)), _, _, _, _, t, v, wz, ⟨fun e => (put_ne (show ¬ 82 = 85 by omega)).trans (p0 e), fun e => (put_ne (show ¬ 82 = 74 by omega)).trans (p1 e), fun e => (put_ne (show ¬ 82 = 86 by omega)).trans (p2 e), fun e => (put_ne (show ¬ 82 = 87 by omega)).trans (p3 e)⟩, hR⟩)
            · obtain rfl := Option.some.inj ho
              have e2 := h2 (haft ⟨2, .data⟩ (by simp) rfl)
              have e7 := h7 (haft ⟨7, .data⟩ (by simp) rfl)
              go_simp
              exact hK _ _ (show KMInv _ _ _ _ _ _ _ _ _ _ _ _ _ _ _ _ _ _ _ a0 (Ls.upd l 8 true) (a9.put (some 83) (.pointer (some ⟨bb, off + (vn - 1 - q), none⟩))) _ from ⟨hG.put (.pointer (some ⟨bb, off + (vn - 1 - q), none⟩)) (by omega) (by omega), ⟨fun e => (put_ne (show ¬ 83 = 75 by omega)).trans (h0 e), fun e => (put_ne (show ¬ 83 = 76 by omega)).trans (h1 e), fun e => (put_ne (show ¬ 83 = 77 by omega)).trans (h2 e), fun e => (put_ne (show ¬ 83 = 78 by omega)).trans (h3 e), fun e => (put_ne (show ¬ 83 = 79 by omega)).trans (h4 e), fun e => (put_ne (show ¬ 83 = 80 by omega)).trans (h5 e), fun e => (put_ne (show ¬ 83 = 81 by omega)).trans (h6 e), fun e => (put_ne (show ¬ 83 = 82 by omega)).trans (h7 e), fun _ => put_at (by rw [hG.sz]; omega), fun e => (put_ne (show ¬ 83 = 84 by omega)).trans (h9 e)⟩, (fun e => by have h9 := hcc e; exact (by first | exact h9 | exact ⟨rfl, h9.2.1, h9.2.2⟩ | exact ⟨h9.1, rfl, h9.2.2⟩ | exact ⟨h9.1, h9.2.1, rfl⟩)), _, _, _, _, t, v, wz, ⟨fun e => (put_ne (show ¬ 83 = 85 by omega)).trans (p0 e), fun e => (put_ne (show ¬ 83 = 74 by omega)).trans (p1 e), fun e => (put_ne (show ¬ 83 = 86 by omega)).trans (p2 e), fun e => (put_ne (show ¬ 83 = 87 by omega)).trans (p3 e)⟩, hR⟩)
            · obtain rfl := Option.some.inj ho
              have e8 := h8 (haft ⟨8, .data⟩ (by simp) rfl)
              have hc6 : l 10 = false := by
                cases e : l 10
                · rfl
                · have := hcc e
                  simp [hl] at this
              have hbl := (hR.pre hc6).1
              have cy := (hbl.cell (p := ⟨bb, off + (vn - 1 - q), none⟩) FM.out.2.2.1).trans FM.out.2.2.2
              have cyl : bb < wc.heap.size := by have h1 := hbl.size; have h2 := FM.out.2.2.1; omega
              go_simp
              exact hK _ _ (show KMInv _ _ _ _ _ _ _ _ _ _ _ _ _ _ _ _ _ _ _ a0 (Ls.upd l 9 true) (a9.put (some 84) (.int .i64 z)) _ from ⟨hG.put (.int .i64 z) (by omega) (by omega), ⟨fun e => (put_ne (show ¬ 84 = 75 by omega)).trans (h0 e), fun e => (put_ne (show ¬ 84 = 76 by omega)).trans (h1 e), fun e => (put_ne (show ¬ 84 = 77 by omega)).trans (h2 e), fun e => (put_ne (show ¬ 84 = 78 by omega)).trans (h3 e), fun e => (put_ne (show ¬ 84 = 79 by omega)).trans (h4 e), fun e => (put_ne (show ¬ 84 = 80 by omega)).trans (h5 e), fun e => (put_ne (show ¬ 84 = 81 by omega)).trans (h6 e), fun e => (put_ne (show ¬ 84 = 82 by omega)).trans (h7 e), fun e => (put_ne (show ¬ 84 = 83 by omega)).trans (h8 e), fun _ => put_at (by rw [hG.sz]; omega)⟩, (fun e => by have h9 := hcc e; exact (by first | exact h9 | exact ⟨rfl, h9.2.1, h9.2.2⟩ | exact ⟨h9.1, rfl, h9.2.2⟩ | exact ⟨h9.1, h9.2.1, rfl⟩)), _, _, _, _, t, v, wz, ⟨fun e => (put_ne (show ¬ 84 = 85 by omega)).trans (p0 e), fun e => (put_ne (show ¬ 84 = 74 by omega)).trans (p1 e), fun e => (put_ne (show ¬ 84 = 86 by omega)).trans (p2 e), fun e => (put_ne (show ¬ 84 = 87 by omega)).trans (p3 e)⟩, hR⟩)
            · obtain rfl := Option.some.inj ho
              have g0 := haft ⟨0, .data⟩ (by simp) rfl
              have e0 := h0 g0
              have g1 := haft ⟨1, .data⟩ (by simp) rfl
              have e1 := h1 g1
              have g9 := haft ⟨9, .data⟩ (by simp) rfl
              have e9 := h9 g9
              have hbl := (hR.pre hl).1
              go_simp
              refine (HCN.out wc hbl).mono ?_
              rintro e9 wn ⟨t9, v9, rfl, hp9, hl9, hn9, ha9⟩
              exact hK _ _ (show KMInv _ _ _ _ _ _ _ _ _ _ _ _ _ _ _ _ _ _ _ a0 (Ls.upd l 10 true) (a9.put (some 85) (.tuple #[(.agg #[.slice t9.w.a t9.w.n t9.w.c, .slice t9.p.a t9.p.n t9.p.c, .slice (t9.u 0).a (t9.u 0).n (t9.u 0).c, .slice (t9.u 1).a (t9.u 1).n (t9.u 1).c, .slice (t9.u 2).a (t9.u 2).n (t9.u 2).c, .slice t9.c.a t9.c.n t9.c.c]), (.agg #[.int .i64 k.ph, .int .i64 k.ep, .bool k.mj, .slice v9.a v9.n v9.c, .bool o3, .int .i64 k.pa, .int .i64 k.pf, .int .i64 k.ps, .int .i64 k.pc, .bool k.me])])) _ from ⟨hG.put (.tuple #[(.agg #[.slice t9.w.a t9.w.n t9.w.c, .slice t9.p.a t9.p.n t9.p.c, .slice (t9.u 0).a (t9.u 0).n (t9.u 0).c, .slice (t9.u 1).a (t9.u 1).n (t9.u 1).c, .slice (t9.u 2).a (t9.u 2).n (t9.u 2).c, .slice t9.c.a t9.c.n t9.c.c]), (.agg #[.int .i64 k.ph, .int .i64 k.ep, .bool k.mj, .slice v9.a v9.n v9.c, .bool o3, .int .i64 k.pa, .int .i64 k.pf, .int .i64 k.ps, .int .i64 k.pc, .bool k.me])]) (by omega) (by omega), ⟨fun e => (put_ne (show ¬ 85 = 75 by omega)).trans (h0 e), fun e => (put_ne (show ¬ 85 = 76 by omega)).trans (h1 e), fun e => (put_ne (show ¬ 85 = 77 by omega)).trans (h2 e), fun e => (put_ne (show ¬ 85 = 78 by omega)).trans (h3 e), fun e => (put_ne (show ¬ 85 = 79 by omega)).trans (h4 e), fun e => (put_ne (show ¬ 85 = 80 by omega)).trans (h5 e), fun e => (put_ne (show ¬ 85 = 81 by omega)).trans (h6 e), fun e => (put_ne (show ¬ 85 = 82 by omega)).trans (h7 e), fun e => (put_ne (show ¬ 85 = 83 by omega)).trans (h8 e), fun e => (put_ne (show ¬ 85 = 84 by omega)).trans (h9 e)⟩, (fun _ => ⟨g0, g1, g9⟩), _, _, _, _, t9, v9, wn, ⟨fun _ => put_at (by rw [hG.sz]; omega), fun e => (put_ne (show ¬ 85 = 74 by omega)).trans (p1 e), fun e => (put_ne (show ¬ 85 = 86 by omega)).trans (p2 e), fun e => (put_ne (show ¬ 85 = 87 by omega)).trans (p3 e)⟩, hR.call hl ((A16.out.pm.next hbl).next ha9.bel) rfl ha9.bel hp9 hl9 hn9 ha9.own⟩)
            · obtain rfl := Option.some.inj ho
              have g6 := haft ⟨10, .data⟩ (by simp) rfl
              have z6 := (hR.c6 g6).1
              subst z6
              have e6 := p0 g6
              go_simp
              exact hK _ _ (show KMInv _ _ _ _ _ _ _ _ _ _ _ _ _ _ _ _ _ _ _ a0 (Ls.upd l 11 true) (a9.put (some 74) (.tuple #[(.agg #[.slice t.w.a t.w.n t.w.c, .slice t.p.a t.p.n t.p.c, .slice (t.u 0).a (t.u 0).n (t.u 0).c, .slice (t.u 1).a (t.u 1).n (t.u 1).c, .slice (t.u 2).a (t.u 2).n (t.u 2).c, .slice t.c.a t.c.n t.c.c]), (.agg #[.int .i64 k.ph, .int .i64 k.ep, .bool k.mj, .slice v.a v.n v.c, .bool o3, .int .i64 k.pa, .int .i64 k.pf, .int .i64 k.ps, .int .i64 k.pc, .bool k.me])])) _ from ⟨hG.put (.tuple #[(.agg #[.slice t.w.a t.w.n t.w.c, .slice t.p.a t.p.n t.p.c, .slice (t.u 0).a (t.u 0).n (t.u 0).c, .slice (t.u 1).a (t.u 1).n (t.u 1).c, .slice (t.u 2).a (t.u 2).n (t.u 2).c, .slice t.c.a t.c.n t.c.c]), (.agg #[.int .i64 k.ph, .int .i64 k.ep, .bool k.mj, .slice v.a v.n v.c, .bool o3, .int .i64 k.pa, .int .i64 k.pf, .int .i64 k.ps, .int .i64 k.pc, .bool k.me])]) (by omega) (by omega), ⟨fun e => (put_ne (show ¬ 74 = 75 by omega)).trans (h0 e), fun e => (put_ne (show ¬ 74 = 76 by omega)).trans (h1 e), fun e => (put_ne (show ¬ 74 = 77 by omega)).trans (h2 e), fun e => (put_ne (show ¬ 74 = 78 by omega)).trans (h3 e), fun e => (put_ne (show ¬ 74 = 79 by omega)).trans (h4 e), fun e => (put_ne (show ¬ 74 = 80 by omega)).trans (h5 e), fun e => (put_ne (show ¬ 74 = 81 by omega)).trans (h6 e), fun e => (put_ne (show ¬ 74 = 82 by omega)).trans (h7 e), fun e => (put_ne (show ¬ 74 = 83 by omega)).trans (h8 e), fun e => (put_ne (show ¬ 74 = 84 by omega)).trans (h9 e)⟩, hcc, _, _, _, _, t, v, wz, ⟨fun e => (put_ne (show ¬ 74 = 85 by omega)).trans (p0 e), fun _ => put_at (by rw [hG.sz]; omega), fun e => (put_ne (show ¬ 74 = 86 by omega)).trans (p2 e), fun e => (put_ne (show ¬ 74 = 87 by omega)).trans (p3 e)⟩, hR.did7 g6⟩)
            · obtain rfl := Option.some.inj ho
              have g7 := haft ⟨11, .data⟩ (by simp) rfl
              have g6 := hR.lc_of (.inl g7)
              have z7 := hR.c7 g7
              subst z7
              have e7 := p1 g7
              go_simp
              exact hK _ _ (show KMInv _ _ _ _ _ _ _ _ _ _ _ _ _ _ _ _ _ _ _ a0 (Ls.upd l 12 true) (a9.put (some 86) ((.agg #[.slice t.w.a t.w.n t.w.c, .slice t.p.a t.p.n t.p.c, .slice (t.u 0).a (t.u 0).n (t.u 0).c, .slice (t.u 1).a (t.u 1).n (t.u 1).c, .slice (t.u 2).a (t.u 2).n (t.u 2).c, .slice t.c.a t.c.n t.c.c]))) _ from ⟨hG.put ((.agg #[.slice t.w.a t.w.n t.w.c, .slice t.p.a t.p.n t.p.c, .slice (t.u 0).a (t.u 0).n (t.u 0).c, .slice (t.u 1).a (t.u 1).n (t.u 1).c, .slice (t.u 2).a (t.u 2).n (t.u 2).c, .slice t.c.a t.c.n t.c.c])) (by omega) (by omega), ⟨fun e => (put_ne (show ¬ 86 = 75 by omega)).trans (h0 e), fun e => (put_ne (show ¬ 86 = 76 by omega)).trans (h1 e), fun e => (put_ne (show ¬ 86 = 77 by omega)).trans (h2 e), fun e => (put_ne (show ¬ 86 = 78 by omega)).trans (h3 e), fun e => (put_ne (show ¬ 86 = 79 by omega)).trans (h4 e), fun e => (put_ne (show ¬ 86 = 80 by omega)).trans (h5 e), fun e => (put_ne (show ¬ 86 = 81 by omega)).trans (h6 e), fun e => (put_ne (show ¬ 86 = 82 by omega)).trans (h7 e), fun e => (put_ne (show ¬ 86 = 83 by omega)).trans (h8 e), fun e => (put_ne (show ¬ 86 = 84 by omega)).trans (h9 e)⟩, hcc, _, _, _, _, t, v, wz, ⟨fun e => (put_ne (show ¬ 86 = 85 by omega)).trans (p0 e), fun e => (put_ne (show ¬ 86 = 74 by omega)).trans (p1 e), fun _ => put_at (by rw [hG.sz]; omega), fun e => (put_ne (show ¬ 86 = 87 by omega)).trans (p3 e)⟩, hR.did8 g6⟩)
            · obtain rfl := Option.some.inj ho
              have g7 := haft ⟨11, .data⟩ (by simp) rfl
              have g6 := hR.lc_of (.inl g7)
              have z7 := hR.c7 g7
              subst z7
              have e7 := p1 g7
              go_simp
              exact hK _ _ (show KMInv _ _ _ _ _ _ _ _ _ _ _ _ _ _ _ _ _ _ _ a0 (Ls.upd l 13 true) (a9.put (some 87) (.agg #[.int .i64 k.ph, .int .i64 k.ep, .bool k.mj, .slice v.a v.n v.c, .bool o3, .int .i64 k.pa, .int .i64 k.pf, .int .i64 k.ps, .int .i64 k.pc, .bool k.me])) _ from ⟨hG.put (.agg #[.int .i64 k.ph, .int .i64 k.ep, .bool k.mj, .slice v.a v.n v.c, .bool o3, .int .i64 k.pa, .int .i64 k.pf, .int .i64 k.ps, .int .i64 k.pc, .bool k.me]) (by omega) (by omega), ⟨fun e => (put_ne (show ¬ 87 = 75 by omega)).trans (h0 e), fun e => (put_ne (show ¬ 87 = 76 by omega)).trans (h1 e), fun e => (put_ne (show ¬ 87 = 77 by omega)).trans (h2 e), fun e => (put_ne (show ¬ 87 = 78 by omega)).trans (h3 e), fun e => (put_ne (show ¬ 87 = 79 by omega)).trans (h4 e), fun e => (put_ne (show ¬ 87 = 80 by omega)).trans (h5 e), fun e => (put_ne (show ¬ 87 = 81 by omega)).trans (h6 e), fun e => (put_ne (show ¬ 87 = 82 by omega)).trans (h7 e), fun e => (put_ne (show ¬ 87 = 83 by omega)).trans (h8 e), fun e => (put_ne (show ¬ 87 = 84 by omega)).trans (h9 e)⟩, hcc, _, _, _, _, t, v, wz, ⟨fun e => (put_ne (show ¬ 87 = 85 by omega)).trans (p0 e), fun e => (put_ne (show ¬ 87 = 74 by omega)).trans (p1 e), fun e => (put_ne (show ¬ 87 = 86 by omega)).trans (p2 e), fun _ => put_at (by rw [hG.sz]; omega)⟩, hR.did9 g6⟩)
            · obtain rfl := Option.some.inj ho
              have o10 := (hG.out 10 (by omega)).trans T10
              have g8 := haft ⟨12, .data⟩ (by simp) rfl
              have g6 := hR.lc_of (.inr (.inl g8))
              have z8 := hR.c8 g8
              subst z8
              have e8 := p2 g8
              have S6 := (hR.c6 g6).2.2.2.2.2.2.h6
              obtain ⟨u0, i0⟩ := S6.has 0 (by decide)
              obtain ⟨u1, i1⟩ := S6.has 1 (by decide)
              obtain ⟨u2, i2⟩ := S6.has 2 (by decide)
              obtain ⟨u3, i3⟩ := S6.has 3 (by decide)
              obtain ⟨u4, i4⟩ := S6.has 4 (by decide)
              obtain ⟨u5, i5⟩ := S6.has 5 (by decide)
              have f0 := S6.free 0
              have f1 := S6.free 1
              have f2 := S6.free 2
              have f3 := S6.free 3
              have f4 := S6.free 4
              have f5 := S6.free 5
              have zl := S6.lt
              have HS := Lib.hid (hR.did10 g6)
              clear S6
              go_simp
              exact hK _ _ (show KMInv _ _ _ _ _ _ _ _ _ _ _ _ _ _ _ _ _ _ _ a0 (Ls.upd l 14 true) a9 _ from ⟨hG, ⟨h0, h1, h2, h3, h4, h5, h6, h7, h8, h9⟩, hcc, _, _, _, _, t, v, wz, ⟨p0, p1, p2, p3⟩, HS.out⟩)
            · obtain rfl := Option.some.inj ho
              have o11 := (hG.out 11 (by omega)).trans T11
              have g8 := haft ⟨13, .data⟩ (by simp) rfl
              have g6 := hR.lc_of (.inr (.inr g8))
              have z8 := hR.c9 g8
              subst z8
              have e8 := p3 g8
              have S6 := (hR.c6 g6).2.2.2.2.2.2.c10
              obtain ⟨u0, i0⟩ := S6.has 0 (by decide)
              obtain ⟨u1, i1⟩ := S6.has 1 (by decide)
              obtain ⟨u2, i2⟩ := S6.has 2 (by decide)
              obtain ⟨u3, i3⟩ := S6.has 3 (by decide)
              obtain ⟨u4, i4⟩ := S6.has 4 (by decide)
              obtain ⟨u5, i5⟩ := S6.has 5 (by decide)
              obtain ⟨u6, i6⟩ := S6.has 6 (by decide)
              obtain ⟨u7, i7⟩ := S6.has 7 (by decide)
              obtain ⟨u8, i8⟩ := S6.has 8 (by decide)
              obtain ⟨u9, i9⟩ := S6.has 9 (by decide)
              have f0 := S6.free 0
              have f1 := S6.free 1
              have f2 := S6.free 2
              have f3 := S6.free 3
              have f4 := S6.free 4
              have f5 := S6.free 5
              have f6 := S6.free 6
              have f7 := S6.free 7
              have f8 := S6.free 8
              have f9 := S6.free 9
              have zl := S6.lt
              have HS := Lib.hid (hR.did11 g6)
              clear S6
              go_simp
              exact hK _ _ (show KMInv _ _ _ _ _ _ _ _ _ _ _ _ _ _ _ _ _ _ _ a0 (Ls.upd l 15 true) a9 _ from ⟨hG, ⟨h0, h1, h2, h3, h4, h5, h6, h7, h8, h9⟩, hcc, _, _, _, _, t, v, wz, ⟨p0, p1, p2, p3⟩, HS.out⟩)
          case done =>
            rintro l a9 wc ⟨hG, ⟨h0, h1, h2, h3, h4, h5, h6, h7, h8, h9⟩, hcc, x6, x7, x8, x9, t, v, wz, ⟨p0, p1, p2, p3⟩, hR⟩ hall
            have e75 := h0 (hall 0 (by simp))
            have e76 := h1 (hall 1 (by simp))
            have e77 := h2 (hall 2 (by simp))
            have e78 := h3 (hall 3 (by simp))
            have e79 := h4 (hall 4 (by simp))
            have e80 := h5 (hall 5 (by simp))
            have e81 := h6 (hall 6 (by simp))
            have e82 := h7 (hall 7 (by simp))
            have e83 := h8 (hall 8 (by simp))
            have e84 := h9 (hall 9 (by simp))
            have e85 := p0 (hall 10 (by simp))
            have e74 := p1 (hall 11 (by simp))
            have e86 := p2 (hall 12 (by simp))
            have e87 := p3 (hall 13 (by simp))
            obtain ⟨f6, f1, f2, f3, f4, f5, hS⟩ := hR.c6 (hall 10 (by simp))
            rw [f6] at e85
            rw [hR.c7 (hall 11 (by simp))] at e74
            rw [hR.c8 (hall 12 (by simp))] at e86
            rw [hR.c9 (hall 13 (by simp))] at e87
            rw [hall 14 (by simp), hall 15 (by simp)] at hS
            have A17 := Lib.hid (al_putm A16.out f1 f2 f4 f5 hS)
            have TL := Lib.hid f3
            obtain rfl := KM_back hG HS0 e74 e75 e76 e77 e78 e79 e80 e81 e82 e83 e84 e85 e86 e87
            clear hG hR hall hcc hS f1 f2 f3 f4 f5 f6 h0 h1 h2 h3 h4 h5 h6 h7 h8 h9 p0 p1 p2 p3 e75 e76 e77 e78 e79 e80 e81 e82 e83 e84 e85 e74 e86 e87
            rw [HA0.out]
            obtain ⟨wm9, rfl⟩ : ∃ x : World, x = wc := ⟨_, rfl⟩
            obtain ⟨t3, rfl⟩ : ∃ x : Hs, x = t := ⟨_, rfl⟩
            obtain ⟨v3, rfl⟩ : ∃ x : Ls.Sl, x = v := ⟨_, rfl⟩
            simp only [KMBack, Act.put, List.setIfInBounds_toArray, List.set_cons_succ, List.set_cons_zero]
            have R17 := Lib.hid (RS.out t2 t3 TL2.out TL.out)
            clear TL TL2 FM HCN A16 BK
            go_wp2
            go_roundw
            case rel => exact ⟨q + 1, t2, t3, d2, d3, v2, v3, o2, o3, x2, x3, by have := HLT.out; omega, by rw [NX.out]; go_num, by go_num, A17, R17⟩
            case measure => have := HLT.out; simp [intOf]; omega
    · obtain rfl : q = vn := by omega
      have i2 : decide ((q : Int) < q) = false := by simp
      have i3 : decide (q < q) = false := by simp
      have e1 : us.take q = us := List.take_of_length_le (by have := HN.out; omega)
      have HE9 : Hid (Run s tk d dk k.mj k.ep us ∧ Wk xs.length k.ov (nW s d k.mj k.ep us) xk ok ∧ Run s tm d dm k.mj k.ep us.reverse ∧ Wk xs.length k.ov (nW s d k.mj k.ep us) xm om) := Lib.hid (by
        have h9 := HR.out
        have e2 : us.reverse.take q = us.reverse := List.take_of_length_le (by rw [List.length_reverse]; have := HN.out; omega)
        rw [e1, e2, nW_rev] at h9
        exact h9)
      obtain ⟨m, hmw⟩ : ∃ m, m = nW s d k.mj k.ep us := ⟨_, rfl⟩
      have hm5 : m ≤ 512 := by rw [hmw]; have h1 := nW_le s d k.mj k.ep us; have h2 := HN.out; omega
      have HMW := Lib.hid hmw
      rw [e1, ← hmw]
      rw [← hmw] at HE9
      clear e1 hmw HR
      obtain ⟨vn, hvn⟩ : ∃ x, x = q := ⟨_, rfl⟩
      rw [← hvn] at R5 HN hul i2 i3
      rw [← hvn]
      clear hvn
      go_upto_region 19 with fail
      clear i2 i3
      go_loopw [14] (fun i wr => ∃ q : Nat, q ≤ vn ∧ i = .int .i64 q ∧ Hid (Al w5 wr k tk dk vk ok xk tm dm vm om xm)) (fun i _ => vn - (intOf i).toNat)
      case atStart => exact ⟨0, Nat.zero_le _, rfl, HA⟩
      case round =>
        obtain ⟨q, hq, rfl, HA⟩ := hrel
        by_cases hlt : q < vn
        · have HQ : Hid (q < us.length) := Lib.hid (by have := HN.out; omega)
          obtain ⟨bb, off, rfl, hbl', hcell⟩ := (Row.below R5.out HA.out.bel).2 (by omega)
          have hq1 := hcell q hlt
          have hbl : bb < wr.heap.size := by have := HA.out.bel.size; omega
          obtain ⟨y, hy⟩ : ∃ y, y = us.getD q 0 := ⟨_, rfl⟩
          rw [← hy] at hq1
          have MY : Hid (y ∈ usedL s d) := Lib.hid (by
            rw [HU.out, hy]
            have h1 := HQ.out
            simp [List.getD, h1])
          have F14 := Lib.hid (And.intro (sixh_of HA.out.pk.hb) (And.intro (ten_of HA.out.pk.cb) (And.intro hbl hq1)))
          have HW : Hid (∀ W, Below wr.heap.size wr W → Calls Tryd.prog 11 #[(.agg #[.slice tk.w.a tk.w.n tk.w.c, .slice tk.p.a tk.p.n tk.p.c, .slice (tk.u 0).a (tk.u 0).n (tk.u 0).c, .slice (tk.u 1).a (tk.u 1).n (tk.u 1).c, .slice (tk.u 2).a (tk.u 2).n (tk.u 2).c, .slice tk.c.a tk.c.n tk.c.c]), (.agg #[.int .i64 (kw k vk ok).ph, .int .i64 (kw k vk ok).ep, .bool (kw k vk ok).mj, .slice (kw k vk ok).wk.a (kw k vk ok).wk.n (kw k vk ok).wk.c, .bool (kw k vk ok).ov, .int .i64 (kw k vk ok).pa, .int .i64 (kw k vk ok).pf, .int .i64 (kw k vk ok).ps, .int .i64 (kw k vk ok).pc, .bool (kw k vk ok).me]), .int .i64 y] W fun e w' => e = .returned (.bool false) ∧ Below W.heap.size W w') := Lib.hid fun W h => by
            have G := HA.out.next h
            have h9 := white_any tk dk (kw k vk ok) xk y W G.pk.hp G.pk.wr (HZ.out.over (L5.out.next G.bel).bel hz0) (HE9.out.1.kin.fine FI.out)
            rw [show isC tk dk (kw k vk ok).mj (kw k vk ok).ep y 1 = false from HE9.out.1.none (fun z hz => HU.out ▸ hz) MY.out] at h9
            exact h9
          have HLT := Lib.hid (And.intro hlt hq)
          have i0 : (0 : Int) ≤ q := by omega
          have i1 : (q : Int) < vn := by omega
          have i2 : decide ((q : Int) < vn) = true := decide_eq_true i1
          have i3 : decide (q < vn) = true := decide_eq_true hlt
          clear hcell hbl' hbl hq1 hy
          go_upto_region 21 with fail
          go_region_held3 (fun W => (Below wr.heap.size wr W ∧ True) ∧ (w5.heap.size < W.heap.size ∧ W.cell? ⟨w5.heap.size, 0, none⟩ = some (.slice tk.w.a tk.w.n tk.w.c) ∧ W.cell? ⟨w5.heap.size, 1, none⟩ = some (.slice tk.p.a tk.p.n tk.p.c) ∧ W.cell? ⟨w5.heap.size, 2, none⟩ = some (.slice (tk.u 0).a (tk.u 0).n (tk.u 0).c) ∧ W.cell? ⟨w5.heap.size, 3, none⟩ = some (.slice (tk.u 1).a (tk.u 1).n (tk.u 1).c) ∧ W.cell? ⟨w5.heap.size, 4, none⟩ = some (.slice (tk.u 2).a (tk.u 2).n (tk.u 2).c) ∧ W.cell? ⟨w5.heap.size, 5, none⟩ = some (.slice tk.c.a tk.c.n tk.c.c)) ∧ (w5.heap.size + 1 < W.heap.size ∧ W.cell? ⟨w5.heap.size + 1, 0, none⟩ = some (.int .i64 (kw k vk ok).ph) ∧ W.cell? ⟨w5.heap.size + 1, 1, none⟩ = some (.int .i64 (kw k vk ok).ep) ∧ W.cell? ⟨w5.heap.size + 1, 2, none⟩ = some (.bool (kw k vk ok).mj) ∧ W.cell? ⟨w5.heap.size + 1, 3, none⟩ = some (.slice (kw k vk ok).wk.a (kw k vk ok).wk.n (kw k vk ok).wk.c) ∧ W.cell? ⟨w5.heap.size + 1, 4, none⟩ = some (.bool (kw k vk ok).ov) ∧ W.cell? ⟨w5.heap.size + 1, 5, none⟩ = some (.int .i64 (kw k vk ok).pa) ∧ W.cell? ⟨w5.heap.size + 1, 6, none⟩ = some (.int .i64 (kw k vk ok).pf) ∧ W.cell? ⟨w5.heap.size + 1, 7, none⟩ = some (.int .i64 (kw k vk ok).ps) ∧ W.cell? ⟨w5.heap.size + 1, 8, none⟩ = some (.int .i64 (kw k vk ok).pc) ∧ W.cell? ⟨w5.heap.size + 1, 9, none⟩ = some (.bool (kw k vk ok).me)) ∧ (bb < W.heap.size ∧ W.cell? ⟨bb, off + q, none⟩ = some (.int .i64 y))) (first
            | with_reducible exact sa_keep F14.out (‹(Below wr.heap.size wr _ ∧ _) ∧ _›).1 ‹Below _ _ _›
            | with_reducible exact sa_keep F14.out ⟨Below.refl _ _, trivial⟩ (Below.refl _ _)
            | exact sa_keep F14.out ⟨Below.refl _ _, trivial⟩ (below_drawn' (Below.refl _ _) 1)) (first
            | ((go_at_call 11; refine (HW.out _ (‹(Below wr.heap.size wr _ ∧ _) ∧ _›).1.1).mono ?_; rintro e w9 ⟨rfl, hb9⟩; have N9 := Lib.hid ((‹(Below wr.heap.size wr _ ∧ _) ∧ _›).1.1.trans (hb9.mono (‹(Below wr.heap.size wr _ ∧ _) ∧ _›).1.1.size)))))
          have HA9 := Lib.hid (HA.out.next N9.out)
          go_wp2
          go_roundw
          case rel => exact ⟨q + 1, by have := HLT.out; omega, by go_num, HA9⟩
          case measure => have := HLT.out; simp [intOf]; omega
        · obtain rfl : q = vn := by omega
          have LB := Lib.hid (L5.out.next HA.out.bel)
          have i2 : decide ((q : Int) < q) = false := by simp
          have i3 : decide (q < q) = false := by simp
          go_upto_region 23 with fail
          clear i2 i3
          have r0 := (LB.out.at (w.heap.size) (s) (d) (by simp)).c0
          have r1 := (LB.out.at (w.heap.size) (s) (d) (by simp)).c1
          have r2 := (LB.out.at (w.heap.size) (s) (d) (by simp)).c2
          have r3 := (LB.out.at (w.heap.size) (s) (d) (by simp)).c3
          have r4 := (LB.out.at (w.heap.size) (s) (d) (by simp)).c4
          have r5 := (LB.out.at (w.heap.size) (s) (d) (by simp)).c5
          have rl := (LB.out.at (w.heap.size) (s) (d) (by simp)).lt
          have p0 := (LB.out.cat (w.heap.size + 1) (k) (xs) (by simp)).c0
          have p1 := (LB.out.cat (w.heap.size + 1) (k) (xs) (by simp)).c1
          have p2 := (LB.out.cat (w.heap.size + 1) (k) (xs) (by simp)).c2
          have p3 := (LB.out.cat (w.heap.size + 1) (k) (xs) (by simp)).c3
          have p4 := (LB.out.cat (w.heap.size + 1) (k) (xs) (by simp)).c4
          have p5 := (LB.out.cat (w.heap.size + 1) (k) (xs) (by simp)).c5
          have p6 := (LB.out.cat (w.heap.size + 1) (k) (xs) (by simp)).c6
          have p7 := (LB.out.cat (w.heap.size + 1) (k) (xs) (by simp)).c7
          have p8 := (LB.out.cat (w.heap.size + 1) (k) (xs) (by simp)).c8
          have p9 := (LB.out.cat (w.heap.size + 1) (k) (xs) (by simp)).c9
          have pl := (LB.out.cat (w.heap.size + 1) (k) (xs) (by simp)).lt
          go_wp2_with fail
          have hC9 := grey_any s d k xs wr (LB.out.hp (w.heap.size) (s) (d) (by simp)) (LB.out.wr (w.heap.size + 1) (k) (xs) (by simp)) (HZ.out.over LB.out.bel hz0) FI.out
          refine hC9.mono ?_
          rintro e9 w7 ⟨⟨ga, gn, gc⟩, rfl, ho, hb9⟩
          have HA7 := Lib.hid (HA.out.next hb9)
          have L7 := Lib.hid (LB.out.next hb9)
          have GN : Hid (gn = (greyL s d k.mj k.ep).length) := Lib.hid (by have := ho.1; simp at this; exact this.symm)
          clear hb9 ho hC9
          clear r0 r1 r2 r3 r4 r5 rl
          clear p0 p1 p2 p3 p4 p5 p6 p7 p8 p9 pl
          go_upto_region 24 with fail
          obtain ⟨gl, hgl⟩ : ∃ g, g = wgL s d k.mj k.ep := ⟨_, rfl⟩
          have GW : Hid (gl.length = gn + m ∧ gl.length ≤ 512) := Lib.hid ⟨by rw [hgl, wg_len, GN.out, HMW.out, HU.out], by
            rw [hgl]
            have h1 : (wgL s d k.mj k.ep).length ≤ (usedL s d).length := List.length_filter_le _ _
            rw [HU.out] at h1
            have := HN.out
            omega⟩
          have G1X : Hid (∀ W, Al w5 W k tk dk vk ok xk tm dm vm om xm → Calls Tryd.prog 16 #[(.agg #[.slice tk.w.a tk.w.n tk.w.c, .slice tk.p.a tk.p.n tk.p.c, .slice (tk.u 0).a (tk.u 0).n (tk.u 0).c, .slice (tk.u 1).a (tk.u 1).n (tk.u 1).c, .slice (tk.u 2).a (tk.u 2).n (tk.u 2).c, .slice tk.c.a tk.c.n tk.c.c]), (.agg #[.int .i64 (kw k vk ok).ph, .int .i64 (kw k vk ok).ep, .bool (kw k vk ok).mj, .slice (kw k vk ok).wk.a (kw k vk ok).wk.n (kw k vk ok).wk.c, .bool (kw k vk ok).ov, .int .i64 (kw k vk ok).pa, .int .i64 (kw k vk ok).pf, .int .i64 (kw k vk ok).ps, .int .i64 (kw k vk ok).pc, .bool (kw k vk ok).me])] W (Ls.AllOut W gl)) := Lib.hid fun W G => by
            have h9 := grey_any tk dk (kw k vk ok) xk W G.pk.hp G.pk.wr (HZ.out.over (L5.out.next G.bel).bel hz0) (HE9.out.1.kin.fine FI.out)
            rw [show greyL tk dk (kw k vk ok).mj (kw k vk ok).ep = gl from (HE9.out.1.grey fun z hz => HU.out ▸ hz).trans hgl.symm] at h9
            exact h9
          have G2X : Hid (∀ W, Al w5 W k tk dk vk ok xk tm dm vm om xm → Calls Tryd.prog 16 #[(.agg #[.slice tm.w.a tm.w.n tm.w.c, .slice tm.p.a tm.p.n tm.p.c, .slice (tm.u 0).a (tm.u 0).n (tm.u 0).c, .slice (tm.u 1).a (tm.u 1).n (tm.u 1).c, .slice (tm.u 2).a (tm.u 2).n (tm.u 2).c, .slice tm.c.a tm.c.n tm.c.c]), (.agg #[.int .i64 (kw k vm om).ph, .int .i64 (kw k vm om).ep, .bool (kw k vm om).mj, .slice (kw k vm om).wk.a (kw k vm om).wk.n (kw k vm om).wk.c, .bool (kw k vm om).ov, .int .i64 (kw k vm om).pa, .int .i64 (kw k vm om).pf, .int .i64 (kw k vm om).ps, .int .i64 (kw k vm om).pc, .bool (kw k vm om).me])] W (Ls.AllOut W gl)) := Lib.hid fun W G => by
            have h9 := grey_any tm dm (kw k vm om) xm W G.pm.hp G.pm.wr (HZ.out.over (L5.out.next G.bel).bel hz0) (HE9.out.2.2.1.kin.fine FI.out)
            rw [show greyL tm dm (kw k vm om).mj (kw k vm om).ep = gl from (HE9.out.2.2.1.grey fun z hz => List.mem_reverse.2 (HU.out ▸ hz)).trans hgl.symm] at h9
            exact h9
          clear hgl
          have LT := Lib.hid (And.intro HA7.out True.intro)
          go_region_held3 (fun W => (Al w5 W k tk dk vk ok xk tm dm vm om xm ∧ True) ∧ (w5.heap.size < W.heap.size ∧ W.cell? ⟨w5.heap.size, 0, none⟩ = some (.slice tk.w.a tk.w.n tk.w.c) ∧ W.cell? ⟨w5.heap.size, 1, none⟩ = some (.slice tk.p.a tk.p.n tk.p.c) ∧ W.cell? ⟨w5.heap.size, 2, none⟩ = some (.slice (tk.u 0).a (tk.u 0).n (tk.u 0).c) ∧ W.cell? ⟨w5.heap.size, 3, none⟩ = some (.slice (tk.u 1).a (tk.u 1).n (tk.u 1).c) ∧ W.cell? ⟨w5.heap.size, 4, none⟩ = some (.slice (tk.u 2).a (tk.u 2).n (tk.u 2).c) ∧ W.cell? ⟨w5.heap.size, 5, none⟩ = some (.slice tk.c.a tk.c.n tk.c.c)) ∧ (w5.heap.size + 1 < W.heap.size ∧ W.cell? ⟨w5.heap.size + 1, 0, none⟩ = some (.int .i64 (kw k vk ok).ph) ∧ W.cell? ⟨w5.heap.size + 1, 1, none⟩ = some (.int .i64 (kw k vk ok).ep) ∧ W.cell? ⟨w5.heap.size + 1, 2, none⟩ = some (.bool (kw k vk ok).mj) ∧ W.cell? ⟨w5.heap.size + 1, 3, none⟩ = some (.slice (kw k vk ok).wk.a (kw k vk ok).wk.n (kw k vk ok).wk.c) ∧ W.cell? ⟨w5.heap.size + 1, 4, none⟩ = some (.bool (kw k vk ok).ov) ∧ W.cell? ⟨w5.heap.size + 1, 5, none⟩ = some (.int .i64 (kw k vk ok).pa) ∧ W.cell? ⟨w5.heap.size + 1, 6, none⟩ = some (.int .i64 (kw k vk ok).pf) ∧ W.cell? ⟨w5.heap.size + 1, 7, none⟩ = some (.int .i64 (kw k vk ok).ps) ∧ W.cell? ⟨w5.heap.size + 1, 8, none⟩ = some (.int .i64 (kw k vk ok).pc) ∧ W.cell? ⟨w5.heap.size + 1, 9, none⟩ = some (.bool (kw k vk ok).me)) ∧ (w5.heap.size + 1 + 1 < W.heap.size ∧ W.cell? ⟨w5.heap.size + 1 + 1, 0, none⟩ = some (.slice tm.w.a tm.w.n tm.w.c) ∧ W.cell? ⟨w5.heap.size + 1 + 1, 1, none⟩ = some (.slice tm.p.a tm.p.n tm.p.c) ∧ W.cell? ⟨w5.heap.size + 1 + 1, 2, none⟩ = some (.slice (tm.u 0).a (tm.u 0).n (tm.u 0).c) ∧ W.cell? ⟨w5.heap.size + 1 + 1, 3, none⟩ = some (.slice (tm.u 1).a (tm.u 1).n (tm.u 1).c) ∧ W.cell? ⟨w5.heap.size + 1 + 1, 4, none⟩ = some (.slice (tm.u 2).a (tm.u 2).n (tm.u 2).c) ∧ W.cell? ⟨w5.heap.size + 1 + 1, 5, none⟩ = some (.slice tm.c.a tm.c.n tm.c.c)) ∧ (w5.heap.size + 1 + 1 + 1 < W.heap.size ∧ W.cell? ⟨w5.heap.size + 1 + 1 + 1, 0, none⟩ = some (.int .i64 (kw k vm om).ph) ∧ W.cell? ⟨w5.heap.size + 1 + 1 + 1, 1, none⟩ = some (.int .i64 (kw k vm om).ep) ∧ W.cell? ⟨w5.heap.size + 1 + 1 + 1, 2, none⟩ = some (.bool (kw k vm om).mj) ∧ W.cell? ⟨w5.heap.size + 1 + 1 + 1, 3, none⟩ = some (.slice (kw k vm om).wk.a (kw k vm om).wk.n (kw k vm om).wk.c) ∧ W.cell? ⟨w5.heap.size + 1 + 1 + 1, 4, none⟩ = some (.bool (kw k vm om).ov) ∧ W.cell? ⟨w5.heap.size + 1 + 1 + 1, 5, none⟩ = some (.int .i64 (kw k vm om).pa) ∧ W.cell? ⟨w5.heap.size + 1 + 1 + 1, 6, none⟩ = some (.int .i64 (kw k vm om).pf) ∧ W.cell? ⟨w5.heap.size + 1 + 1 + 1, 7, none⟩ = some (.int .i64 (kw k vm om).ps) ∧ W.cell? ⟨w5.heap.size + 1 + 1 + 1, 8, none⟩ = some (.int .i64 (kw k vm om).pc) ∧ W.cell? ⟨w5.heap.size + 1 + 1 + 1, 9, none⟩ = some (.bool (kw k vm om).me))) (first
            | with_reducible exact al_keep4 (‹(Al w5 _ k tk dk vk ok xk tm dm vm om xm ∧ True) ∧ _›).1 ‹Below _ _ _›
            | with_reducible exact al_keep4 LT.out (Below.refl _ _)
            | exact al_keep4 LT.out (below_drawn' (Below.refl _ _) 1)) (first
            | ((go_at_call 16; (with_reducible refine (G1X.out _ (‹(Al w5 _ k tk dk vk ok xk tm dm vm om xm ∧ True) ∧ _›).1.1).mono ?_); rintro e x1 ⟨y1, rfl, ho1, hb1⟩; have R1 := Lib.hid (And.intro (row_of ho1) (show y1.n ≤ 4000000 by have h1 := ho1.1; have h2 := GW.out.2; simp only [List.length_map] at h1; omega)); clear ho1))
            | ((go_at_call 16; (with_reducible refine (G2X.out _ (‹(Al w5 _ k tk dk vk ok xk tm dm vm om xm ∧ True) ∧ _›).1.1).mono ?_); rintro e x2 ⟨y2, rfl, ho2, hb2⟩; have R2 := Lib.hid (And.intro ((R1.out.1.below hb2).more hb2.size) (And.intro (row_of ho2) (And.intro R1.out.2 (show y2.n ≤ 4000000 by have h1 := ho2.1; have h2 := GW.out.2; simp only [List.length_map] at h1; omega)))); clear ho2))
            | ((go_at_call 17; refine (Ls.ints_any _ _ y1.a y2.a y1.n y2.n y1.c y2.c gl gl _ R2.out.2.2.1 R2.out.2.2.2 R2.out.1 R2.out.2.1).mono ?_; rw [decide_eq_true rfl]; rintro e x6 ⟨rfl, dd, hx6⟩; have hb6 : Below x2.heap.size x2 x6 := (by rw [hx6]; exact below_drawn' (Below.refl _ _) dd); clear hx6)))
          have A6 := Lib.hid (‹(Al w5 x6 k tk dk vk ok xk tm dm vm om xm ∧ True) ∧ _›).1.1
          clear LT hb1 hb2 hb6 R1 R2
          have OKM : om = ok := HE9.out.2.2.2.2.trans HE9.out.2.1.2.symm
          have g5 : gn ≤ 512 := by have := GW.out; omega
          have k5 : k.wk.n ≤ 1000000 := by have h1 := HX.out; have h2 := HXN.out; omega
          have wv3 : IntKind.i64.wrap ((gn : Int) + (m : Int)) = (gn : Int) + m := by simp [IntKind.wrap, IntKind.signed, IntKind.bits]; omega
          have wv4 : IntKind.i64.wrap ((m : Int) + (k.wk.n : Int)) = (m : Int) + k.wk.n := by simp [IntKind.wrap, IntKind.signed, IntKind.bits]; omega
          have KB := Lib.hid A6.out.pk.hb
          have KC := Lib.hid A6.out.pk.cb
          have r0 := (KB.out).c0
          have r1 := (KB.out).c1
          have r2 := (KB.out).c2
          have r3 := (KB.out).c3
          have r4 := (KB.out).c4
          have r5 := (KB.out).c5
          have rl := (KB.out).lt
          have p0 := (KC.out).c0
          have p1 := (KC.out).c1
          have p2 := (KC.out).c2
          have p3 := (KC.out).c3
          have p4 := (KC.out).c4
          have p5 := (KC.out).c5
          have p6 := (KC.out).c6
          have p7 := (KC.out).c7
          have p8 := (KC.out).c8
          have p9 := (KC.out).c9
          have pl := (KC.out).lt
          dsimp only [kw] at p0 p1 p2 p3 p4 p5 p6 p7 p8 p9
          go_wp2_with fail
          refine (G1X.out _ A6.out).mono ?_
          rintro e9 w8 ⟨⟨ga3, gn3, gc3⟩, rfl, ho, hb9⟩
          have A8 := Lib.hid (A6.out.next hb9)
          have L8 := Lib.hid (L5.out.next A8.out.bel)
          obtain rfl : gn3 = gn + m := by have h1 := ho.1; have h2 := GW.out.1; simp only [List.length_map] at h1; omega
          clear hb9 ho
          clear r0 r1 r2 r3 r4 r5 rl
          clear p0 p1 p2 p3 p4 p5 p6 p7 p8 p9 pl
          have k4 := A8.out.pk.cb.c4
          have kl := A8.out.pk.cb.lt
          have m4 := A8.out.pm.cb.c4
          have ml := A8.out.pm.cb.lt
          dsimp only [kw] at k4 m4
          rw [OKM] at m4
          have c3 := (L8.out.cat (w.heap.size + 1) k xs (by simp)).c3
          have cl := (L8.out.cat (w.heap.size + 1) k xs (by simp)).lt
          by_cases h4 : m + k.wk.n ≤ 4
          · have d4 : decide ((m : Int) + (k.wk.n : Int) ≤ 4) = true := decide_eq_true (by omega)
            go_wp2
            go_ret
            exact ⟨rfl, L8.out.bel⟩
          have d4 : decide ((m : Int) + (k.wk.n : Int) ≤ 4) = false := decide_eq_false (by omega)
          by_cases h0 : m = 0
          · subst h0
            go_wp2
            go_ret
            exact ⟨rfl, L8.out.bel⟩
          have d0 : decide ((m : Int) = 0) = false := decide_eq_false (by omega)
          have HOV : ok = true := by
            rw [HE9.out.2.1.2, decide_eq_true (show 0 < m ∧ 4 < xs.length + m by have := HXN.out; omega)]
            simp
          rw [HOV] at k4 m4
          go_wp2
          go_ret
          exact ⟨rfl, L8.out.bel⟩
theorem walk (s : Hs) (d : Hd_) (k : Ks) (xs : List Int) (w : World) (hz : Cl.Sz w) (hp : Hp w w.heap.size s d) (hv : Fit64 d.ws) (_ : s.p.n ≤ s.p.c) (hk : WRow w w.heap.size k xs) (_ : k.wk.n ≤ k.wk.c) (_ : k.wk.c ≤ maxLen) (_ : (Lit.int .i64 k.ep).wf = true) :
    Calls Tryd.prog 4 #[(.agg #[.slice s.w.a s.w.n s.w.c, .slice s.p.a s.p.n s.p.c, .slice (s.u 0).a (s.u 0).n (s.u 0).c, .slice (s.u 1).a (s.u 1).n (s.u 1).c, .slice (s.u 2).a (s.u 2).n (s.u 2).c, .slice s.c.a s.c.n s.c.c]), (.agg #[.int .i64 k.ph, .int .i64 k.ep, .bool k.mj, .slice k.wk.a k.wk.n k.wk.c, .bool k.ov, .int .i64 k.pa, .int .i64 k.pf, .int .i64 k.ps, .int .i64 k.pc, .bool k.me])] w fun e w' => e = .returned (.bool true) ∧ Below w.heap.size w w' := by
  cases hf : fewK s k
  · exact walk_few s d k xs w hf hz hp hk
  have hf' := hf
  unfold fewK at hf'
  rw [Bool.and_eq_true, decide_eq_true_eq] at hf'
  have hfi := fine_few hf'.1 hp hv
  have hxl : xs.length ≤ 100 := by rw [← hk.len]; exact hf'.2
  cases hm : mayB0 s d
  · exact walk_may s d k xs w hm hfi hf hz hp hk
  by_cases he : 0 ≤ k.ep ∧ k.ep ≤ 1048576
  · exact core s d k xs w _ rfl he hm hxl hp.words.1 hfi hf hz hp hk
  · exact walk_ep s d k xs w he hm hfi hf hz hp hk
-- the frame (hp11frame.py)
set_option maxRecDepth 100000 in
theorem lifted (os : Os) (started : os.Started) (H : Type) (enc : TypeId × Value → H) :
    ReturnsInHanded {} Tryd.checked os 4 .any (fun w args => (Rows.shadeAllSpec.pre enc Tryd.prog Tryd.f4 [] false w args ∧ laidMetH Tryd.prog laidSizes w) ∧ sizedMet enc Tryd.prog Tryd.f4 (OpenSpec.ofChange Rows.shadeAllSpec) false w args)
      (Rows.shadeAllSpec.post enc Tryd.prog Tryd.f4 false true false false) := by
  refine returnsInHanded_of_change_and (C := Tryd.checked) (X := fun w _ => laidMetH Tryd.prog laidSizes w) (fun _ _ _ hh h => h.of_heap hh) own started (by kernel_rfl) Tryd.func4
    (ChangeSpec.witness_shaped (enc := enc) (C := Tryd.checked) (os := os) (X := fun w _ => laidMetH Tryd.prog laidSizes w) false (World.doorLaid Tryd.prog 400 os) #[.agg #[.slice none 0 0, .slice none 0 0, .slice none 0 0, .slice none 0 0, .slice none 0 0, .slice none 0 0], .agg #[.int .i64 0, .int .i64 0, .bool false, .slice none 0 0, .bool false, .int .i64 0, .int .i64 0, .int .i64 0, .int .i64 0, .bool false]] 8 rfl (World.shaped_of_RefB (by kernel_rfl) (by kernel_rfl)) (by kernel_rfl) (by kernel_rfl) (by kernel_rfl) (door_met os _)) ?_
  intro W base args ds gs before hval0 hW _ _ hL _
  have hval : ∀ (j : Nat) t v, Tryd.f4.params[j]? = some t → args[j]? = some v → Value.okWide Tryd.prog W .any base t v := hval0
  have hW' := hW
  obtain ⟨p, q, hA0, hV, rfl, hfz, hnd⟩ := hW
  have hA : DataW.TrodAll enc Tryd.prog W 0 (fun _ => true) true Tryd.f4.params.toList args.toList ds p := hA0
  rw [Tryd.params4] at hA hval
  obtain ⟨v0, vs0, d0, ds0, p0, q0, hargs, rfl, rfl, h0, r0⟩ := trodAll_cons hA
  obtain ⟨v1, vs1, d1, ds1, p1, q1, rfl, rfl, rfl, h1, r1⟩ := trodAll_cons r0
  obtain ⟨rfl, rfl, rfl⟩ := trodAll_nil r1
  obtain rfl : args = #[v0, v1] := by cases args; simp_all
  obtain ⟨rfl, rfl⟩ := trodVars_none hV
  have k0 := h0
  have lt0 : ∀ x ∈ p0, x.block < W.heap.size := by obtain ⟨m, hm⟩ := k0; exact DataW.trod_lt m _ _ _ hm
  obtain ⟨s0, z0, rfl, w0, f0, b0⟩ := heap_of8 (hval 0 28 v0 rfl rfl) h0
  have k1 := h1
  have lt1 : ∀ x ∈ p1, x.block < W.heap.size := by obtain ⟨m, hm⟩ := k1; exact DataW.trod_lt m _ _ _ hm
  obtain ⟨k1', z1, rfl, w1, m1, x1, f1⟩ := Sh.col_of (hval 1 30 v1 rfl rfl) h1
  clear hA0 hval0
  refine (walk s0 z0 k1' z1 W (of_laid hL) w0 f0 b0 w1 m1 x1 f1).mono fun e W' ⟨he, bel⟩ => ?_
  subst he
  exact ⟨_, rfl, _, _, _, [], _, [], hW', trodAll_mk1 (shut_bool Tryd.underlying4 _), (trodAll_cons_mk (Below.trod laidOut (by kernel_rfl) (of_decide_eq_true (by kernel_rfl)) k0 bel lt0) (trodAll_cons_mk (Below.trod laidOut (by kernel_rfl) (of_decide_eq_true (by kernel_rfl)) k1 bel lt1) trodAll_mk0)), rfl, bel.frame _, fun h => by cases h⟩

theorem over : Rows.ShadeAllSaid :=
  OpenClaim.holds_of_wide 4 Tryd.f4 rfl rfl rfl rfl rfl rfl rfl ⟨rfl, rfl, rfl, rfl, rfl⟩ rfl rfl rfl rfl rfl (by kernel_rfl) Tryd.func4 (by kernel_rfl)
    (of_decide_eq_true (by kernel_rfl)) (by unfold Func.isWrapper; first | (rw [if_pos (by decide +kernel)]; kernel_rfl) | (rw [if_neg (by decide +kernel)]; exact ⟨rfl, rfl⟩))
    (fun os started H enc _ => lifted os started H enc)

/-- The statement: the card. -/
theorem proved : Rows.ShadeAllCardSaid :=
  Claim7.holds_tied_plain_at .later [] [.data] true Rows.shadeAllCard.stood.harness false
    over (fun _ h => by cases h) (by kernel_rfl) (fun _ h => by cases h) shadeAll_row_tie rfl ⟨rfl, rfl⟩ (by kernel_rfl) rfl
    (fun f fn hf hfn => by
      obtain rfl : f = 4 := Option.some.inj ((show Tryd.prog.funcNamed "ragpicker/ragpickerlaw11.ShadeAll" = some 4 by kernel_rfl).symm.trans hf) |>.symm
      obtain rfl : fn = Tryd.f4 := (Option.some.inj (Tryd.func4.symm.trans hfn)).symm
      exact ⟨by kernel_rfl, fun j t ht => by
        rw [Tryd.params4] at ht
        have hm : t ∈ [28, 30] := by simpa using Array.mem_of_getElem? ht
        have hall : ([28, 30].all fun u => !Tryd.prog.wantsStandIn u) = true := by kernel_rfl
        exact (show Tryd.prog.wantsStandIn t = false by simpa using List.all_eq_true.1 hall t hm)⟩)
    (by kernel_rfl)
#print axioms proved
end Go.Proofs.YtdmclfolooiccaaDoor.ShadeAll
