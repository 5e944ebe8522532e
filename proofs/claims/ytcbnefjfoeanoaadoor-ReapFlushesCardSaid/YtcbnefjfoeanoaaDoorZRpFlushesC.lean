/-
  ReapFlushes: ReapFlushes's walks.
-/
import Derived.Test.YtcbnefjfoeanoaaDoorHpZP
namespace Go.Proofs.YtcbnefjfoeanoaaDoor.ReapFlushes
open Go.Proofs.YtcbnefjfoeanoaaDoor Go.Proofs.YtcbnefjfoeanoaaDoor.Rp
open Go.ChangeShapes Go.WideShapes Go.ChangeAt Go.RowKit
set_option maxRecDepth 100000

section
variable (s : Hs) (d : Hd_) (u v : Nat → Ls.Sl) (G H : Nat → List Int) (w : World)
set_option maxHeartbeats 2000000 in
theorem walk_few (hfew : ∀ W, Mx w W u v G H [(w.heap.size, s, d)] → Calls Tryd.prog 8 #[(.agg #[.slice s.w.a s.w.n s.w.c, .slice s.p.a s.p.n s.p.c, .slice (s.u 0).a (s.u 0).n (s.u 0).c, .slice (s.u 1).a (s.u 1).n (s.u 1).c, .slice (s.u 2).a (s.u 2).n (s.u 2).c, .slice s.c.a s.c.n s.c.c]), .slice (some ⟨W.heap.size, 0, none⟩) 2 2] (W.alloc (.cells #[.slice (u 0).a (u 0).n (u 0).c, .slice (u 1).a (u 1).n (u 1).c, .slice (u 2).a (u 2).n (u 2).c, .slice (v 0).a (v 0).n (v 0).c, .slice (v 1).a (v 1).n (v 1).c, .slice (v 2).a (v 2).n (v 2).c] 25)) fun e w' => e = .returned (.bool false) ∧ Below (W.alloc (.cells #[.slice (u 0).a (u 0).n (u 0).c, .slice (u 1).a (u 1).n (u 1).c, .slice (u 2).a (u 2).n (u 2).c, .slice (v 0).a (v 0).n (v 0).c, .slice (v 1).a (v 1).n (v 1).c, .slice (v 2).a (v 2).n (v 2).c] 25)).heap.size (W.alloc (.cells #[.slice (u 0).a (u 0).n (u 0).c, .slice (u 1).a (u 1).n (u 1).c, .slice (u 2).a (u 2).n (u 2).c, .slice (v 0).a (v 0).n (v 0).c, .slice (v 1).a (v 1).n (v 1).c, .slice (v 2).a (v 2).n (v 2).c] 25)) w') (hz : Cl.Sz w) (hp : Hp w w.heap.size s d) (lu : Ls.L3 w w.heap.size u G) (lv : Ls.L3 w w.heap.size v H) : Calls Tryd.prog 6 #[(.agg #[.slice s.w.a s.w.n s.w.c, .slice s.p.a s.p.n s.p.c, .slice (s.u 0).a (s.u 0).n (s.u 0).c, .slice (s.u 1).a (s.u 1).n (s.u 1).c, .slice (s.u 2).a (s.u 2).n (s.u 2).c, .slice s.c.a s.c.n s.c.c]), (.agg #[.slice (u 0).a (u 0).n (u 0).c, .slice (u 1).a (u 1).n (u 1).c, .slice (u 2).a (u 2).n (u 2).c]), (.agg #[.slice (v 0).a (v 0).n (v 0).c, .slice (v 1).a (v 1).n (v 1).c, .slice (v 2).a (v 2).n (v 2).c])] w fun e w' => e = .returned (.bool true) ∧ Below w.heap.size w w' := by
  have HZ := Lib.hid hz
  have hz0 := hz.pos
  have HP := Lib.hid hp
  have LU := Lib.hid lu
  have LV := Lib.hid lv
  have FW := Lib.hid hfew
  clear hz hp lu lv hfew
  go_enter Tryd.func6, Tryd.ntmps6
  go_wp2_with fail
  obtain ⟨W1, hW1⟩ : ∃ W1, W1 = ((w.alloc (.cells #[.slice s.w.a s.w.n s.w.c, .slice s.p.a s.p.n s.p.c, .slice (s.u 0).a (s.u 0).n (s.u 0).c, .slice (s.u 1).a (s.u 1).n (s.u 1).c, .slice (s.u 2).a (s.u 2).n (s.u 2).c, .slice s.c.a s.c.n s.c.c] 28)).alloc (.cells #[.slice (u 0).a (u 0).n (u 0).c, .slice (u 1).a (u 1).n (u 1).c, .slice (u 2).a (u 2).n (u 2).c] 25)).alloc (.cells #[.slice (v 0).a (v 0).n (v 0).c, .slice (v 1).a (v 1).n (v 1).c, .slice (v 2).a (v 2).n (v 2).c] 25) := ⟨_, rfl⟩
  have L1 := Lib.hid (mx_start HP.out LU.out LV.out hW1)
  rw [← hW1]
  clear hW1
  refine (Rp.awake_any W1 (HZ.out.over L1.out.bel hz0)).mono ?_
  rintro e9 w1 ⟨rfl, hb1⟩
  have L2 := Lib.hid (L1.out.next hb1)
  clear hb1 L1
  have q0 := (L2.out.at (w.heap.size) (s) (d) (by simp)).c0
  have q1 := (L2.out.at (w.heap.size) (s) (d) (by simp)).c1
  have q2 := (L2.out.at (w.heap.size) (s) (d) (by simp)).c2
  have q3 := (L2.out.at (w.heap.size) (s) (d) (by simp)).c3
  have q4 := (L2.out.at (w.heap.size) (s) (d) (by simp)).c4
  have q5 := (L2.out.at (w.heap.size) (s) (d) (by simp)).c5
  have ql := (L2.out.at (w.heap.size) (s) (d) (by simp)).lt
  have x0 := L2.out.b1.cell 0 (by decide)
  have x1 := L2.out.b1.cell 1 (by decide)
  have x2 := L2.out.b1.cell 2 (by decide)
  have xl := L2.out.b1.lt
  have y0 := L2.out.b2.cell 0 (by decide)
  have y1 := L2.out.b2.cell 1 (by decide)
  have y2 := L2.out.b2.cell 2 (by decide)
  have yl := L2.out.b2.lt
  go_wp2_with fail
  refine (FW.out w1 L2.out).mono ?_
  rintro e9 w2 ⟨rfl, hb2⟩
  have L3 := Lib.hid ((L2.out.next ((Below.refl _ _).alloc (Nat.le_refl _) (.cells #[.slice (u 0).a (u 0).n (u 0).c, .slice (u 1).a (u 1).n (u 1).c, .slice (u 2).a (u 2).n (u 2).c, .slice (v 0).a (v 0).n (v 0).c, .slice (v 1).a (v 1).n (v 1).c, .slice (v 2).a (v 2).n (v 2).c] 25))).next hb2)
  clear hb2 L2
  clear q0 q1 q2 q3 q4 q5 ql
  clear x0 x1 x2 xl
  clear y0 y1 y2 yl
  go_wp2
  go_ret
  exact ⟨rfl, L3.out.bel⟩
set_option maxHeartbeats 2000000 in
theorem walk_may (hfew : ∀ W, Mx w W u v G H [(w.heap.size, s, d)] → Calls Tryd.prog 8 #[(.agg #[.slice s.w.a s.w.n s.w.c, .slice s.p.a s.p.n s.p.c, .slice (s.u 0).a (s.u 0).n (s.u 0).c, .slice (s.u 1).a (s.u 1).n (s.u 1).c, .slice (s.u 2).a (s.u 2).n (s.u 2).c, .slice s.c.a s.c.n s.c.c]), .slice (some ⟨W.heap.size, 0, none⟩) 2 2] (W.alloc (.cells #[.slice (u 0).a (u 0).n (u 0).c, .slice (u 1).a (u 1).n (u 1).c, .slice (u 2).a (u 2).n (u 2).c, .slice (v 0).a (v 0).n (v 0).c, .slice (v 1).a (v 1).n (v 1).c, .slice (v 2).a (v 2).n (v 2).c] 25)) fun e w' => e = .returned (.bool true) ∧ Below (W.alloc (.cells #[.slice (u 0).a (u 0).n (u 0).c, .slice (u 1).a (u 1).n (u 1).c, .slice (u 2).a (u 2).n (u 2).c, .slice (v 0).a (v 0).n (v 0).c, .slice (v 1).a (v 1).n (v 1).c, .slice (v 2).a (v 2).n (v 2).c] 25)).heap.size (W.alloc (.cells #[.slice (u 0).a (u 0).n (u 0).c, .slice (u 1).a (u 1).n (u 1).c, .slice (u 2).a (u 2).n (u 2).c, .slice (v 0).a (v 0).n (v 0).c, .slice (v 1).a (v 1).n (v 1).c, .slice (v 2).a (v 2).n (v 2).c] 25)) w') (hmay : ∀ W, Mx w W u v G H [(w.heap.size, s, d)] → Calls Tryd.prog 19 #[(.agg #[.slice s.w.a s.w.n s.w.c, .slice s.p.a s.p.n s.p.c, .slice (s.u 0).a (s.u 0).n (s.u 0).c, .slice (s.u 1).a (s.u 1).n (s.u 1).c, .slice (s.u 2).a (s.u 2).n (s.u 2).c, .slice s.c.a s.c.n s.c.c]), .slice (some ⟨W.heap.size, 0, none⟩) 2 2] (W.alloc (.cells #[.slice (u 0).a (u 0).n (u 0).c, .slice (u 1).a (u 1).n (u 1).c, .slice (u 2).a (u 2).n (u 2).c, .slice (v 0).a (v 0).n (v 0).c, .slice (v 1).a (v 1).n (v 1).c, .slice (v 2).a (v 2).n (v 2).c] 25)) fun e w' => e = .returned (.bool false) ∧ Below (W.alloc (.cells #[.slice (u 0).a (u 0).n (u 0).c, .slice (u 1).a (u 1).n (u 1).c, .slice (u 2).a (u 2).n (u 2).c, .slice (v 0).a (v 0).n (v 0).c, .slice (v 1).a (v 1).n (v 1).c, .slice (v 2).a (v 2).n (v 2).c] 25)).heap.size (W.alloc (.cells #[.slice (u 0).a (u 0).n (u 0).c, .slice (u 1).a (u 1).n (u 1).c, .slice (u 2).a (u 2).n (u 2).c, .slice (v 0).a (v 0).n (v 0).c, .slice (v 1).a (v 1).n (v 1).c, .slice (v 2).a (v 2).n (v 2).c] 25)) w') (hz : Cl.Sz w) (hp : Hp w w.heap.size s d) (lu : Ls.L3 w w.heap.size u G) (lv : Ls.L3 w w.heap.size v H) : Calls Tryd.prog 6 #[(.agg #[.slice s.w.a s.w.n s.w.c, .slice s.p.a s.p.n s.p.c, .slice (s.u 0).a (s.u 0).n (s.u 0).c, .slice (s.u 1).a (s.u 1).n (s.u 1).c, .slice (s.u 2).a (s.u 2).n (s.u 2).c, .slice s.c.a s.c.n s.c.c]), (.agg #[.slice (u 0).a (u 0).n (u 0).c, .slice (u 1).a (u 1).n (u 1).c, .slice (u 2).a (u 2).n (u 2).c]), (.agg #[.slice (v 0).a (v 0).n (v 0).c, .slice (v 1).a (v 1).n (v 1).c, .slice (v 2).a (v 2).n (v 2).c])] w fun e w' => e = .returned (.bool true) ∧ Below w.heap.size w w' := by
  have HZ := Lib.hid hz
  have hz0 := hz.pos
  have HP := Lib.hid hp
  have LU := Lib.hid lu
  have LV := Lib.hid lv
  have FW := Lib.hid hfew
  have MY := Lib.hid hmay
  clear hz hp lu lv hfew hmay
  go_enter Tryd.func6, Tryd.ntmps6
  go_wp2_with fail
  obtain ⟨W1, hW1⟩ : ∃ W1, W1 = ((w.alloc (.cells #[.slice s.w.a s.w.n s.w.c, .slice s.p.a s.p.n s.p.c, .slice (s.u 0).a (s.u 0).n (s.u 0).c, .slice (s.u 1).a (s.u 1).n (s.u 1).c, .slice (s.u 2).a (s.u 2).n (s.u 2).c, .slice s.c.a s.c.n s.c.c] 28)).alloc (.cells #[.slice (u 0).a (u 0).n (u 0).c, .slice (u 1).a (u 1).n (u 1).c, .slice (u 2).a (u 2).n (u 2).c] 25)).alloc (.cells #[.slice (v 0).a (v 0).n (v 0).c, .slice (v 1).a (v 1).n (v 1).c, .slice (v 2).a (v 2).n (v 2).c] 25) := ⟨_, rfl⟩
  have L1 := Lib.hid (mx_start HP.out LU.out LV.out hW1)
  rw [← hW1]
  clear hW1
  refine (Rp.awake_any W1 (HZ.out.over L1.out.bel hz0)).mono ?_
  rintro e9 w1 ⟨rfl, hb1⟩
  have L2 := Lib.hid (L1.out.next hb1)
  clear hb1 L1
  have q0 := (L2.out.at (w.heap.size) (s) (d) (by simp)).c0
  have q1 := (L2.out.at (w.heap.size) (s) (d) (by simp)).c1
  have q2 := (L2.out.at (w.heap.size) (s) (d) (by simp)).c2
  have q3 := (L2.out.at (w.heap.size) (s) (d) (by simp)).c3
  have q4 := (L2.out.at (w.heap.size) (s) (d) (by simp)).c4
  have q5 := (L2.out.at (w.heap.size) (s) (d) (by simp)).c5
  have ql := (L2.out.at (w.heap.size) (s) (d) (by simp)).lt
  have x0 := L2.out.b1.cell 0 (by decide)
  have x1 := L2.out.b1.cell 1 (by decide)
  have x2 := L2.out.b1.cell 2 (by decide)
  have xl := L2.out.b1.lt
  have y0 := L2.out.b2.cell 0 (by decide)
  have y1 := L2.out.b2.cell 1 (by decide)
  have y2 := L2.out.b2.cell 2 (by decide)
  have yl := L2.out.b2.lt
  go_wp2_with fail
  refine (FW.out w1 L2.out).mono ?_
  rintro e9 w2 ⟨rfl, hb2⟩
  have L3 := Lib.hid ((L2.out.next ((Below.refl _ _).alloc (Nat.le_refl _) (.cells #[.slice (u 0).a (u 0).n (u 0).c, .slice (u 1).a (u 1).n (u 1).c, .slice (u 2).a (u 2).n (u 2).c, .slice (v 0).a (v 0).n (v 0).c, .slice (v 1).a (v 1).n (v 1).c, .slice (v 2).a (v 2).n (v 2).c] 25))).next hb2)
  clear hb2 L2
  clear q0 q1 q2 q3 q4 q5 ql
  clear x0 x1 x2 xl
  clear y0 y1 y2 yl
  have q0 := (L3.out.at (w.heap.size) (s) (d) (by simp)).c0
  have q1 := (L3.out.at (w.heap.size) (s) (d) (by simp)).c1
  have q2 := (L3.out.at (w.heap.size) (s) (d) (by simp)).c2
  have q3 := (L3.out.at (w.heap.size) (s) (d) (by simp)).c3
  have q4 := (L3.out.at (w.heap.size) (s) (d) (by simp)).c4
  have q5 := (L3.out.at (w.heap.size) (s) (d) (by simp)).c5
  have ql := (L3.out.at (w.heap.size) (s) (d) (by simp)).lt
  have x0 := L3.out.b1.cell 0 (by decide)
  have x1 := L3.out.b1.cell 1 (by decide)
  have x2 := L3.out.b1.cell 2 (by decide)
  have xl := L3.out.b1.lt
  have y0 := L3.out.b2.cell 0 (by decide)
  have y1 := L3.out.b2.cell 1 (by decide)
  have y2 := L3.out.b2.cell 2 (by decide)
  have yl := L3.out.b2.lt
  go_wp2_with fail
  refine (MY.out w2 L3.out).mono ?_
  rintro e9 w3 ⟨rfl, hb2⟩
  have L4 := Lib.hid ((L3.out.next ((Below.refl _ _).alloc (Nat.le_refl _) (.cells #[.slice (u 0).a (u 0).n (u 0).c, .slice (u 1).a (u 1).n (u 1).c, .slice (u 2).a (u 2).n (u 2).c, .slice (v 0).a (v 0).n (v 0).c, .slice (v 1).a (v 1).n (v 1).c, .slice (v 2).a (v 2).n (v 2).c] 25))).next hb2)
  clear hb2 L3
  clear q0 q1 q2 q3 q4 q5 ql
  clear x0 x1 x2 xl
  clear y0 y1 y2 yl
  go_wp2
  go_ret
  exact ⟨rfl, L4.out.bel⟩
set_option maxHeartbeats 8000000 in
theorem core (d1 dY dZ : Hd_) (hF : ∀ j, j < 3 → dY.F j = dZ.F j) (hun : ∀ j, j < 3 → (u j).n ≤ 1000000 ∧ (v j).n ≤ 1000000) (hfew : ∀ W, Mx w W u v G H [(w.heap.size, s, d)] → Calls Tryd.prog 8 #[(.agg #[.slice s.w.a s.w.n s.w.c, .slice s.p.a s.p.n s.p.c, .slice (s.u 0).a (s.u 0).n (s.u 0).c, .slice (s.u 1).a (s.u 1).n (s.u 1).c, .slice (s.u 2).a (s.u 2).n (s.u 2).c, .slice s.c.a s.c.n s.c.c]), .slice (some ⟨W.heap.size, 0, none⟩) 2 2] (W.alloc (.cells #[.slice (u 0).a (u 0).n (u 0).c, .slice (u 1).a (u 1).n (u 1).c, .slice (u 2).a (u 2).n (u 2).c, .slice (v 0).a (v 0).n (v 0).c, .slice (v 1).a (v 1).n (v 1).c, .slice (v 2).a (v 2).n (v 2).c] 25)) fun e w' => e = .returned (.bool true) ∧ Below (W.alloc (.cells #[.slice (u 0).a (u 0).n (u 0).c, .slice (u 1).a (u 1).n (u 1).c, .slice (u 2).a (u 2).n (u 2).c, .slice (v 0).a (v 0).n (v 0).c, .slice (v 1).a (v 1).n (v 1).c, .slice (v 2).a (v 2).n (v 2).c] 25)).heap.size (W.alloc (.cells #[.slice (u 0).a (u 0).n (u 0).c, .slice (u 1).a (u 1).n (u 1).c, .slice (u 2).a (u 2).n (u 2).c, .slice (v 0).a (v 0).n (v 0).c, .slice (v 1).a (v 1).n (v 1).c, .slice (v 2).a (v 2).n (v 2).c] 25)) w') (hmay : ∀ W, Mx w W u v G H [(w.heap.size, s, d)] → Calls Tryd.prog 19 #[(.agg #[.slice s.w.a s.w.n s.w.c, .slice s.p.a s.p.n s.p.c, .slice (s.u 0).a (s.u 0).n (s.u 0).c, .slice (s.u 1).a (s.u 1).n (s.u 1).c, .slice (s.u 2).a (s.u 2).n (s.u 2).c, .slice s.c.a s.c.n s.c.c]), .slice (some ⟨W.heap.size, 0, none⟩) 2 2] (W.alloc (.cells #[.slice (u 0).a (u 0).n (u 0).c, .slice (u 1).a (u 1).n (u 1).c, .slice (u 2).a (u 2).n (u 2).c, .slice (v 0).a (v 0).n (v 0).c, .slice (v 1).a (v 1).n (v 1).c, .slice (v 2).a (v 2).n (v 2).c] 25)) fun e w' => e = .returned (.bool true) ∧ Below (W.alloc (.cells #[.slice (u 0).a (u 0).n (u 0).c, .slice (u 1).a (u 1).n (u 1).c, .slice (u 2).a (u 2).n (u 2).c, .slice (v 0).a (v 0).n (v 0).c, .slice (v 1).a (v 1).n (v 1).c, .slice (v 2).a (v 2).n (v 2).c] 25)).heap.size (W.alloc (.cells #[.slice (u 0).a (u 0).n (u 0).c, .slice (u 1).a (u 1).n (u 1).c, .slice (u 2).a (u 2).n (u 2).c, .slice (v 0).a (v 0).n (v 0).c, .slice (v 1).a (v 1).n (v 1).c, .slice (v 2).a (v 2).n (v 2).c] 25)) w') (hf1 : ∀ W, Mx w W u v G H [(w.heap.size, s, d)] → Calls Tryd.prog 13 #[(.agg #[.slice s.w.a s.w.n s.w.c, .slice s.p.a s.p.n s.p.c, .slice (s.u 0).a (s.u 0).n (s.u 0).c, .slice (s.u 1).a (s.u 1).n (s.u 1).c, .slice (s.u 2).a (s.u 2).n (s.u 2).c, .slice s.c.a s.c.n s.c.c]), (.agg #[.slice (u 0).a (u 0).n (u 0).c, .slice (u 1).a (u 1).n (u 1).c, .slice (u 2).a (u 2).n (u 2).c])] W fun e w' => ∃ t' : Hs, e = .returned (.tuple #[(.agg #[.slice t'.w.a t'.w.n t'.w.c, .slice t'.p.a t'.p.n t'.p.c, .slice (t'.u 0).a (t'.u 0).n (t'.u 0).c, .slice (t'.u 1).a (t'.u 1).n (t'.u 1).c, .slice (t'.u 2).a (t'.u 2).n (t'.u 2).c, .slice t'.c.a t'.c.n t'.c.c]), .int .i64 0]) ∧ Hp w' w'.heap.size t' d1 ∧ (t'.w.n = s.w.n ∧ t'.p.n = s.p.n ∧ t'.c.n = s.c.n) ∧ Below W.heap.size W w') (hf2 : ∀ W b1 t1, (t1.w.n = s.w.n ∧ t1.p.n = s.p.n ∧ t1.c.n = s.c.n) → Mx w W u v G H [(b1, t1, d1), (w.heap.size, s, d)] → Calls Tryd.prog 13 #[(.agg #[.slice t1.w.a t1.w.n t1.w.c, .slice t1.p.a t1.p.n t1.p.c, .slice (t1.u 0).a (t1.u 0).n (t1.u 0).c, .slice (t1.u 1).a (t1.u 1).n (t1.u 1).c, .slice (t1.u 2).a (t1.u 2).n (t1.u 2).c, .slice t1.c.a t1.c.n t1.c.c]), (.agg #[.slice (v 0).a (v 0).n (v 0).c, .slice (v 1).a (v 1).n (v 1).c, .slice (v 2).a (v 2).n (v 2).c])] W fun e w' => ∃ t' : Hs, e = .returned (.tuple #[(.agg #[.slice t'.w.a t'.w.n t'.w.c, .slice t'.p.a t'.p.n t'.p.c, .slice (t'.u 0).a (t'.u 0).n (t'.u 0).c, .slice (t'.u 1).a (t'.u 1).n (t'.u 1).c, .slice (t'.u 2).a (t'.u 2).n (t'.u 2).c, .slice t'.c.a t'.c.n t'.c.c]), .int .i64 0]) ∧ Hp w' w'.heap.size t' dY ∧ (t'.w.n = s.w.n ∧ t'.p.n = s.p.n ∧ t'.c.n = s.c.n) ∧ Below W.heap.size W w') (hf3 : ∀ W b1 t1 b2 t2 V, Mx w W u v G H [(b2, t2, dY), (b1, t1, d1), (w.heap.size, s, d)] → Ls.L3 W W.heap.size V (bothG G H) → Calls Tryd.prog 13 #[(.agg #[.slice s.w.a s.w.n s.w.c, .slice s.p.a s.p.n s.p.c, .slice (s.u 0).a (s.u 0).n (s.u 0).c, .slice (s.u 1).a (s.u 1).n (s.u 1).c, .slice (s.u 2).a (s.u 2).n (s.u 2).c, .slice s.c.a s.c.n s.c.c]), (.agg #[.slice (V 0).a (V 0).n (V 0).c, .slice (V 1).a (V 1).n (V 1).c, .slice (V 2).a (V 2).n (V 2).c])] W fun e w' => ∃ t' : Hs, e = .returned (.tuple #[(.agg #[.slice t'.w.a t'.w.n t'.w.c, .slice t'.p.a t'.p.n t'.p.c, .slice (t'.u 0).a (t'.u 0).n (t'.u 0).c, .slice (t'.u 1).a (t'.u 1).n (t'.u 1).c, .slice (t'.u 2).a (t'.u 2).n (t'.u 2).c, .slice t'.c.a t'.c.n t'.c.c]), .int .i64 0]) ∧ Hp w' w'.heap.size t' dZ ∧ (t'.w.n = s.w.n ∧ t'.p.n = s.p.n ∧ t'.c.n = s.c.n) ∧ Below W.heap.size W w') (hsm : ∀ W b1 t1 b2 t2 b3 t3, (t2.w.n = s.w.n ∧ t2.p.n = s.p.n ∧ t2.c.n = s.c.n) → (t3.w.n = s.w.n ∧ t3.p.n = s.p.n ∧ t3.c.n = s.c.n) → Mx w W u v G H [(b3, t3, dZ), (b2, t2, dY), (b1, t1, d1), (w.heap.size, s, d)] → Calls Tryd.prog 20 #[.slice t2.p.a t2.p.n t2.p.c, .slice t3.p.a t3.p.n t3.p.c] W fun e w' => e = .returned (.bool true) ∧ Below W.heap.size W w') (hz : Cl.Sz w) (hp : Hp w w.heap.size s d) (lu : Ls.L3 w w.heap.size u G) (lv : Ls.L3 w w.heap.size v H) : Calls Tryd.prog 6 #[(.agg #[.slice s.w.a s.w.n s.w.c, .slice s.p.a s.p.n s.p.c, .slice (s.u 0).a (s.u 0).n (s.u 0).c, .slice (s.u 1).a (s.u 1).n (s.u 1).c, .slice (s.u 2).a (s.u 2).n (s.u 2).c, .slice s.c.a s.c.n s.c.c]), (.agg #[.slice (u 0).a (u 0).n (u 0).c, .slice (u 1).a (u 1).n (u 1).c, .slice (u 2).a (u 2).n (u 2).c]), (.agg #[.slice (v 0).a (v 0).n (v 0).c, .slice (v 1).a (v 1).n (v 1).c, .slice (v 2).a (v 2).n (v 2).c])] w fun e w' => e = .returned (.bool true) ∧ Below w.heap.size w w' := by
  have HZ := Lib.hid hz
  have hz0 := hz.pos
  have HP := Lib.hid hp
  have LU := Lib.hid lu
  have LV := Lib.hid lv
  have FW := Lib.hid hfew
  have MY := Lib.hid hmay
  have F1 := Lib.hid hf1
  have F2 := Lib.hid hf2
  have F3 := Lib.hid hf3
  have SM := Lib.hid hsm
  have FF := Lib.hid hF
  have UN := Lib.hid hun
  clear hz hp lu lv hfew hmay hf1 hf2 hf3 hsm hF hun
  go_enter Tryd.func6, Tryd.ntmps6
  go_wp2_with fail
  obtain ⟨W1, hW1⟩ : ∃ W1, W1 = ((w.alloc (.cells #[.slice s.w.a s.w.n s.w.c, .slice s.p.a s.p.n s.p.c, .slice (s.u 0).a (s.u 0).n (s.u 0).c, .slice (s.u 1).a (s.u 1).n (s.u 1).c, .slice (s.u 2).a (s.u 2).n (s.u 2).c, .slice s.c.a s.c.n s.c.c] 28)).alloc (.cells #[.slice (u 0).a (u 0).n (u 0).c, .slice (u 1).a (u 1).n (u 1).c, .slice (u 2).a (u 2).n (u 2).c] 25)).alloc (.cells #[.slice (v 0).a (v 0).n (v 0).c, .slice (v 1).a (v 1).n (v 1).c, .slice (v 2).a (v 2).n (v 2).c] 25) := ⟨_, rfl⟩
  have L1 := Lib.hid (mx_start HP.out LU.out LV.out hW1)
  rw [← hW1]
  clear hW1
  refine (Rp.awake_any W1 (HZ.out.over L1.out.bel hz0)).mono ?_
  rintro e9 w1 ⟨rfl, hb1⟩
  have L2 := Lib.hid (L1.out.next hb1)
  clear hb1 L1
  have q0 := (L2.out.at (w.heap.size) (s) (d) (by simp)).c0
  have q1 := (L2.out.at (w.heap.size) (s) (d) (by simp)).c1
  have q2 := (L2.out.at (w.heap.size) (s) (d) (by simp)).c2
  have q3 := (L2.out.at (w.heap.size) (s) (d) (by simp)).c3
  have q4 := (L2.out.at (w.heap.size) (s) (d) (by simp)).c4
  have q5 := (L2.out.at (w.heap.size) (s) (d) (by simp)).c5
  have ql := (L2.out.at (w.heap.size) (s) (d) (by simp)).lt
  have x0 := L2.out.b1.cell 0 (by decide)
  have x1 := L2.out.b1.cell 1 (by decide)
  have x2 := L2.out.b1.cell 2 (by decide)
  have xl := L2.out.b1.lt
  have y0 := L2.out.b2.cell 0 (by decide)
  have y1 := L2.out.b2.cell 1 (by decide)
  have y2 := L2.out.b2.cell 2 (by decide)
  have yl := L2.out.b2.lt
  go_wp2_with fail
  refine (FW.out w1 L2.out).mono ?_
  rintro e9 w2 ⟨rfl, hb2⟩
  have L3 := Lib.hid ((L2.out.next ((Below.refl _ _).alloc (Nat.le_refl _) (.cells #[.slice (u 0).a (u 0).n (u 0).c, .slice (u 1).a (u 1).n (u 1).c, .slice (u 2).a (u 2).n (u 2).c, .slice (v 0).a (v 0).n (v 0).c, .slice (v 1).a (v 1).n (v 1).c, .slice (v 2).a (v 2).n (v 2).c] 25))).next hb2)
  clear hb2 L2
  clear q0 q1 q2 q3 q4 q5 ql
  clear x0 x1 x2 xl
  clear y0 y1 y2 yl
  have q0 := (L3.out.at (w.heap.size) (s) (d) (by simp)).c0
  have q1 := (L3.out.at (w.heap.size) (s) (d) (by simp)).c1
  have q2 := (L3.out.at (w.heap.size) (s) (d) (by simp)).c2
  have q3 := (L3.out.at (w.heap.size) (s) (d) (by simp)).c3
  have q4 := (L3.out.at (w.heap.size) (s) (d) (by simp)).c4
  have q5 := (L3.out.at (w.heap.size) (s) (d) (by simp)).c5
  have ql := (L3.out.at (w.heap.size) (s) (d) (by simp)).lt
  have x0 := L3.out.b1.cell 0 (by decide)
  have x1 := L3.out.b1.cell 1 (by decide)
  have x2 := L3.out.b1.cell 2 (by decide)
  have xl := L3.out.b1.lt
  have y0 := L3.out.b2.cell 0 (by decide)
  have y1 := L3.out.b2.cell 1 (by decide)
  have y2 := L3.out.b2.cell 2 (by decide)
  have yl := L3.out.b2.lt
  go_wp2_with fail
  refine (MY.out w2 L3.out).mono ?_
  rintro e9 w3 ⟨rfl, hb2⟩
  have L4 := Lib.hid ((L3.out.next ((Below.refl _ _).alloc (Nat.le_refl _) (.cells #[.slice (u 0).a (u 0).n (u 0).c, .slice (u 1).a (u 1).n (u 1).c, .slice (u 2).a (u 2).n (u 2).c, .slice (v 0).a (v 0).n (v 0).c, .slice (v 1).a (v 1).n (v 1).c, .slice (v 2).a (v 2).n (v 2).c] 25))).next hb2)
  clear hb2 L3
  clear q0 q1 q2 q3 q4 q5 ql
  clear x0 x1 x2 xl
  clear y0 y1 y2 yl
  go_upto_region 5 with fail
  have q0 := (L4.out.at (w.heap.size) (s) (d) (by simp)).c0
  have q1 := (L4.out.at (w.heap.size) (s) (d) (by simp)).c1
  have q2 := (L4.out.at (w.heap.size) (s) (d) (by simp)).c2
  have q3 := (L4.out.at (w.heap.size) (s) (d) (by simp)).c3
  have q4 := (L4.out.at (w.heap.size) (s) (d) (by simp)).c4
  have q5 := (L4.out.at (w.heap.size) (s) (d) (by simp)).c5
  have ql := (L4.out.at (w.heap.size) (s) (d) (by simp)).lt
  have x0 := L4.out.b1.cell 0 (by decide)
  have x1 := L4.out.b1.cell 1 (by decide)
  have x2 := L4.out.b1.cell 2 (by decide)
  have xl := L4.out.b1.lt
  go_wp2_with fail
  refine (F1.out w3 L4.out).mono ?_
  rintro e9 w9 ⟨t1, rfl, hp9, hl9, hb9⟩
  have L5 := Lib.hid (L4.out.add (nw_new (ty := 28) hb9 hp9))
  have N1 := Lib.hid hl9
  clear hp9 hb9 hl9 L4
  clear q0 q1 q2 q3 q4 q5 ql
  clear x0 x1 x2 xl
  go_upto_region 6 with fail
  obtain ⟨v1, h0⟩ : ∃ W, W = w9.alloc (.cells #[.slice t1.w.a t1.w.n t1.w.c, .slice t1.p.a t1.p.n t1.p.c, .slice (t1.u 0).a (t1.u 0).n (t1.u 0).c, .slice (t1.u 1).a (t1.u 1).n (t1.u 1).c, .slice (t1.u 2).a (t1.u 2).n (t1.u 2).c, .slice t1.c.a t1.c.n t1.c.c] 28) := ⟨_, rfl⟩
  obtain ⟨b1, h1⟩ : ∃ b, b = w9.heap.size := ⟨_, rfl⟩
  rw [← h0, ← h1] at L5
  rw [← h0, ← h1]
  clear h0 h1
  have q0 := (L5.out.at (b1) (t1) (d1) (by simp)).c0
  have q1 := (L5.out.at (b1) (t1) (d1) (by simp)).c1
  have q2 := (L5.out.at (b1) (t1) (d1) (by simp)).c2
  have q3 := (L5.out.at (b1) (t1) (d1) (by simp)).c3
  have q4 := (L5.out.at (b1) (t1) (d1) (by simp)).c4
  have q5 := (L5.out.at (b1) (t1) (d1) (by simp)).c5
  have ql := (L5.out.at (b1) (t1) (d1) (by simp)).lt
  have x0 := L5.out.b2.cell 0 (by decide)
  have x1 := L5.out.b2.cell 1 (by decide)
  have x2 := L5.out.b2.cell 2 (by decide)
  have xl := L5.out.b2.lt
  go_wp2_with fail
  refine (F2.out v1 b1 t1 N1.out L5.out).mono ?_
  rintro e9 w9 ⟨t2, rfl, hp9, hl9, hb9⟩
  have L6 := Lib.hid (L5.out.add (nw_new (ty := 28) hb9 hp9))
  have N2 := Lib.hid hl9
  clear hp9 hb9 hl9 L5
  clear q0 q1 q2 q3 q4 q5 ql
  clear x0 x1 x2 xl
  go_upto_region 7 with fail
  obtain ⟨v2, h0⟩ : ∃ W, W = w9.alloc (.cells #[.slice t2.w.a t2.w.n t2.w.c, .slice t2.p.a t2.p.n t2.p.c, .slice (t2.u 0).a (t2.u 0).n (t2.u 0).c, .slice (t2.u 1).a (t2.u 1).n (t2.u 1).c, .slice (t2.u 2).a (t2.u 2).n (t2.u 2).c, .slice t2.c.a t2.c.n t2.c.c] 28) := ⟨_, rfl⟩
  obtain ⟨b2, h1⟩ : ∃ b, b = w9.heap.size := ⟨_, rfl⟩
  rw [← h0, ← h1] at L6
  rw [← h0, ← h1]
  clear h0 h1
  go_upto_region 8 with fail
  obtain ⟨v3, h0⟩ : ∃ W, W = v2.alloc (.cells #[.slice none 0 0, .slice none 0 0, .slice none 0 0] 25) := ⟨_, rfl⟩
  have B0 := bo_start L6.out h0
  obtain ⟨bb, h1⟩ : ∃ b, b = v2.heap.size := ⟨_, rfl⟩
  rw [← h1] at B0
  rw [← h0, ← h1]
  have B1 := Lib.hid B0
  clear h0 h1 B0 L6
  go_wp2
  go_loopw [14] (fun i wr => ∃ (k : Nat) (V : Nat → Ls.Sl), k ≤ 3 ∧ i = .int .i64 k ∧ Hid (Bo w wr u v G H [(b2, t2, dY), (b1, t1, d1), (w.heap.size, s, d)] bb V k)) (fun i _ => 3 - (intOf i).toNat)
  case atStart => exact ⟨0, Ls.noSl, by omega, rfl, B1⟩
  case round =>
    obtain ⟨k, V, hk, rfl, HC⟩ := hrel
    clear B1
    by_cases hlt : k < 3
    · have dq : decide ((k : Int) < 3) = true := by simp; omega
      have iq0 : (0 : Int) ≤ k := by omega
      have iq1 : (k : Int) < 3 := by omega
      have HD := Lib.hid (HC.out.next (below_drawn' (Below.refl _ _) 1))
      obtain ⟨hu1, hv1⟩ := UN.out k hlt
      have xc := HC.out.m.b1.cell k hlt
      have xl := HC.out.m.b1.lt
      have yc := HC.out.m.b2.cell k hlt
      have yl := HC.out.m.b2.lt
      clear HC
      go_upto_region 11 with fail
      go_region_law (first
        | (refine Ls.step_cat (by rfl) (.const (.slice none 0 0)) (.tmp 59) (by rfl) (by rfl) (by rfl) (xs := []) (base := (World.drew wr).heap.size) (World.ownsRow_nil _ _ _ _) (HD.out.m.lu k hlt).1 (Nat.le_refl _) (by omega) ?_; intro p3 c3 w3 hc3; have A1 : Hid (App1 (World.drew wr) w3 ⟨p3, (u k).n, c3⟩ (G k)) := Lib.hid (by have h9 := app1 hc3; simp only [List.nil_append, Nat.zero_add] at h9; exact h9); have H3 := Lib.hid (HD.out.next A1.out.bel); have y3 := H3.out.m.b2.cell k hlt; have yl3 := H3.out.m.b2.lt; clear hc3)
        | (refine Ls.step_cat (by rfl) (.tmp 60) (.tmp 63) (by rfl) (by rfl) (by rfl) (base := (World.drew wr).heap.size) (p := p3) (m := (u k).n) (cp := c3) A1.out.own (H3.out.m.lv k hlt).1 A1.out.bel.size (by omega) ?_; intro p4 c4 w4 hc4; have A2 : Hid (App1 (World.drew wr) w4 ⟨p4, (u k).n + (v k).n, c4⟩ (bothG G H k)) := Lib.hid (app2 A1.out hc4); have H4 := Lib.hid (HD.out.next A2.out.bel); have z4 := H4.out.bx.cell k hlt; have zf := H4.out.bx.free k; have zl := H4.out.bx.lt; clear hc4))
      all_goals have R2 := A2.out.row
      all_goals go_wp2
      all_goals go_roundw
      all_goals first
        | exact ⟨k + 1, _, by omega, by go_num, Lib.hid (H4.out.step hlt ⟨p4, (u k).n + (v k).n, c4⟩ R2.1 R2.2)⟩
        | (simp [intOf]; omega)
    · obtain rfl : k = 3 := by omega
      have dq : decide (((3 : Nat) : Int) < 3) = false := by simp
      have LB := Lib.hid HC.out.l3
      have L7 := Lib.hid HC.out.m
      go_upto_region 12 with fail
      have q0 := (L7.out.at (w.heap.size) (s) (d) (by simp)).c0
      have q1 := (L7.out.at (w.heap.size) (s) (d) (by simp)).c1
      have q2 := (L7.out.at (w.heap.size) (s) (d) (by simp)).c2
      have q3 := (L7.out.at (w.heap.size) (s) (d) (by simp)).c3
      have q4 := (L7.out.at (w.heap.size) (s) (d) (by simp)).c4
      have q5 := (L7.out.at (w.heap.size) (s) (d) (by simp)).c5
      have ql := (L7.out.at (w.heap.size) (s) (d) (by simp)).lt
      have x0 := HC.out.bx.cell 0 (by decide)
      have x1 := HC.out.bx.cell 1 (by decide)
      have x2 := HC.out.bx.cell 2 (by decide)
      have xl := HC.out.bx.lt
      go_wp2_with fail
      refine (F3.out wr b1 t1 b2 t2 V L7.out LB.out).mono ?_
      rintro e9 w9 ⟨t3, rfl, hp9, hl9, hb9⟩
      have L8 := Lib.hid (L7.out.add (nw_new (ty := 28) hb9 hp9))
      have N3 := Lib.hid hl9
      clear hp9 hb9 hl9 L7
      clear q0 q1 q2 q3 q4 q5 ql
      clear x0 x1 x2 xl
      clear HC LB
      go_upto_region 13 with fail
      obtain ⟨v4, h0⟩ : ∃ W, W = w9.alloc (.cells #[.slice t3.w.a t3.w.n t3.w.c, .slice t3.p.a t3.p.n t3.p.c, .slice (t3.u 0).a (t3.u 0).n (t3.u 0).c, .slice (t3.u 1).a (t3.u 1).n (t3.u 1).c, .slice (t3.u 2).a (t3.u 2).n (t3.u 2).c, .slice t3.c.a t3.c.n t3.c.c] 28) := ⟨_, rfl⟩
      obtain ⟨b3, h1⟩ : ∃ b, b = w9.heap.size := ⟨_, rfl⟩
      rw [← h0, ← h1] at L8
      rw [← h0, ← h1]
      clear h0 h1
      have hlen : ∀ j, j < 3 → (t2.u j).n = (t3.u j).n := fun j hj => by
        have g2 := (L8.out.hp b2 t2 dY (by simp)).free.len j hj
        have g3 := (L8.out.hp b3 t3 dZ (by simp)).free.len j hj
        rw [g2, g3, FF.out j hj]
      have HLN := Lib.hid hlen
      clear hlen hk hlt
      go_wp2
      go_loopw [17] (fun i wr => ∃ k : Nat, k ≤ 3 ∧ i = .int .i64 k ∧ Hid (Mx w wr u v G H [(b3, t3, dZ), (b2, t2, dY), (b1, t1, d1), (w.heap.size, s, d)])) (fun i _ => 3 - (intOf i).toNat)
      case atStart => exact ⟨0, by omega, rfl, L8⟩
      case round =>
        obtain ⟨k, hk, rfl, HM⟩ := hrel
        clear L8
        by_cases hlt : k < 3
        · have dq : decide ((k : Int) < 3) = true := by simp; omega
          have LK := HLN.out k hlt
          have dl : (((t2.u k).n : Int) != (t3.u k).n) = false := by rw [LK]; simp
          have q0 := (HM.out.at b2 t2 dY (by simp)).c0
          have q1 := (HM.out.at b2 t2 dY (by simp)).c1
          have q2 := (HM.out.at b2 t2 dY (by simp)).c2
          have q3 := (HM.out.at b2 t2 dY (by simp)).c3
          have q4 := (HM.out.at b2 t2 dY (by simp)).c4
          have q5 := (HM.out.at b2 t2 dY (by simp)).c5
          have ql := (HM.out.at b2 t2 dY (by simp)).lt
          have x0 := (HM.out.at b3 t3 dZ (by simp)).c0
          have x1 := (HM.out.at b3 t3 dZ (by simp)).c1
          have x2 := (HM.out.at b3 t3 dZ (by simp)).c2
          have x3 := (HM.out.at b3 t3 dZ (by simp)).c3
          have x4 := (HM.out.at b3 t3 dZ (by simp)).c4
          have x5 := (HM.out.at b3 t3 dZ (by simp)).c5
          have xl := (HM.out.at b3 t3 dZ (by simp)).lt
          rcases (show k = 0 ∨ k = 1 ∨ k = 2 by omega) with rfl | rfl | rfl
          · go_wp2_with fail
            go_quiet (fail)
            go_wp2
            go_roundw
            case rel => exact ⟨1, by omega, by go_num, Lib.hid (HM.out.next (below_drawn' (Below.refl _ _) nq))⟩
            case measure => simp [intOf]
          · go_wp2_with fail
            go_quiet (fail)
            go_wp2
            go_roundw
            case rel => exact ⟨2, by omega, by go_num, Lib.hid (HM.out.next (below_drawn' (Below.refl _ _) nq))⟩
            case measure => simp [intOf]
          · go_wp2_with fail
            go_quiet (fail)
            go_wp2
            go_roundw
            case rel => exact ⟨3, by omega, by go_num, Lib.hid (HM.out.next (below_drawn' (Below.refl _ _) nq))⟩
            case measure => simp [intOf]
        · obtain rfl : k = 3 := by omega
          have dq : decide (((3 : Nat) : Int) < 3) = false := by simp
          have q1 := (HM.out.at b2 t2 dY (by simp)).c1
          have ql := (HM.out.at b2 t2 dY (by simp)).lt
          have x1 := (HM.out.at b3 t3 dZ (by simp)).c1
          have xl := (HM.out.at b3 t3 dZ (by simp)).lt
          go_wp2_with fail
          refine (SM.out wr b1 t1 b2 t2 b3 t3 N2.out N3.out HM.out).mono ?_
          rintro e9 w8 ⟨rfl, hb9⟩
          have L9 := Lib.hid (HM.out.next hb9)
          clear hb9 HM
          go_wp2
          go_ret
          exact ⟨rfl, L9.out.bel⟩
end
end Go.Proofs.YtcbnefjfoeanoaaDoor.ReapFlushes
