/-
  HandBegins: A thread that begins has nothing in its registers but what the first one's first has; it has answered just as far as that one has: for every thread of at most 220 operations, beside at most 6 others; the table of sizes is tied to the program's text by the card.
-/
import Derived.Test.YtgmkomnoiffapaaGreatDoorHpBJ
import Derived.Test.YtgmkomnoiffapaaGreatDoorBHaAwake
import Derived.Test.YtgmkomnoiffapaaGreatDoorHpBG
import Derived.Test.YtgmkomnoiffapaaGreatDoorBRtRef
import Derived.Test.YtgmkomnoiffapaaGreatDoorHpBK
namespace Go.Proofs.YtgmkomnoiffapaaGreatDoor.HandBegins
open Go.Proofs.YtgmkomnoiffapaaGreatDoor Go.Proofs.YtgmkomnoiffapaaGreatDoor.Rt Go.Proofs.YtgmkomnoiffapaaGreatDoor.Ha
open Go.ChangeShapes Go.WideShapes Go.ChangeAt Go.RowKit
open Go.Proofs.YtgmkomnoiffapaaGreatDoor.Mu (hv kv w_load w_loadg ldHb ldKb ldTb noK0)
set_option maxRecDepth 100000

section
variable (k : Sh.Ks) (xs : List Int) (t : Ts) (F : Nat → List Int) (g : Nat → O4) (T : Tl) (w : World)
set_option maxHeartbeats 1000000 in
theorem walk_few (hf : fewT t = false) (hz : Cl.Sz w) (hr : TRow w w.heap.size T.s.a T.s.n T.g) : Calls Tryz.prog 8 #[(.agg #[.int .i64 k.ph, .int .i64 k.ep, .bool k.mj, .slice k.wk.a k.wk.n k.wk.c, .bool k.ov, .int .i64 k.pa, .int .i64 k.pf, .int .i64 k.ps, .int .i64 k.pc, .bool k.me]), (.agg #[.bool t.lv, .int .i64 (t.r 0), .int .i64 (t.r 1), .int .i64 (t.r 2), .int .i64 (t.r 3), .slice (t.u 0).a (t.u 0).n (t.u 0).c, .slice (t.u 1).a (t.u 1).n (t.u 1).c, .slice (t.u 2).a (t.u 2).n (t.u 2).c, .int .i64 t.ep, .int .i64 t.sg, .int .i64 t.rt, .slice t.o.a t.o.n t.o.c, .int .i64 t.pc, .int .i64 t.x, .int .i64 t.y]), .slice T.s.a T.s.n T.s.c] w fun e w' => e = .returned (.bool true) ∧ Below w.heap.size w w' := by
  have HZ := Lib.hid hz
  have HR := Lib.hid hr
  have CF := Lib.hid (fun W => Rt.rfew_any t W)
  rw [hf] at CF
  clear hz hr hf
  go_enter Tryz.func8, Tryz.ntmps8
  go_upto_region 1 with fail
  obtain ⟨W1, hW1⟩ : ∃ W1, W1 = (w.alloc (.cells #[.int .i64 k.ph, .int .i64 k.ep, .bool k.mj, .slice k.wk.a k.wk.n k.wk.c, .bool k.ov, .int .i64 k.pa, .int .i64 k.pf, .int .i64 k.ps, .int .i64 k.pc, .bool k.me] 30)).alloc (.cells #[.bool t.lv, .int .i64 (t.r 0), .int .i64 (t.r 1), .int .i64 (t.r 2), .int .i64 (t.r 3), .slice (t.u 0).a (t.u 0).n (t.u 0).c, .slice (t.u 1).a (t.u 1).n (t.u 1).c, .slice (t.u 2).a (t.u 2).n (t.u 2).c, .int .i64 t.ep, .int .i64 t.sg, .int .i64 t.rt, .slice t.o.a t.o.n t.o.c, .int .i64 t.pc, .int .i64 t.x, .int .i64 t.y] 34) := ⟨_, rfl⟩
  have L1 : Hid (Lb w W1 [(w.heap.size + 1, tv t), (w.heap.size, kv k)] [] [T]) := Lib.hid (by
    have l := (((lb_none w).rows (T := T) HR.out).lay (kv k) 30).lay (tv t) 34
    rw [World.size_alloc] at l
    rw [hW1]
    exact l)
  rw [← hW1]
  clear hW1
  go_wp2_with (first
    | ((go_at_call 25); (with_reducible refine (Ha.awake_any _ (L1.out.over HZ.out)).mono ?_); rintro e9 w1 ⟨rfl, hb9⟩; have L2 := Lib.hid (L1.out.next hb9); clear hb9)
    | (refine w_load (ldTb (L2.out.bx (w.heap.size + 1) (tv t) (by simp))) rfl rfl rfl rfl ?_)
    | ((go_at_call 39); (with_reducible refine (CF.out _).mono ?_); rintro e9 w2 ⟨rfl, hb9⟩; have L3 := Lib.hid (L2.out.next hb9); clear hb9))
  go_ret
  exact ⟨rfl, L3.out.bel⟩
set_option maxHeartbeats 1000000 in
theorem walk_big (hf : fewT t = true) (hn : 6 < T.s.n) (hz : Cl.Sz w) (hr : TRow w w.heap.size T.s.a T.s.n T.g) : Calls Tryz.prog 8 #[(.agg #[.int .i64 k.ph, .int .i64 k.ep, .bool k.mj, .slice k.wk.a k.wk.n k.wk.c, .bool k.ov, .int .i64 k.pa, .int .i64 k.pf, .int .i64 k.ps, .int .i64 k.pc, .bool k.me]), (.agg #[.bool t.lv, .int .i64 (t.r 0), .int .i64 (t.r 1), .int .i64 (t.r 2), .int .i64 (t.r 3), .slice (t.u 0).a (t.u 0).n (t.u 0).c, .slice (t.u 1).a (t.u 1).n (t.u 1).c, .slice (t.u 2).a (t.u 2).n (t.u 2).c, .int .i64 t.ep, .int .i64 t.sg, .int .i64 t.rt, .slice t.o.a t.o.n t.o.c, .int .i64 t.pc, .int .i64 t.x, .int .i64 t.y]), .slice T.s.a T.s.n T.s.c] w fun e w' => e = .returned (.bool true) ∧ Below w.heap.size w w' := by
  have HZ := Lib.hid hz
  have HR := Lib.hid hr
  have CF := Lib.hid (fun W => Rt.rfew_any t W)
  rw [hf] at CF
  have ta : decide ((T.s.n : Int) > 6) = true := decide_eq_true (by omega)
  have tb : decide (6 < (T.s.n : Int)) = true := ta
  clear hz hr hf hn
  go_enter Tryz.func8, Tryz.ntmps8
  go_upto_region 1 with fail
  obtain ⟨W1, hW1⟩ : ∃ W1, W1 = (w.alloc (.cells #[.int .i64 k.ph, .int .i64 k.ep, .bool k.mj, .slice k.wk.a k.wk.n k.wk.c, .bool k.ov, .int .i64 k.pa, .int .i64 k.pf, .int .i64 k.ps, .int .i64 k.pc, .bool k.me] 30)).alloc (.cells #[.bool t.lv, .int .i64 (t.r 0), .int .i64 (t.r 1), .int .i64 (t.r 2), .int .i64 (t.r 3), .slice (t.u 0).a (t.u 0).n (t.u 0).c, .slice (t.u 1).a (t.u 1).n (t.u 1).c, .slice (t.u 2).a (t.u 2).n (t.u 2).c, .int .i64 t.ep, .int .i64 t.sg, .int .i64 t.rt, .slice t.o.a t.o.n t.o.c, .int .i64 t.pc, .int .i64 t.x, .int .i64 t.y] 34) := ⟨_, rfl⟩
  have L1 : Hid (Lb w W1 [(w.heap.size + 1, tv t), (w.heap.size, kv k)] [] [T]) := Lib.hid (by
    have l := (((lb_none w).rows (T := T) HR.out).lay (kv k) 30).lay (tv t) 34
    rw [World.size_alloc] at l
    rw [hW1]
    exact l)
  rw [← hW1]
  clear hW1
  go_wp2_with (first
    | ((go_at_call 25); (with_reducible refine (Ha.awake_any _ (L1.out.over HZ.out)).mono ?_); rintro e9 w1 ⟨rfl, hb9⟩; have L2 := Lib.hid (L1.out.next hb9); clear hb9)
    | (refine w_load (ldTb (L2.out.bx (w.heap.size + 1) (tv t) (by simp))) rfl rfl rfl rfl ?_)
    | ((go_at_call 39); (with_reducible refine (CF.out _).mono ?_); rintro e9 w2 ⟨rfl, hb9⟩; have L3 := Lib.hid (L2.out.next hb9); clear hb9))
  go_ret
  exact ⟨rfl, L3.out.bel⟩
set_option maxHeartbeats 8000000 in
theorem walk_none_other (hf : fewT t = true) (hn : T.s.n ≤ 6) (hi : idxT lvB T = -1) (hno : ∀ i, i < T.s.n → (T.g i).lv = false) (h3 : ¬ k.ph = 3) (h5 : ¬ k.ph = 5) (hz : Cl.Sz w) (hk : Sh.WRow w w.heap.size k xs) (ht : Th w w.heap.size t F g) (hr : TRow w w.heap.size T.s.a T.s.n T.g) : Calls Tryz.prog 8 #[(.agg #[.int .i64 k.ph, .int .i64 k.ep, .bool k.mj, .slice k.wk.a k.wk.n k.wk.c, .bool k.ov, .int .i64 k.pa, .int .i64 k.pf, .int .i64 k.ps, .int .i64 k.pc, .bool k.me]), (.agg #[.bool t.lv, .int .i64 (t.r 0), .int .i64 (t.r 1), .int .i64 (t.r 2), .int .i64 (t.r 3), .slice (t.u 0).a (t.u 0).n (t.u 0).c, .slice (t.u 1).a (t.u 1).n (t.u 1).c, .slice (t.u 2).a (t.u 2).n (t.u 2).c, .int .i64 t.ep, .int .i64 t.sg, .int .i64 t.rt, .slice t.o.a t.o.n t.o.c, .int .i64 t.pc, .int .i64 t.x, .int .i64 t.y]), .slice T.s.a T.s.n T.s.c] w fun e w' => e = .returned (.bool true) ∧ Below w.heap.size w w' := by
  have HZ := Lib.hid hz
  have HR := Lib.hid hr
  have CF := Lib.hid (fun W => Rt.rfew_any t W)
  rw [hf] at CF
  have ta : decide ((T.s.n : Int) > 6) = false := decide_eq_false (by omega)
  have tb : decide (6 < (T.s.n : Int)) = false := ta
  have NN := Lib.hid hn
  have NO := Lib.hid hno
  have p3a : decide (k.ph = 3) = false := decide_eq_false h3
  have p3b : (k.ph == 3) = false := p3a
  have p3c : (k.ph != 3) = true := by simp only [bne, p3b]; rfl
  have p5a : decide (k.ph = 5) = false := decide_eq_false h5
  have p5b : (k.ph == 5) = false := p5a
  have p5c : (k.ph != 5) = true := by simp only [bne, p5b]; rfl
  clear hno h3 h5
  have S9 := few_small hf
  have C5 := Lib.hid (fun W (hL : Lb w W [(w.heap.size + 1, tv t), (w.heap.size, kv k)] [] [T]) => (begin_any k xs T t F g W (Sh.WRow.next hk hL.bel) (ht.next hL.bel) (hL.rw T (by simp)) (by omega) S9.1 S9.2).mono fun _ _ h => beg_none hi h)
  clear hz hk ht hr hf hn hi S9
  go_enter Tryz.func8, Tryz.ntmps8
  go_upto_region 1 with fail
  obtain ⟨W1, hW1⟩ : ∃ W1, W1 = (w.alloc (.cells #[.int .i64 k.ph, .int .i64 k.ep, .bool k.mj, .slice k.wk.a k.wk.n k.wk.c, .bool k.ov, .int .i64 k.pa, .int .i64 k.pf, .int .i64 k.ps, .int .i64 k.pc, .bool k.me] 30)).alloc (.cells #[.bool t.lv, .int .i64 (t.r 0), .int .i64 (t.r 1), .int .i64 (t.r 2), .int .i64 (t.r 3), .slice (t.u 0).a (t.u 0).n (t.u 0).c, .slice (t.u 1).a (t.u 1).n (t.u 1).c, .slice (t.u 2).a (t.u 2).n (t.u 2).c, .int .i64 t.ep, .int .i64 t.sg, .int .i64 t.rt, .slice t.o.a t.o.n t.o.c, .int .i64 t.pc, .int .i64 t.x, .int .i64 t.y] 34) := ⟨_, rfl⟩
  have L1 : Hid (Lb w W1 [(w.heap.size + 1, tv t), (w.heap.size, kv k)] [] [T]) := Lib.hid (by
    have l := (((lb_none w).rows (T := T) HR.out).lay (kv k) 30).lay (tv t) 34
    rw [World.size_alloc] at l
    rw [hW1]
    exact l)
  rw [← hW1]
  clear hW1
  go_upto_region 6 with (first
    | ((go_at_call 25); (with_reducible refine (Ha.awake_any _ (L1.out.over HZ.out)).mono ?_); rintro e9 w1 ⟨rfl, hb9⟩; have L2 := Lib.hid (L1.out.next hb9); clear hb9)
    | (refine w_load (ldTb (L2.out.bx (w.heap.size + 1) (tv t) (by simp))) rfl rfl rfl rfl ?_)
    | ((go_at_call 39); (with_reducible refine (CF.out _).mono ?_); rintro e9 w2 ⟨rfl, hb9⟩; have L3 := Lib.hid (L2.out.next hb9); clear hb9)
    | (refine w_load (ldKb (L3.out.bx (w.heap.size) (kv k) (by simp))) rfl rfl rfl rfl ?_)
    | (refine w_load (ldTb (L3.out.bx (w.heap.size + 1) (tv t) (by simp))) rfl rfl rfl rfl ?_)
    | ((go_at_call 31); (with_reducible refine (C5.out _ L3.out).mono ?_); rintro e9 w5 ⟨m, rfl, hf9, hb9⟩; have L5 := Lib.hid (L3.out.next hb9); have M5 := Lib.hid hf9; clear hf9 hb9 L3))
  obtain ⟨W6', hW⟩ : ∃ W6', W6' = w5.alloc (.cells #[.bool m.lv, .int .i64 (m.r 0), .int .i64 (m.r 1), .int .i64 (m.r 2), .int .i64 (m.r 3), .slice (m.u 0).a (m.u 0).n (m.u 0).c, .slice (m.u 1).a (m.u 1).n (m.u 1).c, .slice (m.u 2).a (m.u 2).n (m.u 2).c, .int .i64 m.ep, .int .i64 m.sg, .int .i64 m.rt, .slice m.o.a m.o.n m.o.c, .int .i64 m.pc, .int .i64 m.x, .int .i64 m.y] 34) := ⟨_, rfl⟩
  have L6 : Hid (Lb w W6' ((w5.heap.size, tv m) :: [(w.heap.size + 1, tv t), (w.heap.size, kv k)]) [] [T]) := Lib.hid (by rw [hW]; exact L5.out.lay (tv m) 34)
  obtain ⟨b9, hb9⟩ : ∃ b9, b9 = w5.heap.size := ⟨_, rfl⟩
  rw [← hb9] at L6
  rw [← hW]
  rw [← hb9]
  clear hW L5 hb9
  go_wp2
  go_loopw [10, 11] (fun f i wr => ∃ q : Nat, q ≤ T.s.n ∧ f = .int .i64 (-1) ∧ i = .int .i64 q ∧ Hid (Lb w wr ((b9, tv m) :: [(w.heap.size + 1, tv t), (w.heap.size, kv k)]) [] [T])) (fun _ i _ => T.s.n - (intOf i).toNat)
  case atStart => exact ⟨0, Nat.zero_le _, rfl, rfl, L6⟩
  case round =>
    obtain ⟨q, hq, rfl, rfl, R⟩ := hrel
    by_cases hlt : q < T.s.n
    · have hltz : (q : Int) < (T.s.n : Int) := by omega
      have hq6 : T.s.n ≤ 6 := NN.out
      obtain ⟨b, off, ea, _, _⟩ := HR.out (by omega)
      have c0 : wr.cell? ⟨b, off + q * 15, none⟩ = some (.bool false) := TRow.cell (R.out.rw T (by simp)) ea hlt 0 (.bool false) (by rw [← NO.out q hlt]; rfl)
      go_wp2
      go_roundw
      case rel => exact ⟨q + 1, by omega, rfl, by go_num, R⟩
      case measure => simp [intOf]; omega
    · obtain rfl : q = T.s.n := by omega
      have hltz : ¬ (T.s.n : Int) < (T.s.n : Int) := by omega
      have CH := Lib.hid (fun W => holds_nil M5.out W)
      go_upto_region 13 with (first
        | (refine w_load (ldTb (R.out.bx (b9) (tv m) (by simp))) rfl rfl rfl rfl ?_)
        | ((go_at_call 40); (with_reducible refine (CH.out _).mono ?_); rintro e9 w7 ⟨a7, c7, rfl, hb9⟩; have R7 := Lib.hid (R.out.next hb9); clear hb9 R))
      have q0 := (R7.out.bx (b9) (tv m) (by simp)).cel 0 (.bool true) (by rw [← M5.out.lv]; rfl)
      have q1 := (R7.out.bx (b9) (tv m) (by simp)).cel 11 (.slice m.o.a t.o.n m.o.c) (by rw [← M5.out.o]; rfl)
      have q2 := (R7.out.bx (b9) (tv m) (by simp)).cel 12 (.int .i64 0) (by rw [← M5.out.pc]; rfl)
      have q3 := (R7.out.bx (b9) (tv m) (by simp)).cel 10 (.int .i64 0) (by rw [← M5.out.rt]; rfl)
      have q4 := (R7.out.bx (b9) (tv m) (by simp)).cel 2 (.int .i64 0) (by rw [← M5.out.r1]; rfl)
      have q5 := (R7.out.bx (b9) (tv m) (by simp)).cel 3 (.int .i64 0) (by rw [← M5.out.r2]; rfl)
      have q6 := (R7.out.bx (b9) (tv m) (by simp)).cel 4 (.int .i64 0) (by rw [← M5.out.r3]; rfl)
      have q7 := (R7.out.bx (w.heap.size + 1) (tv t) (by simp)).cel 11 (.slice t.o.a t.o.n t.o.c) (rfl)
      have g4 : ((t.o.n : Int) != (t.o.n : Int)) = false := by simp
      have HL := Lib.hid (fun a => (show allB k.ph k.ep ⟨⟨a, 1, 1⟩, fun _ => m⟩ = true by rw [all_one _ _ _ _ rfl, alone_open M5.out]; rfl))
      have CA := Lib.hid (fun W => asked_any k m W)
      rw [alone_ask M5.out] at CA
      go_upto_region 15 with fail
      clear q0 q1 q2 q3 q4 q5 q6 q7 g4
      go_upto_region 19 with (first
        | (refine w_load (ldKb (R7.out.bx (w.heap.size) (kv k) (by simp))) rfl rfl rfl rfl ?_)
        | (refine w_load (ldTb (R7.out.bx (b9) (tv m) (by simp))) rfl rfl rfl rfl ?_)
        | ((go_at_call 35); refine (all_any k ⟨⟨some ⟨w7.heap.size, 0, none⟩, 1, 1⟩, fun _ => m⟩ _ (one_new w7 m 34) (show 1 ≤ 1000000 by decide)).mono ?_; rintro e9 w8 ⟨he9, hb9⟩; rw [HL.out _] at he9; subst he9; have R8 := Lib.hid (R7.out.next (((Below.refl _ _).alloc (Nat.le_refl _) _).trans (hb9.mono (by simp)))); clear hb9 R7)
        | (refine w_loadg (ldKb (R8.out.bx (w.heap.size) (kv k) (by simp))) rfl (by kernel_rfl) rfl rfl ?_)
        | (refine w_loadg (ldTb (R8.out.bx (b9) (tv m) (by simp))) rfl (by kernel_rfl) rfl rfl ?_)
        | ((go_at_call 33); (with_reducible refine (CA.out _).mono ?_); rintro e9 w10 ⟨rfl, hb9⟩; have R9 := Lib.hid (R8.out.next hb9); clear hb9))
      have c1 := (R9.out.bx (w.heap.size) (kv k) (by simp)).cel 0 (.int .i64 k.ph) (rfl)
      go_wp2
      go_ret
      exact ⟨rfl, R9.out.bel⟩
set_option maxHeartbeats 8000000 in
theorem walk_none_roots (hf : fewT t = true) (hn : T.s.n ≤ 6) (hi : idxT lvB T = -1) (hno : ∀ i, i < T.s.n → (T.g i).lv = false) (h3 : k.ph = 3) (hz : Cl.Sz w) (hk : Sh.WRow w w.heap.size k xs) (ht : Th w w.heap.size t F g) (hr : TRow w w.heap.size T.s.a T.s.n T.g) : Calls Tryz.prog 8 #[(.agg #[.int .i64 k.ph, .int .i64 k.ep, .bool k.mj, .slice k.wk.a k.wk.n k.wk.c, .bool k.ov, .int .i64 k.pa, .int .i64 k.pf, .int .i64 k.ps, .int .i64 k.pc, .bool k.me]), (.agg #[.bool t.lv, .int .i64 (t.r 0), .int .i64 (t.r 1), .int .i64 (t.r 2), .int .i64 (t.r 3), .slice (t.u 0).a (t.u 0).n (t.u 0).c, .slice (t.u 1).a (t.u 1).n (t.u 1).c, .slice (t.u 2).a (t.u 2).n (t.u 2).c, .int .i64 t.ep, .int .i64 t.sg, .int .i64 t.rt, .slice t.o.a t.o.n t.o.c, .int .i64 t.pc, .int .i64 t.x, .int .i64 t.y]), .slice T.s.a T.s.n T.s.c] w fun e w' => e = .returned (.bool true) ∧ Below w.heap.size w w' := by
  have HZ := Lib.hid hz
  have HR := Lib.hid hr
  have CF := Lib.hid (fun W => Rt.rfew_any t W)
  rw [hf] at CF
  have ta : decide ((T.s.n : Int) > 6) = false := decide_eq_false (by omega)
  have tb : decide (6 < (T.s.n : Int)) = false := ta
  have NN := Lib.hid hn
  have NO := Lib.hid hno
  have PH : Hid (k.ph = 3 ∨ k.ph = 5) := Lib.hid (.inl h3)
  have p3a : decide (k.ph = 3) = true := decide_eq_true h3
  have p3b : (k.ph == 3) = true := p3a
  have p3c : (k.ph != 3) = false := by simp only [bne, p3b]; rfl
  clear hno h3
  have S9 := few_small hf
  have C5 := Lib.hid (fun W (hL : Lb w W [(w.heap.size + 1, tv t), (w.heap.size, kv k)] [] [T]) => (begin_any k xs T t F g W (Sh.WRow.next hk hL.bel) (ht.next hL.bel) (hL.rw T (by simp)) (by omega) S9.1 S9.2).mono fun _ _ h => beg_none hi h)
  clear hz hk ht hr hf hn hi S9
  go_enter Tryz.func8, Tryz.ntmps8
  go_upto_region 1 with fail
  obtain ⟨W1, hW1⟩ : ∃ W1, W1 = (w.alloc (.cells #[.int .i64 k.ph, .int .i64 k.ep, .bool k.mj, .slice k.wk.a k.wk.n k.wk.c, .bool k.ov, .int .i64 k.pa, .int .i64 k.pf, .int .i64 k.ps, .int .i64 k.pc, .bool k.me] 30)).alloc (.cells #[.bool t.lv, .int .i64 (t.r 0), .int .i64 (t.r 1), .int .i64 (t.r 2), .int .i64 (t.r 3), .slice (t.u 0).a (t.u 0).n (t.u 0).c, .slice (t.u 1).a (t.u 1).n (t.u 1).c, .slice (t.u 2).a (t.u 2).n (t.u 2).c, .int .i64 t.ep, .int .i64 t.sg, .int .i64 t.rt, .slice t.o.a t.o.n t.o.c, .int .i64 t.pc, .int .i64 t.x, .int .i64 t.y] 34) := ⟨_, rfl⟩
  have L1 : Hid (Lb w W1 [(w.heap.size + 1, tv t), (w.heap.size, kv k)] [] [T]) := Lib.hid (by
    have l := (((lb_none w).rows (T := T) HR.out).lay (kv k) 30).lay (tv t) 34
    rw [World.size_alloc] at l
    rw [hW1]
    exact l)
  rw [← hW1]
  clear hW1
  go_upto_region 6 with (first
    | ((go_at_call 25); (with_reducible refine (Ha.awake_any _ (L1.out.over HZ.out)).mono ?_); rintro e9 w1 ⟨rfl, hb9⟩; have L2 := Lib.hid (L1.out.next hb9); clear hb9)
    | (refine w_load (ldTb (L2.out.bx (w.heap.size + 1) (tv t) (by simp))) rfl rfl rfl rfl ?_)
    | ((go_at_call 39); (with_reducible refine (CF.out _).mono ?_); rintro e9 w2 ⟨rfl, hb9⟩; have L3 := Lib.hid (L2.out.next hb9); clear hb9)
    | (refine w_load (ldKb (L3.out.bx (w.heap.size) (kv k) (by simp))) rfl rfl rfl rfl ?_)
    | (refine w_load (ldTb (L3.out.bx (w.heap.size + 1) (tv t) (by simp))) rfl rfl rfl rfl ?_)
    | ((go_at_call 31); (with_reducible refine (C5.out _ L3.out).mono ?_); rintro e9 w5 ⟨m, rfl, hf9, hb9⟩; have L5 := Lib.hid (L3.out.next hb9); have M5 := Lib.hid hf9; clear hf9 hb9 L3))
  obtain ⟨W6', hW⟩ : ∃ W6', W6' = w5.alloc (.cells #[.bool m.lv, .int .i64 (m.r 0), .int .i64 (m.r 1), .int .i64 (m.r 2), .int .i64 (m.r 3), .slice (m.u 0).a (m.u 0).n (m.u 0).c, .slice (m.u 1).a (m.u 1).n (m.u 1).c, .slice (m.u 2).a (m.u 2).n (m.u 2).c, .int .i64 m.ep, .int .i64 m.sg, .int .i64 m.rt, .slice m.o.a m.o.n m.o.c, .int .i64 m.pc, .int .i64 m.x, .int .i64 m.y] 34) := ⟨_, rfl⟩
  have L6 : Hid (Lb w W6' ((w5.heap.size, tv m) :: [(w.heap.size + 1, tv t), (w.heap.size, kv k)]) [] [T]) := Lib.hid (by rw [hW]; exact L5.out.lay (tv m) 34)
  obtain ⟨b9, hb9⟩ : ∃ b9, b9 = w5.heap.size := ⟨_, rfl⟩
  rw [← hb9] at L6
  rw [← hW]
  rw [← hb9]
  clear hW L5 hb9
  go_wp2
  go_loopw [10, 11] (fun f i wr => ∃ q : Nat, q ≤ T.s.n ∧ f = .int .i64 (-1) ∧ i = .int .i64 q ∧ Hid (Lb w wr ((b9, tv m) :: [(w.heap.size + 1, tv t), (w.heap.size, kv k)]) [] [T])) (fun _ i _ => T.s.n - (intOf i).toNat)
  case atStart => exact ⟨0, Nat.zero_le _, rfl, rfl, L6⟩
  case round =>
    obtain ⟨q, hq, rfl, rfl, R⟩ := hrel
    by_cases hlt : q < T.s.n
    · have hltz : (q : Int) < (T.s.n : Int) := by omega
      have hq6 : T.s.n ≤ 6 := NN.out
      obtain ⟨b, off, ea, _, _⟩ := HR.out (by omega)
      have c0 : wr.cell? ⟨b, off + q * 15, none⟩ = some (.bool false) := TRow.cell (R.out.rw T (by simp)) ea hlt 0 (.bool false) (by rw [← NO.out q hlt]; rfl)
      go_wp2
      go_roundw
      case rel => exact ⟨q + 1, by omega, rfl, by go_num, R⟩
      case measure => simp [intOf]; omega
    · obtain rfl : q = T.s.n := by omega
      have hltz : ¬ (T.s.n : Int) < (T.s.n : Int) := by omega
      have CH := Lib.hid (fun W => holds_nil M5.out W)
      go_upto_region 13 with (first
        | (refine w_load (ldTb (R.out.bx (b9) (tv m) (by simp))) rfl rfl rfl rfl ?_)
        | ((go_at_call 40); (with_reducible refine (CH.out _).mono ?_); rintro e9 w7 ⟨a7, c7, rfl, hb9⟩; have R7 := Lib.hid (R.out.next hb9); clear hb9 R))
      have q0 := (R7.out.bx (b9) (tv m) (by simp)).cel 0 (.bool true) (by rw [← M5.out.lv]; rfl)
      have q1 := (R7.out.bx (b9) (tv m) (by simp)).cel 11 (.slice m.o.a t.o.n m.o.c) (by rw [← M5.out.o]; rfl)
      have q2 := (R7.out.bx (b9) (tv m) (by simp)).cel 12 (.int .i64 0) (by rw [← M5.out.pc]; rfl)
      have q3 := (R7.out.bx (b9) (tv m) (by simp)).cel 10 (.int .i64 0) (by rw [← M5.out.rt]; rfl)
      have q4 := (R7.out.bx (b9) (tv m) (by simp)).cel 2 (.int .i64 0) (by rw [← M5.out.r1]; rfl)
      have q5 := (R7.out.bx (b9) (tv m) (by simp)).cel 3 (.int .i64 0) (by rw [← M5.out.r2]; rfl)
      have q6 := (R7.out.bx (b9) (tv m) (by simp)).cel 4 (.int .i64 0) (by rw [← M5.out.r3]; rfl)
      have q7 := (R7.out.bx (w.heap.size + 1) (tv t) (by simp)).cel 11 (.slice t.o.a t.o.n t.o.c) (rfl)
      have g4 : ((t.o.n : Int) != (t.o.n : Int)) = false := by simp
      have HL := Lib.hid (fun a => (show allB k.ph k.ep ⟨⟨a, 1, 1⟩, fun _ => m⟩ = true by rw [all_one _ _ _ _ rfl, alone_open M5.out]; rfl))
      have CA := Lib.hid (fun W => asked_any k m W)
      rw [alone_ask M5.out] at CA
      go_upto_region 15 with fail
      clear q0 q1 q2 q3 q4 q5 q6 q7 g4
      go_upto_region 19 with (first
        | (refine w_load (ldKb (R7.out.bx (w.heap.size) (kv k) (by simp))) rfl rfl rfl rfl ?_)
        | (refine w_load (ldTb (R7.out.bx (b9) (tv m) (by simp))) rfl rfl rfl rfl ?_)
        | ((go_at_call 35); refine (all_any k ⟨⟨some ⟨w7.heap.size, 0, none⟩, 1, 1⟩, fun _ => m⟩ _ (one_new w7 m 34) (show 1 ≤ 1000000 by decide)).mono ?_; rintro e9 w8 ⟨he9, hb9⟩; rw [HL.out _] at he9; subst he9; have R8 := Lib.hid (R7.out.next (((Below.refl _ _).alloc (Nat.le_refl _) _).trans (hb9.mono (by simp)))); clear hb9 R7)
        | (refine w_loadg (ldKb (R8.out.bx (w.heap.size) (kv k) (by simp))) rfl (by kernel_rfl) rfl rfl ?_)
        | (refine w_loadg (ldTb (R8.out.bx (b9) (tv m) (by simp))) rfl (by kernel_rfl) rfl rfl ?_)
        | ((go_at_call 33); (with_reducible refine (CA.out _).mono ?_); rintro e9 w10 ⟨rfl, hb9⟩; have R9 := Lib.hid (R8.out.next hb9); clear hb9))
      have c1 := (R9.out.bx (w.heap.size) (kv k) (by simp)).cel 0 (.int .i64 k.ph) (rfl)
      have BA := alone_black M5.out PH.out
      have CB := Lib.hid (fun W => pblack_any k m W)
      have CR := Lib.hid (fun W => parmed_any k m W)
      rw [BA.1] at CB
      rw [BA.2] at CR
      clear BA
      go_wp2_with (first
        | (refine w_loadg (ldKb (R9.out.bx (w.heap.size) (kv k) (by simp))) rfl (by kernel_rfl) rfl rfl ?_)
        | (refine w_loadg (ldTb (R9.out.bx (b9) (tv m) (by simp))) rfl (by kernel_rfl) rfl rfl ?_)
        | ((go_at_call 22); (with_reducible refine (CB.out _).mono ?_); rintro e9 w11 ⟨rfl, hb9⟩; have RA := Lib.hid (R9.out.next hb9); clear hb9)
        | (refine w_loadg (ldKb (RA.out.bx (w.heap.size) (kv k) (by simp))) rfl (by kernel_rfl) rfl rfl ?_)
        | (refine w_loadg (ldTb (RA.out.bx (b9) (tv m) (by simp))) rfl (by kernel_rfl) rfl rfl ?_)
        | ((go_at_call 19); (with_reducible refine (CR.out _).mono ?_); rintro e9 w12 ⟨rfl, hb9⟩; have RB := Lib.hid (RA.out.next hb9); clear hb9))
      go_ret
      exact ⟨rfl, RB.out.bel⟩
set_option maxHeartbeats 8000000 in
theorem walk_none_trace (hf : fewT t = true) (hn : T.s.n ≤ 6) (hi : idxT lvB T = -1) (hno : ∀ i, i < T.s.n → (T.g i).lv = false) (h5 : k.ph = 5) (hz : Cl.Sz w) (hk : Sh.WRow w w.heap.size k xs) (ht : Th w w.heap.size t F g) (hr : TRow w w.heap.size T.s.a T.s.n T.g) : Calls Tryz.prog 8 #[(.agg #[.int .i64 k.ph, .int .i64 k.ep, .bool k.mj, .slice k.wk.a k.wk.n k.wk.c, .bool k.ov, .int .i64 k.pa, .int .i64 k.pf, .int .i64 k.ps, .int .i64 k.pc, .bool k.me]), (.agg #[.bool t.lv, .int .i64 (t.r 0), .int .i64 (t.r 1), .int .i64 (t.r 2), .int .i64 (t.r 3), .slice (t.u 0).a (t.u 0).n (t.u 0).c, .slice (t.u 1).a (t.u 1).n (t.u 1).c, .slice (t.u 2).a (t.u 2).n (t.u 2).c, .int .i64 t.ep, .int .i64 t.sg, .int .i64 t.rt, .slice t.o.a t.o.n t.o.c, .int .i64 t.pc, .int .i64 t.x, .int .i64 t.y]), .slice T.s.a T.s.n T.s.c] w fun e w' => e = .returned (.bool true) ∧ Below w.heap.size w w' := by
  have HZ := Lib.hid hz
  have HR := Lib.hid hr
  have CF := Lib.hid (fun W => Rt.rfew_any t W)
  rw [hf] at CF
  have ta : decide ((T.s.n : Int) > 6) = false := decide_eq_false (by omega)
  have tb : decide (6 < (T.s.n : Int)) = false := ta
  have NN := Lib.hid hn
  have NO := Lib.hid hno
  have PH : Hid (k.ph = 3 ∨ k.ph = 5) := Lib.hid (.inr h5)
  have p3a : decide (k.ph = 3) = false := decide_eq_false (by omega)
  have p3b : (k.ph == 3) = false := p3a
  have p3c : (k.ph != 3) = true := by simp only [bne, p3b]; rfl
  have p5a : decide (k.ph = 5) = true := decide_eq_true h5
  have p5b : (k.ph == 5) = true := p5a
  have p5c : (k.ph != 5) = false := by simp only [bne, p5b]; rfl
  clear hno h5
  have S9 := few_small hf
  have C5 := Lib.hid (fun W (hL : Lb w W [(w.heap.size + 1, tv t), (w.heap.size, kv k)] [] [T]) => (begin_any k xs T t F g W (Sh.WRow.next hk hL.bel) (ht.next hL.bel) (hL.rw T (by simp)) (by omega) S9.1 S9.2).mono fun _ _ h => beg_none hi h)
  clear hz hk ht hr hf hn hi S9
  go_enter Tryz.func8, Tryz.ntmps8
  go_upto_region 1 with fail
  obtain ⟨W1, hW1⟩ : ∃ W1, W1 = (w.alloc (.cells #[.int .i64 k.ph, .int .i64 k.ep, .bool k.mj, .slice k.wk.a k.wk.n k.wk.c, .bool k.ov, .int .i64 k.pa, .int .i64 k.pf, .int .i64 k.ps, .int .i64 k.pc, .bool k.me] 30)).alloc (.cells #[.bool t.lv, .int .i64 (t.r 0), .int .i64 (t.r 1), .int .i64 (t.r 2), .int .i64 (t.r 3), .slice (t.u 0).a (t.u 0).n (t.u 0).c, .slice (t.u 1).a (t.u 1).n (t.u 1).c, .slice (t.u 2).a (t.u 2).n (t.u 2).c, .int .i64 t.ep, .int .i64 t.sg, .int .i64 t.rt, .slice t.o.a t.o.n t.o.c, .int .i64 t.pc, .int .i64 t.x, .int .i64 t.y] 34) := ⟨_, rfl⟩
  have L1 : Hid (Lb w W1 [(w.heap.size + 1, tv t), (w.heap.size, kv k)] [] [T]) := Lib.hid (by
    have l := (((lb_none w).rows (T := T) HR.out).lay (kv k) 30).lay (tv t) 34
    rw [World.size_alloc] at l
    rw [hW1]
    exact l)
  rw [← hW1]
  clear hW1
  go_upto_region 6 with (first
    | ((go_at_call 25); (with_reducible refine (Ha.awake_any _ (L1.out.over HZ.out)).mono ?_); rintro e9 w1 ⟨rfl, hb9⟩; have L2 := Lib.hid (L1.out.next hb9); clear hb9)
    | (refine w_load (ldTb (L2.out.bx (w.heap.size + 1) (tv t) (by simp))) rfl rfl rfl rfl ?_)
    | ((go_at_call 39); (with_reducible refine (CF.out _).mono ?_); rintro e9 w2 ⟨rfl, hb9⟩; have L3 := Lib.hid (L2.out.next hb9); clear hb9)
    | (refine w_load (ldKb (L3.out.bx (w.heap.size) (kv k) (by simp))) rfl rfl rfl rfl ?_)
    | (refine w_load (ldTb (L3.out.bx (w.heap.size + 1) (tv t) (by simp))) rfl rfl rfl rfl ?_)
    | ((go_at_call 31); (with_reducible refine (C5.out _ L3.out).mono ?_); rintro e9 w5 ⟨m, rfl, hf9, hb9⟩; have L5 := Lib.hid (L3.out.next hb9); have M5 := Lib.hid hf9; clear hf9 hb9 L3))
  obtain ⟨W6', hW⟩ : ∃ W6', W6' = w5.alloc (.cells #[.bool m.lv, .int .i64 (m.r 0), .int .i64 (m.r 1), .int .i64 (m.r 2), .int .i64 (m.r 3), .slice (m.u 0).a (m.u 0).n (m.u 0).c, .slice (m.u 1).a (m.u 1).n (m.u 1).c, .slice (m.u 2).a (m.u 2).n (m.u 2).c, .int .i64 m.ep, .int .i64 m.sg, .int .i64 m.rt, .slice m.o.a m.o.n m.o.c, .int .i64 m.pc, .int .i64 m.x, .int .i64 m.y] 34) := ⟨_, rfl⟩
  have L6 : Hid (Lb w W6' ((w5.heap.size, tv m) :: [(w.heap.size + 1, tv t), (w.heap.size, kv k)]) [] [T]) := Lib.hid (by rw [hW]; exact L5.out.lay (tv m) 34)
  obtain ⟨b9, hb9⟩ : ∃ b9, b9 = w5.heap.size := ⟨_, rfl⟩
  rw [← hb9] at L6
  rw [← hW]
  rw [← hb9]
  clear hW L5 hb9
  go_wp2
  go_loopw [10, 11] (fun f i wr => ∃ q : Nat, q ≤ T.s.n ∧ f = .int .i64 (-1) ∧ i = .int .i64 q ∧ Hid (Lb w wr ((b9, tv m) :: [(w.heap.size + 1, tv t), (w.heap.size, kv k)]) [] [T])) (fun _ i _ => T.s.n - (intOf i).toNat)
  case atStart => exact ⟨0, Nat.zero_le _, rfl, rfl, L6⟩
  case round =>
    obtain ⟨q, hq, rfl, rfl, R⟩ := hrel
    by_cases hlt : q < T.s.n
    · have hltz : (q : Int) < (T.s.n : Int) := by omega
      have hq6 : T.s.n ≤ 6 := NN.out
      obtain ⟨b, off, ea, _, _⟩ := HR.out (by omega)
      have c0 : wr.cell? ⟨b, off + q * 15, none⟩ = some (.bool false) := TRow.cell (R.out.rw T (by simp)) ea hlt 0 (.bool false) (by rw [← NO.out q hlt]; rfl)
      go_wp2
      go_roundw
      case rel => exact ⟨q + 1, by omega, rfl, by go_num, R⟩
      case measure => simp [intOf]; omega
    · obtain rfl : q = T.s.n := by omega
      have hltz : ¬ (T.s.n : Int) < (T.s.n : Int) := by omega
      have CH := Lib.hid (fun W => holds_nil M5.out W)
      go_upto_region 13 with (first
        | (refine w_load (ldTb (R.out.bx (b9) (tv m) (by simp))) rfl rfl rfl rfl ?_)
        | ((go_at_call 40); (with_reducible refine (CH.out _).mono ?_); rintro e9 w7 ⟨a7, c7, rfl, hb9⟩; have R7 := Lib.hid (R.out.next hb9); clear hb9 R))
      have q0 := (R7.out.bx (b9) (tv m) (by simp)).cel 0 (.bool true) (by rw [← M5.out.lv]; rfl)
      have q1 := (R7.out.bx (b9) (tv m) (by simp)).cel 11 (.slice m.o.a t.o.n m.o.c) (by rw [← M5.out.o]; rfl)
      have q2 := (R7.out.bx (b9) (tv m) (by simp)).cel 12 (.int .i64 0) (by rw [← M5.out.pc]; rfl)
      have q3 := (R7.out.bx (b9) (tv m) (by simp)).cel 10 (.int .i64 0) (by rw [← M5.out.rt]; rfl)
      have q4 := (R7.out.bx (b9) (tv m) (by simp)).cel 2 (.int .i64 0) (by rw [← M5.out.r1]; rfl)
      have q5 := (R7.out.bx (b9) (tv m) (by simp)).cel 3 (.int .i64 0) (by rw [← M5.out.r2]; rfl)
      have q6 := (R7.out.bx (b9) (tv m) (by simp)).cel 4 (.int .i64 0) (by rw [← M5.out.r3]; rfl)
      have q7 := (R7.out.bx (w.heap.size + 1) (tv t) (by simp)).cel 11 (.slice t.o.a t.o.n t.o.c) (rfl)
      have g4 : ((t.o.n : Int) != (t.o.n : Int)) = false := by simp
      have HL := Lib.hid (fun a => (show allB k.ph k.ep ⟨⟨a, 1, 1⟩, fun _ => m⟩ = true by rw [all_one _ _ _ _ rfl, alone_open M5.out]; rfl))
      have CA := Lib.hid (fun W => asked_any k m W)
      rw [alone_ask M5.out] at CA
      go_upto_region 15 with fail
      clear q0 q1 q2 q3 q4 q5 q6 q7 g4
      go_upto_region 19 with (first
        | (refine w_load (ldKb (R7.out.bx (w.heap.size) (kv k) (by simp))) rfl rfl rfl rfl ?_)
        | (refine w_load (ldTb (R7.out.bx (b9) (tv m) (by simp))) rfl rfl rfl rfl ?_)
        | ((go_at_call 35); refine (all_any k ⟨⟨some ⟨w7.heap.size, 0, none⟩, 1, 1⟩, fun _ => m⟩ _ (one_new w7 m 34) (show 1 ≤ 1000000 by decide)).mono ?_; rintro e9 w8 ⟨he9, hb9⟩; rw [HL.out _] at he9; subst he9; have R8 := Lib.hid (R7.out.next (((Below.refl _ _).alloc (Nat.le_refl _) _).trans (hb9.mono (by simp)))); clear hb9 R7)
        | (refine w_loadg (ldKb (R8.out.bx (w.heap.size) (kv k) (by simp))) rfl (by kernel_rfl) rfl rfl ?_)
        | (refine w_loadg (ldTb (R8.out.bx (b9) (tv m) (by simp))) rfl (by kernel_rfl) rfl rfl ?_)
        | ((go_at_call 33); (with_reducible refine (CA.out _).mono ?_); rintro e9 w10 ⟨rfl, hb9⟩; have R9 := Lib.hid (R8.out.next hb9); clear hb9))
      have c1 := (R9.out.bx (w.heap.size) (kv k) (by simp)).cel 0 (.int .i64 k.ph) (rfl)
      have BA := alone_black M5.out PH.out
      have CB := Lib.hid (fun W => pblack_any k m W)
      have CR := Lib.hid (fun W => parmed_any k m W)
      rw [BA.1] at CB
      rw [BA.2] at CR
      clear BA
      go_wp2_with (first
        | (refine w_loadg (ldKb (R9.out.bx (w.heap.size) (kv k) (by simp))) rfl (by kernel_rfl) rfl rfl ?_)
        | (refine w_loadg (ldTb (R9.out.bx (b9) (tv m) (by simp))) rfl (by kernel_rfl) rfl rfl ?_)
        | ((go_at_call 22); (with_reducible refine (CB.out _).mono ?_); rintro e9 w11 ⟨rfl, hb9⟩; have RA := Lib.hid (R9.out.next hb9); clear hb9)
        | (refine w_loadg (ldKb (RA.out.bx (w.heap.size) (kv k) (by simp))) rfl (by kernel_rfl) rfl rfl ?_)
        | (refine w_loadg (ldTb (RA.out.bx (b9) (tv m) (by simp))) rfl (by kernel_rfl) rfl rfl ?_)
        | ((go_at_call 19); (with_reducible refine (CR.out _).mono ?_); rintro e9 w12 ⟨rfl, hb9⟩; have RB := Lib.hid (RA.out.next hb9); clear hb9))
      go_ret
      exact ⟨rfl, RB.out.bel⟩
set_option maxHeartbeats 8000000 in
theorem walk_some (hf : fewT t = true) (hn : T.s.n ≤ 6) (i0 : Nat) (hi : idxT lvB T = (i0 : Int)) (hi0 : i0 < T.s.n) (hl0 : (T.g i0).lv = true) (hlow : ∀ j, j < i0 → (T.g j).lv = false) (hz : Cl.Sz w) (hk : Sh.WRow w w.heap.size k xs) (ht : Th w w.heap.size t F g) (hr : TRow w w.heap.size T.s.a T.s.n T.g) : Calls Tryz.prog 8 #[(.agg #[.int .i64 k.ph, .int .i64 k.ep, .bool k.mj, .slice k.wk.a k.wk.n k.wk.c, .bool k.ov, .int .i64 k.pa, .int .i64 k.pf, .int .i64 k.ps, .int .i64 k.pc, .bool k.me]), (.agg #[.bool t.lv, .int .i64 (t.r 0), .int .i64 (t.r 1), .int .i64 (t.r 2), .int .i64 (t.r 3), .slice (t.u 0).a (t.u 0).n (t.u 0).c, .slice (t.u 1).a (t.u 1).n (t.u 1).c, .slice (t.u 2).a (t.u 2).n (t.u 2).c, .int .i64 t.ep, .int .i64 t.sg, .int .i64 t.rt, .slice t.o.a t.o.n t.o.c, .int .i64 t.pc, .int .i64 t.x, .int .i64 t.y]), .slice T.s.a T.s.n T.s.c] w fun e w' => e = .returned (.bool true) ∧ Below w.heap.size w w' := by
  have HZ := Lib.hid hz
  have HR := Lib.hid hr
  have CF := Lib.hid (fun W => Rt.rfew_any t W)
  rw [hf] at CF
  have ta : decide ((T.s.n : Int) > 6) = false := decide_eq_false (by omega)
  have tb : decide (6 < (T.s.n : Int)) = false := ta
  have NN := Lib.hid (And.intro hn hi0)
  have NO := Lib.hid hlow
  have N1 := Lib.hid hl0
  have n0 : decide ((i0 : Int) ≥ 0) = true := decide_eq_true (by omega)
  have n1 : decide (0 ≤ (i0 : Int)) = true := n0
  have n2 : decide ((i0 : Int) < 0) = false := decide_eq_false (by omega)
  clear hlow hl0
  have S9 := few_small hf
  have C5 := Lib.hid (fun W (hL : Lb w W [(w.heap.size + 1, tv t), (w.heap.size, kv k)] [] [T]) => (begin_any k xs T t F g W (Sh.WRow.next hk hL.bel) (ht.next hL.bel) (hL.rw T (by simp)) (by omega) S9.1 S9.2).mono fun _ _ h => beg_some i0 hi h)
  clear hz hk ht hr hf hn hi S9
  go_enter Tryz.func8, Tryz.ntmps8
  go_upto_region 1 with fail
  obtain ⟨W1, hW1⟩ : ∃ W1, W1 = (w.alloc (.cells #[.int .i64 k.ph, .int .i64 k.ep, .bool k.mj, .slice k.wk.a k.wk.n k.wk.c, .bool k.ov, .int .i64 k.pa, .int .i64 k.pf, .int .i64 k.ps, .int .i64 k.pc, .bool k.me] 30)).alloc (.cells #[.bool t.lv, .int .i64 (t.r 0), .int .i64 (t.r 1), .int .i64 (t.r 2), .int .i64 (t.r 3), .slice (t.u 0).a (t.u 0).n (t.u 0).c, .slice (t.u 1).a (t.u 1).n (t.u 1).c, .slice (t.u 2).a (t.u 2).n (t.u 2).c, .int .i64 t.ep, .int .i64 t.sg, .int .i64 t.rt, .slice t.o.a t.o.n t.o.c, .int .i64 t.pc, .int .i64 t.x, .int .i64 t.y] 34) := ⟨_, rfl⟩
  have L1 : Hid (Lb w W1 [(w.heap.size + 1, tv t), (w.heap.size, kv k)] [] [T]) := Lib.hid (by
    have l := (((lb_none w).rows (T := T) HR.out).lay (kv k) 30).lay (tv t) 34
    rw [World.size_alloc] at l
    rw [hW1]
    exact l)
  rw [← hW1]
  clear hW1
  go_upto_region 6 with (first
    | ((go_at_call 25); (with_reducible refine (Ha.awake_any _ (L1.out.over HZ.out)).mono ?_); rintro e9 w1 ⟨rfl, hb9⟩; have L2 := Lib.hid (L1.out.next hb9); clear hb9)
    | (refine w_load (ldTb (L2.out.bx (w.heap.size + 1) (tv t) (by simp))) rfl rfl rfl rfl ?_)
    | ((go_at_call 39); (with_reducible refine (CF.out _).mono ?_); rintro e9 w2 ⟨rfl, hb9⟩; have L3 := Lib.hid (L2.out.next hb9); clear hb9)
    | (refine w_load (ldKb (L3.out.bx (w.heap.size) (kv k) (by simp))) rfl rfl rfl rfl ?_)
    | (refine w_load (ldTb (L3.out.bx (w.heap.size + 1) (tv t) (by simp))) rfl rfl rfl rfl ?_)
    | ((go_at_call 31); (with_reducible refine (C5.out _ L3.out).mono ?_); rintro e9 w5 ⟨m, rfl, hf9, hb9⟩; have L5 := Lib.hid (L3.out.next hb9); have M5 := Lib.hid hf9; clear hf9 hb9 L3))
  obtain ⟨W6', hW⟩ : ∃ W6', W6' = w5.alloc (.cells #[.bool m.lv, .int .i64 (m.r 0), .int .i64 (m.r 1), .int .i64 (m.r 2), .int .i64 (m.r 3), .slice (m.u 0).a (m.u 0).n (m.u 0).c, .slice (m.u 1).a (m.u 1).n (m.u 1).c, .slice (m.u 2).a (m.u 2).n (m.u 2).c, .int .i64 m.ep, .int .i64 m.sg, .int .i64 m.rt, .slice m.o.a m.o.n m.o.c, .int .i64 m.pc, .int .i64 m.x, .int .i64 m.y] 34) := ⟨_, rfl⟩
  have L6 : Hid (Lb w W6' ((w5.heap.size, tv m) :: [(w.heap.size + 1, tv t), (w.heap.size, kv k)]) [] [T]) := Lib.hid (by rw [hW]; exact L5.out.lay (tv m) 34)
  obtain ⟨b9, hb9⟩ : ∃ b9, b9 = w5.heap.size := ⟨_, rfl⟩
  rw [← hb9] at L6
  rw [← hW]
  rw [← hb9]
  clear hW L5 hb9
  clear hi0
  go_wp2
  go_loopw [10, 11] (fun f i wr => ∃ q : Nat, q ≤ T.s.n ∧ i = .int .i64 q ∧ ((f = .int .i64 (-1) ∧ q ≤ i0) ∨ (f = .int .i64 (i0 : Int) ∧ q = i0 + 1)) ∧ Hid (Lb w wr ((b9, tv m) :: [(w.heap.size + 1, tv t), (w.heap.size, kv k)]) [] [T])) (fun _ i _ => T.s.n - (intOf i).toNat)
  case atStart => exact ⟨0, Nat.zero_le _, rfl, .inl ⟨rfl, Nat.zero_le _⟩, L6⟩
  case round =>
    obtain ⟨q, hq, rfl, hc, R⟩ := hrel
    have hq6 : T.s.n ≤ 6 := NN.out.1
    have hi0 : i0 < T.s.n := NN.out.2
    obtain ⟨b, off, ea, _, _⟩ := HR.out (by omega)
    rcases hc with ⟨rfl, hle⟩ | ⟨rfl, he⟩
    · have hlt : q < T.s.n := by omega
      have hltz : (q : Int) < (T.s.n : Int) := by omega
      by_cases hqi : q = i0
      · have HQ := Lib.hid hqi
        clear hqi
        have c0 : wr.cell? ⟨b, off + q * 15, none⟩ = some (.bool true) := TRow.cell (R.out.rw T (by simp)) ea hlt 0 (.bool true) (by rw [HQ.out, ← N1.out]; rfl)
        go_wp2
        go_roundw
        case rel => exact ⟨q + 1, by omega, by go_num, .inr ⟨by rw [HQ.out], by have := HQ.out; omega⟩, R⟩
        case measure => simp [intOf]; omega
      · have c0 : wr.cell? ⟨b, off + q * 15, none⟩ = some (.bool false) := TRow.cell (R.out.rw T (by simp)) ea hlt 0 (.bool false) (by rw [← NO.out q (by omega)]; rfl)
        go_wp2
        go_roundw
        case rel => exact ⟨q + 1, by omega, by go_num, .inl ⟨rfl, by omega⟩, R⟩
        case measure => simp [intOf]; omega
    · have CH := Lib.hid (fun W => holds_few M5.out W)
      obtain ⟨A, hA⟩ : ∃ A, A = openB k.ph k.ep (T.g i0) := ⟨_, rfl⟩
      obtain ⟨D, hD⟩ : ∃ D, D = blackB k.ph k.ep (T.g i0) := ⟨_, rfl⟩
      have C1 := Lib.hid (fun x W => all_m (k := k) (m := m) ((beg_open M5.out N1.out).trans hA.symm) x W)
      have C2 := Lib.hid (fun x W => all_m (k := k) (m := T.g i0) hA.symm x W)
      have C3 := Lib.hid (fun W => black_m (k := k) (m := m) ((beg_black M5.out).trans hD.symm) W)
      have C4 := Lib.hid (fun W => black_m (k := k) (m := T.g i0) hD.symm W)
      clear hA hD
      have hlt : i0 < T.s.n := NN.out.2
      have hlz : (i0 : Int) < (T.s.n : Int) := by omega
      have aa : (A == A) = true := by simp
      have dd : (D == D) = true := by simp
      have zz : decide ((T.g i0).r 0 = (T.g i0).r 0) = true := by simp
      have ze : ((T.g i0).r 0 == (T.g i0).r 0) = true := by simp
      by_cases hlq : q < T.s.n
      · have hltz : (q : Int) < (T.s.n : Int) := by omega
        go_upto_region 13 with (first
          | (refine w_load (ldTb (R.out.bx (b9) (tv m) (by simp))) rfl rfl rfl rfl ?_)
          | ((go_at_call 40); (with_reducible refine (CH.out _).mono ?_); rintro e9 w7 ⟨a7, n7, c7, hn7, rfl, hb9⟩; have R7 := Lib.hid (R.out.next hb9); clear hb9 R))
        have g5 : decide ((n7 : Int) > 1) = false := decide_eq_false (by omega)
        have g6 : decide (1 < (n7 : Int)) = false := g5
        have q0 := (R7.out.bx (b9) (tv m) (by simp)).cel 0 (.bool true) (by rw [← M5.out.lv]; rfl)
        have q1 := (R7.out.bx (b9) (tv m) (by simp)).cel 11 (.slice m.o.a t.o.n m.o.c) (by rw [← M5.out.o]; rfl)
        have q2 := (R7.out.bx (b9) (tv m) (by simp)).cel 12 (.int .i64 0) (by rw [← M5.out.pc]; rfl)
        have q3 := (R7.out.bx (b9) (tv m) (by simp)).cel 10 (.int .i64 0) (by rw [← M5.out.rt]; rfl)
        have q4 := (R7.out.bx (b9) (tv m) (by simp)).cel 2 (.int .i64 0) (by rw [← M5.out.r1]; rfl)
        have q5 := (R7.out.bx (b9) (tv m) (by simp)).cel 3 (.int .i64 0) (by rw [← M5.out.r2]; rfl)
        have q6 := (R7.out.bx (b9) (tv m) (by simp)).cel 4 (.int .i64 0) (by rw [← M5.out.r3]; rfl)
        have q7 := (R7.out.bx (w.heap.size + 1) (tv t) (by simp)).cel 11 (.slice t.o.a t.o.n t.o.c) (rfl)
        have g4 : ((t.o.n : Int) != (t.o.n : Int)) = false := by simp
        go_upto_region 15 with fail
        clear q0 q1 q2 q3 q4 q5 q6 q7 g4
        go_upto_region 16 with fail
        refine Sh.region_gen fun a0 ha0 => ?_
        have G9 : a0.tmps[9]? = some (.pointer (some ⟨b9, 0, none⟩)) := by rw [ha0]; rfl
        have G2 : a0.tmps[2]? = some (.slice (some ⟨b, off, none⟩) T.s.n T.s.c) := by rw [ha0]; rw [← ea]; rfl
        have G10 : a0.tmps[10]? = some (.int .i64 (i0 : Int)) := by rw [ha0]; rfl
        have G3 : a0.tmps[3]? = some (.pointer (some ⟨w.heap.size, 0, none⟩)) := by rw [ha0]; rfl
        have TZ : a0.tmps.size = 166 := by rw [ha0]; rfl
        have HA := Lib.hid ha0
        clear ha0
        refine region_planK (by kernel_rfl) (by kernel_rfl) (by rw [TZ]; kernel_rfl) (fun (x : Nat × Nat) (i : Nat) => (match i with | 0 => .pointer (some ⟨b9, 1, none⟩) | 1 => .pointer (some ⟨b9, 1, none⟩) | 2 => .int .i64 ((T.g i0).r 0) | 3 => .slice (some ⟨b, off, none⟩) T.s.n T.s.c | 4 => .int .i64 (i0 : Int) | 5 => .pointer (some ⟨b, off + i0 * 15, none⟩) | 6 => .pointer (some ⟨b, off + i0 * 15 + 1, none⟩) | 7 => .pointer (some ⟨b, off + i0 * 15 + 1, none⟩) | 8 => .int .i64 ((T.g i0).r 0) | 9 => .bool true | 10 => .bool true | 11 => (.agg #[.int .i64 k.ph, .int .i64 k.ep, .bool k.mj, .slice k.wk.a k.wk.n k.wk.c, .bool k.ov, .int .i64 k.pa, .int .i64 k.pf, .int .i64 k.ps, .int .i64 k.pc, .bool k.me]) | 12 => (.agg #[.bool m.lv, .int .i64 (m.r 0), .int .i64 (m.r 1), .int .i64 (m.r 2), .int .i64 (m.r 3), .slice (m.u 0).a (m.u 0).n (m.u 0).c, .slice (m.u 1).a (m.u 1).n (m.u 1).c, .slice (m.u 2).a (m.u 2).n (m.u 2).c, .int .i64 m.ep, .int .i64 m.sg, .int .i64 m.rt, .slice m.o.a m.o.n m.o.c, .int .i64 m.pc, .int .i64 m.x, .int .i64 m.y]) | 13 => .slice (some ⟨x.1, 0, none⟩) 1 1 | 14 => .bool (!A) | 15 => (.agg #[.int .i64 k.ph, .int .i64 k.ep, .bool k.mj, .slice k.wk.a k.wk.n k.wk.c, .bool k.ov, .int .i64 k.pa, .int .i64 k.pf, .int .i64 k.ps, .int .i64 k.pc, .bool k.me]) | 16 => .slice (some ⟨b, off, none⟩) T.s.n T.s.c | 17 => .int .i64 (i0 : Int) | 18 => .pointer (some ⟨b, off + i0 * 15, none⟩) | 19 => (.agg #[.bool (T.g i0).lv, .int .i64 ((T.g i0).r 0), .int .i64 ((T.g i0).r 1), .int .i64 ((T.g i0).r 2), .int .i64 ((T.g i0).r 3), .slice ((T.g i0).u 0).a ((T.g i0).u 0).n ((T.g i0).u 0).c, .slice ((T.g i0).u 1).a ((T.g i0).u 1).n ((T.g i0).u 1).c, .slice ((T.g i0).u 2).a ((T.g i0).u 2).n ((T.g i0).u 2).c, .int .i64 (T.g i0).ep, .int .i64 (T.g i0).sg, .int .i64 (T.g i0).rt, .slice (T.g i0).o.a (T.g i0).o.n (T.g i0).o.c, .int .i64 (T.g i0).pc, .int .i64 (T.g i0).x, .int .i64 (T.g i0).y]) | 20 => .slice (some ⟨x.2, 0, none⟩) 1 1 | 21 => .bool (!A) | 22 => .bool true | 23 => .bool true | 24 => .bool true | 25 => (.agg #[.int .i64 k.ph, .int .i64 k.ep, .bool k.mj, .slice k.wk.a k.wk.n k.wk.c, .bool k.ov, .int .i64 k.pa, .int .i64 k.pf, .int .i64 k.ps, .int .i64 k.pc, .bool k.me]) | 26 => (.agg #[.bool m.lv, .int .i64 (m.r 0), .int .i64 (m.r 1), .int .i64 (m.r 2), .int .i64 (m.r 3), .slice (m.u 0).a (m.u 0).n (m.u 0).c, .slice (m.u 1).a (m.u 1).n (m.u 1).c, .slice (m.u 2).a (m.u 2).n (m.u 2).c, .int .i64 m.ep, .int .i64 m.sg, .int .i64 m.rt, .slice m.o.a m.o.n m.o.c, .int .i64 m.pc, .int .i64 m.x, .int .i64 m.y]) | 27 => .bool D | 28 => (.agg #[.int .i64 k.ph, .int .i64 k.ep, .bool k.mj, .slice k.wk.a k.wk.n k.wk.c, .bool k.ov, .int .i64 k.pa, .int .i64 k.pf, .int .i64 k.ps, .int .i64 k.pc, .bool k.me]) | 29 => .slice (some ⟨b, off, none⟩) T.s.n T.s.c | 30 => .int .i64 (i0 : Int) | 31 => .pointer (some ⟨b, off + i0 * 15, none⟩) | 32 => (.agg #[.bool (T.g i0).lv, .int .i64 ((T.g i0).r 0), .int .i64 ((T.g i0).r 1), .int .i64 ((T.g i0).r 2), .int .i64 ((T.g i0).r 3), .slice ((T.g i0).u 0).a ((T.g i0).u 0).n ((T.g i0).u 0).c, .slice ((T.g i0).u 1).a ((T.g i0).u 1).n ((T.g i0).u 1).c, .slice ((T.g i0).u 2).a ((T.g i0).u 2).n ((T.g i0).u 2).c, .int .i64 (T.g i0).ep, .int .i64 (T.g i0).sg, .int .i64 (T.g i0).rt, .slice (T.g i0).o.a (T.g i0).o.n (T.g i0).o.c, .int .i64 (T.g i0).pc, .int .i64 (T.g i0).x, .int .i64 (T.g i0).y]) | 33 => .bool D | 34 => .bool true | 35 => .bool true | 36 => .bool true | _ => undef : Value)) (fun _ => false) ?zeroY (fun x l W => O2 w k t m T b9 i0 x l W) (0, 0) ?startY ?wantY ?skipY ?stepY ?doneY
        case zeroY => exact fun _ _ h => by cases h
        case startY => exact o2_start (R7.out.next ⟨rfl, rfl, rfl, Nat.le_refl _, fun _ _ => rfl⟩)
        case skipY => exact fun i l x W h _ => by cases h
        case wantY =>
          rintro i o9 l a9 x ho hP haft
          have hi : i < 37 := (Array.getElem?_eq_some_iff.1 ho).1
          rcases (show i = 0 ∨ i = 1 ∨ i = 2 ∨ i = 3 ∨ i = 4 ∨ i = 5 ∨ i = 6 ∨ i = 7 ∨ i = 8 ∨ i = 9 ∨ i = 10 ∨ i = 11 ∨ i = 12 ∨ i = 13 ∨ i = 14 ∨ i = 15 ∨ i = 16 ∨ i = 17 ∨ i = 18 ∨ i = 19 ∨ i = 20 ∨ i = 21 ∨ i = 22 ∨ i = 23 ∨ i = 24 ∨ i = 25 ∨ i = 26 ∨ i = 27 ∨ i = 28 ∨ i = 29 ∨ i = 30 ∨ i = 31 ∨ i = 32 ∨ i = 33 ∨ i = 34 ∨ i = 35 ∨ i = 36 by omega) with rfl | rfl | rfl | rfl | rfl | rfl | rfl | rfl | rfl | rfl | rfl | rfl | rfl | rfl | rfl | rfl | rfl | rfl | rfl | rfl | rfl | rfl | rfl | rfl | rfl | rfl | rfl | rfl | rfl | rfl | rfl | rfl | rfl | rfl | rfl | rfl | rfl
          · obtain rfl := Option.some.inj ho
            rfl
          · obtain rfl := Option.some.inj ho
            rfl
          · obtain rfl := Option.some.inj ho
            rfl
          · obtain rfl := Option.some.inj ho
            rfl
          · obtain rfl := Option.some.inj ho
            rfl
          · obtain rfl := Option.some.inj ho
            rfl
          · obtain rfl := Option.some.inj ho
            rfl
          · obtain rfl := Option.some.inj ho
            rfl
          · obtain rfl := Option.some.inj ho
            rfl
          · obtain rfl := Option.some.inj ho
            rfl
          · obtain rfl := Option.some.inj ho
            rfl
          · obtain rfl := Option.some.inj ho
            have h11 := hP.got 10 _ 107 rfl (haft ⟨10, .guard⟩ (by simp) rfl) rfl
            try dsimp only at h11
            simp [Region.wanted, yielded, h11]
          · obtain rfl := Option.some.inj ho
            have h11 := hP.got 10 _ 107 rfl (haft ⟨10, .guard⟩ (by simp) rfl) rfl
            try dsimp only at h11
            simp [Region.wanted, yielded, h11]
          · obtain rfl := Option.some.inj ho
            have h11 := hP.got 10 _ 107 rfl (haft ⟨10, .guard⟩ (by simp) rfl) rfl
            try dsimp only at h11
            simp [Region.wanted, yielded, h11]
          · obtain rfl := Option.some.inj ho
            have h11 := hP.got 10 _ 107 rfl (haft ⟨10, .guard⟩ (by simp) rfl) rfl
            try dsimp only at h11
            simp [Region.wanted, yielded, h11]
          · obtain rfl := Option.some.inj ho
            have h11 := hP.got 10 _ 107 rfl (haft ⟨10, .guard⟩ (by simp) rfl) rfl
            try dsimp only at h11
            simp [Region.wanted, yielded, h11]
          · obtain rfl := Option.some.inj ho
            have h11 := hP.got 10 _ 107 rfl (haft ⟨10, .guard⟩ (by simp) rfl) rfl
            try dsimp only at h11
            simp [Region.wanted, yielded, h11]
          · obtain rfl := Option.some.inj ho
            have h11 := hP.got 10 _ 107 rfl (haft ⟨10, .guard⟩ (by simp) rfl) rfl
            try dsimp only at h11
            simp [Region.wanted, yielded, h11]
          · obtain rfl := Option.some.inj ho
            have h11 := hP.got 10 _ 107 rfl (haft ⟨10, .guard⟩ (by simp) rfl) rfl
            try dsimp only at h11
            simp [Region.wanted, yielded, h11]
          · obtain rfl := Option.some.inj ho
            have h11 := hP.got 10 _ 107 rfl (haft ⟨10, .guard⟩ (by simp) rfl) rfl
            try dsimp only at h11
            simp [Region.wanted, yielded, h11]
          · obtain rfl := Option.some.inj ho
            have h11 := hP.got 10 _ 107 rfl (haft ⟨10, .guard⟩ (by simp) rfl) rfl
            try dsimp only at h11
            simp [Region.wanted, yielded, h11]
          · obtain rfl := Option.some.inj ho
            have h11 := hP.got 10 _ 107 rfl (haft ⟨10, .guard⟩ (by simp) rfl) rfl
            try dsimp only at h11
            simp [Region.wanted, yielded, h11]
          · obtain rfl := Option.some.inj ho
            have h11 := hP.got 10 _ 107 rfl (haft ⟨10, .guard⟩ (by simp) rfl) rfl
            try dsimp only at h11
            simp [Region.wanted, yielded, h11]
          · obtain rfl := Option.some.inj ho
            rfl
          · obtain rfl := Option.some.inj ho
            rfl
          · obtain rfl := Option.some.inj ho
            have h11 := hP.got 24 _ 121 rfl (haft ⟨24, .guard⟩ (by simp) rfl) rfl
            try dsimp only at h11
            simp [Region.wanted, yielded, h11]
          · obtain rfl := Option.some.inj ho
            have h11 := hP.got 24 _ 121 rfl (haft ⟨24, .guard⟩ (by simp) rfl) rfl
            try dsimp only at h11
            simp [Region.wanted, yielded, h11]
          · obtain rfl := Option.some.inj ho
            have h11 := hP.got 24 _ 121 rfl (haft ⟨24, .guard⟩ (by simp) rfl) rfl
            try dsimp only at h11
            simp [Region.wanted, yielded, h11]
          · obtain rfl := Option.some.inj ho
            have h11 := hP.got 24 _ 121 rfl (haft ⟨24, .guard⟩ (by simp) rfl) rfl
            try dsimp only at h11
            simp [Region.wanted, yielded, h11]
          · obtain rfl := Option.some.inj ho
            have h11 := hP.got 24 _ 121 rfl (haft ⟨24, .guard⟩ (by simp) rfl) rfl
            try dsimp only at h11
            simp [Region.wanted, yielded, h11]
          · obtain rfl := Option.some.inj ho
            have h11 := hP.got 24 _ 121 rfl (haft ⟨24, .guard⟩ (by simp) rfl) rfl
            try dsimp only at h11
            simp [Region.wanted, yielded, h11]
          · obtain rfl := Option.some.inj ho
            have h11 := hP.got 24 _ 121 rfl (haft ⟨24, .guard⟩ (by simp) rfl) rfl
            try dsimp only at h11
            simp [Region.wanted, yielded, h11]
          · obtain rfl := Option.some.inj ho
            have h11 := hP.got 24 _ 121 rfl (haft ⟨24, .guard⟩ (by simp) rfl) rfl
            try dsimp only at h11
            simp [Region.wanted, yielded, h11]
          · obtain rfl := Option.some.inj ho
            have h11 := hP.got 24 _ 121 rfl (haft ⟨24, .guard⟩ (by simp) rfl) rfl
            try dsimp only at h11
            simp [Region.wanted, yielded, h11]
          · obtain rfl := Option.some.inj ho
            have h11 := hP.got 24 _ 121 rfl (haft ⟨24, .guard⟩ (by simp) rfl) rfl
            try dsimp only at h11
            simp [Region.wanted, yielded, h11]
          · obtain rfl := Option.some.inj ho
            rfl
          · obtain rfl := Option.some.inj ho
            rfl
        case stepY =>
          rintro i o9 l a9 x W9 ho hP hkp hcd hI hl hsk haft K hK
          have hi : i < 37 := (Array.getElem?_eq_some_iff.1 ho).1
          rcases (show i = 0 ∨ i = 1 ∨ i = 2 ∨ i = 3 ∨ i = 4 ∨ i = 5 ∨ i = 6 ∨ i = 7 ∨ i = 8 ∨ i = 9 ∨ i = 10 ∨ i = 11 ∨ i = 12 ∨ i = 13 ∨ i = 14 ∨ i = 15 ∨ i = 16 ∨ i = 17 ∨ i = 18 ∨ i = 19 ∨ i = 20 ∨ i = 21 ∨ i = 22 ∨ i = 23 ∨ i = 24 ∨ i = 25 ∨ i = 26 ∨ i = 27 ∨ i = 28 ∨ i = 29 ∨ i = 30 ∨ i = 31 ∨ i = 32 ∨ i = 33 ∨ i = 34 ∨ i = 35 ∨ i = 36 by omega) with rfl | rfl | rfl | rfl | rfl | rfl | rfl | rfl | rfl | rfl | rfl | rfl | rfl | rfl | rfl | rfl | rfl | rfl | rfl | rfl | rfl | rfl | rfl | rfl | rfl | rfl | rfl | rfl | rfl | rfl | rfl | rfl | rfl | rfl | rfl | rfl | rfl
          · clear hsk
            obtain rfl := Option.some.inj ho
            have q9 := (hP.keep (j := 9) (by kernel_rfl)).trans G9
            go_simp
            exact hK x _ (fun _ _ => rfl) (hI.pure (by decide))
          · clear hsk
            obtain rfl := Option.some.inj ho
            have e0 := hP.got 0 _ 97 rfl (haft ⟨0, .data⟩ (by simp) rfl) rfl
            try dsimp only at e0
            go_simp
            exact hK x _ (fun _ _ => rfl) (hI.pure (by decide))
          · clear hsk
            obtain rfl := Option.some.inj ho
            have e1 := hP.got 1 _ 98 rfl (haft ⟨1, .data⟩ (by simp) rfl) rfl
            try dsimp only at e1
            have c9 := (hI.lb.bx b9 (tv m) (by simp)).cel 1 (.int .i64 ((T.g i0).r 0)) (by rw [← M5.out.r0]; rfl)
            go_simp
            exact hK x _ (fun _ _ => rfl) (hI.pure (by decide))
          · clear hsk
            obtain rfl := Option.some.inj ho
            have q2 := (hP.keep (j := 2) (by kernel_rfl)).trans G2
            go_simp
            exact hK x _ (fun _ _ => rfl) (hI.pure (by decide))
          · clear hsk
            obtain rfl := Option.some.inj ho
            have q10 := (hP.keep (j := 10) (by kernel_rfl)).trans G10
            go_simp
            exact hK x _ (fun _ _ => rfl) (hI.pure (by decide))
          · clear hsk
            obtain rfl := Option.some.inj ho
            have e3 := hP.got 3 _ 100 rfl (haft ⟨3, .data⟩ (by simp) rfl) rfl
            have e4 := hP.got 4 _ 101 rfl (haft ⟨4, .data⟩ (by simp) rfl) rfl
            try dsimp only at e3 e4
            go_simp
            exact hK x _ (fun _ _ => rfl) (hI.pure (by decide))
          · clear hsk
            obtain rfl := Option.some.inj ho
            have e5 := hP.got 5 _ 102 rfl (haft ⟨5, .data⟩ (by simp) rfl) rfl
            try dsimp only at e5
            go_simp
            exact hK x _ (fun _ _ => rfl) (hI.pure (by decide))
          · clear hsk
            obtain rfl := Option.some.inj ho
            have e6 := hP.got 6 _ 103 rfl (haft ⟨6, .data⟩ (by simp) rfl) rfl
            try dsimp only at e6
            go_simp
            exact hK x _ (fun _ _ => rfl) (hI.pure (by decide))
          · clear hsk
            obtain rfl := Option.some.inj ho
            have e7 := hP.got 7 _ 104 rfl (haft ⟨7, .data⟩ (by simp) rfl) rfl
            try dsimp only at e7
            have c9 := TRow.cell (hI.lb.rw T (by simp)) ea hlt 1 (.int .i64 ((T.g i0).r 0)) rfl
            go_simp
            exact hK x _ (fun _ _ => rfl) (hI.pure (by decide))
          · clear hsk
            obtain rfl := Option.some.inj ho
            have e2 := hP.got 2 _ 99 rfl (haft ⟨2, .data⟩ (by simp) rfl) rfl
            have e8 := hP.got 8 _ 105 rfl (haft ⟨8, .data⟩ (by simp) rfl) rfl
            try dsimp only at e2 e8
            go_simp
            exact hK x _ (fun _ _ => rfl) (hI.pure (by decide))
          · clear hsk
            obtain rfl := Option.some.inj ho
            have e9 := hP.got 9 _ 106 rfl (haft ⟨9, .data⟩ (by simp) rfl) rfl
            try dsimp only at e9
            go_simp
            exact hK x _ (fun _ _ => rfl) (hI.pure (by decide))
          · clear hsk
            obtain rfl := Option.some.inj ho
            have q3 := (hP.keep (j := 3) (by kernel_rfl)).trans G3
            exact Mu.p_load rfl (Mu.ev q3) (ldKb (hI.lb.bx w.heap.size (kv k) (by simp))) (hK x _ (fun _ _ => rfl) (hI.pure (by decide)))
          · clear hsk
            obtain rfl := Option.some.inj ho
            have q9 := (hP.keep (j := 9) (by kernel_rfl)).trans G9
            exact Mu.p_load rfl (Mu.ev q9) (ldTb (hI.lb.bx b9 (tv m) (by simp))) (hK x _ (fun _ _ => rfl) (hI.pure (by decide)))
          · clear hsk
            obtain rfl := Option.some.inj ho
            have e12 := hP.got 12 _ 109 rfl (haft ⟨12, .data⟩ (by simp) rfl) rfl
            try dsimp only at e12
            go_simp
            refine hK ⟨W9.heap.size, x.2⟩ _ ?_ (hI.lay1 34)
            intro j hj
            match j, hj with
            | 0, hj => rfl
            | 1, hj => rfl
            | 2, hj => rfl
            | 3, hj => rfl
            | 4, hj => rfl
            | 5, hj => rfl
            | 6, hj => rfl
            | 7, hj => rfl
            | 8, hj => rfl
            | 9, hj => rfl
            | 10, hj => rfl
            | 11, hj => rfl
            | 12, hj => rfl
            | 13, hj => rw [hl] at hj; cases hj
            | 14, hj => rfl
            | 15, hj => rfl
            | 16, hj => rfl
            | 17, hj => rfl
            | 18, hj => rfl
            | 19, hj => rfl
            | 20, hj => rfl
            | 21, hj => rfl
            | 22, hj => rfl
            | 23, hj => rfl
            | 24, hj => rfl
            | 25, hj => rfl
            | 26, hj => rfl
            | 27, hj => rfl
            | 28, hj => rfl
            | 29, hj => rfl
            | 30, hj => rfl
            | 31, hj => rfl
            | 32, hj => rfl
            | 33, hj => rfl
            | 34, hj => rfl
            | 35, hj => rfl
            | 36, hj => rfl
            | j + 37, _ => rfl
          · clear hsk
            obtain rfl := Option.some.inj ho
            have e11 := hP.got 11 _ 108 rfl (haft ⟨11, .data⟩ (by simp) rfl) rfl
            have h13 := haft ⟨13, .data⟩ (by simp) rfl
            have e13 := hP.got 13 _ 110 rfl h13 rfl
            try dsimp only at e11 e13
            go_simp
            refine (C1.out _ W9 (hI.r1 h13)).mono ?_
            rintro e9 w9 ⟨rfl, hb9⟩
            exact hK x _ (fun _ _ => rfl) ((hI.next hb9).pure (by decide))
          · clear hsk
            obtain rfl := Option.some.inj ho
            have q3 := (hP.keep (j := 3) (by kernel_rfl)).trans G3
            exact Mu.p_load rfl (Mu.ev q3) (ldKb (hI.lb.bx w.heap.size (kv k) (by simp))) (hK x _ (fun _ _ => rfl) (hI.pure (by decide)))
          · clear hsk
            obtain rfl := Option.some.inj ho
            have q2 := (hP.keep (j := 2) (by kernel_rfl)).trans G2
            go_simp
            exact hK x _ (fun _ _ => rfl) (hI.pure (by decide))
          · clear hsk
            obtain rfl := Option.some.inj ho
            have q10 := (hP.keep (j := 10) (by kernel_rfl)).trans G10
            go_simp
            exact hK x _ (fun _ _ => rfl) (hI.pure (by decide))
          · clear hsk
            obtain rfl := Option.some.inj ho
            have e16 := hP.got 16 _ 113 rfl (haft ⟨16, .data⟩ (by simp) rfl) rfl
            have e17 := hP.got 17 _ 114 rfl (haft ⟨17, .data⟩ (by simp) rfl) rfl
            try dsimp only at e16 e17
            go_simp
            exact hK x _ (fun _ _ => rfl) (hI.pure (by decide))
          · clear hsk
            obtain rfl := Option.some.inj ho
            have e18 := hP.got 18 _ 115 rfl (haft ⟨18, .data⟩ (by simp) rfl) rfl
            try dsimp only at e18
            exact Mu.p_load rfl (Mu.ev e18) (TRow.load (hI.lb.rw T (by simp)) ea hlt) (hK x _ (fun _ _ => rfl) (hI.pure (by decide)))
          · clear hsk
            obtain rfl := Option.some.inj ho
            have e19 := hP.got 19 _ 116 rfl (haft ⟨19, .data⟩ (by simp) rfl) rfl
            try dsimp only at e19
            go_simp
            refine hK ⟨x.1, W9.heap.size⟩ _ ?_ (hI.lay2 34)
            intro j hj
            match j, hj with
            | 0, hj => rfl
            | 1, hj => rfl
            | 2, hj => rfl
            | 3, hj => rfl
            | 4, hj => rfl
            | 5, hj => rfl
            | 6, hj => rfl
            | 7, hj => rfl
            | 8, hj => rfl
            | 9, hj => rfl
            | 10, hj => rfl
            | 11, hj => rfl
            | 12, hj => rfl
            | 13, hj => rfl
            | 14, hj => rfl
            | 15, hj => rfl
            | 16, hj => rfl
            | 17, hj => rfl
            | 18, hj => rfl
            | 19, hj => rfl
            | 20, hj => rw [hl] at hj; cases hj
            | 21, hj => rfl
            | 22, hj => rfl
            | 23, hj => rfl
            | 24, hj => rfl
            | 25, hj => rfl
            | 26, hj => rfl
            | 27, hj => rfl
            | 28, hj => rfl
            | 29, hj => rfl
            | 30, hj => rfl
            | 31, hj => rfl
            | 32, hj => rfl
            | 33, hj => rfl
            | 34, hj => rfl
            | 35, hj => rfl
            | 36, hj => rfl
            | j + 37, _ => rfl
          · clear hsk
            obtain rfl := Option.some.inj ho
            have e15 := hP.got 15 _ 112 rfl (haft ⟨15, .data⟩ (by simp) rfl) rfl
            have h20 := haft ⟨20, .data⟩ (by simp) rfl
            have e20 := hP.got 20 _ 117 rfl h20 rfl
            try dsimp only at e15 e20
            go_simp
            refine (C2.out _ W9 (hI.r2 h20)).mono ?_
            rintro e9 w9 ⟨rfl, hb9⟩
            exact hK x _ (fun _ _ => rfl) ((hI.next hb9).pure (by decide))
          · clear hsk
            obtain rfl := Option.some.inj ho
            have e14 := hP.got 14 _ 111 rfl (haft ⟨14, .data⟩ (by simp) rfl) rfl
            have e21 := hP.got 21 _ 118 rfl (haft ⟨21, .data⟩ (by simp) rfl) rfl
            try dsimp only at e14 e21
            go_simp
            exact hK x _ (fun _ _ => rfl) (hI.pure (by decide))
          · clear hsk
            obtain rfl := Option.some.inj ho
            have e10 := hP.got 10 _ 107 rfl (haft ⟨10, .data⟩ (by simp) rfl) rfl
            have e22 := hP.got 22 _ 119 rfl (haft ⟨22, .data⟩ (by simp) rfl) rfl
            try dsimp only at e10 e22
            go_simp
            exact hK x _ (fun _ _ => rfl) (hI.pure (by decide))
          · clear hsk
            obtain rfl := Option.some.inj ho
            have e23 := hP.got 23 _ 120 rfl (haft ⟨23, .data⟩ (by simp) rfl) rfl
            try dsimp only at e23
            go_simp
            exact hK x _ (fun _ _ => rfl) (hI.pure (by decide))
          · clear hsk
            obtain rfl := Option.some.inj ho
            have q3 := (hP.keep (j := 3) (by kernel_rfl)).trans G3
            exact Mu.p_load rfl (Mu.ev q3) (ldKb (hI.lb.bx w.heap.size (kv k) (by simp))) (hK x _ (fun _ _ => rfl) (hI.pure (by decide)))
          · clear hsk
            obtain rfl := Option.some.inj ho
            have q9 := (hP.keep (j := 9) (by kernel_rfl)).trans G9
            exact Mu.p_load rfl (Mu.ev q9) (ldTb (hI.lb.bx b9 (tv m) (by simp))) (hK x _ (fun _ _ => rfl) (hI.pure (by decide)))
          · clear hsk
            obtain rfl := Option.some.inj ho
            have e25 := hP.got 25 _ 122 rfl (haft ⟨25, .data⟩ (by simp) rfl) rfl
            have e26 := hP.got 26 _ 123 rfl (haft ⟨26, .data⟩ (by simp) rfl) rfl
            try dsimp only at e25 e26
            go_simp
            refine (C3.out W9).mono ?_
            rintro e9 w9 ⟨rfl, hb9⟩
            exact hK x _ (fun _ _ => rfl) ((hI.next hb9).pure (by decide))
          · clear hsk
            obtain rfl := Option.some.inj ho
            have q3 := (hP.keep (j := 3) (by kernel_rfl)).trans G3
            exact Mu.p_load rfl (Mu.ev q3) (ldKb (hI.lb.bx w.heap.size (kv k) (by simp))) (hK x _ (fun _ _ => rfl) (hI.pure (by decide)))
          · clear hsk
            obtain rfl := Option.some.inj ho
            have q2 := (hP.keep (j := 2) (by kernel_rfl)).trans G2
            go_simp
            exact hK x _ (fun _ _ => rfl) (hI.pure (by decide))
          · clear hsk
            obtain rfl := Option.some.inj ho
            have q10 := (hP.keep (j := 10) (by kernel_rfl)).trans G10
            go_simp
            exact hK x _ (fun _ _ => rfl) (hI.pure (by decide))
          · clear hsk
            obtain rfl := Option.some.inj ho
            have e29 := hP.got 29 _ 126 rfl (haft ⟨29, .data⟩ (by simp) rfl) rfl
            have e30 := hP.got 30 _ 127 rfl (haft ⟨30, .data⟩ (by simp) rfl) rfl
            try dsimp only at e29 e30
            go_simp
            exact hK x _ (fun _ _ => rfl) (hI.pure (by decide))
          · clear hsk
            obtain rfl := Option.some.inj ho
            have e31 := hP.got 31 _ 128 rfl (haft ⟨31, .data⟩ (by simp) rfl) rfl
            try dsimp only at e31
            exact Mu.p_load rfl (Mu.ev e31) (TRow.load (hI.lb.rw T (by simp)) ea hlt) (hK x _ (fun _ _ => rfl) (hI.pure (by decide)))
          · clear hsk
            obtain rfl := Option.some.inj ho
            have e28 := hP.got 28 _ 125 rfl (haft ⟨28, .data⟩ (by simp) rfl) rfl
            have e32 := hP.got 32 _ 129 rfl (haft ⟨32, .data⟩ (by simp) rfl) rfl
            try dsimp only at e28 e32
            go_simp
            refine (C4.out W9).mono ?_
            rintro e9 w9 ⟨rfl, hb9⟩
            exact hK x _ (fun _ _ => rfl) ((hI.next hb9).pure (by decide))
          · clear hsk
            obtain rfl := Option.some.inj ho
            have e27 := hP.got 27 _ 124 rfl (haft ⟨27, .data⟩ (by simp) rfl) rfl
            have e33 := hP.got 33 _ 130 rfl (haft ⟨33, .data⟩ (by simp) rfl) rfl
            try dsimp only at e27 e33
            go_simp
            exact hK x _ (fun _ _ => rfl) (hI.pure (by decide))
          · clear hsk
            obtain rfl := Option.some.inj ho
            have e24 := hP.got 24 _ 121 rfl (haft ⟨24, .data⟩ (by simp) rfl) rfl
            have e34 := hP.got 34 _ 131 rfl (haft ⟨34, .data⟩ (by simp) rfl) rfl
            try dsimp only at e24 e34
            go_simp
            exact hK x _ (fun _ _ => rfl) (hI.pure (by decide))
          · clear hsk
            obtain rfl := Option.some.inj ho
            have e35 := hP.got 35 _ 132 rfl (haft ⟨35, .data⟩ (by simp) rfl) rfl
            try dsimp only at e35
            go_simp
            exact hK x _ (fun _ _ => rfl) (hI.pure (by decide))
        case doneY =>
          rintro l a9 x W9 hP hI hall
          have R9 := Lib.hid hI.lb.bel
          obtain rfl := pl_full hP (by rw [TZ]; kernel_rfl) hall [some 97, some 98, some 99, some 100, some 101, some 102, some 103, some 104, some 105, some 106, some 107, some 108, some 109, some 110, some 111, some 112, some 113, some 114, some 115, some 116, some 117, some 118, some 119, some 120, some 121, some 122, some 123, some 124, some 125, some 126, some 127, some 128, some 129, some 130, some 131, some 132, some 6] (by rfl)
          clear hP hI hall TZ G9 G2 G10 G3
          rw [HA.out]
          simp only [putD, Act.put, List.setIfInBounds_toArray, List.set_cons_succ, List.set_cons_zero]
          clear HA
          go_wp2
          go_ret
          exact ⟨rfl, R9.out⟩
      · have hltz : ¬ (q : Int) < (T.s.n : Int) := by omega
        go_upto_region 13 with (first
          | (refine w_load (ldTb (R.out.bx (b9) (tv m) (by simp))) rfl rfl rfl rfl ?_)
          | ((go_at_call 40); (with_reducible refine (CH.out _).mono ?_); rintro e9 w7 ⟨a7, n7, c7, hn7, rfl, hb9⟩; have R7 := Lib.hid (R.out.next hb9); clear hb9 R))
        have g5 : decide ((n7 : Int) > 1) = false := decide_eq_false (by omega)
        have g6 : decide (1 < (n7 : Int)) = false := g5
        have q0 := (R7.out.bx (b9) (tv m) (by simp)).cel 0 (.bool true) (by rw [← M5.out.lv]; rfl)
        have q1 := (R7.out.bx (b9) (tv m) (by simp)).cel 11 (.slice m.o.a t.o.n m.o.c) (by rw [← M5.out.o]; rfl)
        have q2 := (R7.out.bx (b9) (tv m) (by simp)).cel 12 (.int .i64 0) (by rw [← M5.out.pc]; rfl)
        have q3 := (R7.out.bx (b9) (tv m) (by simp)).cel 10 (.int .i64 0) (by rw [← M5.out.rt]; rfl)
        have q4 := (R7.out.bx (b9) (tv m) (by simp)).cel 2 (.int .i64 0) (by rw [← M5.out.r1]; rfl)
        have q5 := (R7.out.bx (b9) (tv m) (by simp)).cel 3 (.int .i64 0) (by rw [← M5.out.r2]; rfl)
        have q6 := (R7.out.bx (b9) (tv m) (by simp)).cel 4 (.int .i64 0) (by rw [← M5.out.r3]; rfl)
        have q7 := (R7.out.bx (w.heap.size + 1) (tv t) (by simp)).cel 11 (.slice t.o.a t.o.n t.o.c) (rfl)
        have g4 : ((t.o.n : Int) != (t.o.n : Int)) = false := by simp
        go_upto_region 15 with fail
        clear q0 q1 q2 q3 q4 q5 q6 q7 g4
        go_upto_region 16 with fail
        refine Sh.region_gen fun a0 ha0 => ?_
        have G9 : a0.tmps[9]? = some (.pointer (some ⟨b9, 0, none⟩)) := by rw [ha0]; rfl
        have G2 : a0.tmps[2]? = some (.slice (some ⟨b, off, none⟩) T.s.n T.s.c) := by rw [ha0]; rw [← ea]; rfl
        have G10 : a0.tmps[10]? = some (.int .i64 (i0 : Int)) := by rw [ha0]; rfl
        have G3 : a0.tmps[3]? = some (.pointer (some ⟨w.heap.size, 0, none⟩)) := by rw [ha0]; rfl
        have TZ : a0.tmps.size = 166 := by rw [ha0]; rfl
        have HA := Lib.hid ha0
        clear ha0
        refine region_planK (by kernel_rfl) (by kernel_rfl) (by rw [TZ]; kernel_rfl) (fun (x : Nat × Nat) (i : Nat) => (match i with | 0 => .pointer (some ⟨b9, 1, none⟩) | 1 => .pointer (some ⟨b9, 1, none⟩) | 2 => .int .i64 ((T.g i0).r 0) | 3 => .slice (some ⟨b, off, none⟩) T.s.n T.s.c | 4 => .int .i64 (i0 : Int) | 5 => .pointer (some ⟨b, off + i0 * 15, none⟩) | 6 => .pointer (some ⟨b, off + i0 * 15 + 1, none⟩) | 7 => .pointer (some ⟨b, off + i0 * 15 + 1, none⟩) | 8 => .int .i64 ((T.g i0).r 0) | 9 => .bool true | 10 => .bool true | 11 => (.agg #[.int .i64 k.ph, .int .i64 k.ep, .bool k.mj, .slice k.wk.a k.wk.n k.wk.c, .bool k.ov, .int .i64 k.pa, .int .i64 k.pf, .int .i64 k.ps, .int .i64 k.pc, .bool k.me]) | 12 => (.agg #[.bool m.lv, .int .i64 (m.r 0), .int .i64 (m.r 1), .int .i64 (m.r 2), .int .i64 (m.r 3), .slice (m.u 0).a (m.u 0).n (m.u 0).c, .slice (m.u 1).a (m.u 1).n (m.u 1).c, .slice (m.u 2).a (m.u 2).n (m.u 2).c, .int .i64 m.ep, .int .i64 m.sg, .int .i64 m.rt, .slice m.o.a m.o.n m.o.c, .int .i64 m.pc, .int .i64 m.x, .int .i64 m.y]) | 13 => .slice (some ⟨x.1, 0, none⟩) 1 1 | 14 => .bool (!A) | 15 => (.agg #[.int .i64 k.ph, .int .i64 k.ep, .bool k.mj, .slice k.wk.a k.wk.n k.wk.c, .bool k.ov, .int .i64 k.pa, .int .i64 k.pf, .int .i64 k.ps, .int .i64 k.pc, .bool k.me]) | 16 => .slice (some ⟨b, off, none⟩) T.s.n T.s.c | 17 => .int .i64 (i0 : Int) | 18 => .pointer (some ⟨b, off + i0 * 15, none⟩) | 19 => (.agg #[.bool (T.g i0).lv, .int .i64 ((T.g i0).r 0), .int .i64 ((T.g i0).r 1), .int .i64 ((T.g i0).r 2), .int .i64 ((T.g i0).r 3), .slice ((T.g i0).u 0).a ((T.g i0).u 0).n ((T.g i0).u 0).c, .slice ((T.g i0).u 1).a ((T.g i0).u 1).n ((T.g i0).u 1).c, .slice ((T.g i0).u 2).a ((T.g i0).u 2).n ((T.g i0).u 2).c, .int .i64 (T.g i0).ep, .int .i64 (T.g i0).sg, .int .i64 (T.g i0).rt, .slice (T.g i0).o.a (T.g i0).o.n (T.g i0).o.c, .int .i64 (T.g i0).pc, .int .i64 (T.g i0).x, .int .i64 (T.g i0).y]) | 20 => .slice (some ⟨x.2, 0, none⟩) 1 1 | 21 => .bool (!A) | 22 => .bool true | 23 => .bool true | 24 => .bool true | 25 => (.agg #[.int .i64 k.ph, .int .i64 k.ep, .bool k.mj, .slice k.wk.a k.wk.n k.wk.c, .bool k.ov, .int .i64 k.pa, .int .i64 k.pf, .int .i64 k.ps, .int .i64 k.pc, .bool k.me]) | 26 => (.agg #[.bool m.lv, .int .i64 (m.r 0), .int .i64 (m.r 1), .int .i64 (m.r 2), .int .i64 (m.r 3), .slice (m.u 0).a (m.u 0).n (m.u 0).c, .slice (m.u 1).a (m.u 1).n (m.u 1).c, .slice (m.u 2).a (m.u 2).n (m.u 2).c, .int .i64 m.ep, .int .i64 m.sg, .int .i64 m.rt, .slice m.o.a m.o.n m.o.c, .int .i64 m.pc, .int .i64 m.x, .int .i64 m.y]) | 27 => .bool D | 28 => (.agg #[.int .i64 k.ph, .int .i64 k.ep, .bool k.mj, .slice k.wk.a k.wk.n k.wk.c, .bool k.ov, .int .i64 k.pa, .int .i64 k.pf, .int .i64 k.ps, .int .i64 k.pc, .bool k.me]) | 29 => .slice (some ⟨b, off, none⟩) T.s.n T.s.c | 30 => .int .i64 (i0 : Int) | 31 => .pointer (some ⟨b, off + i0 * 15, none⟩) | 32 => (.agg #[.bool (T.g i0).lv, .int .i64 ((T.g i0).r 0), .int .i64 ((T.g i0).r 1), .int .i64 ((T.g i0).r 2), .int .i64 ((T.g i0).r 3), .slice ((T.g i0).u 0).a ((T.g i0).u 0).n ((T.g i0).u 0).c, .slice ((T.g i0).u 1).a ((T.g i0).u 1).n ((T.g i0).u 1).c, .slice ((T.g i0).u 2).a ((T.g i0).u 2).n ((T.g i0).u 2).c, .int .i64 (T.g i0).ep, .int .i64 (T.g i0).sg, .int .i64 (T.g i0).rt, .slice (T.g i0).o.a (T.g i0).o.n (T.g i0).o.c, .int .i64 (T.g i0).pc, .int .i64 (T.g i0).x, .int .i64 (T.g i0).y]) | 33 => .bool D | 34 => .bool true | 35 => .bool true | 36 => .bool true | _ => undef : Value)) (fun _ => false) ?zeroN (fun x l W => O2 w k t m T b9 i0 x l W) (0, 0) ?startN ?wantN ?skipN ?stepN ?doneN
        case zeroN => exact fun _ _ h => by cases h
        case startN => exact o2_start (R7.out.next ⟨rfl, rfl, rfl, Nat.le_refl _, fun _ _ => rfl⟩)
        case skipN => exact fun i l x W h _ => by cases h
        case wantN =>
          rintro i o9 l a9 x ho hP haft
          have hi : i < 37 := (Array.getElem?_eq_some_iff.1 ho).1
          rcases (show i = 0 ∨ i = 1 ∨ i = 2 ∨ i = 3 ∨ i = 4 ∨ i = 5 ∨ i = 6 ∨ i = 7 ∨ i = 8 ∨ i = 9 ∨ i = 10 ∨ i = 11 ∨ i = 12 ∨ i = 13 ∨ i = 14 ∨ i = 15 ∨ i = 16 ∨ i = 17 ∨ i = 18 ∨ i = 19 ∨ i = 20 ∨ i = 21 ∨ i = 22 ∨ i = 23 ∨ i = 24 ∨ i = 25 ∨ i = 26 ∨ i = 27 ∨ i = 28 ∨ i = 29 ∨ i = 30 ∨ i = 31 ∨ i = 32 ∨ i = 33 ∨ i = 34 ∨ i = 35 ∨ i = 36 by omega) with rfl | rfl | rfl | rfl | rfl | rfl | rfl | rfl | rfl | rfl | rfl | rfl | rfl | rfl | rfl | rfl | rfl | rfl | rfl | rfl | rfl | rfl | rfl | rfl | rfl | rfl | rfl | rfl | rfl | rfl | rfl | rfl | rfl | rfl | rfl | rfl | rfl
          · obtain rfl := Option.some.inj ho
            rfl
          · obtain rfl := Option.some.inj ho
            rfl
          · obtain rfl := Option.some.inj ho
            rfl
          · obtain rfl := Option.some.inj ho
            rfl
          · obtain rfl := Option.some.inj ho
            rfl
          · obtain rfl := Option.some.inj ho
            rfl
          · obtain rfl := Option.some.inj ho
            rfl
          · obtain rfl := Option.some.inj ho
            rfl
          · obtain rfl := Option.some.inj ho
            rfl
          · obtain rfl := Option.some.inj ho
            rfl
          · obtain rfl := Option.some.inj ho
            rfl
          · obtain rfl := Option.some.inj ho
            have h11 := hP.got 10 _ 107 rfl (haft ⟨10, .guard⟩ (by simp) rfl) rfl
            try dsimp only at h11
            simp [Region.wanted, yielded, h11]
          · obtain rfl := Option.some.inj ho
            have h11 := hP.got 10 _ 107 rfl (haft ⟨10, .guard⟩ (by simp) rfl) rfl
            try dsimp only at h11
            simp [Region.wanted, yielded, h11]
          · obtain rfl := Option.some.inj ho
            have h11 := hP.got 10 _ 107 rfl (haft ⟨10, .guard⟩ (by simp) rfl) rfl
            try dsimp only at h11
            simp [Region.wanted, yielded, h11]
          · obtain rfl := Option.some.inj ho
            have h11 := hP.got 10 _ 107 rfl (haft ⟨10, .guard⟩ (by simp) rfl) rfl
            try dsimp only at h11
            simp [Region.wanted, yielded, h11]
          · obtain rfl := Option.some.inj ho
            have h11 := hP.got 10 _ 107 rfl (haft ⟨10, .guard⟩ (by simp) rfl) rfl
            try dsimp only at h11
            simp [Region.wanted, yielded, h11]
          · obtain rfl := Option.some.inj ho
            have h11 := hP.got 10 _ 107 rfl (haft ⟨10, .guard⟩ (by simp) rfl) rfl
            try dsimp only at h11
            simp [Region.wanted, yielded, h11]
          · obtain rfl := Option.some.inj ho
            have h11 := hP.got 10 _ 107 rfl (haft ⟨10, .guard⟩ (by simp) rfl) rfl
            try dsimp only at h11
            simp [Region.wanted, yielded, h11]
          · obtain rfl := Option.some.inj ho
            have h11 := hP.got 10 _ 107 rfl (haft ⟨10, .guard⟩ (by simp) rfl) rfl
            try dsimp only at h11
            simp [Region.wanted, yielded, h11]
          · obtain rfl := Option.some.inj ho
            have h11 := hP.got 10 _ 107 rfl (haft ⟨10, .guard⟩ (by simp) rfl) rfl
            try dsimp only at h11
            simp [Region.wanted, yielded, h11]
          · obtain rfl := Option.some.inj ho
            have h11 := hP.got 10 _ 107 rfl (haft ⟨10, .guard⟩ (by simp) rfl) rfl
            try dsimp only at h11
            simp [Region.wanted, yielded, h11]
          · obtain rfl := Option.some.inj ho
            have h11 := hP.got 10 _ 107 rfl (haft ⟨10, .guard⟩ (by simp) rfl) rfl
            try dsimp only at h11
            simp [Region.wanted, yielded, h11]
          · obtain rfl := Option.some.inj ho
            have h11 := hP.got 10 _ 107 rfl (haft ⟨10, .guard⟩ (by simp) rfl) rfl
            try dsimp only at h11
            simp [Region.wanted, yielded, h11]
          · obtain rfl := Option.some.inj ho
            rfl
          · obtain rfl := Option.some.inj ho
            rfl
          · obtain rfl := Option.some.inj ho
            have h11 := hP.got 24 _ 121 rfl (haft ⟨24, .guard⟩ (by simp) rfl) rfl
            try dsimp only at h11
            simp [Region.wanted, yielded, h11]
          · obtain rfl := Option.some.inj ho
            have h11 := hP.got 24 _ 121 rfl (haft ⟨24, .guard⟩ (by simp) rfl) rfl
            try dsimp only at h11
            simp [Region.wanted, yielded, h11]
          · obtain rfl := Option.some.inj ho
            have h11 := hP.got 24 _ 121 rfl (haft ⟨24, .guard⟩ (by simp) rfl) rfl
            try dsimp only at h11
            simp [Region.wanted, yielded, h11]
          · obtain rfl := Option.some.inj ho
            have h11 := hP.got 24 _ 121 rfl (haft ⟨24, .guard⟩ (by simp) rfl) rfl
            try dsimp only at h11
            simp [Region.wanted, yielded, h11]
          · obtain rfl := Option.some.inj ho
            have h11 := hP.got 24 _ 121 rfl (haft ⟨24, .guard⟩ (by simp) rfl) rfl
            try dsimp only at h11
            simp [Region.wanted, yielded, h11]
          · obtain rfl := Option.some.inj ho
            have h11 := hP.got 24 _ 121 rfl (haft ⟨24, .guard⟩ (by simp) rfl) rfl
            try dsimp only at h11
            simp [Region.wanted, yielded, h11]
          · obtain rfl := Option.some.inj ho
            have h11 := hP.got 24 _ 121 rfl (haft ⟨24, .guard⟩ (by simp) rfl) rfl
            try dsimp only at h11
            simp [Region.wanted, yielded, h11]
          · obtain rfl := Option.some.inj ho
            have h11 := hP.got 24 _ 121 rfl (haft ⟨24, .guard⟩ (by simp) rfl) rfl
            try dsimp only at h11
            simp [Region.wanted, yielded, h11]
          · obtain rfl := Option.some.inj ho
            have h11 := hP.got 24 _ 121 rfl (haft ⟨24, .guard⟩ (by simp) rfl) rfl
            try dsimp only at h11
            simp [Region.wanted, yielded, h11]
          · obtain rfl := Option.some.inj ho
            have h11 := hP.got 24 _ 121 rfl (haft ⟨24, .guard⟩ (by simp) rfl) rfl
            try dsimp only at h11
            simp [Region.wanted, yielded, h11]
          · obtain rfl := Option.some.inj ho
            rfl
          · obtain rfl := Option.some.inj ho
            rfl
        case stepN =>
          rintro i o9 l a9 x W9 ho hP hkp hcd hI hl hsk haft K hK
          have hi : i < 37 := (Array.getElem?_eq_some_iff.1 ho).1
          rcases (show i = 0 ∨ i = 1 ∨ i = 2 ∨ i = 3 ∨ i = 4 ∨ i = 5 ∨ i = 6 ∨ i = 7 ∨ i = 8 ∨ i = 9 ∨ i = 10 ∨ i = 11 ∨ i = 12 ∨ i = 13 ∨ i = 14 ∨ i = 15 ∨ i = 16 ∨ i = 17 ∨ i = 18 ∨ i = 19 ∨ i = 20 ∨ i = 21 ∨ i = 22 ∨ i = 23 ∨ i = 24 ∨ i = 25 ∨ i = 26 ∨ i = 27 ∨ i = 28 ∨ i = 29 ∨ i = 30 ∨ i = 31 ∨ i = 32 ∨ i = 33 ∨ i = 34 ∨ i = 35 ∨ i = 36 by omega) with rfl | rfl | rfl | rfl | rfl | rfl | rfl | rfl | rfl | rfl | rfl | rfl | rfl | rfl | rfl | rfl | rfl | rfl | rfl | rfl | rfl | rfl | rfl | rfl | rfl | rfl | rfl | rfl | rfl | rfl | rfl | rfl | rfl | rfl | rfl | rfl | rfl
          · clear hsk
            obtain rfl := Option.some.inj ho
            have q9 := (hP.keep (j := 9) (by kernel_rfl)).trans G9
            go_simp
            exact hK x _ (fun _ _ => rfl) (hI.pure (by decide))
          · clear hsk
            obtain rfl := Option.some.inj ho
            have e0 := hP.got 0 _ 97 rfl (haft ⟨0, .data⟩ (by simp) rfl) rfl
            try dsimp only at e0
            go_simp
            exact hK x _ (fun _ _ => rfl) (hI.pure (by decide))
          · clear hsk
            obtain rfl := Option.some.inj ho
            have e1 := hP.got 1 _ 98 rfl (haft ⟨1, .data⟩ (by simp) rfl) rfl
            try dsimp only at e1
            have c9 := (hI.lb.bx b9 (tv m) (by simp)).cel 1 (.int .i64 ((T.g i0).r 0)) (by rw [← M5.out.r0]; rfl)
            go_simp
            exact hK x _ (fun _ _ => rfl) (hI.pure (by decide))
          · clear hsk
            obtain rfl := Option.some.inj ho
            have q2 := (hP.keep (j := 2) (by kernel_rfl)).trans G2
            go_simp
            exact hK x _ (fun _ _ => rfl) (hI.pure (by decide))
          · clear hsk
            obtain rfl := Option.some.inj ho
            have q10 := (hP.keep (j := 10) (by kernel_rfl)).trans G10
            go_simp
            exact hK x _ (fun _ _ => rfl) (hI.pure (by decide))
          · clear hsk
            obtain rfl := Option.some.inj ho
            have e3 := hP.got 3 _ 100 rfl (haft ⟨3, .data⟩ (by simp) rfl) rfl
            have e4 := hP.got 4 _ 101 rfl (haft ⟨4, .data⟩ (by simp) rfl) rfl
            try dsimp only at e3 e4
            go_simp
            exact hK x _ (fun _ _ => rfl) (hI.pure (by decide))
          · clear hsk
            obtain rfl := Option.some.inj ho
            have e5 := hP.got 5 _ 102 rfl (haft ⟨5, .data⟩ (by simp) rfl) rfl
            try dsimp only at e5
            go_simp
            exact hK x _ (fun _ _ => rfl) (hI.pure (by decide))
          · clear hsk
            obtain rfl := Option.some.inj ho
            have e6 := hP.got 6 _ 103 rfl (haft ⟨6, .data⟩ (by simp) rfl) rfl
            try dsimp only at e6
            go_simp
            exact hK x _ (fun _ _ => rfl) (hI.pure (by decide))
          · clear hsk
            obtain rfl := Option.some.inj ho
            have e7 := hP.got 7 _ 104 rfl (haft ⟨7, .data⟩ (by simp) rfl) rfl
            try dsimp only at e7
            have c9 := TRow.cell (hI.lb.rw T (by simp)) ea hlt 1 (.int .i64 ((T.g i0).r 0)) rfl
            go_simp
            exact hK x _ (fun _ _ => rfl) (hI.pure (by decide))
          · clear hsk
            obtain rfl := Option.some.inj ho
            have e2 := hP.got 2 _ 99 rfl (haft ⟨2, .data⟩ (by simp) rfl) rfl
            have e8 := hP.got 8 _ 105 rfl (haft ⟨8, .data⟩ (by simp) rfl) rfl
            try dsimp only at e2 e8
            go_simp
            exact hK x _ (fun _ _ => rfl) (hI.pure (by decide))
          · clear hsk
            obtain rfl := Option.some.inj ho
            have e9 := hP.got 9 _ 106 rfl (haft ⟨9, .data⟩ (by simp) rfl) rfl
            try dsimp only at e9
            go_simp
            exact hK x _ (fun _ _ => rfl) (hI.pure (by decide))
          · clear hsk
            obtain rfl := Option.some.inj ho
            have q3 := (hP.keep (j := 3) (by kernel_rfl)).trans G3
            exact Mu.p_load rfl (Mu.ev q3) (ldKb (hI.lb.bx w.heap.size (kv k) (by simp))) (hK x _ (fun _ _ => rfl) (hI.pure (by decide)))
          · clear hsk
            obtain rfl := Option.some.inj ho
            have q9 := (hP.keep (j := 9) (by kernel_rfl)).trans G9
            exact Mu.p_load rfl (Mu.ev q9) (ldTb (hI.lb.bx b9 (tv m) (by simp))) (hK x _ (fun _ _ => rfl) (hI.pure (by decide)))
          · clear hsk
            obtain rfl := Option.some.inj ho
            have e12 := hP.got 12 _ 109 rfl (haft ⟨12, .data⟩ (by simp) rfl) rfl
            try dsimp only at e12
            go_simp
            refine hK ⟨W9.heap.size, x.2⟩ _ ?_ (hI.lay1 34)
            intro j hj
            match j, hj with
            | 0, hj => rfl
            | 1, hj => rfl
            | 2, hj => rfl
            | 3, hj => rfl
            | 4, hj => rfl
            | 5, hj => rfl
            | 6, hj => rfl
            | 7, hj => rfl
            | 8, hj => rfl
            | 9, hj => rfl
            | 10, hj => rfl
            | 11, hj => rfl
            | 12, hj => rfl
            | 13, hj => rw [hl] at hj; cases hj
            | 14, hj => rfl
            | 15, hj => rfl
            | 16, hj => rfl
            | 17, hj => rfl
            | 18, hj => rfl
            | 19, hj => rfl
            | 20, hj => rfl
            | 21, hj => rfl
            | 22, hj => rfl
            | 23, hj => rfl
            | 24, hj => rfl
            | 25, hj => rfl
            | 26, hj => rfl
            | 27, hj => rfl
            | 28, hj => rfl
            | 29, hj => rfl
            | 30, hj => rfl
            | 31, hj => rfl
            | 32, hj => rfl
            | 33, hj => rfl
            | 34, hj => rfl
            | 35, hj => rfl
            | 36, hj => rfl
            | j + 37, _ => rfl
          · clear hsk
            obtain rfl := Option.some.inj ho
            have e11 := hP.got 11 _ 108 rfl (haft ⟨11, .data⟩ (by simp) rfl) rfl
            have h13 := haft ⟨13, .data⟩ (by simp) rfl
            have e13 := hP.got 13 _ 110 rfl h13 rfl
            try dsimp only at e11 e13
            go_simp
            refine (C1.out _ W9 (hI.r1 h13)).mono ?_
            rintro e9 w9 ⟨rfl, hb9⟩
            exact hK x _ (fun _ _ => rfl) ((hI.next hb9).pure (by decide))
          · clear hsk
            obtain rfl := Option.some.inj ho
            have q3 := (hP.keep (j := 3) (by kernel_rfl)).trans G3
            exact Mu.p_load rfl (Mu.ev q3) (ldKb (hI.lb.bx w.heap.size (kv k) (by simp))) (hK x _ (fun _ _ => rfl) (hI.pure (by decide)))
          · clear hsk
            obtain rfl := Option.some.inj ho
            have q2 := (hP.keep (j := 2) (by kernel_rfl)).trans G2
            go_simp
            exact hK x _ (fun _ _ => rfl) (hI.pure (by decide))
          · clear hsk
            obtain rfl := Option.some.inj ho
            have q10 := (hP.keep (j := 10) (by kernel_rfl)).trans G10
            go_simp
            exact hK x _ (fun _ _ => rfl) (hI.pure (by decide))
          · clear hsk
            obtain rfl := Option.some.inj ho
            have e16 := hP.got 16 _ 113 rfl (haft ⟨16, .data⟩ (by simp) rfl) rfl
            have e17 := hP.got 17 _ 114 rfl (haft ⟨17, .data⟩ (by simp) rfl) rfl
            try dsimp only at e16 e17
            go_simp
            exact hK x _ (fun _ _ => rfl) (hI.pure (by decide))
          · clear hsk
            obtain rfl := Option.some.inj ho
            have e18 := hP.got 18 _ 115 rfl (haft ⟨18, .data⟩ (by simp) rfl) rfl
            try dsimp only at e18
            exact Mu.p_load rfl (Mu.ev e18) (TRow.load (hI.lb.rw T (by simp)) ea hlt) (hK x _ (fun _ _ => rfl) (hI.pure (by decide)))
          · clear hsk
            obtain rfl := Option.some.inj ho
            have e19 := hP.got 19 _ 116 rfl (haft ⟨19, .data⟩ (by simp) rfl) rfl
            try dsimp only at e19
            go_simp
            refine hK ⟨x.1, W9.heap.size⟩ _ ?_ (hI.lay2 34)
            intro j hj
            match j, hj with
            | 0, hj => rfl
            | 1, hj => rfl
            | 2, hj => rfl
            | 3, hj => rfl
            | 4, hj => rfl
            | 5, hj => rfl
            | 6, hj => rfl
            | 7, hj => rfl
            | 8, hj => rfl
            | 9, hj => rfl
            | 10, hj => rfl
            | 11, hj => rfl
            | 12, hj => rfl
            | 13, hj => rfl
            | 14, hj => rfl
            | 15, hj => rfl
            | 16, hj => rfl
            | 17, hj => rfl
            | 18, hj => rfl
            | 19, hj => rfl
            | 20, hj => rw [hl] at hj; cases hj
            | 21, hj => rfl
            | 22, hj => rfl
            | 23, hj => rfl
            | 24, hj => rfl
            | 25, hj => rfl
            | 26, hj => rfl
            | 27, hj => rfl
            | 28, hj => rfl
            | 29, hj => rfl
            | 30, hj => rfl
            | 31, hj => rfl
            | 32, hj => rfl
            | 33, hj => rfl
            | 34, hj => rfl
            | 35, hj => rfl
            | 36, hj => rfl
            | j + 37, _ => rfl
          · clear hsk
            obtain rfl := Option.some.inj ho
            have e15 := hP.got 15 _ 112 rfl (haft ⟨15, .data⟩ (by simp) rfl) rfl
            have h20 := haft ⟨20, .data⟩ (by simp) rfl
            have e20 := hP.got 20 _ 117 rfl h20 rfl
            try dsimp only at e15 e20
            go_simp
            refine (C2.out _ W9 (hI.r2 h20)).mono ?_
            rintro e9 w9 ⟨rfl, hb9⟩
            exact hK x _ (fun _ _ => rfl) ((hI.next hb9).pure (by decide))
          · clear hsk
            obtain rfl := Option.some.inj ho
            have e14 := hP.got 14 _ 111 rfl (haft ⟨14, .data⟩ (by simp) rfl) rfl
            have e21 := hP.got 21 _ 118 rfl (haft ⟨21, .data⟩ (by simp) rfl) rfl
            try dsimp only at e14 e21
            go_simp
            exact hK x _ (fun _ _ => rfl) (hI.pure (by decide))
          · clear hsk
            obtain rfl := Option.some.inj ho
            have e10 := hP.got 10 _ 107 rfl (haft ⟨10, .data⟩ (by simp) rfl) rfl
            have e22 := hP.got 22 _ 119 rfl (haft ⟨22, .data⟩ (by simp) rfl) rfl
            try dsimp only at e10 e22
            go_simp
            exact hK x _ (fun _ _ => rfl) (hI.pure (by decide))
          · clear hsk
            obtain rfl := Option.some.inj ho
            have e23 := hP.got 23 _ 120 rfl (haft ⟨23, .data⟩ (by simp) rfl) rfl
            try dsimp only at e23
            go_simp
            exact hK x _ (fun _ _ => rfl) (hI.pure (by decide))
          · clear hsk
            obtain rfl := Option.some.inj ho
            have q3 := (hP.keep (j := 3) (by kernel_rfl)).trans G3
            exact Mu.p_load rfl (Mu.ev q3) (ldKb (hI.lb.bx w.heap.size (kv k) (by simp))) (hK x _ (fun _ _ => rfl) (hI.pure (by decide)))
          · clear hsk
            obtain rfl := Option.some.inj ho
            have q9 := (hP.keep (j := 9) (by kernel_rfl)).trans G9
            exact Mu.p_load rfl (Mu.ev q9) (ldTb (hI.lb.bx b9 (tv m) (by simp))) (hK x _ (fun _ _ => rfl) (hI.pure (by decide)))
          · clear hsk
            obtain rfl := Option.some.inj ho
            have e25 := hP.got 25 _ 122 rfl (haft ⟨25, .data⟩ (by simp) rfl) rfl
            have e26 := hP.got 26 _ 123 rfl (haft ⟨26, .data⟩ (by simp) rfl) rfl
            try dsimp only at e25 e26
            go_simp
            refine (C3.out W9).mono ?_
            rintro e9 w9 ⟨rfl, hb9⟩
            exact hK x _ (fun _ _ => rfl) ((hI.next hb9).pure (by decide))
          · clear hsk
            obtain rfl := Option.some.inj ho
            have q3 := (hP.keep (j := 3) (by kernel_rfl)).trans G3
            exact Mu.p_load rfl (Mu.ev q3) (ldKb (hI.lb.bx w.heap.size (kv k) (by simp))) (hK x _ (fun _ _ => rfl) (hI.pure (by decide)))
          · clear hsk
            obtain rfl := Option.some.inj ho
            have q2 := (hP.keep (j := 2) (by kernel_rfl)).trans G2
            go_simp
            exact hK x _ (fun _ _ => rfl) (hI.pure (by decide))
          · clear hsk
            obtain rfl := Option.some.inj ho
            have q10 := (hP.keep (j := 10) (by kernel_rfl)).trans G10
            go_simp
            exact hK x _ (fun _ _ => rfl) (hI.pure (by decide))
          · clear hsk
            obtain rfl := Option.some.inj ho
            have e29 := hP.got 29 _ 126 rfl (haft ⟨29, .data⟩ (by simp) rfl) rfl
            have e30 := hP.got 30 _ 127 rfl (haft ⟨30, .data⟩ (by simp) rfl) rfl
            try dsimp only at e29 e30
            go_simp
            exact hK x _ (fun _ _ => rfl) (hI.pure (by decide))
          · clear hsk
            obtain rfl := Option.some.inj ho
            have e31 := hP.got 31 _ 128 rfl (haft ⟨31, .data⟩ (by simp) rfl) rfl
            try dsimp only at e31
            exact Mu.p_load rfl (Mu.ev e31) (TRow.load (hI.lb.rw T (by simp)) ea hlt) (hK x _ (fun _ _ => rfl) (hI.pure (by decide)))
          · clear hsk
            obtain rfl := Option.some.inj ho
            have e28 := hP.got 28 _ 125 rfl (haft ⟨28, .data⟩ (by simp) rfl) rfl
            have e32 := hP.got 32 _ 129 rfl (haft ⟨32, .data⟩ (by simp) rfl) rfl
            try dsimp only at e28 e32
            go_simp
            refine (C4.out W9).mono ?_
            rintro e9 w9 ⟨rfl, hb9⟩
            exact hK x _ (fun _ _ => rfl) ((hI.next hb9).pure (by decide))
          · clear hsk
            obtain rfl := Option.some.inj ho
            have e27 := hP.got 27 _ 124 rfl (haft ⟨27, .data⟩ (by simp) rfl) rfl
            have e33 := hP.got 33 _ 130 rfl (haft ⟨33, .data⟩ (by simp) rfl) rfl
            try dsimp only at e27 e33
            go_simp
            exact hK x _ (fun _ _ => rfl) (hI.pure (by decide))
          · clear hsk
            obtain rfl := Option.some.inj ho
            have e24 := hP.got 24 _ 121 rfl (haft ⟨24, .data⟩ (by simp) rfl) rfl
            have e34 := hP.got 34 _ 131 rfl (haft ⟨34, .data⟩ (by simp) rfl) rfl
            try dsimp only at e24 e34
            go_simp
            exact hK x _ (fun _ _ => rfl) (hI.pure (by decide))
          · clear hsk
            obtain rfl := Option.some.inj ho
            have e35 := hP.got 35 _ 132 rfl (haft ⟨35, .data⟩ (by simp) rfl) rfl
            try dsimp only at e35
            go_simp
            exact hK x _ (fun _ _ => rfl) (hI.pure (by decide))
        case doneN =>
          rintro l a9 x W9 hP hI hall
          have R9 := Lib.hid hI.lb.bel
          obtain rfl := pl_full hP (by rw [TZ]; kernel_rfl) hall [some 97, some 98, some 99, some 100, some 101, some 102, some 103, some 104, some 105, some 106, some 107, some 108, some 109, some 110, some 111, some 112, some 113, some 114, some 115, some 116, some 117, some 118, some 119, some 120, some 121, some 122, some 123, some 124, some 125, some 126, some 127, some 128, some 129, some 130, some 131, some 132, some 6] (by rfl)
          clear hP hI hall TZ G9 G2 G10 G3
          rw [HA.out]
          simp only [putD, Act.put, List.setIfInBounds_toArray, List.set_cons_succ, List.set_cons_zero]
          clear HA
          go_wp2
          go_ret
          exact ⟨rfl, R9.out⟩
end
theorem walk (k : Sh.Ks) (xs : List Int) (t : Ts) (F : Nat → List Int) (g : Nat → O4) (T : Tl) (w : World) (hz : Cl.Sz w) (hk : Sh.WRow w w.heap.size k xs) (_ : k.wk.n ≤ k.wk.c) (_ : k.wk.c ≤ maxLen) (_ : (Lit.int .i64 k.ep).wf = true) (ht : Th w w.heap.size t F g) (hr : TRow w w.heap.size T.s.a T.s.n T.g) (_ : T.s.n ≤ T.s.c) (_ : T.s.c ≤ maxLen) : Calls Tryz.prog 8 #[(.agg #[.int .i64 k.ph, .int .i64 k.ep, .bool k.mj, .slice k.wk.a k.wk.n k.wk.c, .bool k.ov, .int .i64 k.pa, .int .i64 k.pf, .int .i64 k.ps, .int .i64 k.pc, .bool k.me]), (.agg #[.bool t.lv, .int .i64 (t.r 0), .int .i64 (t.r 1), .int .i64 (t.r 2), .int .i64 (t.r 3), .slice (t.u 0).a (t.u 0).n (t.u 0).c, .slice (t.u 1).a (t.u 1).n (t.u 1).c, .slice (t.u 2).a (t.u 2).n (t.u 2).c, .int .i64 t.ep, .int .i64 t.sg, .int .i64 t.rt, .slice t.o.a t.o.n t.o.c, .int .i64 t.pc, .int .i64 t.x, .int .i64 t.y]), .slice T.s.a T.s.n T.s.c] w fun e w' => e = .returned (.bool true) ∧ Below w.heap.size w w' := by
  cases hf : fewT t with
  | false => exact walk_few k t T w hf hz hr
  | true =>
    by_cases hn : T.s.n ≤ 6
    · rcases idxF_spec lvB T.g T.s.n 0 with ⟨e, hno⟩ | ⟨i, e, _, h2, h3, h4⟩
      · have hno' : ∀ i, i < T.s.n → (T.g i).lv = false := fun i hi => hno i (Nat.zero_le _) (by omega)
        by_cases h3 : k.ph = 3
        · exact walk_none_roots k xs t F g T w hf hn e hno' h3 hz hk ht hr
        · by_cases h5 : k.ph = 5
          · exact walk_none_trace k xs t F g T w hf hn e hno' h5 hz hk ht hr
          · exact walk_none_other k xs t F g T w hf hn e hno' h3 h5 hz hk ht hr
      · exact walk_some k xs t F g T w hf hn i e (by omega) h3 (fun j hj => h4 j (Nat.zero_le _) hj) hz hk ht hr
    · exact walk_big k t T w hf (by omega) hz hr

-- the frame (hp15frame.py)
set_option maxRecDepth 100000 in
theorem lifted (os : Os) (started : os.Started) (H : Type) (enc : TypeId × Value → H) :
    ReturnsInHanded {} Tryz.checked os 8 .any (fun w args => (Rows.handBeginsSpec.pre enc Tryz.prog Tryz.f8 [] false w args ∧ laidMetH Tryz.prog laidSizes w) ∧ sizedMet enc Tryz.prog Tryz.f8 (OpenSpec.ofChange Rows.handBeginsSpec) false w args)
      (Rows.handBeginsSpec.post enc Tryz.prog Tryz.f8 false true false false) := by
  refine returnsInHanded_of_change_and (C := Tryz.checked) (X := fun w _ => laidMetH Tryz.prog laidSizes w) (fun _ _ _ hh h => h.of_heap hh) own started (by kernel_rfl) Tryz.func8
    (ChangeSpec.witness_shaped (enc := enc) (C := Tryz.checked) (os := os) (X := fun w _ => laidMetH Tryz.prog laidSizes w) false (World.doorLaid Tryz.prog 400 os) #[.agg #[.int .i64 0, .int .i64 0, .bool false, .slice none 0 0, .bool false, .int .i64 0, .int .i64 0, .int .i64 0, .int .i64 0, .bool false], .agg #[.bool false, .int .i64 0, .int .i64 0, .int .i64 0, .int .i64 0, .slice none 0 0, .slice none 0 0, .slice none 0 0, .int .i64 0, .int .i64 0, .int .i64 0, .slice none 0 0, .int .i64 0, .int .i64 0, .int .i64 0], .slice none 0 0] 8 rfl (World.shaped_of_RefB (by kernel_rfl) (by kernel_rfl)) (by kernel_rfl) (by kernel_rfl) (by kernel_rfl) (door_met os _)) ?_
  intro W base args ds gs before hval0 hW _ _ hL _
  have hval : ∀ (j : Nat) t v, Tryz.f8.params[j]? = some t → args[j]? = some v → Value.okWide Tryz.prog W .any base t v := hval0
  have hW' := hW
  obtain ⟨p, q, hA0, hV, rfl, hfz, hnd⟩ := hW
  have hA : DataW.TrodAll enc Tryz.prog W 0 (fun _ => true) true Tryz.f8.params.toList args.toList ds p := hA0
  rw [Tryz.params8] at hA hval
  obtain ⟨v0, vs0, d0, ds0, p0, q0, hargs, rfl, rfl, h0, r0⟩ := trodAll_cons hA
  obtain ⟨v1, vs1, d1, ds1, p1, q1, rfl, rfl, rfl, h1, r1⟩ := trodAll_cons r0
  obtain ⟨v2, vs2, d2, ds2, p2, q2, rfl, rfl, rfl, h2, r2⟩ := trodAll_cons r1
  obtain ⟨rfl, rfl, rfl⟩ := trodAll_nil r2
  obtain rfl : args = #[v0, v1, v2] := by cases args; simp_all
  obtain ⟨rfl, rfl⟩ := trodVars_none hV
  have k0 := h0
  have lt0 : ∀ x ∈ p0, x.block < W.heap.size := by obtain ⟨m, hm⟩ := k0; exact DataW.trod_lt m _ _ _ hm
  obtain ⟨k0', z0, rfl, w0, m0, x0, f0⟩ := Sh.col_of (hval 0 30 v0 rfl rfl) h0
  have k1 := h1
  have lt1 : ∀ x ∈ p1, x.block < W.heap.size := by obtain ⟨m, hm⟩ := k1; exact DataW.trod_lt m _ _ _ hm
  obtain ⟨t1, z1, g1, rfl, w1⟩ := Rt.th_of (hval 1 34 v1 rfl rfl) h1
  have k2 := h2
  have lt2 : ∀ x ∈ p2, x.block < W.heap.size := by obtain ⟨m, hm⟩ := k2; exact DataW.trod_lt m _ _ _ hm
  obtain ⟨t2, g2, rfl, w2, m2, x2⟩ := Ha.ths_of (hval 2 59 v2 rfl rfl) h2
  clear hA0 hval0
  refine (walk k0' z0 t1 z1 g1 ⟨t2, g2⟩ W (of_laid hL) w0 m0 x0 f0 w1 w2 m2 x2).mono fun e W' ⟨he, bel⟩ => ?_
  subst he
  exact ⟨_, rfl, _, _, _, [], _, [], hW', trodAll_mk1 (shut_bool Tryz.underlying4 _), (trodAll_cons_mk (Below.trod laidOut (by kernel_rfl) (of_decide_eq_true (by kernel_rfl)) k0 bel lt0) (trodAll_cons_mk (Below.trod laidOut (by kernel_rfl) (of_decide_eq_true (by kernel_rfl)) k1 bel lt1) (trodAll_cons_mk (Below.trod laidOut (by kernel_rfl) (of_decide_eq_true (by kernel_rfl)) k2 bel lt2) trodAll_mk0))), rfl, bel.frame _, fun h => by cases h⟩

theorem over : Rows.HandBeginsSaid :=
  OpenClaim.holds_of_wide 8 Tryz.f8 rfl rfl rfl rfl rfl rfl rfl ⟨rfl, rfl, rfl, rfl, rfl⟩ rfl rfl rfl rfl rfl (by kernel_rfl) Tryz.func8 (by kernel_rfl)
    (of_decide_eq_true (by kernel_rfl)) (by unfold Func.isWrapper; first | (rw [if_pos (by decide +kernel)]; kernel_rfl) | (rw [if_neg (by decide +kernel)]; exact ⟨rfl, rfl⟩))
    (fun os started H enc _ => lifted os started H enc)

/-- The statement: the card. -/
theorem proved : Rows.HandBeginsCardSaid :=
  Claim7.holds_tied_plain_at .later [] [.data] true Rows.handBeginsCard.stood.harness false
    over (fun _ h => by cases h) (by kernel_rfl) (fun _ h => by cases h) handBegins_row_tie rfl ⟨rfl, rfl⟩ (by kernel_rfl) rfl
    (fun f fn hf hfn => by
      obtain rfl : f = 8 := Option.some.inj ((show Tryz.prog.funcNamed "ragpicker/ragpickerlaw15.HandBegins" = some 8 by kernel_rfl).symm.trans hf) |>.symm
      obtain rfl : fn = Tryz.f8 := (Option.some.inj (Tryz.func8.symm.trans hfn)).symm
      exact ⟨by kernel_rfl, fun j t ht => by
        rw [Tryz.params8] at ht
        have hm : t ∈ [30, 34, 59] := by simpa using Array.mem_of_getElem? ht
        have hall : ([30, 34, 59].all fun u => !Tryz.prog.wantsStandIn u) = true := by kernel_rfl
        exact (show Tryz.prog.wantsStandIn t = false by simpa using List.all_eq_true.1 hall t hm)⟩)
    (by kernel_rfl)
#print axioms proved
end Go.Proofs.YtgmkomnoiffapaaGreatDoor.HandBegins
