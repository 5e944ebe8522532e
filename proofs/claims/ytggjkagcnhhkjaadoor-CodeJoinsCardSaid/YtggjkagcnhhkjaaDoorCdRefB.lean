/-
  The reference's Word.
-/
import Derived.Test.YtggjkagcnhhkjaaDoorCdRefA
namespace Go.Proofs.YtggjkagcnhhkjaaDoor.Cd
open Go.Proofs.YtggjkagcnhhkjaaDoor Go.Proofs.YtggjkagcnhhkjaaDoor.Rt
open Go.RowKit
set_option maxRecDepth 100000

theorem rword_bad (k a b c : Int) (w : World) (h : ¬ may ⟨k, a, b, c⟩) : Calls Tryd.prog 11 #[opv ⟨k, a, b, c⟩] w (WOut w ⟨k, a, b, c⟩) := by
  have HM := Lib.hid (And.intro (mayB_no h) (word_no h))
  have HC : ∀ W, Calls Tryd.prog 13 #[.agg #[.int .i64 k, .int .i64 a, .int .i64 b, .int .i64 c]] W (MOut W ⟨k, a, b, c⟩) := fun W => rmay_any ⟨k, a, b, c⟩ W
  have HH := Lib.hid HC
  unfold opv
  clear h HC
  go_enter Tryd.func11, Tryd.ntmps11
  go_wp2_with fail
  refine (HH.out _).mono ?_
  rintro e w1 ⟨rfl, hb1⟩
  rw [HM.out.1]
  go_wp2
  go_ret2
  exact ⟨by rw [HM.out.2.1, HM.out.2.2]; rfl, ((Below.refl _ w).alloc (Nat.le_refl _) _).trans (hb1.mono (by simp))⟩
set_option maxHeartbeats 1000000 in
theorem rword_good (k a b c : Int) (w : World) (h : may ⟨k, a, b, c⟩) : Calls Tryd.prog 11 #[opv ⟨k, a, b, c⟩] w (WOut w ⟨k, a, b, c⟩) := by
  have hk : 0 ≤ k ∧ k ≤ 6 := ⟨h.1, h.2.1⟩
  have HM := Lib.hid (And.intro (mayB_yes h) (And.intro (word_yes h) (And.intro hk h)))
  have HC : ∀ W, Calls Tryd.prog 13 #[.agg #[.int .i64 k, .int .i64 a, .int .i64 b, .int .i64 c]] W (MOut W ⟨k, a, b, c⟩) := fun W => rmay_any ⟨k, a, b, c⟩ W
  have HH := Lib.hid HC
  obtain ⟨N, hN⟩ : ∃ N : Nat, N = many k := ⟨_, rfl⟩
  have hN3 : N ≤ 3 := by rw [hN]; exact many_le hk
  have HN := Lib.hid hN
  unfold opv
  clear h HC hk hN
  go_enter Tryd.func11, Tryd.ntmps11
  go_wp2_with fail
  refine (HH.out _).mono ?_
  rintro e w1 ⟨rfl, hb1⟩
  rw [HM.out.1]
  have HX := Lib.hid ((Box.new w [.int .i64 k, .int .i64 a, .int .i64 b, .int .i64 c] 28).next hb1)
  have HB := Lib.hid (((Below.refl _ w).alloc (Nat.le_refl _) (.cells [Value.int .i64 k, .int .i64 a, .int .i64 b, .int .i64 c].toArray 28)).trans (hb1.mono (by simp)))
  clear hb1
  have c0 := HX.out.cel 0 _ rfl
  have c1 := HX.out.cel 1 _ rfl
  have c2 := HX.out.cel 2 _ rfl
  have c3 := HX.out.cel 3 _ rfl
  have cl := HX.out.lt
  go_wp2_with fail
  refine (rsign_any k _ HM.out.2.2.1).mono ?_
  rintro e w2 ⟨rfl, rfl⟩
  rw [← HN.out]
  obtain ⟨s0, hs0⟩ : ∃ s0, s0 = sofar ⟨k, a, b, c⟩ 0 := ⟨_, rfl⟩
  have es : sign k = s0 := by rw [hs0]; unfold sofar; rw [show commasN ⟨k, a, b, c⟩ 0 = [] from rfl, List.append_nil]
  have ES := Lib.hid hs0
  clear hs0
  rw [es]
  clear es
  go_wp2_with fail
  have HA := Lib.hid (Box.new w1 [.int .i64 a, .int .i64 b, .int .i64 c] 3)
  have HB4 := Lib.hid (HB.out.alloc HB.out.size (.cells [Value.int .i64 a, .int .i64 b, .int .i64 c].toArray 3))
  have HQ := Lib.hid (And.intro (And.intro HM.out.2.2.2.2.2.1.1 HM.out.2.2.2.2.2.1.2.1) (And.intro (And.intro HM.out.2.2.2.2.2.2.1.1 HM.out.2.2.2.2.2.2.1.2.1) (And.intro HM.out.2.2.2.2.2.2.2.1 HM.out.2.2.2.2.2.2.2.2.1)))
  generalize w1.heap.size = A at HA ⊢
  generalize w1.alloc (.cells #[Value.int .i64 a, .int .i64 b, .int .i64 c] 3) = w4 at HA HB4 ⊢
  clear c0 c1 c2 c3 cl HX HB
  have q0 := HA.out.cel 0 _ rfl
  have q1 := HA.out.cel 1 _ rfl
  have q2 := HA.out.cel 2 _ rfl
  have ql := HA.out.lt
  go_loop [5, 8] (fun s i => ∃ m : Nat, m ≤ N ∧ i = .int .i64 m ∧ s = .string (bs (sofar ⟨k, a, b, c⟩ m))) (fun _ i => 3 - (intOf i).toNat)
  case atStart => exact ⟨0, by omega, rfl, by rw [ES.out]⟩
  case round =>
    obtain ⟨m, hm, rfl, rfl⟩ := hrel
    by_cases hlt : m < N
    · have hm3 : m = 0 ∨ m = 1 ∨ m = 2 := by omega
      rcases hm3 with rfl | rfl | rfl
      · have hlt' : (0 : Int) < (N : Int) := by omega
        have hadd := fun w => add_bs (sofar ⟨k, a, b, c⟩ 0) (digits a) w (by have := sofar_len ⟨k, a, b, c⟩ 0; omega) (by have := digits_len a; omega)
        rw [sofar_one ⟨k, a, b, c⟩] at hadd
        go_wp2_with fail
        refine (dig_any a _ HQ.out.1.1 HQ.out.1.2).mono ?_
        rintro e w5 ⟨rfl, rfl⟩
        go_wp2
        go_round
        case rel => exact ⟨1, by omega, by rfl, by rfl⟩
        case measure => simp [intOf]
      · have hlt' : (1 : Int) < (N : Int) := by omega
        have hcm : ∀ w, (Op.stringOp .add (bs (sofar ⟨k, a, b, c⟩ 1)) { data := #[44] }).run Tryd.prog w = .ok (.string (bs (sofar ⟨k, a, b, c⟩ 1 ++ [44]))) w := fun w => add_bs (sofar ⟨k, a, b, c⟩ 1) [44] w (by have := sofar_len ⟨k, a, b, c⟩ 1; omega) (by simp)
        have hadd := fun w => add_bs (sofar ⟨k, a, b, c⟩ 1 ++ [44]) (digits b) w (by have := sofar_len ⟨k, a, b, c⟩ 1; simp; omega) (by have := digits_len b; omega)
        rw [sofar_two ⟨k, a, b, c⟩] at hadd
        go_wp2_with fail
        refine (dig_any b _ HQ.out.2.1.1 HQ.out.2.1.2).mono ?_
        rintro e w5 ⟨rfl, rfl⟩
        go_wp2
        go_round
        case rel => exact ⟨2, by omega, by rfl, by rfl⟩
        case measure => simp [intOf]
      · have hlt' : (2 : Int) < (N : Int) := by omega
        have hcm : ∀ w, (Op.stringOp .add (bs (sofar ⟨k, a, b, c⟩ 2)) { data := #[44] }).run Tryd.prog w = .ok (.string (bs (sofar ⟨k, a, b, c⟩ 2 ++ [44]))) w := fun w => add_bs (sofar ⟨k, a, b, c⟩ 2) [44] w (by have := sofar_len ⟨k, a, b, c⟩ 2; omega) (by simp)
        have hadd := fun w => add_bs (sofar ⟨k, a, b, c⟩ 2 ++ [44]) (digits c) w (by have := sofar_len ⟨k, a, b, c⟩ 2; simp; omega) (by have := digits_len c; omega)
        rw [sofar_three ⟨k, a, b, c⟩] at hadd
        go_wp2_with fail
        refine (dig_any c _ HQ.out.2.2.1 HQ.out.2.2.2).mono ?_
        rintro e w5 ⟨rfl, rfl⟩
        go_wp2
        go_round
        case rel => exact ⟨3, by omega, by rfl, by rfl⟩
        case measure => simp [intOf]
    · obtain rfl : m = N := by omega
      have hw : wordS ⟨k, a, b, c⟩ = bs (sofar ⟨k, a, b, c⟩ m) := by
        rw [HM.out.2.1.1, HN.out]
        rfl
      have HW := Lib.hid (And.intro hw HM.out.2.1.2)
      clear hw
      go_wp2
      go_ret2
      exact ⟨by rw [HW.out.1, HW.out.2]; rfl, HB4.out⟩
theorem rword_any (x : O4) (w : World) : Calls Tryd.prog 11 #[opv x] w (WOut w x) := by
  obtain ⟨k, a, b, c⟩ := x
  by_cases h : may ⟨k, a, b, c⟩
  · exact rword_good k a b c w h
  · exact rword_bad k a b c w h
end Go.Proofs.YtggjkagcnhhkjaaDoor.Cd
