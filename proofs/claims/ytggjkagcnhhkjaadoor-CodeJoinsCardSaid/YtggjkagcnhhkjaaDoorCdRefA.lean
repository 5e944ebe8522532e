/-
  The reference's Sign, May, Digits and Word.
-/
import Derived.Test.YtggjkagcnhhkjaaDoorCdWord
namespace Go.Proofs.YtggjkagcnhhkjaaDoor.Cd
open Go.Proofs.YtggjkagcnhhkjaaDoor Go.Proofs.YtggjkagcnhhkjaaDoor.Rt
open Go.RowKit
set_option maxRecDepth 100000

theorem rsign_any (k : Int) (w : World) (h : 0 ≤ k ∧ k ≤ 6) : Calls Tryd.prog 22 #[.int .i64 k] w fun e w' => e = .returned (.tuple #[.string (bs (sign k)), .int .i64 (many k)]) ∧ w = w' := by
  rcases (show k = 0 ∨ k = 1 ∨ k = 2 ∨ k = 3 ∨ k = 4 ∨ k = 5 ∨ k = 6 by omega) with rfl | rfl | rfl | rfl | rfl | rfl | rfl
  · clear h -- a
    go_enter Tryd.func22, Tryd.ntmps22
    go_wp2
    go_ret2
    exact ⟨rfl, rfl⟩
  · clear h -- b
    go_enter Tryd.func22, Tryd.ntmps22
    go_wp2
    go_ret2
    exact ⟨rfl, rfl⟩
  · clear h -- c
    go_enter Tryd.func22, Tryd.ntmps22
    go_wp2
    go_ret2
    exact ⟨rfl, rfl⟩
  · clear h -- d
    go_enter Tryd.func22, Tryd.ntmps22
    go_wp2
    go_ret2
    exact ⟨rfl, rfl⟩
  · clear h -- e
    go_enter Tryd.func22, Tryd.ntmps22
    go_wp2
    go_ret2
    exact ⟨rfl, rfl⟩
  · clear h -- f
    go_enter Tryd.func22, Tryd.ntmps22
    go_wp2
    go_ret2
    exact ⟨rfl, rfl⟩
  · clear h -- g
    go_enter Tryd.func22, Tryd.ntmps22
    go_wp2
    go_ret2
    exact ⟨rfl, rfl⟩
theorem tens (n : Int) (h0 : 0 ≤ n) (h : n < 10) (w : World) : Sem.run Tryd.prog (Instr.sliceAt 9 (.string { data := #[48, 49, 50, 51, 52, 53, 54, 55, 56, 57] }) (some (.int .i64 n)) (some (.int .i64 (n + 1))) none) w = .ok (.string (bs (digits n))) w := by
  rcases (show n = 0 ∨ n = 1 ∨ n = 2 ∨ n = 3 ∨ n = 4 ∨ n = 5 ∨ n = 6 ∨ n = 7 ∨ n = 8 ∨ n = 9 by omega) with rfl | rfl | rfl | rfl | rfl | rfl | rfl | rfl | rfl | rfl
  all_goals kernel_rfl
theorem dig_one (n : Int) (w : World) (h0 : 0 ≤ n) (h : n < 10) : Calls Tryd.prog 23 #[.int .i64 n] w fun e w' => e = .returned (.string (bs (digits n))) ∧ w = w' := by
  have ht := fun w => tens n h0 h w
  go_enter Tryd.func23, Tryd.ntmps23
  go_wp2
  go_ret
  exact ⟨rfl, rfl⟩
theorem dig_two (n : Int) (w : World) (h0 : 10 ≤ n) (h : n < 100) : Calls Tryd.prog 23 #[.int .i64 n] w fun e w' => e = .returned (.string (bs (digits n))) ∧ w = w' := by
  have hd : digits n = digits (n / 10) ++ digits (n % 10) := by
    unfold digits
    rw [if_neg (by omega), if_pos h, if_pos (by omega), if_pos (by omega)]
    rfl
  have hadd := add_bs (digits (n / 10)) (digits (n % 10)) w (by have := digits_len (n / 10); omega) (by have := digits_len (n % 10); omega)
  rw [← hd] at hadd
  clear hd
  go_enter Tryd.func23, Tryd.ntmps23
  go_wp2_with fail
  refine (dig_one (n / 10) _ (by omega) (by omega)).mono ?_
  rintro e w1 ⟨rfl, rfl⟩
  go_wp2_with fail
  refine (dig_one (n % 10) _ (by omega) (by omega)).mono ?_
  rintro e w1 ⟨rfl, rfl⟩
  go_wp2
  go_ret
  exact ⟨rfl, rfl⟩
theorem dig_three (n : Int) (w : World) (h0 : 100 ≤ n) (h : n ≤ 999) : Calls Tryd.prog 23 #[.int .i64 n] w fun e w' => e = .returned (.string (bs (digits n))) ∧ w = w' := by
  have hd : digits n = digits (n / 10) ++ digits (n % 10) := by
    unfold digits
    rw [if_neg (by omega), if_neg (by omega), if_neg (by omega), if_pos (by omega), if_pos (by omega)]
    have e1 : n / 10 / 10 = n / 100 := by omega
    rw [e1]
    rfl
  have hadd := add_bs (digits (n / 10)) (digits (n % 10)) w (by have := digits_len (n / 10); omega) (by have := digits_len (n % 10); omega)
  rw [← hd] at hadd
  clear hd
  go_enter Tryd.func23, Tryd.ntmps23
  go_wp2_with fail
  refine (dig_two (n / 10) _ (by omega) (by omega)).mono ?_
  rintro e w1 ⟨rfl, rfl⟩
  go_wp2_with fail
  refine (dig_one (n % 10) _ (by omega) (by omega)).mono ?_
  rintro e w1 ⟨rfl, rfl⟩
  go_wp2
  go_ret
  exact ⟨rfl, rfl⟩
theorem dig_any (n : Int) (w : World) (h0 : 0 ≤ n) (h : n ≤ 999) : Calls Tryd.prog 23 #[.int .i64 n] w fun e w' => e = .returned (.string (bs (digits n))) ∧ w = w' := by
  by_cases h1 : n < 10
  · exact dig_one n w h0 h1
  · by_cases h2 : n < 100
    · exact dig_two n w (by omega) h2
    · exact dig_three n w (by omega) h

theorem rmay_bad (k a b c : Int) (w : World) (h : ¬ (0 ≤ k ∧ k ≤ 6)) : Calls Tryd.prog 13 #[opv ⟨k, a, b, c⟩] w (MOut w ⟨k, a, b, c⟩) := by
  have HM := Lib.hid (mayB_no (x := ⟨k, a, b, c⟩) (fun hm => h (may_of.1 hm).1))
  unfold opv
  by_cases h1 : k < 0
  · go_enter Tryd.func13, Tryd.ntmps13
    go_wp2
    go_ret
    exact ⟨by rw [HM.out]; rfl, (Below.refl _ _).alloc (Nat.le_refl _) _⟩
  · have h2 : 6 < k := by omega
    clear h
    go_enter Tryd.func13, Tryd.ntmps13
    go_wp2
    go_ret
    exact ⟨by rw [HM.out]; rfl, (Below.refl _ _).alloc (Nat.le_refl _) _⟩
set_option maxHeartbeats 1000000 in
theorem rmay_some (k a b c : Int) (w : World) (h : 0 ≤ k ∧ k ≤ 6) : Calls Tryd.prog 13 #[opv ⟨k, a, b, c⟩] w (MOut w ⟨k, a, b, c⟩) := by
  have HK := Lib.hid h
  obtain ⟨hk0, hk6⟩ := h
  unfold opv
  obtain ⟨N, hN⟩ : ∃ N : Int, N = (many k : Int) := ⟨_, rfl⟩
  have hN3 : 0 ≤ N ∧ N ≤ 3 := by
    rw [hN]
    have := many_le HK.out
    omega
  obtain ⟨hNa, hNb⟩ := hN3
  have HN := Lib.hid hN
  clear hN
  go_enter Tryd.func13, Tryd.ntmps13
  go_wp2_with fail
  refine (rsign_any k _ HK.out).mono ?_
  rintro e w1 ⟨rfl, rfl⟩
  rw [← HN.out]
  go_wp2_with fail
  have HA := Lib.hid (Box.new (w.alloc (.cells #[.int .i64 k, .int .i64 a, .int .i64 b, .int .i64 c] 28)) [.int .i64 a, .int .i64 b, .int .i64 c] 3)
  have HB := Lib.hid (((Below.refl _ w).alloc (Nat.le_refl _) (.cells #[.int .i64 k, .int .i64 a, .int .i64 b, .int .i64 c] 28)).alloc (by simp) (.cells [Value.int .i64 a, .int .i64 b, .int .i64 c].toArray 3))
  generalize (w.alloc (.cells #[.int .i64 k, .int .i64 a, .int .i64 b, .int .i64 c] 28)).alloc (.cells #[.int .i64 a, .int .i64 b, .int .i64 c] 3) = w2 at HA HB ⊢
  rw [World.size_alloc] at HA
  have c0 := HA.out.cel 0 _ rfl
  have c1 := HA.out.cel 1 _ rfl
  have c2 := HA.out.cel 2 _ rfl
  have cl := HA.out.lt
  go_loop [6] (fun i => ∃ m : Nat, m ≤ 3 ∧ i = .int .i64 m ∧ Hid (∀ j, j < m → numOk (many k) j (nth ⟨k, a, b, c⟩ j))) (fun i => 3 - (intOf i).toNat)
  case atStart => exact ⟨0, by omega, rfl, Lib.hid (fun j hj => absurd hj (by omega))⟩
  case round =>
    obtain ⟨m, hm, rfl, HR⟩ := hrel
    by_cases hlt : m < 3
    · have hm3 : m = 0 ∨ m = 1 ∨ m = 2 := by omega
      rcases hm3 with rfl | rfl | rfl
      · by_cases hok : numOk (many k) 0 a
        · have HO := Lib.hid hok
          obtain ⟨o1, o2, o3⟩ := hok
          by_cases hn : N ≤ 0
          · have o4 : (a != 0) = false := by rw [o3 (by have := HN.out; omega)]; rfl
            clear o3
            go_wp2
            go_round
            case rel => exact ⟨1, by omega, by rfl, Lib.hid (ok_step HR.out HO.out)⟩
            case measure => simp [intOf]
          · clear o3
            go_wp2
            go_round
            case rel => exact ⟨1, by omega, by rfl, Lib.hid (ok_step HR.out HO.out)⟩
            case measure => simp [intOf]
        · have HNO := Lib.hid (mayB_no (x := ⟨k, a, b, c⟩) (fun hm => hok ((may_of.1 hm).2 0 (by omega))))
          by_cases q1 : a < 0
          · clear hok
            go_wp2
            go_ret
            exact ⟨by rw [HNO.out]; rfl, HB.out⟩
          · by_cases q2 : 999 < a
            · clear hok
              go_wp2
              go_ret
              exact ⟨by rw [HNO.out]; rfl, HB.out⟩
            · have q3 : N ≤ 0 ∧ a ≠ 0 := by
                have hNo := HN.out
                refine Decidable.byContradiction (fun hc => hok ⟨by omega, by omega, fun hn => ?_⟩)
                exact Decidable.byContradiction (fun hz => hc ⟨by omega, hz⟩)
              have q4 := q3.1
              have q5 : (a != 0) = true := by simpa using q3.2
              clear hok q3
              go_wp2
              go_ret
              exact ⟨by rw [HNO.out]; rfl, HB.out⟩
      · by_cases hok : numOk (many k) 1 b
        · have HO := Lib.hid hok
          obtain ⟨o1, o2, o3⟩ := hok
          by_cases hn : N ≤ 1
          · have o4 : (b != 0) = false := by rw [o3 (by have := HN.out; omega)]; rfl
            clear o3
            go_wp2
            go_round
            case rel => exact ⟨2, by omega, by rfl, Lib.hid (ok_step HR.out HO.out)⟩
            case measure => simp [intOf]
          · clear o3
            go_wp2
            go_round
            case rel => exact ⟨2, by omega, by rfl, Lib.hid (ok_step HR.out HO.out)⟩
            case measure => simp [intOf]
        · have HNO := Lib.hid (mayB_no (x := ⟨k, a, b, c⟩) (fun hm => hok ((may_of.1 hm).2 1 (by omega))))
          by_cases q1 : b < 0
          · clear hok
            go_wp2
            go_ret
            exact ⟨by rw [HNO.out]; rfl, HB.out⟩
          · by_cases q2 : 999 < b
            · clear hok
              go_wp2
              go_ret
              exact ⟨by rw [HNO.out]; rfl, HB.out⟩
            · have q3 : N ≤ 1 ∧ b ≠ 0 := by
                have hNo := HN.out
                refine Decidable.byContradiction (fun hc => hok ⟨by omega, by omega, fun hn => ?_⟩)
                exact Decidable.byContradiction (fun hz => hc ⟨by omega, hz⟩)
              have q4 := q3.1
              have q5 : (b != 0) = true := by simpa using q3.2
              clear hok q3
              go_wp2
              go_ret
              exact ⟨by rw [HNO.out]; rfl, HB.out⟩
      · by_cases hok : numOk (many k) 2 c
        · have HO := Lib.hid hok
          obtain ⟨o1, o2, o3⟩ := hok
          by_cases hn : N ≤ 2
          · have o4 : (c != 0) = false := by rw [o3 (by have := HN.out; omega)]; rfl
            clear o3
            go_wp2
            go_round
            case rel => exact ⟨3, by omega, by rfl, Lib.hid (ok_step HR.out HO.out)⟩
            case measure => simp [intOf]
          · clear o3
            go_wp2
            go_round
            case rel => exact ⟨3, by omega, by rfl, Lib.hid (ok_step HR.out HO.out)⟩
            case measure => simp [intOf]
        · have HNO := Lib.hid (mayB_no (x := ⟨k, a, b, c⟩) (fun hm => hok ((may_of.1 hm).2 2 (by omega))))
          by_cases q1 : c < 0
          · clear hok
            go_wp2
            go_ret
            exact ⟨by rw [HNO.out]; rfl, HB.out⟩
          · by_cases q2 : 999 < c
            · clear hok
              go_wp2
              go_ret
              exact ⟨by rw [HNO.out]; rfl, HB.out⟩
            · have q3 : N ≤ 2 ∧ c ≠ 0 := by
                have hNo := HN.out
                refine Decidable.byContradiction (fun hc => hok ⟨by omega, by omega, fun hn => ?_⟩)
                exact Decidable.byContradiction (fun hz => hc ⟨by omega, hz⟩)
              have q4 := q3.1
              have q5 : (c != 0) = true := by simpa using q3.2
              clear hok q3
              go_wp2
              go_ret
              exact ⟨by rw [HNO.out]; rfl, HB.out⟩
    · obtain rfl : m = 3 := by omega
      have HY2 := Lib.hid (mayB_yes (x := ⟨k, a, b, c⟩) (may_of.2 ⟨HK.out, fun j hj => HR.out j hj⟩))
      go_wp2
      go_ret
      exact ⟨by rw [HY2.out]; rfl, HB.out⟩
theorem rmay_any (x : O4) (w : World) : Calls Tryd.prog 13 #[opv x] w (MOut w x) := by
  obtain ⟨k, a, b, c⟩ := x
  by_cases h : 0 ≤ k ∧ k ≤ 6
  · exact rmay_some k a b c w h
  · exact rmay_bad k a b c w h
end Go.Proofs.YtggjkagcnhhkjaaDoor.Cd
