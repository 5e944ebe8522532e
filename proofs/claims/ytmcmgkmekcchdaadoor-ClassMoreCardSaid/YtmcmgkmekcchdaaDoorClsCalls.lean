/-
  What Words, Cells and Run of package class return, for every number, where the table of sizes lies as it is written.
-/
import Derived.Test.YtmcmgkmekcchdaaDoorClsWalks
namespace Go.Proofs.YtmcmgkmekcchdaaDoor
open Go.RowKit

/-- A cell's words, by its class. -/
def wordsOf (c : Int) : Int := if c = 0 then 2 else if c = 1 then 4 else if c = 2 then 8 else 0
/-- How many cells of a class a page has. -/
def perPage (c : Int) : Int := if c = 0 then 8 else if c = 1 then 4 else if c = 2 then 2 else 0
theorem wordsOf_no {c : Int} (h : c < 0 ∨ 2 < c) : wordsOf c = 0 := by
  unfold wordsOf
  rw [if_neg (by omega), if_neg (by omega), if_neg (by omega)]
theorem perPage_no {c : Int} (h : c < 0 ∨ 2 < c) : perPage c = 0 := by
  unfold perPage
  rw [if_neg (by omega), if_neg (by omega), if_neg (by omega)]
/-- The class, the pages, and the errors, by the number of fields. -/
def classOf (n : Int) : Int := if n < 1 ∨ 63 < n then 0 else if n ≤ 1 then 0 else if n ≤ 3 then 1 else if n ≤ 7 then 2 else 3
def classErr (n : Int) : Int := if n < 1 then 1 else if 63 < n then 2 else 0
def runOf (n : Int) : Int := if n < 8 ∨ 63 < n then 0 else if n ≤ 15 then 1 else if n ≤ 31 then 2 else if n ≤ 47 then 3 else 4
def runErr (n : Int) : Int := if n < 1 then 1 else if 63 < n then 2 else if n ≤ 7 then 3 else 0
theorem eq_tuple {a b c d : Int} (h : a = c) (h' : b = d) : Ending.returned (.tuple #[.int .i64 a, .int .i64 b]) = .returned (.tuple #[.int .i64 c, .int .i64 d]) := by rw [h, h']

theorem words_at0 (w : World) (hz : Sz w) :
    Calls Tryd.prog 14 #[.int .i64 0] w fun e w' => e = .returned (.int .i64 2) ∧ w = w' := by
  obtain ⟨z0, z1, z2⟩ := hz
  go_enter Tryd.func14, Tryd.ntmps14
  go_wp2
  go_ret
  exact ⟨rfl, rfl⟩
theorem words_at1 (w : World) (hz : Sz w) :
    Calls Tryd.prog 14 #[.int .i64 1] w fun e w' => e = .returned (.int .i64 4) ∧ w = w' := by
  obtain ⟨z0, z1, z2⟩ := hz
  go_enter Tryd.func14, Tryd.ntmps14
  go_wp2
  go_ret
  exact ⟨rfl, rfl⟩
theorem words_at2 (w : World) (hz : Sz w) :
    Calls Tryd.prog 14 #[.int .i64 2] w fun e w' => e = .returned (.int .i64 8) ∧ w = w' := by
  obtain ⟨z0, z1, z2⟩ := hz
  go_enter Tryd.func14, Tryd.ntmps14
  go_wp2
  go_ret
  exact ⟨rfl, rfl⟩
theorem words_low (c : Int) (w : World) (h : c < 0) :
    Calls Tryd.prog 14 #[.int .i64 c] w fun e w' => e = .returned (.int .i64 0) ∧ w = w' := by
  go_enter Tryd.func14, Tryd.ntmps14
  go_wp2
  go_ret
  exact ⟨rfl, rfl⟩
theorem words_high (c : Int) (w : World) (h : 2 < c) :
    Calls Tryd.prog 14 #[.int .i64 c] w fun e w' => e = .returned (.int .i64 0) ∧ w = w' := by
  have d : (3 : Int) ≤ c := by omega
  have d0 : ¬ c < 0 := by omega
  go_enter Tryd.func14, Tryd.ntmps14
  go_wp2
  go_ret
  exact ⟨rfl, rfl⟩
theorem words_of (c : Int) (w : World) (hz : Sz w) :
    Calls Tryd.prog 14 #[.int .i64 c] w fun e w' => e = .returned (.int .i64 (wordsOf c)) ∧ w = w' := by
  by_cases h : c < 0 ∨ 2 < c
  · rw [wordsOf_no h]
    rcases h with h | h
    · exact words_low c w h
    · exact words_high c w h
  · have hc : c = 0 ∨ c = 1 ∨ c = 2 := by omega
    clear h
    rcases hc with rfl | rfl | rfl
    · exact words_at0 w hz
    · exact words_at1 w hz
    · exact words_at2 w hz
theorem cells_at0 (w : World) (hz : Sz w) :
    Calls Tryd.prog 16 #[.int .i64 0] w fun e w' => e = .returned (.int .i64 8) ∧ w = w' := by
  have H := Lib.hid hz
  clear hz
  go_enter Tryd.func16, Tryd.ntmps16
  go_wp2_with (go_at_call 14; (with_reducible refine (words_at0 _ H.out).mono ?_); rintro e w1 ⟨rfl, rfl⟩)
  go_ret
  exact ⟨rfl, rfl⟩
theorem cells_at1 (w : World) (hz : Sz w) :
    Calls Tryd.prog 16 #[.int .i64 1] w fun e w' => e = .returned (.int .i64 4) ∧ w = w' := by
  have H := Lib.hid hz
  clear hz
  go_enter Tryd.func16, Tryd.ntmps16
  go_wp2_with (go_at_call 14; (with_reducible refine (words_at1 _ H.out).mono ?_); rintro e w1 ⟨rfl, rfl⟩)
  go_ret
  exact ⟨rfl, rfl⟩
theorem cells_at2 (w : World) (hz : Sz w) :
    Calls Tryd.prog 16 #[.int .i64 2] w fun e w' => e = .returned (.int .i64 2) ∧ w = w' := by
  have H := Lib.hid hz
  clear hz
  go_enter Tryd.func16, Tryd.ntmps16
  go_wp2_with (go_at_call 14; (with_reducible refine (words_at2 _ H.out).mono ?_); rintro e w1 ⟨rfl, rfl⟩)
  go_ret
  exact ⟨rfl, rfl⟩
theorem cells_low (c : Int) (w : World) (h : c < 0) :
    Calls Tryd.prog 16 #[.int .i64 c] w fun e w' => e = .returned (.int .i64 0) ∧ w = w' := by
  go_enter Tryd.func16, Tryd.ntmps16
  go_wp2_with (go_at_call 14; (with_reducible refine (words_low _ _ h).mono ?_); rintro e w1 ⟨rfl, rfl⟩)
  go_ret
  exact ⟨rfl, rfl⟩
theorem cells_high (c : Int) (w : World) (h : 2 < c) :
    Calls Tryd.prog 16 #[.int .i64 c] w fun e w' => e = .returned (.int .i64 0) ∧ w = w' := by
  go_enter Tryd.func16, Tryd.ntmps16
  go_wp2_with (go_at_call 14; (with_reducible refine (words_high _ _ h).mono ?_); rintro e w1 ⟨rfl, rfl⟩)
  go_ret
  exact ⟨rfl, rfl⟩
theorem cells_of (c : Int) (w : World) (hz : Sz w) :
    Calls Tryd.prog 16 #[.int .i64 c] w fun e w' => e = .returned (.int .i64 (perPage c)) ∧ w = w' := by
  by_cases h : c < 0 ∨ 2 < c
  · rw [perPage_no h]
    rcases h with h | h
    · exact cells_low c w h
    · exact cells_high c w h
  · have hc : c = 0 ∨ c = 1 ∨ c = 2 := by omega
    clear h
    rcases hc with rfl | rfl | rfl
    · exact cells_at0 w hz
    · exact cells_at1 w hz
    · exact cells_at2 w hz
theorem of_of (n : Int) (w : World) (hz : Sz w) :
    Calls Tryd.prog 10 #[.int .i64 n] w fun e w' => e = .returned (.tuple #[.int .i64 (classOf n), .int .i64 (classErr n)]) ∧ w = w' := by
  have key : ∀ {a b : Int}, classOf n = a → classErr n = b → Calls Tryd.prog 10 #[.int .i64 n] w (fun e w' => e = .returned (.tuple #[.int .i64 a, .int .i64 b]) ∧ w = w') → Calls Tryd.prog 10 #[.int .i64 n] w (fun e w' => e = .returned (.tuple #[.int .i64 (classOf n), .int .i64 (classErr n)]) ∧ w = w') := by
    intro a b h1 h2 h3
    rw [h1, h2]
    exact h3
  by_cases c1 : n < 1
  · exact key (by simp [classOf, c1]) (by simp [classErr, c1]) (of_low n w c1)
  by_cases c2 : 63 < n
  · exact key (by simp [classOf, c2]) (by simp [classErr, c1, c2]) (of_high n w c2)
  by_cases c3 : n ≤ 1
  · exact key (by simp [classOf, c1, c2, c3]) (by simp [classErr, c1, c2]) (of_0 n w hz (by omega) c3)
  by_cases c4 : n ≤ 3
  · exact key (by simp [classOf, c1, c2, c3, c4]) (by simp [classErr, c1, c2]) (of_1 n w hz (by omega) c4)
  by_cases c5 : n ≤ 7
  · exact key (by simp [classOf, c1, c2, c3, c4, c5]) (by simp [classErr, c1, c2]) (of_2 n w hz (by omega) c5)
  exact key (by simp [classOf, c1, c2, c3, c4, c5]) (by simp [classErr, c1, c2]) (of_3 n w hz (by omega) (by omega))
theorem run_low (n : Int) (w : World) (h : n < 1) :
    Calls Tryd.prog 12 #[.int .i64 n] w fun e w' => e = .returned (.tuple #[.int .i64 0, .int .i64 1]) ∧ w = w' := by
  go_enter Tryd.func12, Tryd.ntmps12
  go_wp2_with (go_at_call 10; (with_reducible refine (of_low _ _ h).mono ?_); rintro e w1 ⟨rfl, rfl⟩)
  go_ret2
  exact ⟨rfl, rfl⟩
theorem run_high (n : Int) (w : World) (h : 63 < n) :
    Calls Tryd.prog 12 #[.int .i64 n] w fun e w' => e = .returned (.tuple #[.int .i64 0, .int .i64 2]) ∧ w = w' := by
  go_enter Tryd.func12, Tryd.ntmps12
  go_wp2_with (go_at_call 10; (with_reducible refine (of_high _ _ h).mono ?_); rintro e w1 ⟨rfl, rfl⟩)
  go_ret2
  exact ⟨rfl, rfl⟩
theorem run_s0 (n : Int) (w : World) (hz : Sz w) (h0 : 1 ≤ n) (h1 : n ≤ 1) :
    Calls Tryd.prog 12 #[.int .i64 n] w fun e w' => e = .returned (.tuple #[.int .i64 0, .int .i64 3]) ∧ w = w' := by
  have H := Lib.hid hz
  clear hz
  go_enter Tryd.func12, Tryd.ntmps12
  go_wp2_with (go_at_call 10; (with_reducible refine (of_0 _ _ H.out h0 h1).mono ?_); rintro e w1 ⟨rfl, rfl⟩)
  go_ret2
  exact ⟨rfl, rfl⟩
theorem run_s1 (n : Int) (w : World) (hz : Sz w) (h0 : 2 ≤ n) (h1 : n ≤ 3) :
    Calls Tryd.prog 12 #[.int .i64 n] w fun e w' => e = .returned (.tuple #[.int .i64 0, .int .i64 3]) ∧ w = w' := by
  have H := Lib.hid hz
  clear hz
  go_enter Tryd.func12, Tryd.ntmps12
  go_wp2_with (go_at_call 10; (with_reducible refine (of_1 _ _ H.out h0 h1).mono ?_); rintro e w1 ⟨rfl, rfl⟩)
  go_ret2
  exact ⟨rfl, rfl⟩
theorem run_s2 (n : Int) (w : World) (hz : Sz w) (h0 : 4 ≤ n) (h1 : n ≤ 7) :
    Calls Tryd.prog 12 #[.int .i64 n] w fun e w' => e = .returned (.tuple #[.int .i64 0, .int .i64 3]) ∧ w = w' := by
  have H := Lib.hid hz
  clear hz
  go_enter Tryd.func12, Tryd.ntmps12
  go_wp2_with (go_at_call 10; (with_reducible refine (of_2 _ _ H.out h0 h1).mono ?_); rintro e w1 ⟨rfl, rfl⟩)
  go_ret2
  exact ⟨rfl, rfl⟩
theorem run_1part (n : Int) (w : World) (hz : Sz w) (h0 : 8 ≤ n) (h1 : n ≤ 14) :
    Calls Tryd.prog 12 #[.int .i64 n] w fun e w' => e = .returned (.tuple #[.int .i64 1, .int .i64 0]) ∧ w = w' := by
  have H := Lib.hid hz
  clear hz
  have q : (1 + n) / 16 = 0 := by omega
  have r : 0 < (1 + n) % 16 := by omega
  go_enter Tryd.func12, Tryd.ntmps12
  go_wp2_with (first | ((go_at_call 10; (with_reducible refine (of_3 _ _ H.out (by omega) (by omega)).mono ?_); rintro e w1 ⟨rfl, rfl⟩)) | ((go_at_call 18; (with_reducible refine (words_any _ _ (by omega) (by omega)).mono ?_); rintro e w1 ⟨rfl, rfl⟩)))
  go_ret2
  exact ⟨rfl, rfl⟩
theorem run_1full (w : World) (hz : Sz w) :
    Calls Tryd.prog 12 #[.int .i64 15] w fun e w' => e = .returned (.tuple #[.int .i64 1, .int .i64 0]) ∧ w = w' := by
  have H := Lib.hid hz
  clear hz
  go_enter Tryd.func12, Tryd.ntmps12
  go_wp2_with (first | ((go_at_call 10; (with_reducible refine (of_3 _ _ H.out (by omega) (by omega)).mono ?_); rintro e w1 ⟨rfl, rfl⟩)) | ((go_at_call 18; (with_reducible refine (words_any _ _ (by omega) (by omega)).mono ?_); rintro e w1 ⟨rfl, rfl⟩)))
  go_ret2
  exact ⟨rfl, rfl⟩
theorem run_1 (n : Int) (w : World) (hz : Sz w) (h0 : 8 ≤ n) (h1 : n ≤ 15) :
    Calls Tryd.prog 12 #[.int .i64 n] w fun e w' => e = .returned (.tuple #[.int .i64 1, .int .i64 0]) ∧ w = w' := by
  by_cases h : n = 15
  · subst h
    exact run_1full w hz
  · exact run_1part n w hz h0 (by omega)
theorem run_2part (n : Int) (w : World) (hz : Sz w) (h0 : 16 ≤ n) (h1 : n ≤ 30) :
    Calls Tryd.prog 12 #[.int .i64 n] w fun e w' => e = .returned (.tuple #[.int .i64 2, .int .i64 0]) ∧ w = w' := by
  have H := Lib.hid hz
  clear hz
  have q : (1 + n) / 16 = 1 := by omega
  have r : 0 < (1 + n) % 16 := by omega
  go_enter Tryd.func12, Tryd.ntmps12
  go_wp2_with (first | ((go_at_call 10; (with_reducible refine (of_3 _ _ H.out (by omega) (by omega)).mono ?_); rintro e w1 ⟨rfl, rfl⟩)) | ((go_at_call 18; (with_reducible refine (words_any _ _ (by omega) (by omega)).mono ?_); rintro e w1 ⟨rfl, rfl⟩)))
  go_ret2
  exact ⟨rfl, rfl⟩
theorem run_2full (w : World) (hz : Sz w) :
    Calls Tryd.prog 12 #[.int .i64 31] w fun e w' => e = .returned (.tuple #[.int .i64 2, .int .i64 0]) ∧ w = w' := by
  have H := Lib.hid hz
  clear hz
  go_enter Tryd.func12, Tryd.ntmps12
  go_wp2_with (first | ((go_at_call 10; (with_reducible refine (of_3 _ _ H.out (by omega) (by omega)).mono ?_); rintro e w1 ⟨rfl, rfl⟩)) | ((go_at_call 18; (with_reducible refine (words_any _ _ (by omega) (by omega)).mono ?_); rintro e w1 ⟨rfl, rfl⟩)))
  go_ret2
  exact ⟨rfl, rfl⟩
theorem run_2 (n : Int) (w : World) (hz : Sz w) (h0 : 16 ≤ n) (h1 : n ≤ 31) :
    Calls Tryd.prog 12 #[.int .i64 n] w fun e w' => e = .returned (.tuple #[.int .i64 2, .int .i64 0]) ∧ w = w' := by
  by_cases h : n = 31
  · subst h
    exact run_2full w hz
  · exact run_2part n w hz h0 (by omega)
theorem run_3part (n : Int) (w : World) (hz : Sz w) (h0 : 32 ≤ n) (h1 : n ≤ 46) :
    Calls Tryd.prog 12 #[.int .i64 n] w fun e w' => e = .returned (.tuple #[.int .i64 3, .int .i64 0]) ∧ w = w' := by
  have H := Lib.hid hz
  clear hz
  have q : (1 + n) / 16 = 2 := by omega
  have r : 0 < (1 + n) % 16 := by omega
  go_enter Tryd.func12, Tryd.ntmps12
  go_wp2_with (first | ((go_at_call 10; (with_reducible refine (of_3 _ _ H.out (by omega) (by omega)).mono ?_); rintro e w1 ⟨rfl, rfl⟩)) | ((go_at_call 18; (with_reducible refine (words_any _ _ (by omega) (by omega)).mono ?_); rintro e w1 ⟨rfl, rfl⟩)))
  go_ret2
  exact ⟨rfl, rfl⟩
theorem run_3full (w : World) (hz : Sz w) :
    Calls Tryd.prog 12 #[.int .i64 47] w fun e w' => e = .returned (.tuple #[.int .i64 3, .int .i64 0]) ∧ w = w' := by
  have H := Lib.hid hz
  clear hz
  go_enter Tryd.func12, Tryd.ntmps12
  go_wp2_with (first | ((go_at_call 10; (with_reducible refine (of_3 _ _ H.out (by omega) (by omega)).mono ?_); rintro e w1 ⟨rfl, rfl⟩)) | ((go_at_call 18; (with_reducible refine (words_any _ _ (by omega) (by omega)).mono ?_); rintro e w1 ⟨rfl, rfl⟩)))
  go_ret2
  exact ⟨rfl, rfl⟩
theorem run_3 (n : Int) (w : World) (hz : Sz w) (h0 : 32 ≤ n) (h1 : n ≤ 47) :
    Calls Tryd.prog 12 #[.int .i64 n] w fun e w' => e = .returned (.tuple #[.int .i64 3, .int .i64 0]) ∧ w = w' := by
  by_cases h : n = 47
  · subst h
    exact run_3full w hz
  · exact run_3part n w hz h0 (by omega)
theorem run_4part (n : Int) (w : World) (hz : Sz w) (h0 : 48 ≤ n) (h1 : n ≤ 62) :
    Calls Tryd.prog 12 #[.int .i64 n] w fun e w' => e = .returned (.tuple #[.int .i64 4, .int .i64 0]) ∧ w = w' := by
  have H := Lib.hid hz
  clear hz
  have q : (1 + n) / 16 = 3 := by omega
  have r : 0 < (1 + n) % 16 := by omega
  go_enter Tryd.func12, Tryd.ntmps12
  go_wp2_with (first | ((go_at_call 10; (with_reducible refine (of_3 _ _ H.out (by omega) (by omega)).mono ?_); rintro e w1 ⟨rfl, rfl⟩)) | ((go_at_call 18; (with_reducible refine (words_any _ _ (by omega) (by omega)).mono ?_); rintro e w1 ⟨rfl, rfl⟩)))
  go_ret2
  exact ⟨rfl, rfl⟩
theorem run_4full (w : World) (hz : Sz w) :
    Calls Tryd.prog 12 #[.int .i64 63] w fun e w' => e = .returned (.tuple #[.int .i64 4, .int .i64 0]) ∧ w = w' := by
  have H := Lib.hid hz
  clear hz
  go_enter Tryd.func12, Tryd.ntmps12
  go_wp2_with (first | ((go_at_call 10; (with_reducible refine (of_3 _ _ H.out (by omega) (by omega)).mono ?_); rintro e w1 ⟨rfl, rfl⟩)) | ((go_at_call 18; (with_reducible refine (words_any _ _ (by omega) (by omega)).mono ?_); rintro e w1 ⟨rfl, rfl⟩)))
  go_ret2
  exact ⟨rfl, rfl⟩
theorem run_4 (n : Int) (w : World) (hz : Sz w) (h0 : 48 ≤ n) (h1 : n ≤ 63) :
    Calls Tryd.prog 12 #[.int .i64 n] w fun e w' => e = .returned (.tuple #[.int .i64 4, .int .i64 0]) ∧ w = w' := by
  by_cases h : n = 63
  · subst h
    exact run_4full w hz
  · exact run_4part n w hz h0 (by omega)
theorem run_of (n : Int) (w : World) (hz : Sz w) :
    Calls Tryd.prog 12 #[.int .i64 n] w fun e w' => e = .returned (.tuple #[.int .i64 (runOf n), .int .i64 (runErr n)]) ∧ w = w' := by
  have key : ∀ {a b : Int}, runOf n = a → runErr n = b → Calls Tryd.prog 12 #[.int .i64 n] w (fun e w' => e = .returned (.tuple #[.int .i64 a, .int .i64 b]) ∧ w = w') → Calls Tryd.prog 12 #[.int .i64 n] w (fun e w' => e = .returned (.tuple #[.int .i64 (runOf n), .int .i64 (runErr n)]) ∧ w = w') := by
    intro a b h1 h2 h3
    rw [h1, h2]
    exact h3
  by_cases c1 : n < 1
  · exact key (by unfold runOf; rw [if_pos (by omega)]) (by unfold runErr; rw [if_pos (by omega)]) (run_low n w c1)
  by_cases c2 : 63 < n
  · exact key (by unfold runOf; rw [if_pos (by omega)]) (by unfold runErr; rw [if_neg (by omega), if_pos (by omega)]) (run_high n w c2)
  by_cases d0 : n ≤ 1
  · exact key (by unfold runOf; rw [if_pos (by omega)]) (by unfold runErr; rw [if_neg (by omega), if_neg (by omega), if_pos (by omega)]) (run_s0 n w hz (by omega) d0)
  by_cases d1 : n ≤ 3
  · exact key (by unfold runOf; rw [if_pos (by omega)]) (by unfold runErr; rw [if_neg (by omega), if_neg (by omega), if_pos (by omega)]) (run_s1 n w hz (by omega) d1)
  by_cases d2 : n ≤ 7
  · exact key (by unfold runOf; rw [if_pos (by omega)]) (by unfold runErr; rw [if_neg (by omega), if_neg (by omega), if_pos (by omega)]) (run_s2 n w hz (by omega) d2)
  by_cases e1 : n ≤ 15
  · exact key (by unfold runOf; rw [if_neg (by omega), if_pos (by omega)]) (by unfold runErr; rw [if_neg (by omega), if_neg (by omega), if_neg (by omega)]) (run_1 n w hz (by omega) e1)
  by_cases e2 : n ≤ 31
  · exact key (by unfold runOf; rw [if_neg (by omega), if_neg (by omega), if_pos (by omega)]) (by unfold runErr; rw [if_neg (by omega), if_neg (by omega), if_neg (by omega)]) (run_2 n w hz (by omega) e2)
  by_cases e3 : n ≤ 47
  · exact key (by unfold runOf; rw [if_neg (by omega), if_neg (by omega), if_neg (by omega), if_pos (by omega)]) (by unfold runErr; rw [if_neg (by omega), if_neg (by omega), if_neg (by omega)]) (run_3 n w hz (by omega) e3)
  exact key (by unfold runOf; rw [if_neg (by omega), if_neg (by omega), if_neg (by omega), if_neg (by omega)]) (by unfold runErr; rw [if_neg (by omega), if_neg (by omega), if_neg (by omega)]) (run_4 n w hz (by omega) (by omega))
end Go.Proofs.YtmcmgkmekcchdaaDoor
