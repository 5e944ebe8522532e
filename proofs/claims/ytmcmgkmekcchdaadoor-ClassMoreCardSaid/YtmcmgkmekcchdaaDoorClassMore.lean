/-
  ClassMore: more fields take no less room: for every two numbers; the table of sizes is tied to the program's text by the card.
-/
import Derived.Test.YtmcmgkmekcchdaaDoorClsFrame
namespace Go.Proofs.YtmcmgkmekcchdaaDoor.ClassMore
open Go.Proofs.YtmcmgkmekcchdaaDoor
open Go.ChangeShapes Go.WideShapes Go.ChangeAt Go.RowKit

theorem classErr_ok {n : Int} (h0 : 1 ≤ n) (h1 : n ≤ 63) : classErr n = 0 := by
  unfold classErr
  rw [if_neg (by omega), if_neg (by omega)]
theorem of_ok (n : Int) (w : World) (hz : Sz w) (h0 : 1 ≤ n) (h1 : n ≤ 63) :
    Calls Tryd.prog 10 #[.int .i64 n] w fun e w' => e = .returned (.tuple #[.int .i64 (classOf n), .int .i64 0]) ∧ w = w' := by
  have := of_of n w hz
  rw [classErr_ok h0 h1] at this
  exact this
theorem class_up {a b : Int} (h0 : 1 ≤ a) (h : a ≤ b) (h1 : b ≤ 63) : classOf a ≤ classOf b := by
  unfold classOf
  repeat' split
  all_goals omega
theorem run_up {a b : Int} (h : a ≤ b) (h1 : b ≤ 63) : runOf a ≤ runOf b := by
  unfold runOf
  repeat' split
  all_goals omega
theorem err_large {n : Int} (h0 : 1 ≤ n) (h1 : n ≤ 63) : ((runErr n == 0) == (classOf n == 3)) = true := by
  unfold runErr classOf
  repeat' split
  all_goals first | rfl | omega
theorem core (a b x y m n g h : Int) (w : World) (ha : ¬ a < 1) (hb : ¬ b < a) (hc : ¬ 63 < b) (hx : decide (x ≤ y) = true) (hm : decide (m ≤ n) = true) (hg : ((g == 0) == (x == 3)) = true) (hh : ((h == 0) == (y == 3)) = true) (hz : Hid (Sz w))
    (c1 : Hid (∀ w, Sz w → Calls Tryd.prog 10 #[.int .i64 a] w fun e w' => e = .returned (.tuple #[.int .i64 x, .int .i64 0]) ∧ w = w'))
    (c2 : Hid (∀ w, Sz w → Calls Tryd.prog 10 #[.int .i64 b] w fun e w' => e = .returned (.tuple #[.int .i64 y, .int .i64 0]) ∧ w = w'))
    (c3 : Hid (∀ w, Sz w → Calls Tryd.prog 12 #[.int .i64 a] w fun e w' => e = .returned (.tuple #[.int .i64 m, .int .i64 g]) ∧ w = w'))
    (c4 : Hid (∀ w, Sz w → Calls Tryd.prog 12 #[.int .i64 b] w fun e w' => e = .returned (.tuple #[.int .i64 n, .int .i64 h]) ∧ w = w')) :
    Calls Tryd.prog 5 #[.int .i64 a, .int .i64 b] w fun e w' => e = .returned (.bool true) ∧ w = w' := by
  have d1 : decide (a < 1) = false := by simpa using ha
  have d2 : decide (b < a) = false := by simpa using hb
  have d3 : decide (63 < b) = false := by simpa using hc
  go_enter Tryd.func5, Tryd.ntmps5
  go_wp2_with fail
  refine (awake_yes _ hz.out).mono ?_
  rintro e w1 ⟨rfl, rfl⟩
  go_wp2_with fail
  refine (c1.out _ hz.out).mono ?_
  rintro e w1 ⟨rfl, rfl⟩
  go_wp2_with fail
  refine (c2.out _ hz.out).mono ?_
  rintro e w1 ⟨rfl, rfl⟩
  go_wp2_with fail
  refine (c3.out _ hz.out).mono ?_
  rintro e w1 ⟨rfl, rfl⟩
  go_wp2_with fail
  refine (c4.out _ hz.out).mono ?_
  rintro e w1 ⟨rfl, rfl⟩
  go_wp2
  go_ret
  exact ⟨rfl, rfl⟩
theorem low (a b : Int) (w : World) (hz : Sz w) (h : a < 1) :
    Calls Tryd.prog 5 #[.int .i64 a, .int .i64 b] w fun e w' => e = .returned (.bool true) ∧ w = w' := by
  have H := Lib.hid hz
  clear hz
  go_enter Tryd.func5, Tryd.ntmps5
  go_wp2_with fail
  refine (awake_yes _ H.out).mono ?_
  rintro e w1 ⟨rfl, rfl⟩
  go_wp2
  go_ret
  exact ⟨rfl, rfl⟩
theorem less (a b : Int) (w : World) (hz : Sz w) (h0 : ¬ a < 1) (h : b < a) :
    Calls Tryd.prog 5 #[.int .i64 a, .int .i64 b] w fun e w' => e = .returned (.bool true) ∧ w = w' := by
  have H := Lib.hid hz
  clear hz
  have d1 : decide (a < 1) = false := by simpa using h0
  go_enter Tryd.func5, Tryd.ntmps5
  go_wp2_with fail
  refine (awake_yes _ H.out).mono ?_
  rintro e w1 ⟨rfl, rfl⟩
  go_wp2
  go_ret
  exact ⟨rfl, rfl⟩
theorem high (a b : Int) (w : World) (hz : Sz w) (h0 : ¬ a < 1) (h1 : ¬ b < a) (h : 63 < b) :
    Calls Tryd.prog 5 #[.int .i64 a, .int .i64 b] w fun e w' => e = .returned (.bool true) ∧ w = w' := by
  have H := Lib.hid hz
  clear hz
  have d1 : decide (a < 1) = false := by simpa using h0
  have d2 : decide (b < a) = false := by simpa using h1
  go_enter Tryd.func5, Tryd.ntmps5
  go_wp2_with fail
  refine (awake_yes _ H.out).mono ?_
  rintro e w1 ⟨rfl, rfl⟩
  go_wp2
  go_ret
  exact ⟨rfl, rfl⟩
theorem walk (a b : Int) (w : World) (hz : Sz w) (_ : (Lit.int .i64 a).wf = true) (_ : (Lit.int .i64 b).wf = true) :
    Calls Tryd.prog 5 #[.int .i64 a, .int .i64 b] w fun e w' => e = .returned (.bool true) ∧ w = w' := by
  by_cases c1 : a < 1
  · exact low a b w hz c1
  by_cases c2 : b < a
  · exact less a b w hz c1 c2
  by_cases c3 : 63 < b
  · exact high a b w hz c1 c2 c3
  exact core a b _ _ _ _ _ _ w c1 c2 c3 (decide_eq_true (class_up (by omega) (by omega) (by omega))) (decide_eq_true (run_up (by omega) (by omega))) (err_large (by omega) (by omega)) (err_large (by omega) (by omega)) (Lib.hid hz)
    (Lib.hid fun w hz => of_ok a w hz (by omega) (by omega)) (Lib.hid fun w hz => of_ok b w hz (by omega) (by omega)) (Lib.hid fun w hz => run_of a w hz) (Lib.hid fun w hz => run_of b w hz)

set_option maxRecDepth 100000 in
theorem lifted (os : Os) (started : os.Started) (H : Type) (enc : TypeId × Value → H) :
    ReturnsInHanded {} Tryd.checked os 5 .any (fun w args => (Rows.classMoreSpec.pre enc Tryd.prog Tryd.f5 [] false w args ∧ laidMetH Tryd.prog laidSizes w) ∧ sizedMet enc Tryd.prog Tryd.f5 (OpenSpec.ofChange Rows.classMoreSpec) false w args)
      (Rows.classMoreSpec.post enc Tryd.prog Tryd.f5 false true false false) := by
  refine returnsInHanded_of_change_and (C := Tryd.checked) (X := fun w _ => laidMetH Tryd.prog laidSizes w) (fun _ _ _ hh h => h.of_heap hh) own started (by kernel_rfl) Tryd.func5
    (ChangeSpec.witness_shaped (enc := enc) (C := Tryd.checked) (os := os) (X := fun w _ => laidMetH Tryd.prog laidSizes w) false (World.doorLaid Tryd.prog 400 os) #[.int .i64 0, .int .i64 0] 8 rfl (World.shaped_of_RefB (by kernel_rfl) (by kernel_rfl)) (by kernel_rfl) (by kernel_rfl) (by kernel_rfl) (door_met os _)) ?_
  intro W base args ds gs before hval0 hW _ _ hL _
  have hval : ∀ (j : Nat) t v, Tryd.f5.params[j]? = some t → args[j]? = some v → Value.okWide Tryd.prog W .any base t v := hval0
  have hW' := hW
  obtain ⟨p, q, hA0, hV, rfl, hfz, hnd⟩ := hW
  have hA : DataW.TrodAll enc Tryd.prog W 0 (fun _ => true) true Tryd.f5.params.toList args.toList ds p := hA0
  rw [Tryd.params5] at hA hval
  obtain ⟨v0, vs0, d0, ds0, p0, q0, hargs, rfl, rfl, h0, r0⟩ := trodAll_cons hA
  obtain ⟨v1, vs1, d1, ds1, p1, q1, rfl, rfl, rfl, h1, r1⟩ := trodAll_cons r0
  obtain ⟨rfl, rfl, rfl⟩ := trodAll_nil r1
  obtain rfl : args = #[v0, v1] := by cases args; simp_all
  obtain ⟨rfl, rfl⟩ := trodVars_none hV
  obtain ⟨a0, rfl, rfl, rfl, x0⟩ := open_int Tryd.underlying3 (hval 0 3 v0 rfl rfl) h0
  obtain ⟨a1, rfl, rfl, rfl, x1⟩ := open_int Tryd.underlying3 (hval 1 3 v1 rfl rfl) h1
  clear hA0 hval0
  simp only [List.append_nil] at hW'
  refine (walk a0 a1 W (of_laid hL) x0 x1).mono fun e W' ⟨he, hw⟩ => ?_
  subst he
  subst hw
  exact ⟨_, rfl, law_post hW' (fun _ _ _ => trodAll_cons_mk (shut_bool Tryd.underlying4 _) trodAll_mk0) (fun _ => (trodAll_cons_mk (shut_int Tryd.underlying3 x0) (trodAll_cons_mk (shut_int Tryd.underlying3 x1) trodAll_mk0))) (fun _ => rfl)⟩

theorem over : Rows.ClassMoreSaid :=
  OpenClaim.holds_of_wide 5 Tryd.f5 rfl rfl rfl rfl rfl rfl rfl ⟨rfl, rfl, rfl, rfl, rfl⟩ rfl rfl rfl rfl rfl (by kernel_rfl) Tryd.func5 (by kernel_rfl)
    (of_decide_eq_true (by kernel_rfl)) (by unfold Func.isWrapper; first | (rw [if_pos (by decide +kernel)]; kernel_rfl) | (rw [if_neg (by decide +kernel)]; exact ⟨rfl, rfl⟩))
    (fun os started H enc _ => lifted os started H enc)

/-- The statement: the card. -/
theorem proved : Rows.ClassMoreCardSaid :=
  Claim7.holds_tied_plain_at .later [] [.data] true Rows.classMoreCard.stood.harness false
    over (fun _ h => by cases h) (by kernel_rfl) (fun _ h => by cases h) classMore_row_tie rfl ⟨rfl, rfl⟩ (by kernel_rfl) rfl
    (fun f fn hf hfn => by
      obtain rfl : f = 5 := Option.some.inj ((show Tryd.prog.funcNamed "ragpicker/ragpickerlaw03.ClassMore" = some 5 by kernel_rfl).symm.trans hf) |>.symm
      obtain rfl : fn = Tryd.f5 := (Option.some.inj (Tryd.func5.symm.trans hfn)).symm
      exact ⟨by kernel_rfl, fun j t ht => by
        rw [Tryd.params5] at ht
        have hm : t ∈ [3] := by simpa using Array.mem_of_getElem? ht
        have hall : ([3].all fun u => !Tryd.prog.wantsStandIn u) = true := by kernel_rfl
        exact (show Tryd.prog.wantsStandIn t = false by simpa using List.all_eq_true.1 hall t hm)⟩)
    (by kernel_rfl)
#print axioms proved
end Go.Proofs.YtmcmgkmekcchdaaDoor.ClassMore
