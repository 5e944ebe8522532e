/-
PagesBack: what is taken may be, and is as it was when it is let go; what is found is free, and may be taken: for all pages, and all numbers.
-/
import Derived.Test.YtofbebgcafpfhaaPgTaken
import Derived.Test.YtofbebgcafpfhaaPgIns
namespace Go.Proofs.Ytofbebgcafpfhaa.PagesBack
open Go.Proofs.Ytofbebgcafpfhaa
open Go.ChangeShapes Go.WideShapes Go.ChangeAt Go.RowKit

theorem long (A : Option Addr) (n c : Nat) (m cl : Int) (w : World) (h : 64 < n) (hn : n ≤ 9223372036854775807) :
    Calls Try.prog 5 #[.slice A n c, .int .i64 m, .int .i64 cl] w fun e w' => e = .returned (.bool true) ∧ Below w.heap.size w w' := by
  go_enter Try.func5, Try.ntmps5
  go_wp2_with fail
  refine (awake_yes _).mono ?_
  rintro e w1 ⟨rfl, hb1⟩
  go_wp2
  go_ret
  exact ⟨rfl, hb1⟩
theorem nomay (A : Option Addr) (n c : Nat) (f : Nat → Int × Int) (m cl : Int) (w : World) (hn : n ≤ 64) (h : mayB f n = false) (hr : PRow w w.heap.size A n f) :
    Calls Try.prog 5 #[.slice A n c, .int .i64 m, .int .i64 cl] w fun e w' => e = .returned (.bool true) ∧ Below w.heap.size w w' := by
  have HM := Lib.hid h
  have HR_0 := Lib.hid hr
  have B_0 := Lib.hid (Below.refl w.heap.size w)
  clear h hr
  go_enter Try.func5, Try.ntmps5
  go_wp2_with fail
  refine (awake_yes _).mono ?_
  rintro e w1 ⟨rfl, hb1⟩
  have B_1 := Lib.hid (B_0.out.trans (hb1.mono B_0.out.size))
  have HR_1 := Lib.hid (HR_0.out.next hb1)
  clear hb1
  go_wp2_with fail
  refine (may_no _ _ _ _ _ _ HM.out (by omega) HR_1.out (Nat.le_refl _)).mono ?_
  rintro e w2 ⟨rfl, hb2⟩
  have B_2 := Lib.hid (B_1.out.trans (hb2.mono B_1.out.size))
  have HR_2 := Lib.hid (HR_1.out.next hb2)
  clear hb2
  go_wp2
  go_ret
  exact ⟨rfl, B_2.out⟩
/-- One of the numbers is none that is spoken of. -/
theorem other (A : Option Addr) (n c : Nat) (f : Nat → Int × Int) (m cl : Int) (w : World) (hn : n ≤ 64) (h : mayB f n = true) (hr : PRow w w.heap.size A n f) (ho : m < 1 ∨ 4 < m ∨ cl < 0 ∨ 2 < cl) :
    Calls Try.prog 5 #[.slice A n c, .int .i64 m, .int .i64 cl] w fun e w' => e = .returned (.bool true) ∧ Below w.heap.size w w' := by
  have HM := Lib.hid h
  have HR_0 := Lib.hid hr
  have B_0 := Lib.hid (Below.refl w.heap.size w)
  clear h hr
  by_cases h1 : m < 1
  · have d1 : decide (m < 1) = true := by simpa using h1
    clear ho
    go_enter Try.func5, Try.ntmps5
    go_wp2_with fail
    refine (awake_yes _).mono ?_
    rintro e w1 ⟨rfl, hb1⟩
    have B_1 := Lib.hid (B_0.out.trans (hb1.mono B_0.out.size))
    have HR_1 := Lib.hid (HR_0.out.next hb1)
    clear hb1
    go_wp2_with fail
    refine (may_yes _ _ _ _ _ _ HM.out HR_1.out (Nat.le_refl _)).mono ?_
    rintro e w2 ⟨rfl, hb2⟩
    have B_2 := Lib.hid (B_1.out.trans (hb2.mono B_1.out.size))
    have HR_2 := Lib.hid (HR_1.out.next hb2)
    clear hb2
    go_wp2
    go_ret
    exact ⟨rfl, B_2.out⟩
  have d1 : decide (m < 1) = false := by simpa using h1
  by_cases h2 : 4 < m
  · have d2 : decide (4 < m) = true := by simpa using h2
    clear ho
    go_enter Try.func5, Try.ntmps5
    go_wp2_with fail
    refine (awake_yes _).mono ?_
    rintro e w1 ⟨rfl, hb1⟩
    have B_1 := Lib.hid (B_0.out.trans (hb1.mono B_0.out.size))
    have HR_1 := Lib.hid (HR_0.out.next hb1)
    clear hb1
    go_wp2_with fail
    refine (may_yes _ _ _ _ _ _ HM.out HR_1.out (Nat.le_refl _)).mono ?_
    rintro e w2 ⟨rfl, hb2⟩
    have B_2 := Lib.hid (B_1.out.trans (hb2.mono B_1.out.size))
    have HR_2 := Lib.hid (HR_1.out.next hb2)
    clear hb2
    go_wp2
    go_ret
    exact ⟨rfl, B_2.out⟩
  have d2 : decide (4 < m) = false := by simpa using h2
  by_cases h3 : cl < 0
  · have d3 : decide (cl < 0) = true := by simpa using h3
    clear ho
    go_enter Try.func5, Try.ntmps5
    go_wp2_with fail
    refine (awake_yes _).mono ?_
    rintro e w1 ⟨rfl, hb1⟩
    have B_1 := Lib.hid (B_0.out.trans (hb1.mono B_0.out.size))
    have HR_1 := Lib.hid (HR_0.out.next hb1)
    clear hb1
    go_wp2_with fail
    refine (may_yes _ _ _ _ _ _ HM.out HR_1.out (Nat.le_refl _)).mono ?_
    rintro e w2 ⟨rfl, hb2⟩
    have B_2 := Lib.hid (B_1.out.trans (hb2.mono B_1.out.size))
    have HR_2 := Lib.hid (HR_1.out.next hb2)
    clear hb2
    go_wp2
    go_ret
    exact ⟨rfl, B_2.out⟩
  have d3 : decide (cl < 0) = false := by simpa using h3
  have h4 : 2 < cl := by omega
  have d4 : decide (2 < cl) = true := by simpa using h4
  clear ho
  go_enter Try.func5, Try.ntmps5
  go_wp2_with fail
  refine (awake_yes _).mono ?_
  rintro e w1 ⟨rfl, hb1⟩
  have B_1 := Lib.hid (B_0.out.trans (hb1.mono B_0.out.size))
  have HR_1 := Lib.hid (HR_0.out.next hb1)
  clear hb1
  go_wp2_with fail
  refine (may_yes _ _ _ _ _ _ HM.out HR_1.out (Nat.le_refl _)).mono ?_
  rintro e w2 ⟨rfl, hb2⟩
  have B_2 := Lib.hid (B_1.out.trans (hb2.mono B_1.out.size))
  have HR_2 := Lib.hid (HR_1.out.next hb2)
  clear hb2
  go_wp2
  go_ret
  exact ⟨rfl, B_2.out⟩
/-- Nothing is found. -/
theorem nowhere_ (A : Option Addr) (n c : Nat) (f : Nat → Int × Int) (m : Nat) (cl : Int) (w : World) (hn : n ≤ 64) (hnc : n ≤ c) (h : mayB f n = true) (hr : PRow w w.heap.size A n f) (h1 : 1 ≤ m) (h4 : m ≤ 4) (c0 : 0 ≤ cl) (c2 : cl ≤ 2) (hf : findO f n m = none) :
    Calls Try.prog 5 #[.slice A n c, .int .i64 m, .int .i64 cl] w fun e w' => e = .returned (.bool true) ∧ Below w.heap.size w w' := by
  have HM := Lib.hid h
  have HR_0 := Lib.hid hr
  have B_0 := Lib.hid (Below.refl w.heap.size w)
  have HF := Lib.hid hf
  have d1 : decide ((m : Int) < 1) = false := by simp; omega
  have d2 : decide (4 < (m : Int)) = false := by simp; omega
  have d3 : decide (cl < 0) = false := by simp; omega
  have d4 : decide (2 < cl) = false := by simp; omega
  clear h hr hf
  go_enter Try.func5, Try.ntmps5
  go_wp2_with fail
  refine (awake_yes _).mono ?_
  rintro e w1 ⟨rfl, hb1⟩
  have B_1 := Lib.hid (B_0.out.trans (hb1.mono B_0.out.size))
  have HR_1 := Lib.hid (HR_0.out.next hb1)
  clear hb1
  go_wp2_with fail
  refine (may_yes _ _ _ _ _ _ HM.out HR_1.out (Nat.le_refl _)).mono ?_
  rintro e w2 ⟨rfl, hb2⟩
  have B_2 := Lib.hid (B_1.out.trans (hb2.mono B_1.out.size))
  have HR_2 := Lib.hid (HR_1.out.next hb2)
  clear hb2
  go_wp2_with fail
  refine (find_is _ _ _ _ _ _ _ 0 false (findV_none HF.out) (findS_none HF.out) (by omega) hnc HR_2.out (Nat.le_refl _)).mono ?_
  rintro e w3 ⟨rfl, hb3⟩
  have B_3 := Lib.hid (B_2.out.trans (hb3.mono B_2.out.size))
  have HR_3 := Lib.hid (HR_2.out.next hb3)
  clear hb3
  go_wp2
  go_ret
  exact ⟨rfl, B_3.out⟩
theorem found_ (A : Option Addr) (n c : Nat) (f : Nat → Int × Int) (m k : Nat) (cl : Int) (w : World) (hnc : n ≤ c) (h : mayB f n = true) (hr : PRow w w.heap.size A n f) (h1 : 1 ≤ m) (h4 : m ≤ 4) (c0 : 0 ≤ cl) (c2 : cl ≤ 2) (hf : findO f n m = some k) :
    Calls Try.prog 5 #[.slice A n c, .int .i64 m, .int .i64 cl] w fun e w' => e = .returned (.bool true) ∧ Below w.heap.size w w' := by
  obtain ⟨-, -, hkm, hfr, -⟩ := findO_some.1 hf
  rw [Int.toNat_natCast] at hkm hfr
  obtain ⟨n1, hn, -, -⟩ := (mayB_iff f n).1 h
  have hk : k < n := by omega
  have hk0 := first_free h1 hfr
  have EL := Lib.hid (largeE_ok h h1 h4 hkm hfr)
  have ML := Lib.hid (large_may (a := k) (m := m) h (by omega) (by omega) (by omega) (by simpa using hfr))
  have ES := Lib.hid (smallE_ok h hk hk0 ⟨c0, c2⟩)
  have MS := Lib.hid (small_may h hk hk0 c0 c2)
  have EDL := Lib.hid (dropE_ok ML.out hk (.inr large_kind))
  have EDS := Lib.hid (dropE_ok MS.out hk (.inl small_kind))
  have DL := Lib.hid (large_drop h h1 hkm hfr)
  have DS := Lib.hid (small_drop (c := cl) h hk hk0)
  have CL := Lib.hid (large_count h1 hkm hfr)
  have CS := Lib.hid (small_count (c := cl) hk hk0)
  have hcb := cnt_bd f 0 n
  have HM := Lib.hid h
  have HR_0 := Lib.hid hr
  have B_0 := Lib.hid (Below.refl w.heap.size w)
  have HF := Lib.hid hf
  have d1 : decide ((m : Int) < 1) = false := by simp; omega
  have d2 : decide (4 < (m : Int)) = false := by simp; omega
  have d3 : decide (cl < 0) = false := by simp; omega
  have d4 : decide (2 < cl) = false := by simp; omega
  clear h hr hf hfr hk0
  go_enter Try.func5, Try.ntmps5
  go_wp2_with fail
  refine (awake_yes _).mono ?_
  rintro e w1 ⟨rfl, hb1⟩
  have B_1 := Lib.hid (B_0.out.trans (hb1.mono B_0.out.size))
  have HR_1 := Lib.hid (HR_0.out.next hb1)
  clear hb1
  go_wp2_with fail
  refine (may_yes _ _ _ _ _ _ HM.out HR_1.out (Nat.le_refl _)).mono ?_
  rintro e w2 ⟨rfl, hb2⟩
  have B_2 := Lib.hid (B_1.out.trans (hb2.mono B_1.out.size))
  have HR_2 := Lib.hid (HR_1.out.next hb2)
  clear hb2
  go_wp2_with fail
  refine (find_is _ _ _ _ _ _ _ k true (findV_some HF.out) (findS_some HF.out) (by omega) hnc HR_2.out (Nat.le_refl _)).mono ?_
  rintro e w3 ⟨rfl, hb3⟩
  have B_3 := Lib.hid (B_2.out.trans (hb3.mono B_2.out.size))
  have HR_3 := Lib.hid (HR_2.out.next hb3)
  clear hb3
  go_wp2_with fail
  refine ((large_any _ _ _ _ _ _ _ _ (by omega) hnc HR_3.out (Nat.le_refl _)).mono fun _ _ h => h.done EL.out).mono ?_
  rintro e w4 ⟨A4, c4, rfl, hr4, hc4, hb4⟩
  have B_4 := Lib.hid (B_3.out.trans (hb4.mono B_3.out.size))
  have HR_4 := Lib.hid (HR_3.out.next hb4)
  clear hb4
  have RA_4 := Lib.hid hr4
  clear hr4
  go_wp2_with fail
  refine ((drop_any _ _ _ _ _ _ _ (by omega) RA_4.out (Nat.le_refl _)).mono fun _ _ h => h.done EDL.out).mono ?_
  rintro e w5 ⟨A5, c5, rfl, hr5, hc5, hb5⟩
  have B_5 := Lib.hid (B_4.out.trans (hb5.mono B_4.out.size))
  have HR_5 := Lib.hid (HR_4.out.next hb5)
  have RA_5 := Lib.hid (RA_4.out.next hb5)
  clear hb5
  have RB_5 := Lib.hid hr5
  clear hr5
  go_wp2_with fail
  refine ((small_any _ _ _ _ _ _ _ _ (by omega) hnc HR_5.out (Nat.le_refl _)).mono fun _ _ h => h.done ES.out).mono ?_
  rintro e w6 ⟨A6, c6, rfl, hr6, hc6, hb6⟩
  have B_6 := Lib.hid (B_5.out.trans (hb6.mono B_5.out.size))
  have HR_6 := Lib.hid (HR_5.out.next hb6)
  have RA_6 := Lib.hid (RA_5.out.next hb6)
  have RB_6 := Lib.hid (RB_5.out.next hb6)
  clear hb6
  have RC_6 := Lib.hid hr6
  clear hr6
  go_wp2_with fail
  refine ((drop_any _ _ _ _ _ _ _ (by omega) RC_6.out (Nat.le_refl _)).mono fun _ _ h => h.done EDS.out).mono ?_
  rintro e w7 ⟨A7, c7, rfl, hr7, hc7, hb7⟩
  have B_7 := Lib.hid (B_6.out.trans (hb7.mono B_6.out.size))
  have HR_7 := Lib.hid (HR_6.out.next hb7)
  have RA_7 := Lib.hid (RA_6.out.next hb7)
  have RB_7 := Lib.hid (RB_6.out.next hb7)
  have RC_7 := Lib.hid (RC_6.out.next hb7)
  clear hb7
  have RD_7 := Lib.hid hr7
  clear hr7
  go_wp2_with fail
  refine (same_yes _ _ _ _ _ _ _ _ _ _ (by omega) (fun i _ => DL.out i) RB_7.out HR_7.out (Nat.le_refl _) (Nat.le_refl _)).mono ?_
  rintro e w8 ⟨rfl, hb8⟩
  have B_8 := Lib.hid (B_7.out.trans (hb8.mono B_7.out.size))
  have HR_8 := Lib.hid (HR_7.out.next hb8)
  have RA_8 := Lib.hid (RA_7.out.next hb8)
  have RB_8 := Lib.hid (RB_7.out.next hb8)
  have RC_8 := Lib.hid (RC_7.out.next hb8)
  have RD_8 := Lib.hid (RD_7.out.next hb8)
  clear hb8
  go_wp2_with fail
  refine (same_yes _ _ _ _ _ _ _ _ _ _ (by omega) (fun i _ => DS.out i) RD_8.out HR_8.out (Nat.le_refl _) (Nat.le_refl _)).mono ?_
  rintro e w9 ⟨rfl, hb9⟩
  have B_9 := Lib.hid (B_8.out.trans (hb9.mono B_8.out.size))
  have HR_9 := Lib.hid (HR_8.out.next hb9)
  have RA_9 := Lib.hid (RA_8.out.next hb9)
  have RB_9 := Lib.hid (RB_8.out.next hb9)
  have RC_9 := Lib.hid (RC_8.out.next hb9)
  have RD_9 := Lib.hid (RD_8.out.next hb9)
  clear hb9
  go_wp2_with fail
  refine (count_any _ _ _ _ _ _ _ (by omega) HR_9.out (Nat.le_refl _)).mono ?_
  rintro e w10 ⟨rfl, hb10⟩
  have B_10 := Lib.hid (B_9.out.trans (hb10.mono B_9.out.size))
  have HR_10 := Lib.hid (HR_9.out.next hb10)
  have RA_10 := Lib.hid (RA_9.out.next hb10)
  have RB_10 := Lib.hid (RB_9.out.next hb10)
  have RC_10 := Lib.hid (RC_9.out.next hb10)
  have RD_10 := Lib.hid (RD_9.out.next hb10)
  clear hb10
  go_wp2_with fail
  refine (may_yes _ _ _ _ _ _ ML.out RA_10.out (Nat.le_refl _)).mono ?_
  rintro e w11 ⟨rfl, hb11⟩
  have B_11 := Lib.hid (B_10.out.trans (hb11.mono B_10.out.size))
  have HR_11 := Lib.hid (HR_10.out.next hb11)
  have RA_11 := Lib.hid (RA_10.out.next hb11)
  have RB_11 := Lib.hid (RB_10.out.next hb11)
  have RC_11 := Lib.hid (RC_10.out.next hb11)
  have RD_11 := Lib.hid (RD_10.out.next hb11)
  clear hb11
  go_wp2_with fail
  refine (may_yes _ _ _ _ _ _ MS.out RC_11.out (Nat.le_refl _)).mono ?_
  rintro e w12 ⟨rfl, hb12⟩
  have B_12 := Lib.hid (B_11.out.trans (hb12.mono B_11.out.size))
  have HR_12 := Lib.hid (HR_11.out.next hb12)
  have RA_12 := Lib.hid (RA_11.out.next hb12)
  have RB_12 := Lib.hid (RB_11.out.next hb12)
  have RC_12 := Lib.hid (RC_11.out.next hb12)
  have RD_12 := Lib.hid (RD_11.out.next hb12)
  clear hb12
  go_wp2_with fail
  refine (count_is _ _ _ _ _ _ _ (cnt f 0 n - m) CL.out (by omega) RA_12.out (Nat.le_refl _)).mono ?_
  rintro e w13 ⟨rfl, hb13⟩
  have B_13 := Lib.hid (B_12.out.trans (hb13.mono B_12.out.size))
  have HR_13 := Lib.hid (HR_12.out.next hb13)
  have RA_13 := Lib.hid (RA_12.out.next hb13)
  have RB_13 := Lib.hid (RB_12.out.next hb13)
  have RC_13 := Lib.hid (RC_12.out.next hb13)
  have RD_13 := Lib.hid (RD_12.out.next hb13)
  clear hb13
  go_wp2_with fail
  refine (count_is _ _ _ _ _ _ _ (cnt f 0 n - 1) CS.out (by omega) RC_13.out (Nat.le_refl _)).mono ?_
  rintro e w14 ⟨rfl, hb14⟩
  have B_14 := Lib.hid (B_13.out.trans (hb14.mono B_13.out.size))
  have HR_14 := Lib.hid (HR_13.out.next hb14)
  have RA_14 := Lib.hid (RA_13.out.next hb14)
  have RB_14 := Lib.hid (RB_13.out.next hb14)
  have RC_14 := Lib.hid (RC_13.out.next hb14)
  have RD_14 := Lib.hid (RD_13.out.next hb14)
  clear hb14
  go_wp2
  go_ret
  exact ⟨rfl, B_14.out⟩
theorem walk (A : Option Addr) (n c : Nat) (f : Nat → Int × Int) (m cl : Int) (w : World) (hr : PIn w A n c f) (_wm : (Lit.int .i64 m).wf = true) (_wk : (Lit.int .i64 cl).wf = true) :
    Calls Try.prog 5 #[.slice A n c, .int .i64 m, .int .i64 cl] w fun e w' => e = .returned (.bool true) ∧ Below w.heap.size w w' := by
  obtain ⟨hrow, hnc, hcm⟩ := hr
  unfold maxLen at hcm
  by_cases hl : 64 < n
  · exact long A n c m cl w hl (by omega)
  cases h : mayB f n
  · exact nomay A n c f m cl w (by omega) h hrow
  by_cases ho : m < 1 ∨ 4 < m ∨ cl < 0 ∨ 2 < cl
  · exact other A n c f m cl w (by omega) h hrow ho
  obtain ⟨k, rfl⟩ : ∃ k : Nat, m = k := ⟨m.toNat, by omega⟩
  cases hf : findO f n k with
  | none => exact nowhere_ A n c f k cl w (by omega) hnc h hrow (by omega) (by omega) (by omega) (by omega) hf
  | some j => exact found_ A n c f k j cl w hnc h hrow (by omega) (by omega) (by omega) (by omega) hf

set_option maxRecDepth 100000 in
theorem lifted (os : Os) (started : os.Started) (H : Type) (enc : TypeId × Value → H) :
    ReturnsInHanded {} Try.checked os 5 .any (Rows.pagesBackSpec.pre6 enc Try.prog Try.f5 Rows.pagesBackRow.domain false) (Rows.pagesBackSpec.post enc Try.prog Try.f5 false true false false) := by
  refine returnsInHanded_of_change (C := Try.checked) own started (by kernel_rfl) Try.func5
    (ChangeSpec.witness6 (enc := enc) (C := Try.checked) false ⟨#[], #[.slice none 0 0, .int .i64 0, .int .i64 0], []⟩ 8 (by kernel_rfl) (by kernel_rfl) (by kernel_rfl) (by kernel_rfl)) ?_
  intro W base args ds gs before hval0 hW hcnd _
  have hval : ∀ (j : Nat) t v, Try.f5.params[j]? = some t → args[j]? = some v → Value.okWide Try.prog W .any base t v := hval0
  have hW' := hW
  obtain ⟨p, q, hA0, hV, rfl, hfz, hnd⟩ := hW
  have hA : DataW.TrodAll enc Try.prog W 0 (fun _ => true) true Try.f5.params.toList args.toList ds p := hA0
  rw [Try.params5] at hA hval
  obtain ⟨v0, vs0, d0, ds0, p0, q0, hargs, rfl, rfl, h0, r0⟩ := trodAll_cons hA
  obtain ⟨v1, vs1, d1, ds1, p1, q1, rfl, rfl, rfl, h1, r1⟩ := trodAll_cons r0
  obtain ⟨v2, vs2, d2, ds2, p2, q2, rfl, rfl, rfl, h2, r2⟩ := trodAll_cons r1
  obtain ⟨rfl, rfl, rfl⟩ := trodAll_nil r2
  obtain rfl : args = #[v0, v1, v2] := by cases args; simp_all
  obtain ⟨rfl, rfl⟩ := trodVars_none hV
  obtain ⟨a0, len0, cap0, rfl⟩ := okWide_slice Try.underlying22 (hval 0 22 v0 rfl rfl)
  have k0 := h0
  have lt0 : ∀ x ∈ p0, x.block < W.heap.size := by obtain ⟨m, hm⟩ := k0; exact DataW.trod_lt m _ _ _ hm
  obtain ⟨z0, w0⟩ : ∃ f, PIn W a0 len0 cap0 f := pin_of h0
  obtain ⟨a1, rfl, rfl, rfl, w1⟩ := open_int Try.underlying3 (hval 1 3 v1 rfl rfl) h1
  obtain ⟨a2, rfl, rfl, rfl, w2⟩ := open_int Try.underlying3 (hval 2 3 v2 rfl rfl) h2
  clear hA0 hval0
  refine (walk a0 len0 cap0 z0 a1 a2 W w0 w1 w2).mono fun e W' ⟨he, bel⟩ => ?_
  subst he
  exact ⟨_, rfl, _, _, _, [], _, [], hW', trodAll_mk1 (shut_bool Try.underlying4 _), (trodAll_cons_mk (Below.trod laidOut (by kernel_rfl) (of_decide_eq_true (by kernel_rfl)) k0 bel lt0) (trodAll_cons_mk (shut_int Try.underlying3 w1) (trodAll_cons_mk (shut_int Try.underlying3 w2) trodAll_mk0))), rfl, bel.frame _, fun h => by cases h⟩

theorem over : Rows.pagesBackRow.holds Try.pinned (OpenSpec.ofChange Rows.pagesBackSpec) :=
  OpenClaim.holds_of_wide 5 Try.f5 rfl rfl rfl rfl rfl rfl rfl ⟨rfl, rfl, rfl, rfl, rfl⟩ rfl rfl rfl rfl rfl (by kernel_rfl) Try.func5 (by kernel_rfl)
    (of_decide_eq_true (by kernel_rfl)) (by unfold Func.isWrapper; first | (rw [if_pos (by decide +kernel)]; kernel_rfl) | (rw [if_neg (by decide +kernel)]; exact ⟨rfl, rfl⟩))
    (fun os started H enc _ => lifted os started H enc)

/-- The statement. -/
theorem proved : Rows.PagesBackSaid :=
  over
#print axioms proved
end Go.Proofs.Ytofbebgcafpfhaa.PagesBack
