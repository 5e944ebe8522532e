/-
PagesFirst: none is found ahead of what is found; where there are fewer free pages than are asked for none is found; what has room for more has room for fewer, no further behind: for all pages, and all numbers.
-/
import Derived.Test.YtofbebgcafpfhaaPgTaken
import Derived.Test.YtofbebgcafpfhaaPgIns
namespace Go.Proofs.Ytofbebgcafpfhaa.PagesFirst
open Go.Proofs.Ytofbebgcafpfhaa
open Go.ChangeShapes Go.WideShapes Go.ChangeAt Go.RowKit

theorem long (A : Option Addr) (n c : Nat) (m : Int) (w : World) (h : 64 < n) (hn : n ≤ 9223372036854775807) :
    Calls Try.prog 6 #[.slice A n c, .int .i64 m] w fun e w' => e = .returned (.bool true) ∧ Below w.heap.size w w' := by
  go_enter Try.func6, Try.ntmps6
  go_wp2_with fail
  refine (awake_yes _).mono ?_
  rintro e w1 ⟨rfl, hb1⟩
  go_wp2
  go_ret
  exact ⟨rfl, hb1⟩
theorem nomay (A : Option Addr) (n c : Nat) (f : Nat → Int × Int) (m : Int) (w : World) (hn : n ≤ 64) (h : mayB f n = false) (hr : PRow w w.heap.size A n f) :
    Calls Try.prog 6 #[.slice A n c, .int .i64 m] w fun e w' => e = .returned (.bool true) ∧ Below w.heap.size w w' := by
  have HM := Lib.hid h
  have HR_0 := Lib.hid hr
  have B_0 := Lib.hid (Below.refl w.heap.size w)
  clear h hr
  go_enter Try.func6, Try.ntmps6
  go_wp2_with fail
  refine (awake_yes _).mono ?_
  rintro e w1 ⟨rfl, hb1⟩
  have B_1 := Lib.hid (B_0.out.trans (hb1.mono B_0.out.size))
  have HR_1 := Lib.hid (HR_0.out.next hb1)
  clear hb1
  go_wp2_with fail
  refine (may_no _ _ _ _ _ _ HM.out (by omega) HR_1.out (Nat.le_refl _)).mono ?_
  rintro e w2 ⟨rfl, hb2⟩
  have B_2 := Lib.hid (B_1.out.trans (hb2.mono B_1.out.size))
  have HR_2 := Lib.hid (HR_1.out.next hb2)
  clear hb2
  go_wp2
  go_ret
  exact ⟨rfl, B_2.out⟩
theorem other (A : Option Addr) (n c : Nat) (f : Nat → Int × Int) (m : Int) (w : World) (hn : n ≤ 64) (h : mayB f n = true) (hr : PRow w w.heap.size A n f) (ho : m < 1 ∨ 4 < m) :
    Calls Try.prog 6 #[.slice A n c, .int .i64 m] w fun e w' => e = .returned (.bool true) ∧ Below w.heap.size w w' := by
  have HM := Lib.hid h
  have HR_0 := Lib.hid hr
  have B_0 := Lib.hid (Below.refl w.heap.size w)
  clear h hr
  by_cases h1 : m < 1
  · have d1 : decide (m < 1) = true := by simpa using h1
    clear ho
    go_enter Try.func6, Try.ntmps6
    go_wp2_with fail
    refine (awake_yes _).mono ?_
    rintro e w1 ⟨rfl, hb1⟩
    have B_1 := Lib.hid (B_0.out.trans (hb1.mono B_0.out.size))
    have HR_1 := Lib.hid (HR_0.out.next hb1)
    clear hb1
    go_wp2_with fail
    refine (may_yes _ _ _ _ _ _ HM.out HR_1.out (Nat.le_refl _)).mono ?_
    rintro e w2 ⟨rfl, hb2⟩
    have B_2 := Lib.hid (B_1.out.trans (hb2.mono B_1.out.size))
    have HR_2 := Lib.hid (HR_1.out.next hb2)
    clear hb2
    go_wp2
    go_ret
    exact ⟨rfl, B_2.out⟩
  have d1 : decide (m < 1) = false := by simpa using h1
  have h2 : 4 < m := by omega
  have d2 : decide (4 < m) = true := by simpa using h2
  clear ho
  go_enter Try.func6, Try.ntmps6
  go_wp2_with fail
  refine (awake_yes _).mono ?_
  rintro e w1 ⟨rfl, hb1⟩
  have B_1 := Lib.hid (B_0.out.trans (hb1.mono B_0.out.size))
  have HR_1 := Lib.hid (HR_0.out.next hb1)
  clear hb1
  go_wp2_with fail
  refine (may_yes _ _ _ _ _ _ HM.out HR_1.out (Nat.le_refl _)).mono ?_
  rintro e w2 ⟨rfl, hb2⟩
  have B_2 := Lib.hid (B_1.out.trans (hb2.mono B_1.out.size))
  have HR_2 := Lib.hid (HR_1.out.next hb2)
  clear hb2
  go_wp2
  go_ret
  exact ⟨rfl, B_2.out⟩
/-- An error was told, whichever. -/
def TNot (w : World) (e : Ending) (w' : World) : Prop := ∃ A c x, e = .returned (.tuple #[.slice A 0 c, .int .i64 x]) ∧ x ≠ 0 ∧ Below w.heap.size w w'
theorem not_of {w w' : World} {E : Int} {n : Nat} {g : Nat → Int × Int} {e : Ending} (h : TOut w E n g e w') (h0 : E ≠ 0) : TNot w e w' := by
  obtain ⟨A, c, h1, h2⟩ := h.fails h0
  exact ⟨A, c, E, h1, h0, h2⟩
set_option maxHeartbeats 1000000 in
/-- Nothing is found. -/
theorem nowhere_ (A : Option Addr) (n c : Nat) (f : Nat → Int × Int) (m : Nat) (w : World) (hnc : n ≤ c) (h : mayB f n = true) (hr : PRow w w.heap.size A n f) (h1 : 1 ≤ m) (h4 : m ≤ 4) (hf : findO f n m = none) :
    Calls Try.prog 6 #[.slice A n c, .int .i64 m] w fun e w' => e = .returned (.bool true) ∧ Below w.heap.size w w' := by
  obtain ⟨n1, hn, -, -⟩ := (mayB_iff f n).1 h
  have HL := Lib.hid (fun i : Nat => largeE_passed (k := i) h h1 h4 (fun hi => by
    cases hx : freeB f i m
    · rfl
    · exfalso
      have hex : ∃ i, i + m ≤ n ∧ freeB f i m = true ∧ ∀ l, l < i → freeB f l m = false := by
        clear hf
        induction i using Nat.strongRecOn with
        | ind j ih =>
          by_cases hl : ∃ l, l < j ∧ freeB f l m = true
          · obtain ⟨l, hlj, hlf⟩ := hl
            exact ih l hlj (by omega) hlf
          · refine ⟨j, hi, hx, fun l hl' => ?_⟩
            cases hy : freeB f l m
            · rfl
            · exact absurd ⟨l, hl', hy⟩ hl
      obtain ⟨i, hi, hif, hil⟩ := hex
      have := findO_some.2 (⟨h, (runB_iff _).2 (by omega), by simp; omega, by simpa using hif, fun l hl => by simpa using hil l hl⟩ : mayB f n = true ∧ runB (m : Int) = true ∧ i + (m : Int).toNat ≤ n ∧ freeB f i (m : Int).toNat = true ∧ ∀ j, j < i → freeB f j (m : Int).toNat = false)
      rw [hf] at this
      cases this))
  have HM := Lib.hid h
  have HR_0 := Lib.hid hr
  have B_0 := Lib.hid (Below.refl w.heap.size w)
  have HF := Lib.hid hf
  have d1 : decide ((m : Int) < 1) = false := by simp; omega
  have d2 : decide (4 < (m : Int)) = false := by simp; omega
  clear h hr hf
  go_enter Try.func6, Try.ntmps6
  go_wp2_with fail
  refine (awake_yes _).mono ?_
  rintro e w1 ⟨rfl, hb1⟩
  have B_1 := Lib.hid (B_0.out.trans (hb1.mono B_0.out.size))
  have HR_1 := Lib.hid (HR_0.out.next hb1)
  clear hb1
  go_wp2_with fail
  refine (may_yes _ _ _ _ _ _ HM.out HR_1.out (Nat.le_refl _)).mono ?_
  rintro e w2 ⟨rfl, hb2⟩
  have B_2 := Lib.hid (B_1.out.trans (hb2.mono B_1.out.size))
  have HR_2 := Lib.hid (HR_1.out.next hb2)
  clear hb2
  go_wp2_with fail
  refine (find_is _ _ _ _ _ _ _ 0 false (findV_none HF.out) (findS_none HF.out) (by omega) hnc HR_2.out (Nat.le_refl _)).mono ?_
  rintro e w3 ⟨rfl, hb3⟩
  have B_3 := Lib.hid (B_2.out.trans (hb3.mono B_2.out.size))
  have HR_3 := Lib.hid (HR_2.out.next hb3)
  clear hb3
  go_wp2
  go_loopw [8] (fun i wr => ∃ k : Nat, k ≤ n ∧ i = .int .i64 k ∧ Below w3.heap.size w3 wr) (fun i _ => n - (intOf i).toNat)
  case atStart => exact ⟨0, by omega, rfl, Below.refl _ _⟩
  case round =>
    obtain ⟨k, hk, rfl, hb⟩ := hrel
    have HB := Lib.hid hb
    have HRk := Lib.hid (HR_3.out.below hb)
    have hz := hb.size
    clear hb
    by_cases hlt : k < n
    · go_wp2_with fail
      refine ((large_any _ _ _ _ _ _ _ _ (by omega) hnc HRk.out hz).mono fun _ _ h => not_of h (HL.out k)).mono ?_
      rintro e w4 ⟨A4, c4, x, rfl, hx, hb4⟩
      have dx : (x == 0) = false := by simpa using hx
      have HB4 := Lib.hid (HB.out.trans (hb4.mono hz))
      clear hx hb4
      go_wp2
      go_roundw
      case rel => exact ⟨k + 1, by omega, by go_num, HB4.out⟩
      case measure => simp [intOf]; omega
    · go_wp2_with fail
      refine (find_any _ _ _ _ _ _ _ (by omega) hnc HRk.out hz).mono ?_
      rintro e w4 ⟨rfl, hb4⟩
      have HB4 := Lib.hid (HB.out.trans (hb4.mono hz))
      clear hb4
      go_wp2
      all_goals
        go_ret
        exact ⟨rfl, B_3.out.trans (HB4.out.mono B_3.out.size)⟩
set_option maxHeartbeats 1000000 in
theorem found_ (A : Option Addr) (n c : Nat) (f : Nat → Int × Int) (m q : Nat) (w : World) (hnc : n ≤ c) (h : mayB f n = true) (hr : PRow w w.heap.size A n f) (h1 : 1 ≤ m) (h4 : m ≤ 4) (hf : findO f n m = some q) :
    Calls Try.prog 6 #[.slice A n c, .int .i64 m] w fun e w' => e = .returned (.bool true) ∧ Below w.heap.size w w' := by
  obtain ⟨n1, hn, -, -⟩ := (mayB_iff f n).1 h
  obtain ⟨-, -, hkm, hfr, hpas⟩ := findO_some.1 hf
  rw [Int.toNat_natCast] at hkm hfr hpas
  have HL := Lib.hid (fun (i : Nat) (hi : i < q) => largeE_passed (k := i) h h1 h4 (fun _ => hpas i hi))
  have hcn := free_count_le hkm hfr
  have hcb := cnt_bd f 0 n
  have HLess : Hid (2 ≤ m → ∃ j, j ≤ q ∧ findO f n ((m : Int) - 1) = some j) := Lib.hid fun h2 => by
    obtain ⟨p, rfl⟩ : ∃ p, m = p + 1 := ⟨m - 1, by omega⟩
    obtain ⟨j, hj, hj2⟩ := find_less hf (by omega)
    exact ⟨j, hj, by rw [show ((p + 1 : Nat) : Int) - 1 = (p : Int) by omega]; exact hj2⟩
  have HM := Lib.hid h
  have HR_0 := Lib.hid hr
  have B_0 := Lib.hid (Below.refl w.heap.size w)
  have HF := Lib.hid hf
  have d1 : decide ((m : Int) < 1) = false := by simp; omega
  have d2 : decide (4 < (m : Int)) = false := by simp; omega
  clear h hr hf hfr hpas
  go_enter Try.func6, Try.ntmps6
  go_wp2_with fail
  refine (awake_yes _).mono ?_
  rintro e w1 ⟨rfl, hb1⟩
  have B_1 := Lib.hid (B_0.out.trans (hb1.mono B_0.out.size))
  have HR_1 := Lib.hid (HR_0.out.next hb1)
  clear hb1
  go_wp2_with fail
  refine (may_yes _ _ _ _ _ _ HM.out HR_1.out (Nat.le_refl _)).mono ?_
  rintro e w2 ⟨rfl, hb2⟩
  have B_2 := Lib.hid (B_1.out.trans (hb2.mono B_1.out.size))
  have HR_2 := Lib.hid (HR_1.out.next hb2)
  clear hb2
  go_wp2_with fail
  refine (find_is _ _ _ _ _ _ _ q true (findV_some HF.out) (findS_some HF.out) (by omega) hnc HR_2.out (Nat.le_refl _)).mono ?_
  rintro e w3 ⟨rfl, hb3⟩
  have B_3 := Lib.hid (B_2.out.trans (hb3.mono B_2.out.size))
  have HR_3 := Lib.hid (HR_2.out.next hb3)
  clear hb3
  go_wp2
  go_loopw [8] (fun i wr => ∃ k : Nat, k ≤ q ∧ i = .int .i64 k ∧ Below w3.heap.size w3 wr) (fun i _ => q - (intOf i).toNat)
  case atStart => exact ⟨0, by omega, rfl, Below.refl _ _⟩
  case round =>
    obtain ⟨k, hk, rfl, hb⟩ := hrel
    have HB := Lib.hid hb
    have HRk := Lib.hid (HR_3.out.below hb)
    have hz := hb.size
    clear hb
    have dn : decide (k < n) = true := by simp; omega
    by_cases hlt : k < q
    · have dq : decide (k < q) = true := by simpa using hlt
      go_wp2_with fail
      refine ((large_any _ _ _ _ _ _ _ _ (by omega) hnc HRk.out hz).mono fun _ _ h => not_of h (HL.out k hlt)).mono ?_
      rintro e w4 ⟨A4, c4, x, rfl, hx, hb4⟩
      have dx : (x == 0) = false := by simpa using hx
      have HB4 := Lib.hid (HB.out.trans (hb4.mono hz))
      clear hx hb4
      go_wp2
      go_roundw
      case rel => exact ⟨k + 1, by omega, by go_num, HB4.out⟩
      case measure => simp [intOf]; omega
    · have dq : decide (k < q) = false := by simpa using hlt
      by_cases hm2 : 2 ≤ m
      · obtain ⟨j, hj, hj2⟩ := HLess.out hm2
        have HJ := Lib.hid hj2
        have dm : decide (1 < (m : Int)) = true := by simp; omega
        have dj : decide (q < j) = false := by simp; omega
        clear hj2
        go_wp2_with fail
        refine (find_is _ _ _ _ _ _ _ j true (findV_some HJ.out) (findS_some HJ.out) (by omega) hnc HRk.out hz).mono ?_
        rintro e w4 ⟨rfl, hb4⟩
        have HB4 := Lib.hid (HB.out.trans (hb4.mono hz))
        have HR4 := Lib.hid (HRk.out.below (hb4.mono hz))
        have hz4 := HB4.out.size
        clear hb4
        go_wp2_with fail
        refine (count_any _ _ _ _ _ _ _ (by omega) HR4.out hz4).mono ?_
        rintro e w5 ⟨rfl, hb5⟩
        have dc : decide ((m : Int) ≤ cnt f 0 n) = true := by simpa using hcn
        go_wp2
        go_ret
        exact ⟨rfl, B_3.out.trans ((HB4.out.trans (hb5.mono hz4)).mono B_3.out.size)⟩
      · obtain rfl : m = 1 := by omega
        go_wp2_with fail
        refine (find_any _ _ _ _ _ _ _ (by omega) hnc HRk.out hz).mono ?_
        rintro e w4 ⟨rfl, hb4⟩
        have HB4 := Lib.hid (HB.out.trans (hb4.mono hz))
        have HR4 := Lib.hid (HRk.out.below (hb4.mono hz))
        have hz4 := HB4.out.size
        clear hb4
        go_wp2_with fail
        refine (count_any _ _ _ _ _ _ _ (by omega) HR4.out hz4).mono ?_
        rintro e w5 ⟨rfl, hb5⟩
        have dc : decide (1 ≤ cnt f 0 n) = true := by simp; omega
        go_wp2
        go_ret
        exact ⟨rfl, B_3.out.trans ((HB4.out.trans (hb5.mono hz4)).mono B_3.out.size)⟩
theorem walk (A : Option Addr) (n c : Nat) (f : Nat → Int × Int) (m : Int) (w : World) (hr : PIn w A n c f) (_wm : (Lit.int .i64 m).wf = true) :
    Calls Try.prog 6 #[.slice A n c, .int .i64 m] w fun e w' => e = .returned (.bool true) ∧ Below w.heap.size w w' := by
  obtain ⟨hrow, hnc, hcm⟩ := hr
  unfold maxLen at hcm
  by_cases hl : 64 < n
  · exact long A n c m w hl (by omega)
  cases h : mayB f n
  · exact nomay A n c f m w (by omega) h hrow
  by_cases ho : m < 1 ∨ 4 < m
  · exact other A n c f m w (by omega) h hrow ho
  obtain ⟨k, rfl⟩ : ∃ k : Nat, m = k := ⟨m.toNat, by omega⟩
  cases hf : findO f n k with
  | none => exact nowhere_ A n c f k w hnc h hrow (by omega) (by omega) hf
  | some j => exact found_ A n c f k j w hnc h hrow (by omega) (by omega) hf

set_option maxRecDepth 100000 in
theorem lifted (os : Os) (started : os.Started) (H : Type) (enc : TypeId × Value → H) :
    ReturnsInHanded {} Try.checked os 6 .any (Rows.pagesFirstSpec.pre6 enc Try.prog Try.f6 Rows.pagesFirstRow.domain false) (Rows.pagesFirstSpec.post enc Try.prog Try.f6 false true false false) := by
  refine returnsInHanded_of_change (C := Try.checked) own started (by kernel_rfl) Try.func6
    (ChangeSpec.witness6 (enc := enc) (C := Try.checked) false ⟨#[], #[.slice none 0 0, .int .i64 0], []⟩ 8 (by kernel_rfl) (by kernel_rfl) (by kernel_rfl) (by kernel_rfl)) ?_
  intro W base args ds gs before hval0 hW hcnd _
  have hval : ∀ (j : Nat) t v, Try.f6.params[j]? = some t → args[j]? = some v → Value.okWide Try.prog W .any base t v := hval0
  have hW' := hW
  obtain ⟨p, q, hA0, hV, rfl, hfz, hnd⟩ := hW
  have hA : DataW.TrodAll enc Try.prog W 0 (fun _ => true) true Try.f6.params.toList args.toList ds p := hA0
  rw [Try.params6] at hA hval
  obtain ⟨v0, vs0, d0, ds0, p0, q0, hargs, rfl, rfl, h0, r0⟩ := trodAll_cons hA
  obtain ⟨v1, vs1, d1, ds1, p1, q1, rfl, rfl, rfl, h1, r1⟩ := trodAll_cons r0
  obtain ⟨rfl, rfl, rfl⟩ := trodAll_nil r1
  obtain rfl : args = #[v0, v1] := by cases args; simp_all
  obtain ⟨rfl, rfl⟩ := trodVars_none hV
  obtain ⟨a0, len0, cap0, rfl⟩ := okWide_slice Try.underlying22 (hval 0 22 v0 rfl rfl)
  have k0 := h0
  have lt0 : ∀ x ∈ p0, x.block < W.heap.size := by obtain ⟨m, hm⟩ := k0; exact DataW.trod_lt m _ _ _ hm
  obtain ⟨z0, w0⟩ : ∃ f, PIn W a0 len0 cap0 f := pin_of h0
  obtain ⟨a1, rfl, rfl, rfl, w1⟩ := open_int Try.underlying3 (hval 1 3 v1 rfl rfl) h1
  clear hA0 hval0
  refine (walk a0 len0 cap0 z0 a1 W w0 w1).mono fun e W' ⟨he, bel⟩ => ?_
  subst he
  exact ⟨_, rfl, _, _, _, [], _, [], hW', trodAll_mk1 (shut_bool Try.underlying4 _), (trodAll_cons_mk (Below.trod laidOut (by kernel_rfl) (of_decide_eq_true (by kernel_rfl)) k0 bel lt0) (trodAll_cons_mk (shut_int Try.underlying3 w1) trodAll_mk0)), rfl, bel.frame _, fun h => by cases h⟩

theorem over : Rows.pagesFirstRow.holds Try.pinned (OpenSpec.ofChange Rows.pagesFirstSpec) :=
  OpenClaim.holds_of_wide 6 Try.f6 rfl rfl rfl rfl rfl rfl rfl ⟨rfl, rfl, rfl, rfl, rfl⟩ rfl rfl rfl rfl rfl (by kernel_rfl) Try.func6 (by kernel_rfl)
    (of_decide_eq_true (by kernel_rfl)) (by unfold Func.isWrapper; first | (rw [if_pos (by decide +kernel)]; kernel_rfl) | (rw [if_neg (by decide +kernel)]; exact ⟨rfl, rfl⟩))
    (fun os started H enc _ => lifted os started H enc)

/-- The statement. -/
theorem proved : Rows.PagesFirstSaid :=
  over
#print axioms proved
end Go.Proofs.Ytofbebgcafpfhaa.PagesFirst
