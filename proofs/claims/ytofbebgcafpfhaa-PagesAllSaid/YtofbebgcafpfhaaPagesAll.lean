/-
PagesAll: taken one by one, where they are found, all that were free are taken, and then none is found: for all pages, and all numbers.
-/
import Derived.Test.YtofbebgcafpfhaaPgTaken
import Derived.Test.YtofbebgcafpfhaaPgIns
namespace Go.Proofs.Ytofbebgcafpfhaa.PagesAll
open Go.Proofs.Ytofbebgcafpfhaa
open Go.ChangeShapes Go.WideShapes Go.ChangeAt Go.RowKit

theorem long (A : Option Addr) (n c : Nat) (cl : Int) (w : World) (h : 64 < n) (hn : n ≤ 9223372036854775807) :
    Calls Try.prog 9 #[.slice A n c, .int .i64 cl] w fun e w' => e = .returned (.bool true) ∧ Below w.heap.size w w' := by
  go_enter Try.func9, Try.ntmps9
  go_wp2_with fail
  refine (awake_yes _).mono ?_
  rintro e w1 ⟨rfl, hb1⟩
  go_wp2
  go_ret
  exact ⟨rfl, hb1⟩
theorem nomay (A : Option Addr) (n c : Nat) (f : Nat → Int × Int) (cl : Int) (w : World) (hn : n ≤ 64) (h : mayB f n = false) (hr : PRow w w.heap.size A n f) :
    Calls Try.prog 9 #[.slice A n c, .int .i64 cl] w fun e w' => e = .returned (.bool true) ∧ Below w.heap.size w w' := by
  have HM := Lib.hid h
  have HR_0 := Lib.hid hr
  have B_0 := Lib.hid (Below.refl w.heap.size w)
  clear h hr
  go_enter Try.func9, Try.ntmps9
  go_wp2_with fail
  refine (awake_yes _).mono ?_
  rintro e w1 ⟨rfl, hb1⟩
  have B_1 := Lib.hid (B_0.out.trans (hb1.mono B_0.out.size))
  have HR_1 := Lib.hid (HR_0.out.next hb1)
  clear hb1
  go_wp2_with fail
  refine (may_no _ _ _ _ _ _ HM.out (by omega) HR_1.out (Nat.le_refl _)).mono ?_
  rintro e w2 ⟨rfl, hb2⟩
  have B_2 := Lib.hid (B_1.out.trans (hb2.mono B_1.out.size))
  have HR_2 := Lib.hid (HR_1.out.next hb2)
  clear hb2
  go_wp2
  go_ret
  exact ⟨rfl, B_2.out⟩
theorem other (A : Option Addr) (n c : Nat) (f : Nat → Int × Int) (cl : Int) (w : World) (hn : n ≤ 64) (h : mayB f n = true) (hr : PRow w w.heap.size A n f) (ho : cl < 0 ∨ 2 < cl) :
    Calls Try.prog 9 #[.slice A n c, .int .i64 cl] w fun e w' => e = .returned (.bool true) ∧ Below w.heap.size w w' := by
  have HM := Lib.hid h
  have HR_0 := Lib.hid hr
  have B_0 := Lib.hid (Below.refl w.heap.size w)
  clear h hr
  by_cases h1 : cl < 0
  · have d1 : decide (cl < 0) = true := by simpa using h1
    clear ho
    go_enter Try.func9, Try.ntmps9
    go_wp2_with fail
    refine (awake_yes _).mono ?_
    rintro e w1 ⟨rfl, hb1⟩
    have B_1 := Lib.hid (B_0.out.trans (hb1.mono B_0.out.size))
    have HR_1 := Lib.hid (HR_0.out.next hb1)
    clear hb1
    go_wp2_with fail
    refine (may_yes _ _ _ _ _ _ HM.out HR_1.out (Nat.le_refl _)).mono ?_
    rintro e w2 ⟨rfl, hb2⟩
    have B_2 := Lib.hid (B_1.out.trans (hb2.mono B_1.out.size))
    have HR_2 := Lib.hid (HR_1.out.next hb2)
    clear hb2
    go_wp2
    go_ret
    exact ⟨rfl, B_2.out⟩
  have d1 : decide (cl < 0) = false := by simpa using h1
  have h2 : 2 < cl := by omega
  have d2 : decide (2 < cl) = true := by simpa using h2
  clear ho
  go_enter Try.func9, Try.ntmps9
  go_wp2_with fail
  refine (awake_yes _).mono ?_
  rintro e w1 ⟨rfl, hb1⟩
  have B_1 := Lib.hid (B_0.out.trans (hb1.mono B_0.out.size))
  have HR_1 := Lib.hid (HR_0.out.next hb1)
  clear hb1
  go_wp2_with fail
  refine (may_yes _ _ _ _ _ _ HM.out HR_1.out (Nat.le_refl _)).mono ?_
  rintro e w2 ⟨rfl, hb2⟩
  have B_2 := Lib.hid (B_1.out.trans (hb2.mono B_1.out.size))
  have HR_2 := Lib.hid (HR_1.out.next hb2)
  clear hb2
  go_wp2
  go_ret
  exact ⟨rfl, B_2.out⟩
theorem none_all {f : Nat → Int × Int} {n : Nat} {m : Int} (h : mayB f n = true) (hm : runB m = true) (hf : findO f n m = none) (k : Nat) (hk : k + m.toNat ≤ n) : freeB f k m.toNat = false := by
  have h1 := (runB_iff m).1 hm
  unfold findO at hf
  rw [if_pos (by simp [h, hm]), List.find?_range_eq_none] at hf
  simpa using hf k (by omega)
/-- Where a page is free one is found. -/
theorem one_found {f : Nat → Int × Int} {n : Nat} (h : mayB f n = true) (hc : 0 < cnt f 0 n) : ∃ j, findO f n 1 = some j ∧ j < n ∧ (f j).1 = 0 ∧ ∀ i, i < j → (f i).1 ≠ 0 := by
  cases e : findO f n 1 with
  | none =>
    exfalso
    have : cnt f 0 n = 0 := cnt_none (fun i hi hf => by
      have := none_all h (by decide) e i (by simp; omega)
      simp [one_free] at this
      exact this hf)
    omega
  | some j =>
    obtain ⟨-, -, h3, h4, h5⟩ := findO_some.1 e
    refine ⟨j, rfl, by simp at h3; omega, by simpa [one_free] using h4, fun i hi hf => ?_⟩
    have := h5 i hi
    simp [one_free] at this
    exact this hf
theorem none_found {f : Nat → Int × Int} {n : Nat} (hc : cnt f 0 n = 0) : findO f n 1 = none :=
  findO_none fun k hk => by
    have hk' : k < n := by simp at hk; omega
    have h0 : (f k).1 ≠ 0 := fun h0 => by
      obtain ⟨r, rfl⟩ : ∃ r, n = k + 1 + r := ⟨n - (k + 1), by omega⟩
      rw [cnt_split f 0 (k + 1) r, cnt_succ, if_pos h0] at hc
      have := (cnt_bd f 0 k).1
      have := (cnt_bd (fun j => f (k + 1 + j)) 0 r).1
      omega
    simpa [one_free] using h0
/-- What holds ahead of each round: so many fewer pages are free, none of them as far as the last that was taken. -/
def Stage (n : Nat) (F : Int) (k : Nat) (last : Int) (g : Nat → Int × Int) : Prop :=
  mayB g n = true ∧ cnt g 0 n = F - k ∧ ∀ i : Nat, (i : Int) ≤ last → (g i).1 ≠ 0
theorem Stage.next {n k : Nat} {F last cl : Int} {g : Nat → Int × Int} (h : Stage n F k last g) (hk : (k : Int) < F) (c0 : 0 ≤ cl) (c2 : cl ≤ 2) :
    ∃ j : Nat, findO g n 1 = some j ∧ j < n ∧ last < j ∧ smallE g n j cl = 0 ∧ Stage n F (k + 1) j (smallF g j cl) := by
  obtain ⟨h1, h2, h3⟩ := h
  obtain ⟨j, hj, hjn, hj0, hji⟩ := one_found h1 (by omega)
  refine ⟨j, hj, hjn, ?_, smallE_ok h1 hjn hj0 ⟨c0, c2⟩, small_may h1 hjn hj0 c0 c2, ?_, fun i hi => ?_⟩
  · by_cases hl : last < j
    · exact hl
    · exact absurd hj0 (h3 j (by omega))
  · have := small_count (c := cl) hjn hj0
    show cnt (put g j (1, cl)) 0 n = _
    omega
  · show (put g j (1, cl) i).1 ≠ 0
    by_cases e : i = j
    · subst e
      rw [put_eq]
      simp
    · rw [put_ne e]
      exact hji i (by omega)
set_option maxHeartbeats 1000000 in
theorem may_ (A : Option Addr) (n c : Nat) (f : Nat → Int × Int) (cl : Int) (w : World) (hnc : n ≤ c) (h : mayB f n = true) (hr : PRow w w.heap.size A n f) (c0 : 0 ≤ cl) (c2 : cl ≤ 2) :
    Calls Try.prog 9 #[.slice A n c, .int .i64 cl] w fun e w' => e = .returned (.bool true) ∧ Below w.heap.size w w' := by
  obtain ⟨n1, hn, -, -⟩ := (mayB_iff f n).1 h
  have hcb := cnt_bd f 0 n
  have HS0 := Lib.hid (⟨h, by simp, fun i hi => by omega⟩ : Stage n (cnt f 0 n) 0 (-1) f)
  have HM := Lib.hid h
  have HR_0 := Lib.hid hr
  have B_0 := Lib.hid (Below.refl w.heap.size w)
  have d1 : decide (cl < 0) = false := by simp; omega
  have d2 : decide (2 < cl) = false := by simp; omega
  clear h hr
  go_enter Try.func9, Try.ntmps9
  go_wp2_with fail
  refine (awake_yes _).mono ?_
  rintro e w1 ⟨rfl, hb1⟩
  have B_1 := Lib.hid (B_0.out.trans (hb1.mono B_0.out.size))
  have HR_1 := Lib.hid (HR_0.out.next hb1)
  clear hb1
  go_wp2_with fail
  refine (may_yes _ _ _ _ _ _ HM.out HR_1.out (Nat.le_refl _)).mono ?_
  rintro e w2 ⟨rfl, hb2⟩
  have B_2 := Lib.hid (B_1.out.trans (hb2.mono B_1.out.size))
  have HR_2 := Lib.hid (HR_1.out.next hb2)
  clear hb2
  go_wp2_with fail
  refine (count_any _ _ _ _ _ _ _ (by omega) HR_2.out (Nat.le_refl _)).mono ?_
  rintro e w3 ⟨rfl, hb3⟩
  have B_3 := Lib.hid (B_2.out.trans (hb3.mono B_2.out.size))
  have HR_3 := Lib.hid (HR_2.out.next hb3)
  clear hb3
  go_wp2
  go_loopw [0, 7, 8] (fun s l i wr => ∃ (k : Nat) (last : Int) (A' : Option Addr) (c' : Nat) (g : Nat → Int × Int), (k : Int) ≤ cnt f 0 n ∧ n ≤ c' ∧ -1 ≤ last ∧ last < n ∧ s = .slice A' n c' ∧ l = .int .i64 last ∧ i = .int .i64 k ∧
    Stage n (cnt f 0 n) k last g ∧ PRow wr wr.heap.size A' n g ∧ Below w.heap.size w wr) (fun _ _ i _ => (cnt f 0 n - intOf i).toNat)
  case atStart => exact ⟨0, -1, A, c, f, by omega, hnc, by omega, by omega, rfl, rfl, rfl, HS0.out, HR_3.out, B_3.out⟩
  case round =>
    obtain ⟨k, last, A', c', g, hk, hc', hl1, hl2, rfl, rfl, rfl, hst, hrow, hb⟩ := hrel
    have HST := Lib.hid hst
    have HRow := Lib.hid hrow
    have HB := Lib.hid hb
    clear hst hrow hb
    by_cases hlt : (k : Int) < cnt f 0 n
    · obtain ⟨j, hj, hjn, hlj, hE, hS⟩ := HST.out.next hlt c0 c2
      have HJ := Lib.hid hj
      have HE := Lib.hid hE
      have HS := Lib.hid hS
      have dk : decide ((k : Int) < cnt f 0 n) = true := by simpa using hlt
      have dj : decide ((j : Int) ≤ last) = false := by simp; omega
      clear hj hE hS
      go_wp2_with fail
      refine (find_is _ _ _ _ _ _ _ j true (findV_some HJ.out) (findS_some HJ.out) (by omega) hc' HRow.out (Nat.le_refl _)).mono ?_
      rintro e w4 ⟨rfl, hb4⟩
      have HR4 := Lib.hid (HRow.out.next hb4)
      have HB4 := Lib.hid (HB.out.trans (hb4.mono HB.out.size))
      clear hb4
      go_wp2_with fail
      refine ((small_any _ _ _ _ _ _ _ _ (by omega) hc' HR4.out (Nat.le_refl _)).mono fun _ _ h => h.done HE.out).mono ?_
      rintro e w5 ⟨A5, c5, rfl, hr5, hc5, hb5⟩
      have HR5 := Lib.hid hr5
      have HB5 := Lib.hid (HB4.out.trans (hb5.mono HB4.out.size))
      clear hb5 hr5
      go_wp2
      go_roundw
      case rel => exact ⟨k + 1, j, A5, c5, _, by omega, hc5, by omega, by omega, rfl, rfl, by go_num, HS.out, HR5.out, HB5.out⟩
      case measure => simp [intOf]; omega
    · have hc0 : cnt g 0 n = 0 := by have := HST.out.2.1; omega
      have HN := Lib.hid (none_found hc0)
      have HC0 := Lib.hid hc0
      have dk : decide ((k : Int) < cnt f 0 n) = false := by simpa using hlt
      clear hc0
      go_wp2_with fail
      refine (find_is _ _ _ _ _ _ _ 0 false (findV_none HN.out) (findS_none HN.out) (by omega) hc' HRow.out (Nat.le_refl _)).mono ?_
      rintro e w4 ⟨rfl, hb4⟩
      have HR4 := Lib.hid (HRow.out.next hb4)
      have HB4 := Lib.hid (HB.out.trans (hb4.mono HB.out.size))
      clear hb4
      go_wp2_with fail
      refine (count_is _ _ _ _ _ _ _ 0 HC0.out (by omega) HR4.out (Nat.le_refl _)).mono ?_
      rintro e w5 ⟨rfl, hb5⟩
      have HR5 := Lib.hid (HR4.out.next hb5)
      have HB5 := Lib.hid (HB4.out.trans (hb5.mono HB4.out.size))
      clear hb5
      go_wp2_with fail
      refine (may_yes _ _ _ _ _ _ HST.out.1 HR5.out (Nat.le_refl _)).mono ?_
      rintro e w6 ⟨rfl, hb6⟩
      go_wp2
      go_ret
      exact ⟨rfl, HB5.out.trans (hb6.mono HB5.out.size)⟩
theorem walk (A : Option Addr) (n c : Nat) (f : Nat → Int × Int) (cl : Int) (w : World) (hr : PIn w A n c f) (_wc : (Lit.int .i64 cl).wf = true) :
    Calls Try.prog 9 #[.slice A n c, .int .i64 cl] w fun e w' => e = .returned (.bool true) ∧ Below w.heap.size w w' := by
  obtain ⟨hrow, hnc, hcm⟩ := hr
  unfold maxLen at hcm
  by_cases hl : 64 < n
  · exact long A n c cl w hl (by omega)
  cases h : mayB f n
  · exact nomay A n c f cl w (by omega) h hrow
  by_cases ho : cl < 0 ∨ 2 < cl
  · exact other A n c f cl w (by omega) h hrow ho
  · exact may_ A n c f cl w hnc h hrow (by omega) (by omega)

set_option maxRecDepth 100000 in
theorem lifted (os : Os) (started : os.Started) (H : Type) (enc : TypeId × Value → H) :
    ReturnsInHanded {} Try.checked os 9 .any (Rows.pagesAllSpec.pre6 enc Try.prog Try.f9 Rows.pagesAllRow.domain false) (Rows.pagesAllSpec.post enc Try.prog Try.f9 false true false false) := by
  refine returnsInHanded_of_change (C := Try.checked) own started (by kernel_rfl) Try.func9
    (ChangeSpec.witness6 (enc := enc) (C := Try.checked) false ⟨#[], #[.slice none 0 0, .int .i64 0], []⟩ 8 (by kernel_rfl) (by kernel_rfl) (by kernel_rfl) (by kernel_rfl)) ?_
  intro W base args ds gs before hval0 hW hcnd _
  have hval : ∀ (j : Nat) t v, Try.f9.params[j]? = some t → args[j]? = some v → Value.okWide Try.prog W .any base t v := hval0
  have hW' := hW
  obtain ⟨p, q, hA0, hV, rfl, hfz, hnd⟩ := hW
  have hA : DataW.TrodAll enc Try.prog W 0 (fun _ => true) true Try.f9.params.toList args.toList ds p := hA0
  rw [Try.params9] at hA hval
  obtain ⟨v0, vs0, d0, ds0, p0, q0, hargs, rfl, rfl, h0, r0⟩ := trodAll_cons hA
  obtain ⟨v1, vs1, d1, ds1, p1, q1, rfl, rfl, rfl, h1, r1⟩ := trodAll_cons r0
  obtain ⟨rfl, rfl, rfl⟩ := trodAll_nil r1
  obtain rfl : args = #[v0, v1] := by cases args; simp_all
  obtain ⟨rfl, rfl⟩ := trodVars_none hV
  obtain ⟨a0, len0, cap0, rfl⟩ := okWide_slice Try.underlying22 (hval 0 22 v0 rfl rfl)
  have k0 := h0
  have lt0 : ∀ x ∈ p0, x.block < W.heap.size := by obtain ⟨m, hm⟩ := k0; exact DataW.trod_lt m _ _ _ hm
  obtain ⟨z0, w0⟩ : ∃ f, PIn W a0 len0 cap0 f := pin_of h0
  obtain ⟨a1, rfl, rfl, rfl, w1⟩ := open_int Try.underlying3 (hval 1 3 v1 rfl rfl) h1
  clear hA0 hval0
  refine (walk a0 len0 cap0 z0 a1 W w0 w1).mono fun e W' ⟨he, bel⟩ => ?_
  subst he
  exact ⟨_, rfl, _, _, _, [], _, [], hW', trodAll_mk1 (shut_bool Try.underlying4 _), (trodAll_cons_mk (Below.trod laidOut (by kernel_rfl) (of_decide_eq_true (by kernel_rfl)) k0 bel lt0) (trodAll_cons_mk (shut_int Try.underlying3 w1) trodAll_mk0)), rfl, bel.frame _, fun h => by cases h⟩

theorem over : Rows.pagesAllRow.holds Try.pinned (OpenSpec.ofChange Rows.pagesAllSpec) :=
  OpenClaim.holds_of_wide 9 Try.f9 rfl rfl rfl rfl rfl rfl rfl ⟨rfl, rfl, rfl, rfl, rfl⟩ rfl rfl rfl rfl rfl (by kernel_rfl) Try.func9 (by kernel_rfl)
    (of_decide_eq_true (by kernel_rfl)) (by unfold Func.isWrapper; first | (rw [if_pos (by decide +kernel)]; kernel_rfl) | (rw [if_neg (by decide +kernel)]; exact ⟨rfl, rfl⟩))
    (fun os started H enc _ => lifted os started H enc)

/-- The statement. -/
theorem proved : Rows.PagesAllSaid :=
  over
#print axioms proved
end Go.Proofs.Ytofbebgcafpfhaa.PagesAll
