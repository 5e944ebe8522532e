/-
PagesCount: all pages are of some kind, and large objects go on in as many as they take, less one for each: for all pages.
-/
import Derived.Test.YtofbebgcafpfhaaPgTaken
import Derived.Test.YtofbebgcafpfhaaPgIns
namespace Go.Proofs.Ytofbebgcafpfhaa.PagesCount
open Go.Proofs.Ytofbebgcafpfhaa
open Go.ChangeShapes Go.WideShapes Go.ChangeAt Go.RowKit

theorem long (A : Option Addr) (n c : Nat) (w : World) (h : 64 < n) (hn : n ≤ 9223372036854775807) :
    Calls Try.prog 7 #[.slice A n c] w fun e w' => e = .returned (.bool true) ∧ Below w.heap.size w w' := by
  go_enter Try.func7, Try.ntmps7
  go_wp2_with fail
  refine (awake_yes _).mono ?_
  rintro e w1 ⟨rfl, hb1⟩
  go_wp2
  go_ret
  exact ⟨rfl, hb1⟩
theorem nomay (A : Option Addr) (n c : Nat) (f : Nat → Int × Int) (w : World) (hn : n ≤ 64) (h : mayB f n = false) (hr : PRow w w.heap.size A n f) :
    Calls Try.prog 7 #[.slice A n c] w fun e w' => e = .returned (.bool true) ∧ Below w.heap.size w w' := by
  have HM := Lib.hid h
  have HR_0 := Lib.hid hr
  have B_0 := Lib.hid (Below.refl w.heap.size w)
  clear h hr
  go_enter Try.func7, Try.ntmps7
  go_wp2_with fail
  refine (awake_yes _).mono ?_
  rintro e w1 ⟨rfl, hb1⟩
  have B_1 := Lib.hid (B_0.out.trans (hb1.mono B_0.out.size))
  have HR_1 := Lib.hid (HR_0.out.next hb1)
  clear hb1
  go_wp2_with fail
  refine (may_no _ _ _ _ _ _ HM.out (by omega) HR_1.out (Nat.le_refl _)).mono ?_
  rintro e w2 ⟨rfl, hb2⟩
  have B_2 := Lib.hid (B_1.out.trans (hb2.mono B_1.out.size))
  have HR_2 := Lib.hid (HR_1.out.next hb2)
  clear hb2
  go_wp2
  go_ret
  exact ⟨rfl, B_2.out⟩
/-- How many pages are of the first kinds. -/
def sums (f : Nat → Int × Int) (n : Nat) : Nat → Int
  | 0 => 0
  | k + 1 => sums f n k + cnt f k n
theorem sums_bd (f : Nat → Int × Int) (n : Nat) : ∀ k : Nat, 0 ≤ sums f n k ∧ sums f n k ≤ k * n
  | 0 => by simp [sums]
  | k + 1 => by
    have h := sums_bd f n k
    have := cnt_bd f k n
    unfold sums
    constructor
    · omega
    · rw [Int.natCast_add, Int.add_mul]; omega
theorem sums_all {f : Nat → Int × Int} {n : Nat} (h : mayB f n = true) : sums f n 4 = n := by
  have := cnt_kinds (pm_all h)
  simp only [sums]
  simp
  omega
theorem rests_large {f : Nat → Int × Int} {k : Nat} (h : (f k).1 = 2) : rests f (k + 1) = rests f k + (f k).2 - 1 := if_pos h
theorem rests_same {f : Nat → Int × Int} {k : Nat} (h : (f k).1 ≠ 2) : rests f (k + 1) = rests f k := if_neg h
theorem sums_succ (f : Nat → Int × Int) (n k : Nat) : sums f n (k + 1) = sums f n k + cnt f k n := rfl
set_option maxHeartbeats 1000000 in
theorem may_ (A : Option Addr) (n c : Nat) (f : Nat → Int × Int) (w : World) (h : mayB f n = true) (hr : PRow w w.heap.size A n f) :
    Calls Try.prog 7 #[.slice A n c] w fun e w' => e = .returned (.bool true) ∧ Below w.heap.size w w' := by
  obtain ⟨n1, hn, hok, hst⟩ := (mayB_iff f n).1 h
  have HOK := Lib.hid hok
  have HM := Lib.hid h
  have HP := Lib.hid (pm_all h)
  have HS4 := Lib.hid (sums_all h)
  have HRC := Lib.hid (show cnt f 3 n = rests f n by have := rests_cnt hok; omega)
  have HC1 := Lib.hid (cnt_never (kind := -1) (pm_all h) (by decide))
  have HC4 := Lib.hid (cnt_never (kind := 4) (pm_all h) (by decide))
  have HR_0 := Lib.hid hr
  have B_0 := Lib.hid (Below.refl w.heap.size w)
  clear h hr hok hst
  go_enter Try.func7, Try.ntmps7
  go_wp2_with fail
  refine (awake_yes _).mono ?_
  rintro e w1 ⟨rfl, hb1⟩
  have B_1 := Lib.hid (B_0.out.trans (hb1.mono B_0.out.size))
  have HR_1 := Lib.hid (HR_0.out.next hb1)
  clear hb1
  go_wp2_with fail
  refine (may_yes _ _ _ _ _ _ HM.out HR_1.out (Nat.le_refl _)).mono ?_
  rintro e w2 ⟨rfl, hb2⟩
  have B_2 := Lib.hid (B_1.out.trans (hb2.mono B_1.out.size))
  have HR_2 := Lib.hid (HR_1.out.next hb2)
  clear hb2
  go_wp2
  go_loopw [4, 5] (fun s i wr => ∃ k : Nat, k ≤ 4 ∧ i = .int .i64 k ∧ s = .int .i64 (sums f n k) ∧ Below w2.heap.size w2 wr) (fun _ i _ => 4 - (intOf i).toNat)
  case atStart => exact ⟨0, by omega, rfl, rfl, Below.refl _ _⟩
  case round =>
    obtain ⟨k, hk, rfl, rfl, hb⟩ := hrel
    have hsb := sums_bd f n k
    have hkn : (k : Int) * n ≤ 4 * 64 := by
      have h1 : (k : Int) * n ≤ 4 * n := Int.mul_le_mul_of_nonneg_right (by omega) (by omega)
      omega
    have hcb := cnt_bd f k n
    by_cases hlt : k < 4
    · have HB := Lib.hid hb
      have HRk := Lib.hid (HR_2.out.below hb)
      have HSS := Lib.hid (sums_succ f n k)
      have hz := hb.size
      clear hb
      go_wp2_with fail
      refine (count_any _ _ _ _ _ _ _ (by omega) HRk.out hz).mono ?_
      rintro e w3 ⟨rfl, hb3⟩
      have HB3 := Lib.hid (HB.out.trans (hb3.mono hz))
      clear hb3
      go_wp2
      go_roundw
      case rel => exact ⟨k + 1, by omega, by go_num, by rw [HSS.out], HB3.out⟩
      case measure => simp [intOf]; omega
    · obtain rfl : k = 4 := by omega
      rw [HS4.out]
      have HB := Lib.hid hb
      have HRk := Lib.hid (HR_2.out.below hb)
      have hz := hb.size
      clear hb hsb hkn hcb
      obtain ⟨wo, rfl⟩ : ∃ wo : World, wo = wr := ⟨_, rfl⟩
      go_wp2
      go_loop [6, 7] (fun s i => ∃ k : Nat, k ≤ n ∧ i = .int .i64 k ∧ s = .int .i64 (rests f k)) (fun _ i => n - (intOf i).toNat)
      case atStart => exact ⟨0, by omega, rfl, rfl⟩
      case round =>
        obtain ⟨k, hk, rfl, rfl⟩ := hrel
        have hrb := rests_bd HOK.out k hk
        by_cases hlt : k < n
        · obtain ⟨b, off, rfl, hbB, hc⟩ := HRk.out (by omega)
          obtain ⟨c0, c1⟩ := hc k hlt
          have hp := (pmB_iff _).1 (HP.out k hlt)
          clear hc
          by_cases h2 : (f k).1 = 2
          · have HE := Lib.hid (rests_large h2)
            have e2 : ((f k).1 == 2) = true := by simpa using h2
            have ha : 1 ≤ (f k).2 ∧ (f k).2 ≤ 4 := by omega
            obtain ⟨ha1, ha2⟩ := ha
            clear hp h2
            go_wp2
            go_round
            case rel => exact ⟨k + 1, by omega, by go_num, by rw [HE.out]⟩
            case measure => simp [intOf]; omega
          · have HE := Lib.hid (rests_same h2)
            have e2 : ((f k).1 == 2) = false := by simpa using h2
            clear hp h2
            go_wp2
            go_round
            case rel => exact ⟨k + 1, by omega, by go_num, by rw [HE.out]⟩
            case measure => simp [intOf]; omega
        · obtain rfl : k = n := by omega
          have hz2 := HB.out.size
          go_wp2_with fail
          refine (count_is _ _ _ _ _ _ _ _ HRC.out (by omega) HRk.out hz).mono ?_
          rintro e w3 ⟨rfl, hb3⟩
          have HR3 := Lib.hid (HRk.out.below (hb3.mono hz))
          have HB3 := Lib.hid (HB.out.trans (hb3.mono hz))
          have hz3 := HB3.out.size
          clear hb3
          go_wp2_with fail
          refine (count_is _ _ _ _ _ _ _ _ HC1.out (by omega) HR3.out hz3).mono ?_
          rintro e w4 ⟨rfl, hb4⟩
          have HR4 := Lib.hid (HR3.out.below (hb4.mono hz3))
          have HB4 := Lib.hid (HB3.out.trans (hb4.mono hz3))
          have hz4 := HB4.out.size
          clear hb4
          go_wp2_with fail
          refine (count_is _ _ _ _ _ _ _ _ HC4.out (by omega) HR4.out hz4).mono ?_
          rintro e w5 ⟨rfl, hb5⟩
          have HB5 := Lib.hid (HB4.out.trans (hb5.mono hz4))
          clear hb5
          go_wp2
          go_ret
          exact ⟨rfl, B_2.out.trans (HB5.out.mono B_2.out.size)⟩
theorem walk (A : Option Addr) (n c : Nat) (f : Nat → Int × Int) (w : World) (hr : PIn w A n c f) :
    Calls Try.prog 7 #[.slice A n c] w fun e w' => e = .returned (.bool true) ∧ Below w.heap.size w w' := by
  obtain ⟨hrow, hnc, hcm⟩ := hr
  unfold maxLen at hcm
  by_cases hl : 64 < n
  · exact long A n c w hl (by omega)
  cases h : mayB f n
  · exact nomay A n c f w (by omega) h hrow
  · exact may_ A n c f w h hrow

set_option maxRecDepth 100000 in
theorem lifted (os : Os) (started : os.Started) (H : Type) (enc : TypeId × Value → H) :
    ReturnsInHanded {} Try.checked os 7 .any (Rows.pagesCountSpec.pre6 enc Try.prog Try.f7 Rows.pagesCountRow.domain false) (Rows.pagesCountSpec.post enc Try.prog Try.f7 false true false false) := by
  refine returnsInHanded_of_change (C := Try.checked) own started (by kernel_rfl) Try.func7
    (ChangeSpec.witness6 (enc := enc) (C := Try.checked) false ⟨#[], #[.slice none 0 0], []⟩ 8 (by kernel_rfl) (by kernel_rfl) (by kernel_rfl) (by kernel_rfl)) ?_
  intro W base args ds gs before hval0 hW hcnd _
  have hval : ∀ (j : Nat) t v, Try.f7.params[j]? = some t → args[j]? = some v → Value.okWide Try.prog W .any base t v := hval0
  have hW' := hW
  obtain ⟨p, q, hA0, hV, rfl, hfz, hnd⟩ := hW
  have hA : DataW.TrodAll enc Try.prog W 0 (fun _ => true) true Try.f7.params.toList args.toList ds p := hA0
  rw [Try.params7] at hA hval
  obtain ⟨v0, vs0, d0, ds0, p0, q0, hargs, rfl, rfl, h0, r0⟩ := trodAll_cons hA
  obtain ⟨rfl, rfl, rfl⟩ := trodAll_nil r0
  obtain rfl : args = #[v0] := by cases args; simp_all
  obtain ⟨rfl, rfl⟩ := trodVars_none hV
  obtain ⟨a0, len0, cap0, rfl⟩ := okWide_slice Try.underlying22 (hval 0 22 v0 rfl rfl)
  have k0 := h0
  have lt0 : ∀ x ∈ p0, x.block < W.heap.size := by obtain ⟨m, hm⟩ := k0; exact DataW.trod_lt m _ _ _ hm
  obtain ⟨z0, w0⟩ : ∃ f, PIn W a0 len0 cap0 f := pin_of h0
  clear hA0 hval0
  refine (walk a0 len0 cap0 z0 W w0).mono fun e W' ⟨he, bel⟩ => ?_
  subst he
  exact ⟨_, rfl, _, _, _, [], _, [], hW', trodAll_mk1 (shut_bool Try.underlying4 _), (trodAll_cons_mk (Below.trod laidOut (by kernel_rfl) (of_decide_eq_true (by kernel_rfl)) k0 bel lt0) trodAll_mk0), rfl, bel.frame _, fun h => by cases h⟩

theorem over : Rows.pagesCountRow.holds Try.pinned (OpenSpec.ofChange Rows.pagesCountSpec) :=
  OpenClaim.holds_of_wide 7 Try.f7 rfl rfl rfl rfl rfl rfl rfl ⟨rfl, rfl, rfl, rfl, rfl⟩ rfl rfl rfl rfl rfl (by kernel_rfl) Try.func7 (by kernel_rfl)
    (of_decide_eq_true (by kernel_rfl)) (by unfold Func.isWrapper; first | (rw [if_pos (by decide +kernel)]; kernel_rfl) | (rw [if_neg (by decide +kernel)]; exact ⟨rfl, rfl⟩))
    (fun os started H enc _ => lifted os started H enc)

/-- The statement. -/
theorem proved : Rows.PagesCountSaid :=
  over
#print axioms proved
end Go.Proofs.Ytofbebgcafpfhaa.PagesCount
