/-
PagesOther: what is taken, or dropped, changes no other page: for all pages, and all numbers.
-/
import Derived.Test.YtofbebgcafpfhaaPgTaken
import Derived.Deep.Cut
import Derived.Deep.CutRange
import Derived.IntWalk
import Derived.Test.YtofbebgcafpfhaaPgIns
namespace Go.Proofs.Ytofbebgcafpfhaa.PagesOther
open Go.Proofs.Ytofbebgcafpfhaa
open Go.ChangeShapes Go.WideShapes Go.ChangeAt Go.RowKit

set_option maxRecDepth 100000 in
theorem long (A : Option Addr) (n c : Nat) (a m : Int) (w : World) (h : 64 < n) (hn : n ≤ 9223372036854775807) :
    Calls Try.prog 8 #[.slice A n c, .int .i64 a, .int .i64 m] w fun e w' => e = .returned (.bool true) ∧ Below w.heap.size w w' := by
  go_enter Try.func8, Try.ntmps8
  go_wp2_with fail
  refine (awake_yes _).mono ?_
  rintro e w1 ⟨rfl, hb1⟩
  go_wp2
  go_ret
  exact ⟨rfl, hb1⟩
set_option maxRecDepth 100000 in
theorem nomay (A : Option Addr) (n c : Nat) (f : Nat → Int × Int) (a m : Int) (w : World) (hn : n ≤ 64) (h : mayB f n = false) (hr : PRow w w.heap.size A n f) :
    Calls Try.prog 8 #[.slice A n c, .int .i64 a, .int .i64 m] w fun e w' => e = .returned (.bool true) ∧ Below w.heap.size w w' := by
  have HM := Lib.hid h
  have HR_0 := Lib.hid hr
  have B_0 := Lib.hid (Below.refl w.heap.size w)
  clear h hr
  go_enter Try.func8, Try.ntmps8
  go_wp2_with fail
  refine (awake_yes _).mono ?_
  rintro e w1 ⟨rfl, hb1⟩
  have B_1 := Lib.hid (B_0.out.trans (hb1.mono B_0.out.size))
  have HR_1 := Lib.hid (HR_0.out.next hb1)
  clear hb1
  go_wp2_with fail
  refine (may_no _ _ _ _ _ _ HM.out (by omega) HR_1.out (Nat.le_refl _)).mono ?_
  rintro e w2 ⟨rfl, hb2⟩
  have B_2 := Lib.hid (B_1.out.trans (hb2.mono B_1.out.size))
  have HR_2 := Lib.hid (HR_1.out.next hb2)
  clear hb2
  go_wp2
  go_ret
  exact ⟨rfl, B_2.out⟩
/-- An error and no pages, or n pages of which P holds. -/
def Told (n : Nat) (P : (Nat → Int × Int) → Prop) (E : Int) (N : Nat) (g : Nat → Int × Int) : Prop := (E = 0 ∧ N = n ∧ mayB g n = true ∧ P g) ∨ (E ≠ 0 ∧ N = 0)
def POut (w : World) (n : Nat) (P : (Nat → Int × Int) → Prop) (e : Ending) (w' : World) : Prop :=
  ∃ A N c E g, e = .returned (.tuple #[.slice A N c, .int .i64 E]) ∧ PRow w' w'.heap.size A N g ∧ N ≤ n ∧ Below w.heap.size w w' ∧ Told n P E N g
theorem pout_of {w w' : World} {E : Int} {n : Nat} {g : Nat → Int × Int} {P : (Nat → Int × Int) → Prop} {e : Ending} (h : TOut w E n g e w') (h0 : E = 0 → mayB g n = true ∧ P g) : POut w n P e w' := by
  by_cases hE : E = 0
  · obtain ⟨A, c, h1, h2, h3, h4⟩ := h.done hE
    subst hE
    exact ⟨A, n, c, 0, g, h1, h2, Nat.le_refl _, h4, .inl ⟨rfl, rfl, h0 rfl⟩⟩
  · obtain ⟨A, c, h1, h2⟩ := h.fails hE
    exact ⟨A, 0, c, E, g, h1, PRow.empty _ _ _ _, Nat.zero_le _, h2, .inr ⟨hE, rfl⟩⟩
section
variable {n N : Nat} {P : (Nat → Int × Int) → Prop} {E : Int} {f g : Nat → Int × Int} {a m : Int}
theorem Told.may (h : Told n P E N g) (h0 : E = 0) : mayB g N = true := by
  rcases h with ⟨_, rfl, h1, _⟩ | ⟨h1, _⟩
  · exact h1
  · exact absurd h0 h1
theorem Told.len (h : Told n P E N g) (h0 : E = 0) : N = n := by
  rcases h with ⟨_, h1, _⟩ | ⟨h1, _⟩
  · exact h1
  · exact absurd h0 h1
theorem Told.prop (h : Told n P E N g) (h0 : E = 0) : P g := by
  rcases h with ⟨_, _, _, h1⟩ | ⟨h1, _⟩
  · exact h1
  · exact absurd h0 h1
/-- What Small, Large and Drop leave as it was. -/
def KeptS (f : Nat → Int × Int) (n : Nat) (a : Int) (g : Nat → Int × Int) : Prop := ∀ i : Nat, i < n → (i : Int) ≠ a → g i = f i
def KeptL (f : Nat → Int × Int) (n : Nat) (a m : Int) (g : Nat → Int × Int) : Prop := 0 ≤ a ∧ a ≤ 64 ∧ 1 ≤ m ∧ m ≤ 4 ∧ ∀ i : Nat, i < n → ((i : Int) < a ∨ a + m ≤ i) → g i = f i
def KeptD (f : Nat → Int × Int) (n : Nat) (a : Int) (g : Nat → Int × Int) : Prop := ∀ i : Nat, i < n → ((i : Int) < a → g i = f i) ∧ (a < i → g i = f i ∨ (f i).1 = 3)
theorem takeE_zero (h : takeE f n a m = 0) : mayB f n = true ∧ ¬ (a < 0 ∨ (n : Int) - m < a) ∧ freeB f a.toNat m.toNat = true := by
  cases hM : mayB f n
  · rw [takeE_may hM] at h; cases h
  by_cases ha : a < 0 ∨ (n : Int) - m < a
  · rw [takeE_none hM ha] at h; cases h
  cases hf : freeB f a.toNat m.toNat
  · rw [takeE_full hM ha hf] at h; cases h
  · exact ⟨rfl, ha, rfl⟩
theorem small_kept (h : smallE f n a m = 0) : mayB (smallF f a m) n = true ∧ KeptS f n a (smallF f a m) := by
  by_cases hc : clB m = true
  · rw [show smallE f n a m = takeE f n a 1 from if_pos hc] at h
    obtain ⟨h1, h2, h3⟩ := takeE_zero h
    have hc' := (clB_iff m).1 hc
    obtain ⟨k, rfl⟩ : ∃ k : Nat, a = k := ⟨a.toNat, by omega⟩
    have h0 : (f k).1 = 0 := by
      have := h3
      simp [one_free] at this
      exact this
    refine ⟨small_may h1 (by omega) h0 hc'.1 hc'.2, fun i hi hne => ?_⟩
    show put f k (1, m) i = f i
    exact put_ne (by omega)
  · rw [show smallE f n a m = 1 from if_neg hc] at h
    cases h
theorem large_kept (hn : n ≤ 64) (h : largeE f n a m = 0) : mayB (largeF f a m) n = true ∧ KeptL f n a m (largeF f a m) := by
  by_cases hc : runB m = true
  · rw [show largeE f n a m = takeE f n a m from if_pos hc] at h
    obtain ⟨h1, h2, h3⟩ := takeE_zero h
    have hc' := (runB_iff m).1 hc
    obtain ⟨k, rfl⟩ : ∃ k : Nat, a = k := ⟨a.toNat, by omega⟩
    rw [Int.toNat_natCast] at h3
    refine ⟨large_may h1 hc'.1 hc'.2 (by omega) h3, by omega, by omega, hc'.1, hc'.2, fun i hi hne => ?_⟩
    show large f k m i = f i
    rcases hne with hne | hne
    · exact large_left (by omega)
    · exact large_right hc'.1 (by omega)
  · rw [show largeE f n a m = 1 from if_neg hc] at h
    cases h
theorem drop_kept (h : dropE f n a = 0) : mayB (dropF f a) n = true ∧ KeptD f n a (dropF f a) := by
  cases hM : mayB f n
  · rw [dropE_may hM] at h; cases h
  by_cases ha : a < 0 ∨ (n : Int) ≤ a
  · rw [dropE_none hM ha] at h; cases h
  obtain ⟨k, rfl⟩ : ∃ k : Nat, a = k := ⟨a.toNat, by omega⟩
  have hk : k < n := by omega
  rcases (show ((f k).1 = 0 ∨ (f k).1 = 3) ∨ ((f k).1 = 1 ∨ (f k).1 = 2) by have := kinds hM hk; omega) with h0 | h0
  · rw [dropE_kind hM hk h0] at h; cases h
  · obtain ⟨_, _, _, _, hw⟩ := wide_facts hM hk h0
    refine ⟨drop_may hM hk h0, fun i hi => ⟨fun hlt => ?_, fun hgt => ?_⟩⟩
    · show drop f k i = f i
      unfold drop
      rw [if_neg (by omega)]
    · by_cases hin : (i : Int) < k + wide f k
      · right
        have := (hw (i - k) (by omega)).2 (by omega)
        rw [show k + (i - k) = i by omega] at this
        rw [this]
      · left
        show drop f k i = f i
        unfold drop
        rw [if_neg (by omega)]
end
theorem pneq_pair {p q : Int × Int} (h : p = q) (w : World) :
    (binOp .neq 36 (.agg #[.int .i64 p.1, .int .i64 p.2]) (.agg #[.int .i64 q.1, .int .i64 q.2])).run Try.prog w = .ok (.bool false) w := pneq_no (by rw [h]; exact ⟨rfl, rfl⟩) w
theorem pneq_pair_not {p q : Int × Int} (h : p ≠ q) (w : World) :
    (binOp .neq 36 (.agg #[.int .i64 p.1, .int .i64 p.2]) (.agg #[.int .i64 q.1, .int .i64 q.2])).run Try.prog w = .ok (.bool true) w := pneq_yes (fun h' => h (Prod.ext h'.1 h'.2)) w
theorem below_drew_of {B : Nat} {w w1 : World} (h : Below B w w1) (k : Nat) : Below B w (w1.drewN k) := ⟨h.os, h.tape, h.output, h.size, h.block⟩
set_option maxHeartbeats 4000000 in
set_option maxRecDepth 100000 in
theorem may_ (A : Option Addr) (n c : Nat) (f : Nat → Int × Int) (a m : Int) (w : World) (hnc : n ≤ c) (h : mayB f n = true) (hr : PRow w w.heap.size A n f) :
    Calls Try.prog 8 #[.slice A n c, .int .i64 a, .int .i64 m] w fun e w' => e = .returned (.bool true) ∧ Below w.heap.size w w' := by
  obtain ⟨n1, hn, -, -⟩ := (mayB_iff f n).1 h
  have HM := Lib.hid h
  have HR_0 := Lib.hid hr
  have B_0 := Lib.hid (Below.refl w.heap.size w)
  clear h hr
  go_enter Try.func8, Try.ntmps8
  go_wp2_with fail
  refine (awake_yes _).mono ?_
  rintro e w1 ⟨rfl, hb1⟩
  have B_1 := Lib.hid (B_0.out.trans (hb1.mono B_0.out.size))
  have HR_1 := Lib.hid (HR_0.out.next hb1)
  clear hb1
  go_wp2_with fail
  refine (may_yes _ _ _ _ _ _ HM.out HR_1.out (Nat.le_refl _)).mono ?_
  rintro e w2 ⟨rfl, hb2⟩
  have B_2 := Lib.hid (B_1.out.trans (hb2.mono B_1.out.size))
  have HR_2 := Lib.hid (HR_1.out.next hb2)
  clear hb2
  go_wp2_with fail
  refine ((small_any _ _ _ _ _ _ _ _ (by omega) hnc HR_2.out (Nat.le_refl _)).mono fun _ _ h => pout_of h small_kept).mono ?_
  rintro e w3 ⟨A1, N1, c1, E1, g1, rfl, hr1, hN1, hb3, ht1⟩
  have B_3 := Lib.hid (B_2.out.trans (hb3.mono B_2.out.size))
  have HR_3 := Lib.hid (HR_2.out.next hb3)
  clear hb3
  have RA_3 := Lib.hid hr1
  clear hr1
  have T1 := Lib.hid ht1
  clear ht1
  go_wp2_with fail
  refine ((large_any _ _ _ _ _ _ _ _ (by omega) hnc HR_3.out (Nat.le_refl _)).mono fun _ _ h => pout_of h (large_kept hn)).mono ?_
  rintro e w4 ⟨A2, N2, c2, E2, g2, rfl, hr2, hN2, hb4, ht2⟩
  have B_4 := Lib.hid (B_3.out.trans (hb4.mono B_3.out.size))
  have HR_4 := Lib.hid (HR_3.out.next hb4)
  have RA_4 := Lib.hid (RA_3.out.next hb4)
  clear hb4
  have RC_4 := Lib.hid hr2
  clear hr2
  have T2 := Lib.hid ht2
  clear ht2
  go_wp2_with fail
  refine ((drop_any _ _ _ _ _ _ _ (by omega) HR_4.out (Nat.le_refl _)).mono fun _ _ h => pout_of h drop_kept).mono ?_
  rintro e w5 ⟨A3, N3, c3, E3, g3, rfl, hr3, hN3, hb5, ht3⟩
  have B_5 := Lib.hid (B_4.out.trans (hb5.mono B_4.out.size))
  have HR_5 := Lib.hid (HR_4.out.next hb5)
  have RA_5 := Lib.hid (RA_4.out.next hb5)
  have RC_5 := Lib.hid (RC_4.out.next hb5)
  clear hb5
  have RD_5 := Lib.hid hr3
  clear hr3
  have T3 := Lib.hid ht3
  clear ht3
  go_wp2
  go_loopg [14] n (fun g i wr => ∃ k : Nat, k + g = n ∧ i = .int .i64 k ∧ Below w5.heap.size w5 wr)
  case atStart => exact ⟨0, by omega, rfl, Below.refl _ _⟩
  case round =>
    obtain ⟨k, hkg, rfl, hb⟩ := hrel
    have HB := Lib.hid hb
    have HG := Lib.hid hkg
    have hkn : k ≤ n := by omega
    have hz := hb.size
    have HRw := Lib.hid ((HR_5.out).below hb)
    have HA := Lib.hid ((RA_5.out.below hb).more hz)
    have HC := Lib.hid ((RC_5.out.below hb).more hz)
    have HD := Lib.hid ((RD_5.out.below hb).more hz)
    have HBw := Lib.hid (B_5.out.trans (hb.mono B_5.out.size))
    clear hb hkg
    by_cases hlt : k < n
    · obtain ⟨b, off, rfl, hbB, hc⟩ := HRw.out (by omega)
      obtain ⟨l0, l1⟩ := hc k hlt
      have hbw : b < wr.heap.size := by omega
      clear hc
      go_upto_region 10 with (fail)
      go_cut [79] from 49 to 160 (fun v wc => v = .bool false ∧ ∃ q, wc = wr.drewN q)
      case first =>
        by_cases h1 : E1 = 0
        · have e1 : (E1 == 0) = true := by simpa using h1
          obtain ⟨b1, off1, rfl, hbB1, hc1⟩ := HA.out (by have := T1.out.len h1; omega)
          obtain ⟨q0, q1⟩ := hc1 k (by have := T1.out.len h1; omega)
          have hP := T1.out.prop h1
          have HN := Lib.hid (T1.out.len h1)
          have hn1 : n ≤ N1 := by rw [HN.out]; exact Nat.le_refl _
          have dl : ((N1 : Int) != n) = false := by simp [HN.out]
          clear hc1 h1
          by_cases ha : (k : Int) = a
          · have da : ((k : Int) != a) = false := by simpa using ha
            clear hP ha
            go_quiet (fail)
            go_wp2_with fail
            go_meet
            exact ⟨rfl, _, rfl⟩
          · have da : ((k : Int) != a) = true := by simpa using ha
            have HQ := pneq_pair (hP k hlt ha)
            clear hP ha
            go_quiet (fail)
            go_wp2_with fail
            go_meet
            exact ⟨rfl, _, rfl⟩
        · have e1 : (E1 == 0) = false := by simpa using h1
          clear h1
          go_quiet (fail)
          go_wp2_with fail
          go_meet
          exact ⟨rfl, _, rfl⟩
      case rest =>
        obtain ⟨rfl, q, rfl⟩ := hcut
        go_upto_region 12 with (fail)
        go_cut [111] from 49 to 160 (fun v wc => v = .bool false ∧ ∃ q, wc = wr.drewN q)
        case first =>
          by_cases h2 : E2 = 0
          · have e2 : (E2 == 0) = true := by simpa using h2
            obtain ⟨b1, off1, rfl, hbB1, hc1⟩ := HC.out (by have := T2.out.len h2; omega)
            obtain ⟨q0, q1⟩ := hc1 k (by have := T2.out.len h2; omega)
            obtain ⟨a0, a64, m1, m4, hP⟩ := T2.out.prop h2
            have HN := Lib.hid (T2.out.len h2)
            have hn1 : n ≤ N2 := by rw [HN.out]; exact Nat.le_refl _
            have dl : ((N2 : Int) != n) = false := by simp [HN.out]
            clear hc1 h2
            by_cases ha : (k : Int) < a
            · have da : decide ((k : Int) < a) = true := by simpa using ha
              have HQ := pneq_pair (hP k hlt (.inl ha))
              clear hP ha
              go_quiet (fail)
              go_wp2_with fail
              go_meet
              exact ⟨rfl, q + nq, by simp only [World.drewN_drewN]⟩
            have da : decide ((k : Int) < a) = false := by simpa using ha
            by_cases hb : a + m ≤ k
            · have db : decide (a + m ≤ (k : Int)) = true := by simpa using hb
              have HQ := pneq_pair (hP k hlt (.inr hb))
              have HW : IntKind.i64.wrap (a + m) = a + m := IntWalk.i64_in _ (by omega)
              clear hP ha hb
              go_quiet (fail)
              go_wp2_with fail
              go_meet
              exact ⟨rfl, q + nq, by simp only [World.drewN_drewN]⟩
            · have db : decide (a + m ≤ (k : Int)) = false := by simpa using hb
              have HW : IntKind.i64.wrap (a + m) = a + m := IntWalk.i64_in _ (by omega)
              clear hP ha hb
              go_quiet (fail)
              go_wp2_with fail
              go_meet
              exact ⟨rfl, q + nq, by simp only [World.drewN_drewN]⟩
          · have e2 : (E2 == 0) = false := by simpa using h2
            clear h2
            go_quiet (fail)
            go_wp2_with fail
            go_meet
            exact ⟨rfl, q + nq, by simp only [World.drewN_drewN]⟩
        case rest =>
          obtain ⟨rfl, q, rfl⟩ := hcut
          go_upto_region 14 with (fail)
          go_cut [160] from 49 to 160 (fun v wc => v = .bool false ∧ ∃ q, wc = wr.drewN q)
          case first =>
            by_cases h3 : E3 = 0
            · have e3 : (E3 == 0) = true := by simpa using h3
              obtain ⟨b1, off1, rfl, hbB1, hc1⟩ := HD.out (by have := T3.out.len h3; omega)
              obtain ⟨q0, q1⟩ := hc1 k (by have := T3.out.len h3; omega)
              have hP := T3.out.prop h3
              have HN := Lib.hid (T3.out.len h3)
              have hn1 : n ≤ N3 := by rw [HN.out]; exact Nat.le_refl _
              have dl : ((N3 : Int) != n) = false := by simp [HN.out]
              clear hc1 h3
              by_cases ha : (k : Int) < a
              · have da : decide ((k : Int) < a) = true := by simpa using ha
                have db : decide (a < (k : Int)) = false := by simp; omega
                have HQ := pneq_pair ((hP k hlt).1 ha)
                clear hP ha
                go_quiet (fail)
                go_wp2_with fail
                go_meet
                exact ⟨rfl, q + nq, by simp only [World.drewN_drewN]⟩
              have da : decide ((k : Int) < a) = false := by simpa using ha
              by_cases hb : a < (k : Int)
              · have db : decide (a < (k : Int)) = true := by simpa using hb
                by_cases he : g3 k = f k
                · have HQ := pneq_pair he
                  clear hP ha hb he
                  go_quiet (fail)
                  go_wp2_with fail
                  go_meet
                  exact ⟨rfl, q + nq, by simp only [World.drewN_drewN]⟩
                · have HQ := pneq_pair_not he
                  have h3' : ((f k).1 != 3) = false := by
                    rcases (hP k hlt).2 hb with h | h
                    · exact absurd h he
                    · simpa using h
                  clear hP ha hb he
                  go_quiet (fail)
                  go_wp2_with fail
                  go_meet
                  exact ⟨rfl, q + nq, by simp only [World.drewN_drewN]⟩
              · have db : decide (a < (k : Int)) = false := by simpa using hb
                clear hP ha hb
                go_quiet (fail)
                go_wp2_with fail
                go_meet
                exact ⟨rfl, q + nq, by simp only [World.drewN_drewN]⟩
            · have e3 : (E3 == 0) = false := by simpa using h3
              clear h3
              go_quiet (fail)
              go_wp2_with fail
              go_meet
              exact ⟨rfl, q + nq, by simp only [World.drewN_drewN]⟩
          case rest =>
            obtain ⟨rfl, q, rfl⟩ := hcut
            go_wp2
            go_roundg (gk - 1)
            case rel => exact ⟨k + 1, by have := HG.out; omega, by go_num, below_drew_of HB.out _⟩
            case measure => have := HG.out; omega
    · have dk : decide (k < n) = false := by simpa using hlt
      by_cases h0 : E1 = 0
      · have e0 : (E1 != 0) = false := by simpa using h0
        have M0 := Lib.hid (T1.out.may h0)
        clear h0
        go_wp2_with fail
        refine (may_yes _ _ _ _ _ _ M0.out HA.out (Nat.le_refl _)).mono ?_
        rintro e x0 ⟨rfl, hx0⟩
        have BX0 := Lib.hid (HBw.out.trans (hx0.mono HBw.out.size))
        have HA := Lib.hid (HA.out.next hx0)
        have HC := Lib.hid (HC.out.next hx0)
        have HD := Lib.hid (HD.out.next hx0)
        clear hx0
        by_cases h1 : E2 = 0
        · have e1 : (E2 != 0) = false := by simpa using h1
          have M1 := Lib.hid (T2.out.may h1)
          clear h1
          go_wp2_with fail
          refine (may_yes _ _ _ _ _ _ M1.out HC.out (Nat.le_refl _)).mono ?_
          rintro e x1 ⟨rfl, hx1⟩
          have BX1 := Lib.hid (BX0.out.trans (hx1.mono BX0.out.size))
          have HA := Lib.hid (HA.out.next hx1)
          have HC := Lib.hid (HC.out.next hx1)
          have HD := Lib.hid (HD.out.next hx1)
          clear hx1
          by_cases h2 : E3 = 0
          · have e2 : (E3 != 0) = false := by simpa using h2
            have M2 := Lib.hid (T3.out.may h2)
            clear h2
            go_wp2_with fail
            refine (may_yes _ _ _ _ _ _ M2.out HD.out (Nat.le_refl _)).mono ?_
            rintro e x2 ⟨rfl, hx2⟩
            have BX2 := Lib.hid (BX1.out.trans (hx2.mono BX1.out.size))
            have HA := Lib.hid (HA.out.next hx2)
            have HC := Lib.hid (HC.out.next hx2)
            have HD := Lib.hid (HD.out.next hx2)
            clear hx2
            go_wp2
            go_ret
            exact ⟨rfl, BX2.out⟩
          · have e2 : (E3 != 0) = true := by simpa using h2
            clear h2
            go_wp2
            go_ret
            exact ⟨rfl, BX1.out⟩
        · have e1 : (E2 != 0) = true := by simpa using h1
          clear h1
          by_cases h2 : E3 = 0
          · have e2 : (E3 != 0) = false := by simpa using h2
            have M2 := Lib.hid (T3.out.may h2)
            clear h2
            go_wp2_with fail
            refine (may_yes _ _ _ _ _ _ M2.out HD.out (Nat.le_refl _)).mono ?_
            rintro e x2 ⟨rfl, hx2⟩
            have BX2 := Lib.hid (BX0.out.trans (hx2.mono BX0.out.size))
            have HA := Lib.hid (HA.out.next hx2)
            have HC := Lib.hid (HC.out.next hx2)
            have HD := Lib.hid (HD.out.next hx2)
            clear hx2
            go_wp2
            go_ret
            exact ⟨rfl, BX2.out⟩
          · have e2 : (E3 != 0) = true := by simpa using h2
            clear h2
            go_wp2
            go_ret
            exact ⟨rfl, BX0.out⟩
      · have e0 : (E1 != 0) = true := by simpa using h0
        clear h0
        by_cases h1 : E2 = 0
        · have e1 : (E2 != 0) = false := by simpa using h1
          have M1 := Lib.hid (T2.out.may h1)
          clear h1
          go_wp2_with fail
          refine (may_yes _ _ _ _ _ _ M1.out HC.out (Nat.le_refl _)).mono ?_
          rintro e x1 ⟨rfl, hx1⟩
          have BX1 := Lib.hid (HBw.out.trans (hx1.mono HBw.out.size))
          have HA := Lib.hid (HA.out.next hx1)
          have HC := Lib.hid (HC.out.next hx1)
          have HD := Lib.hid (HD.out.next hx1)
          clear hx1
          by_cases h2 : E3 = 0
          · have e2 : (E3 != 0) = false := by simpa using h2
            have M2 := Lib.hid (T3.out.may h2)
            clear h2
            go_wp2_with fail
            refine (may_yes _ _ _ _ _ _ M2.out HD.out (Nat.le_refl _)).mono ?_
            rintro e x2 ⟨rfl, hx2⟩
            have BX2 := Lib.hid (BX1.out.trans (hx2.mono BX1.out.size))
            have HA := Lib.hid (HA.out.next hx2)
            have HC := Lib.hid (HC.out.next hx2)
            have HD := Lib.hid (HD.out.next hx2)
            clear hx2
            go_wp2
            go_ret
            exact ⟨rfl, BX2.out⟩
          · have e2 : (E3 != 0) = true := by simpa using h2
            clear h2
            go_wp2
            go_ret
            exact ⟨rfl, BX1.out⟩
        · have e1 : (E2 != 0) = true := by simpa using h1
          clear h1
          by_cases h2 : E3 = 0
          · have e2 : (E3 != 0) = false := by simpa using h2
            have M2 := Lib.hid (T3.out.may h2)
            clear h2
            go_wp2_with fail
            refine (may_yes _ _ _ _ _ _ M2.out HD.out (Nat.le_refl _)).mono ?_
            rintro e x2 ⟨rfl, hx2⟩
            have BX2 := Lib.hid (HBw.out.trans (hx2.mono HBw.out.size))
            have HA := Lib.hid (HA.out.next hx2)
            have HC := Lib.hid (HC.out.next hx2)
            have HD := Lib.hid (HD.out.next hx2)
            clear hx2
            go_wp2
            go_ret
            exact ⟨rfl, BX2.out⟩
          · have e2 : (E3 != 0) = true := by simpa using h2
            clear h2
            go_wp2
            go_ret
            exact ⟨rfl, HBw.out⟩
theorem walk (A : Option Addr) (n c : Nat) (f : Nat → Int × Int) (a m : Int) (w : World) (hr : PIn w A n c f) (_wa : (Lit.int .i64 a).wf = true) (_wm : (Lit.int .i64 m).wf = true) :
    Calls Try.prog 8 #[.slice A n c, .int .i64 a, .int .i64 m] w fun e w' => e = .returned (.bool true) ∧ Below w.heap.size w w' := by
  obtain ⟨hrow, hnc, hcm⟩ := hr
  unfold maxLen at hcm
  by_cases hl : 64 < n
  · exact long A n c a m w hl (by omega)
  cases h : mayB f n
  · exact nomay A n c f a m w (by omega) h hrow
  · exact may_ A n c f a m w hnc h hrow

set_option maxRecDepth 100000 in
theorem lifted (os : Os) (started : os.Started) (H : Type) (enc : TypeId × Value → H) :
    ReturnsInHanded {} Try.checked os 8 .any (Rows.pagesOtherSpec.pre6 enc Try.prog Try.f8 Rows.pagesOtherRow.domain false) (Rows.pagesOtherSpec.post enc Try.prog Try.f8 false true false false) := by
  refine returnsInHanded_of_change (C := Try.checked) own started (by kernel_rfl) Try.func8
    (ChangeSpec.witness6 (enc := enc) (C := Try.checked) false ⟨#[], #[.slice none 0 0, .int .i64 0, .int .i64 0], []⟩ 8 (by kernel_rfl) (by kernel_rfl) (by kernel_rfl) (by kernel_rfl)) ?_
  intro W base args ds gs before hval0 hW hcnd _
  have hval : ∀ (j : Nat) t v, Try.f8.params[j]? = some t → args[j]? = some v → Value.okWide Try.prog W .any base t v := hval0
  have hW' := hW
  obtain ⟨p, q, hA0, hV, rfl, hfz, hnd⟩ := hW
  have hA : DataW.TrodAll enc Try.prog W 0 (fun _ => true) true Try.f8.params.toList args.toList ds p := hA0
  rw [Try.params8] at hA hval
  obtain ⟨v0, vs0, d0, ds0, p0, q0, hargs, rfl, rfl, h0, r0⟩ := trodAll_cons hA
  obtain ⟨v1, vs1, d1, ds1, p1, q1, rfl, rfl, rfl, h1, r1⟩ := trodAll_cons r0
  obtain ⟨v2, vs2, d2, ds2, p2, q2, rfl, rfl, rfl, h2, r2⟩ := trodAll_cons r1
  obtain ⟨rfl, rfl, rfl⟩ := trodAll_nil r2
  obtain rfl : args = #[v0, v1, v2] := by cases args; simp_all
  obtain ⟨rfl, rfl⟩ := trodVars_none hV
  obtain ⟨a0, len0, cap0, rfl⟩ := okWide_slice Try.underlying22 (hval 0 22 v0 rfl rfl)
  have k0 := h0
  have lt0 : ∀ x ∈ p0, x.block < W.heap.size := by obtain ⟨m, hm⟩ := k0; exact DataW.trod_lt m _ _ _ hm
  obtain ⟨z0, w0⟩ : ∃ f, PIn W a0 len0 cap0 f := pin_of h0
  obtain ⟨a1, rfl, rfl, rfl, w1⟩ := open_int Try.underlying3 (hval 1 3 v1 rfl rfl) h1
  obtain ⟨a2, rfl, rfl, rfl, w2⟩ := open_int Try.underlying3 (hval 2 3 v2 rfl rfl) h2
  clear hA0 hval0
  refine (walk a0 len0 cap0 z0 a1 a2 W w0 w1 w2).mono fun e W' ⟨he, bel⟩ => ?_
  subst he
  exact ⟨_, rfl, _, _, _, [], _, [], hW', trodAll_mk1 (shut_bool Try.underlying4 _), (trodAll_cons_mk (Below.trod laidOut (by kernel_rfl) (of_decide_eq_true (by kernel_rfl)) k0 bel lt0) (trodAll_cons_mk (shut_int Try.underlying3 w1) (trodAll_cons_mk (shut_int Try.underlying3 w2) trodAll_mk0))), rfl, bel.frame _, fun h => by cases h⟩

theorem over : Rows.pagesOtherRow.holds Try.pinned (OpenSpec.ofChange Rows.pagesOtherSpec) :=
  OpenClaim.holds_of_wide 8 Try.f8 rfl rfl rfl rfl rfl rfl rfl ⟨rfl, rfl, rfl, rfl, rfl⟩ rfl rfl rfl rfl rfl (by kernel_rfl) Try.func8 (by kernel_rfl)
    (of_decide_eq_true (by kernel_rfl)) (by unfold Func.isWrapper; first | (rw [if_pos (by decide +kernel)]; kernel_rfl) | (rw [if_neg (by decide +kernel)]; exact ⟨rfl, rfl⟩))
    (fun os started H enc _ => lifted os started H enc)

/-- The statement. -/
theorem proved : Rows.PagesOtherSaid :=
  over
#print axioms proved
end Go.Proofs.Ytofbebgcafpfhaa.PagesOther
