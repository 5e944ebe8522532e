/-
  Package pages' Small, Large and Drop.
-/
import Derived.Test.YtlmaeppckaempaaDoorPgTake
namespace Go.Proofs.YtlmaeppckaempaaDoor
open Go.RowKit

theorem TOut.as {w w' : World} {E E' : Int} {n : Nat} {g g' : Nat → Int × Int} {e : Ending} (h : TOut w E n g e w') (he : E' = E) (hg : ∀ i, g' i = g i) : TOut w E' n g' e w' := by
  subst he
  obtain ⟨A, c, h1, h2, h3, h4⟩ := h
  exact ⟨A, c, h1, h2.congr (fun i _ => hg i), h3, h4⟩

theorem small_any (B : Nat) (A : Option Addr) (n c : Nat) (f : Nat → Int × Int) (at_ cl : Int) (w : World) (hn : n ≤ 1000) (hnc : n ≤ c) (hr : PRow w B A n f) (hB : B ≤ w.heap.size) :
    Calls Tryd.prog 23 #[.slice A n c, .int .i64 at_, .int .i64 cl] w (TOut w (smallE f n at_ cl) n (smallF f at_ cl)) := by
  have HR := Lib.hid hr
  clear hr
  cases hc : clB cl
  · have HE := Lib.hid (show smallE f n at_ cl = 1 from if_neg (by rw [hc]; decide))
    have HC := Lib.hid hc
    clear hc
    go_enter Tryd.func23, Tryd.ntmps23
    go_wp2_with fail
    refine (isClass_no _ _ HC.out).mono ?_
    rintro e w1 ⟨rfl, rfl⟩
    go_wp2
    go_ret2
    exact tout_err rfl HE.out (by decide) (Below.refl _ _)
  · have HE := Lib.hid (show smallE f n at_ cl = takeE f n at_ (1 : Nat) from if_pos hc)
    have HC := Lib.hid hc
    clear hc
    go_enter Tryd.func23, Tryd.ntmps23
    go_wp2_with fail
    refine (isClass_yes _ _ HC.out).mono ?_
    rintro e w1 ⟨rfl, rfl⟩
    go_wp2_with fail
    refine (take_any B _ _ _ f at_ 1 (1, cl) _ hn hnc (by decide) (by decide) HR.out hB).mono ?_
    rintro e w1 ⟨A', c', rfl, hrow, hle, hb⟩
    have HRow := Lib.hid hrow
    clear hrow
    go_wp2
    go_ret2
    exact TOut.as ⟨A', c', rfl, HRow.out, hle, hb⟩ HE.out (fun i => took_small f _ cl i)
theorem dropE_may {f : Nat → Int × Int} {n : Nat} {at_ : Int} (h : mayB f n = false) : dropE f n at_ = 1 := if_pos h
theorem dropE_none {f : Nat → Int × Int} {n : Nat} {at_ : Int} (h : mayB f n = true) (ha : at_ < 0 ∨ (n : Int) ≤ at_) : dropE f n at_ = 3 := by
  unfold dropE
  rw [if_neg (by rw [h]; decide), if_pos ha]
theorem dropE_kind {f : Nat → Int × Int} {n a : Nat} (h : mayB f n = true) (ha : a < n) (hk : (f a).1 = 0 ∨ (f a).1 = 3) : dropE f n a = 3 := by
  unfold dropE
  rw [if_neg (by rw [h]; decide), if_neg (by omega), if_neg (by simp; omega)]
theorem dropE_ok {f : Nat → Int × Int} {n a : Nat} (h : mayB f n = true) (ha : a < n) (hk : (f a).1 = 1 ∨ (f a).1 = 2) : dropE f n a = 0 := by
  unfold dropE
  rw [if_neg (by rw [h]; decide), if_neg (by omega), if_pos (by simpa using hk)]
theorem kinds {f : Nat → Int × Int} {n a : Nat} (h : mayB f n = true) (ha : a < n) : (f a).1 = 0 ∨ (f a).1 = 1 ∨ (f a).1 = 2 ∨ (f a).1 = 3 := by
  have := (pmB_iff _).1 ((okB_iff f a).1 (((mayB_iff f n).1 h).2.2.1 a ha)).1
  omega
theorem drop_fill {f : Nat → Int × Int} {a m : Nat} (h : wide f a = m) (i : Nat) : drop f a i = fillF f a m (0, 0) i := by
  unfold drop fillF
  rw [h]
  by_cases h2 : a ≤ i ∧ (i : Int) < a + m
  · rw [if_pos h2, if_pos (by omega)]
  · rw [if_neg h2, if_neg (by omega)]

set_option maxHeartbeats 1000000 in
/-- What Drop does behind the switch: a small page (m = 1), or a large object's m pages. -/
theorem drop_core (B : Nat) (A : Option Addr) (n c : Nat) (f : Nat → Int × Int) (a : Nat) (w : World) (hM : mayB f n = true) (ha : a < n) (hk : (f a).1 = 1 ∨ (f a).1 = 2) (hr : PRow w B A n f) (hB : B ≤ w.heap.size) :
    Calls Tryd.prog 24 #[.slice A n c, .int .i64 a] w (TOut w (dropE f n a) n (dropF f a)) := by
  have HE := Lib.hid (dropE_ok hM ha hk)
  obtain ⟨w1', w4', hfit, -, -⟩ := wide_facts hM ha hk
  obtain ⟨m, hm⟩ : ∃ m : Nat, wide f a = m := ⟨(wide f a).toNat, by omega⟩
  have HW := Lib.hid hm
  rw [hm] at w1' w4' hfit
  have ham : a + m ≤ n := by omega
  have hm1 : 1 ≤ m := by omega
  obtain ⟨n1, n64, -, -⟩ := (mayB_iff f n).1 hM
  have hn : n ≤ 1000 := by omega
  have HM := Lib.hid hM
  have HR := Lib.hid hr
  obtain ⟨b, off, rfl, hbB, -⟩ := hr (by omega)
  clear hM hr w1' w4' hfit
  rcases hk with hk | hk
  · have em : m = 1 := by
      have := HW.out
      unfold wide at this
      rw [hk] at this
      simp at this
      omega
    subst em
    have e0 : ((f a).1 == 0) = false := by rw [hk]; decide
    have e3 : ((f a).1 == 3) = false := by rw [hk]; decide
    have e2 : ((f a).1 == 2) = false := by rw [hk]; decide
    clear hk hm
    go_enter Tryd.func24, Tryd.ntmps24
    go_wp2_with fail
    refine (may_yes B _ _ _ _ _ HM.out HR.out hB).mono ?_
    rintro e w1 ⟨rfl, hb1⟩
    have HR1 := Lib.hid (HR.out.over hb1 hB)
    obtain ⟨_, _, ea, hb', hc'⟩ := HR1.out (by omega)
    simp at ea
    obtain ⟨rfl, rfl⟩ := ea
    obtain ⟨p0, p1⟩ := hc' a ha
    have hz1 := hb1.size
    have HB1 := Lib.hid hb1
    clear hb1 hc'
    go_wp2_with fail
    refine (pclone_ok B _ _ _ _ _ (by omega) hn HR1.out).mono ?_
    rintro e w3 ⟨g, c', rfl, hm3, hb3⟩
    have hg3 := hm3.2.1
    have hg3' := hm3.2.2.1
    have hc3 := hm3.2.2.2.1
    have hs3 := hb3.size
    have HM3 := Lib.hid hm3
    have HB3 := Lib.hid (HB1.out.trans (hb3.mono (by omega)))
    clear hb3 hm3
    go_wp2_with fail
    refine (fill_any w1.heap.size g n c' _ a 1 f (0, 0) w3 hn ham hs3 HM3.out).mono ?_
    rintro e w4 ⟨rfl, hm4', hb4⟩
    have HM4 := Lib.hid hm4'
    have HB4 := Lib.hid (HB3.out.trans (hb4.mono (by omega)))
    clear hb4 hm4'
    go_wp2
    go_ret2
    exact tout_ok rfl HE.out (HM4.out.lower (by omega)) (fun i _ => drop_fill HW.out i) HB4.out
  · have em : (f a).2 = m := by
      have := HW.out
      unfold wide at this
      rw [if_pos hk] at this
      exact this
    have e0 : ((f a).1 == 0) = false := by rw [hk]; decide
    have e3 : ((f a).1 == 3) = false := by rw [hk]; decide
    have e2 : ((f a).1 == 2) = true := by rw [hk]; decide
    have EM := Lib.hid em
    clear hk hm em
    go_enter Tryd.func24, Tryd.ntmps24
    go_wp2_with fail
    refine (may_yes B _ _ _ _ _ HM.out HR.out hB).mono ?_
    rintro e w1 ⟨rfl, hb1⟩
    have HR1 := Lib.hid (HR.out.over hb1 hB)
    obtain ⟨_, _, ea, hb', hc'⟩ := HR1.out (by omega)
    simp at ea
    obtain ⟨rfl, rfl⟩ := ea
    obtain ⟨p0, p1⟩ := hc' a ha
    rw [EM.out] at p1
    have hz1 := hb1.size
    have HB1 := Lib.hid hb1
    clear hb1 hc'
    go_wp2_with fail
    refine (pclone_ok B _ _ _ _ _ (by omega) hn HR1.out).mono ?_
    rintro e w3 ⟨g, c', rfl, hm3, hb3⟩
    have hg3 := hm3.2.1
    have hg3' := hm3.2.2.1
    have hc3 := hm3.2.2.2.1
    have hs3 := hb3.size
    have HM3 := Lib.hid hm3
    have HB3 := Lib.hid (HB1.out.trans (hb3.mono (by omega)))
    clear hb3 hm3
    go_wp2_with fail
    rw [show a + m - a = m by omega]
    refine (fill_any w1.heap.size g n c' _ a m f (0, 0) w3 hn ham hs3 HM3.out).mono ?_
    rintro e w4 ⟨rfl, hm4', hb4⟩
    have HM4 := Lib.hid hm4'
    have HB4 := Lib.hid (HB3.out.trans (hb4.mono (by omega)))
    clear hb4 hm4'
    go_wp2
    go_ret2
    exact tout_ok rfl HE.out (HM4.out.lower (by omega)) (fun i _ => drop_fill HW.out i) HB4.out

theorem drop_any (B : Nat) (A : Option Addr) (n c : Nat) (f : Nat → Int × Int) (at_ : Int) (w : World) (hn : n ≤ 1000) (hr : PRow w B A n f) (hB : B ≤ w.heap.size) :
    Calls Tryd.prog 24 #[.slice A n c, .int .i64 at_] w (TOut w (dropE f n at_) n (dropF f at_)) := by
  cases hM : mayB f n
  · have HE := Lib.hid (dropE_may (at_ := at_) hM)
    have HM := Lib.hid hM
    have HR := Lib.hid hr
    clear hM hr
    go_enter Tryd.func24, Tryd.ntmps24
    go_wp2_with fail
    refine (may_no B _ _ _ _ _ HM.out hn HR.out hB).mono ?_
    rintro e w1 ⟨rfl, hb1⟩
    go_wp2
    go_ret2
    exact tout_err rfl HE.out (by decide) hb1
  by_cases hat : at_ < 0 ∨ (n : Int) ≤ at_
  · have HE := Lib.hid (dropE_none hM hat)
    have HM := Lib.hid hM
    have HR := Lib.hid hr
    clear hM hr
    by_cases h0 : at_ < 0
    · have d0 : decide (at_ < 0) = true := by simpa using h0
      clear hat
      go_enter Tryd.func24, Tryd.ntmps24
      go_wp2_with fail
      refine (may_yes B _ _ _ _ _ HM.out HR.out hB).mono ?_
      rintro e w1 ⟨rfl, hb1⟩
      go_wp2
      go_ret2
      exact tout_err rfl HE.out (by decide) hb1
    · have d0 : decide (at_ < 0) = false := by simpa using h0
      have h1 : (n : Int) ≤ at_ := by omega
      have d1 : decide ((n : Int) ≤ at_) = true := by simpa using h1
      clear hat
      go_enter Tryd.func24, Tryd.ntmps24
      go_wp2_with fail
      refine (may_yes B _ _ _ _ _ HM.out HR.out hB).mono ?_
      rintro e w1 ⟨rfl, hb1⟩
      go_wp2
      go_ret2
      exact tout_err rfl HE.out (by decide) hb1
  obtain ⟨a, rfl⟩ : ∃ a : Nat, at_ = a := ⟨at_.toNat, by omega⟩
  have ha : a < n := by omega
  rcases (show ((f a).1 = 0 ∨ (f a).1 = 3) ∨ ((f a).1 = 1 ∨ (f a).1 = 2) by have := kinds hM ha; omega) with hk | hk
  · have HE := Lib.hid (dropE_kind hM ha hk)
    have HM := Lib.hid hM
    have HR := Lib.hid hr
    obtain ⟨b, off, rfl, hbB, -⟩ := hr (by omega)
    clear hM hr hat
    rcases hk with hk | hk
    · have e0 : ((f a).1 == 0) = true := by simpa using hk
      clear hk
      go_enter Tryd.func24, Tryd.ntmps24
      go_wp2_with fail
      refine (may_yes B _ _ _ _ _ HM.out HR.out hB).mono ?_
      rintro e w1 ⟨rfl, hb1⟩
      obtain ⟨_, _, ea, hb', hc'⟩ := (HR.out.over hb1 hB) (by omega)
      simp at ea
      obtain ⟨rfl, rfl⟩ := ea
      obtain ⟨p0, p1⟩ := hc' a ha
      have HB1 := Lib.hid hb1
      clear hb1 hc'
      go_wp2
      go_ret2
      exact tout_err rfl HE.out (by decide) HB1.out
    · have e0 : ((f a).1 == 0) = false := by rw [hk]; decide
      have e3 : ((f a).1 == 3) = true := by simpa using hk
      clear hk
      go_enter Tryd.func24, Tryd.ntmps24
      go_wp2_with fail
      refine (may_yes B _ _ _ _ _ HM.out HR.out hB).mono ?_
      rintro e w1 ⟨rfl, hb1⟩
      obtain ⟨_, _, ea, hb', hc'⟩ := (HR.out.over hb1 hB) (by omega)
      simp at ea
      obtain ⟨rfl, rfl⟩ := ea
      obtain ⟨p0, p1⟩ := hc' a ha
      have HB1 := Lib.hid hb1
      clear hb1 hc'
      go_wp2
      go_ret2
      exact tout_err rfl HE.out (by decide) HB1.out
  · exact drop_core B A n c f a w hM ha hk hr hB
end Go.Proofs.YtlmaeppckaempaaDoor
