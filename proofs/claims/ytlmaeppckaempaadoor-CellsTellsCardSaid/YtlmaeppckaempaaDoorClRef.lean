/-
  The reference's Begins, All, On, Start and Next of cells.
-/
import Derived.Test.YtlmaeppckaempaaDoorClRefPlain
import Derived.Test.YtlmaeppckaempaaDoorClsRef
import Derived.Deep.RegionHeld3
namespace Go.Proofs.YtlmaeppckaempaaDoor
open Go.RowKit

section
variable (B : Nat) (A : Option Addr) (n c : Nat) (f : Nat → Int × Int) (a : Int) (w : World)

theorem rbegins_out (hn : n ≤ 1000) (hr : PRow w B A n f) (hB : B ≤ w.heap.size) (h : ¬ (mayB f n = true ∧ 16 ≤ a ∧ a < 16 + 16 * (n : Int))) :
    Calls Tryd.prog 21 #[.slice A n c, .int .i64 a] w fun e w' => e = .returned (.int .i64 0) ∧ Below w.heap.size w w' := by
  have HR := Lib.hid hr
  clear hr
  cases hM : mayB f n
  · have HM := Lib.hid hM
    clear hM h
    go_enter Tryd.func21, Tryd.ntmps21
    go_wp2_with fail
    refine (rmay_no B _ _ _ _ _ HM.out hn HR.out hB).mono ?_
    rintro e w1 ⟨rfl, hb1⟩
    have HB := Lib.hid hb1
    clear hb1
    go_wp2
    go_ret
    exact ⟨rfl, HB.out⟩
  · have HM := Lib.hid hM
    by_cases h0 : a < 16
    · have d0 : decide (a < 16) = true := by simpa using h0
      clear hM h
      go_enter Tryd.func21, Tryd.ntmps21
      go_wp2_with fail
      refine (rmay_yes B _ _ _ _ _ HM.out HR.out hB).mono ?_
      rintro e w1 ⟨rfl, hb1⟩
      have HB := Lib.hid hb1
      clear hb1
      go_wp2
      go_ret
      exact ⟨rfl, HB.out⟩
    · have h1 : 16 + 16 * (n : Int) ≤ a := by
        by_cases h1 : 16 + 16 * (n : Int) ≤ a
        · exact h1
        · exact absurd ⟨hM, by omega, by omega⟩ h
      have d0 : decide (a < 16) = false := by simpa using h0
      have d1 : decide (16 + 16 * (n : Int) ≤ a) = true := by simpa using h1
      clear hM h
      go_enter Tryd.func21, Tryd.ntmps21
      go_wp2_with fail
      refine (rmay_yes B _ _ _ _ _ HM.out HR.out hB).mono ?_
      rintro e w1 ⟨rfl, hb1⟩
      have HB := Lib.hid hb1
      clear hb1
      go_wp2
      go_ret
      exact ⟨rfl, HB.out⟩

/-- What the page tells of the word. -/
theorem pg_kind {p : Int × Int} (h : pmB p = true) (r : Int) : (p.1 ≠ 1 ∧ p.1 ≠ 2 ∧ pg p r = 0) ∨ (p.1 = 2 ∧ 1 ≤ p.2 ∧ p.2 ≤ 4 ∧ ((r % 16 = 0 ∧ pg p r = 16 * p.2) ∨ (r % 16 ≠ 0 ∧ pg p r = 0))) ∨
    (p.1 = 1 ∧ (wordsOf p.2 = 2 ∨ wordsOf p.2 = 4 ∨ wordsOf p.2 = 8) ∧ ((r % wordsOf p.2 = 0 ∧ pg p r = wordsOf p.2) ∨ (r % wordsOf p.2 ≠ 0 ∧ pg p r = 0))) := by
  rcases pm_cases h with rfl | rfl | rfl | rfl | rfl | rfl | rfl | rfl | rfl <;> simp [pg, wordsOf] <;> omega

theorem rwords_is {cl x : Int} (h : wordsOf cl = x) (w : World) : Calls Tryd.prog 34 #[.int .i64 cl] w fun e w' => e = .returned (.int .i64 x) ∧ w = w' := by
  rw [← h]
  exact rwords_of cl w

set_option maxHeartbeats 1000000 in
theorem rbegins_in (k : Nat) (hn : n ≤ 1000) (hr : PRow w B A n f) (hB : B ≤ w.heap.size) (hM : mayB f n = true) (h0 : 16 ≤ a) (h1 : a < 16 + 16 * (n : Int)) (hk : a / 16 - 1 = k) :
    Calls Tryd.prog 21 #[.slice A n c, .int .i64 a] w fun e w' => e = .returned (.int .i64 (pg (f k) a)) ∧ Below w.heap.size w w' := by
  have HR := Lib.hid hr
  have HM := Lib.hid hM
  have hkn : k < n := by omega
  have hkind := pg_kind (may_pm hM hkn) a
  have d0 : decide (a < 16) = false := by simp; omega
  have d1 : decide (16 + 16 * (n : Int) ≤ a) = false := by simp; omega
  have ha : a ≤ 100000 := by omega
  obtain ⟨b, off, rfl, hbB, _⟩ := hr (by omega)
  clear hr hM
  rcases hkind with ⟨k1, k2, hv⟩ | ⟨k2, g0, g1, hx⟩ | ⟨k1, hw, hx⟩
  · have e1 : ((f k).1 == 1) = false := by simpa using k1
    have e2 : ((f k).1 == 2) = false := by simpa using k2
    have HV := Lib.hid hv
    have HK := Lib.hid hk
    clear hv k1 k2 hk
    go_enter Tryd.func21, Tryd.ntmps21
    go_wp2_with fail
    refine (rmay_yes B _ _ _ _ _ HM.out HR.out hB).mono ?_
    rintro e w1 ⟨rfl, hb1⟩
    obtain ⟨b', off', ea, _, hc⟩ := (HR.out.over hb1 hB) (by omega)
    simp at ea
    obtain ⟨rfl, rfl⟩ := ea
    obtain ⟨c0, c1⟩ := hc k hkn
    have hbw : b < w1.heap.size := by have := hb1.size; omega
    have HB := Lib.hid hb1
    have hz := hb1.size
    have hk := HK.out
    clear hb1 hc
    go_wp2
    go_ret
    exact ⟨by rw [HV.out]; rfl, HB.out.alloc hz _⟩
  · have e2 : ((f k).1 == 2) = true := by simpa using k2
    have e1 : ((f k).1 == 1) = false := by rw [k2]; decide
    rcases hx with ⟨hm, hv⟩ | ⟨hm, hv⟩
    · have m0 : (a % 16 == 0) = true := by simpa using hm
      have HV := Lib.hid hv
      have HK := Lib.hid hk
      clear hv hm k2 hk
      go_enter Tryd.func21, Tryd.ntmps21
      go_wp2_with fail
      refine (rmay_yes B _ _ _ _ _ HM.out HR.out hB).mono ?_
      rintro e w1 ⟨rfl, hb1⟩
      obtain ⟨b', off', ea, _, hc⟩ := (HR.out.over hb1 hB) (by omega)
      simp at ea
      obtain ⟨rfl, rfl⟩ := ea
      obtain ⟨c0, c1⟩ := hc k hkn
      have hbw : b < w1.heap.size := by have := hb1.size; omega
      have HB := Lib.hid hb1
      have hz := hb1.size
      have hk := HK.out
      clear hb1 hc
      go_wp2
      go_ret
      exact ⟨by rw [HV.out]; rfl, HB.out.alloc hz _⟩
    · have m0 : (a % 16 == 0) = false := by simpa using hm
      have HV := Lib.hid hv
      have HK := Lib.hid hk
      clear hv hm k2 hk
      go_enter Tryd.func21, Tryd.ntmps21
      go_wp2_with fail
      refine (rmay_yes B _ _ _ _ _ HM.out HR.out hB).mono ?_
      rintro e w1 ⟨rfl, hb1⟩
      obtain ⟨b', off', ea, _, hc⟩ := (HR.out.over hb1 hB) (by omega)
      simp at ea
      obtain ⟨rfl, rfl⟩ := ea
      obtain ⟨c0, c1⟩ := hc k hkn
      have hbw : b < w1.heap.size := by have := hb1.size; omega
      have HB := Lib.hid hb1
      have hz := hb1.size
      have hk := HK.out
      clear hb1 hc
      go_wp2
      go_ret
      exact ⟨by rw [HV.out]; rfl, HB.out.alloc hz _⟩
  · have e2 : ((f k).1 == 2) = false := by rw [k1]; decide
    have e1 : ((f k).1 == 1) = true := by simpa using k1
    rcases hw with hw | hw | hw
    · rw [hw] at hx
      have HW := Lib.hid hw
      clear hw
      rcases hx with ⟨hm, hv⟩ | ⟨hm, hv⟩
      · have m0 : (a % 2 == 0) = true := by simpa using hm
        have HV := Lib.hid hv
        have HK := Lib.hid hk
        clear hv hm k1 hk
        go_enter Tryd.func21, Tryd.ntmps21
        go_wp2_with fail
        refine (rmay_yes B _ _ _ _ _ HM.out HR.out hB).mono ?_
        rintro e w1 ⟨rfl, hb1⟩
        obtain ⟨b', off', ea, _, hc⟩ := (HR.out.over hb1 hB) (by omega)
        simp at ea
        obtain ⟨rfl, rfl⟩ := ea
        obtain ⟨c0, c1⟩ := hc k hkn
        have hbw : b < w1.heap.size := by have := hb1.size; omega
        have HB := Lib.hid hb1
        have hz := hb1.size
        have hk := HK.out
        clear hb1 hc
        go_wp2_with fail
        refine (rwords_is HW.out _).mono ?_
        rintro e w2 ⟨rfl, rfl⟩
        go_wp2
        go_ret
        exact ⟨by rw [HV.out]; rfl, HB.out.alloc hz _⟩
      · have m0 : (a % 2 == 0) = false := by simpa using hm
        have HV := Lib.hid hv
        have HK := Lib.hid hk
        clear hv hm k1 hk
        go_enter Tryd.func21, Tryd.ntmps21
        go_wp2_with fail
        refine (rmay_yes B _ _ _ _ _ HM.out HR.out hB).mono ?_
        rintro e w1 ⟨rfl, hb1⟩
        obtain ⟨b', off', ea, _, hc⟩ := (HR.out.over hb1 hB) (by omega)
        simp at ea
        obtain ⟨rfl, rfl⟩ := ea
        obtain ⟨c0, c1⟩ := hc k hkn
        have hbw : b < w1.heap.size := by have := hb1.size; omega
        have HB := Lib.hid hb1
        have hz := hb1.size
        have hk := HK.out
        clear hb1 hc
        go_wp2_with fail
        refine (rwords_is HW.out _).mono ?_
        rintro e w2 ⟨rfl, rfl⟩
        go_wp2
        go_ret
        exact ⟨by rw [HV.out]; rfl, HB.out.alloc hz _⟩
    · rw [hw] at hx
      have HW := Lib.hid hw
      clear hw
      rcases hx with ⟨hm, hv⟩ | ⟨hm, hv⟩
      · have m0 : (a % 4 == 0) = true := by simpa using hm
        have HV := Lib.hid hv
        have HK := Lib.hid hk
        clear hv hm k1 hk
        go_enter Tryd.func21, Tryd.ntmps21
        go_wp2_with fail
        refine (rmay_yes B _ _ _ _ _ HM.out HR.out hB).mono ?_
        rintro e w1 ⟨rfl, hb1⟩
        obtain ⟨b', off', ea, _, hc⟩ := (HR.out.over hb1 hB) (by omega)
        simp at ea
        obtain ⟨rfl, rfl⟩ := ea
        obtain ⟨c0, c1⟩ := hc k hkn
        have hbw : b < w1.heap.size := by have := hb1.size; omega
        have HB := Lib.hid hb1
        have hz := hb1.size
        have hk := HK.out
        clear hb1 hc
        go_wp2_with fail
        refine (rwords_is HW.out _).mono ?_
        rintro e w2 ⟨rfl, rfl⟩
        go_wp2
        go_ret
        exact ⟨by rw [HV.out]; rfl, HB.out.alloc hz _⟩
      · have m0 : (a % 4 == 0) = false := by simpa using hm
        have HV := Lib.hid hv
        have HK := Lib.hid hk
        clear hv hm k1 hk
        go_enter Tryd.func21, Tryd.ntmps21
        go_wp2_with fail
        refine (rmay_yes B _ _ _ _ _ HM.out HR.out hB).mono ?_
        rintro e w1 ⟨rfl, hb1⟩
        obtain ⟨b', off', ea, _, hc⟩ := (HR.out.over hb1 hB) (by omega)
        simp at ea
        obtain ⟨rfl, rfl⟩ := ea
        obtain ⟨c0, c1⟩ := hc k hkn
        have hbw : b < w1.heap.size := by have := hb1.size; omega
        have HB := Lib.hid hb1
        have hz := hb1.size
        have hk := HK.out
        clear hb1 hc
        go_wp2_with fail
        refine (rwords_is HW.out _).mono ?_
        rintro e w2 ⟨rfl, rfl⟩
        go_wp2
        go_ret
        exact ⟨by rw [HV.out]; rfl, HB.out.alloc hz _⟩
    · rw [hw] at hx
      have HW := Lib.hid hw
      clear hw
      rcases hx with ⟨hm, hv⟩ | ⟨hm, hv⟩
      · have m0 : (a % 8 == 0) = true := by simpa using hm
        have HV := Lib.hid hv
        have HK := Lib.hid hk
        clear hv hm k1 hk
        go_enter Tryd.func21, Tryd.ntmps21
        go_wp2_with fail
        refine (rmay_yes B _ _ _ _ _ HM.out HR.out hB).mono ?_
        rintro e w1 ⟨rfl, hb1⟩
        obtain ⟨b', off', ea, _, hc⟩ := (HR.out.over hb1 hB) (by omega)
        simp at ea
        obtain ⟨rfl, rfl⟩ := ea
        obtain ⟨c0, c1⟩ := hc k hkn
        have hbw : b < w1.heap.size := by have := hb1.size; omega
        have HB := Lib.hid hb1
        have hz := hb1.size
        have hk := HK.out
        clear hb1 hc
        go_wp2_with fail
        refine (rwords_is HW.out _).mono ?_
        rintro e w2 ⟨rfl, rfl⟩
        go_wp2
        go_ret
        exact ⟨by rw [HV.out]; rfl, HB.out.alloc hz _⟩
      · have m0 : (a % 8 == 0) = false := by simpa using hm
        have HV := Lib.hid hv
        have HK := Lib.hid hk
        clear hv hm k1 hk
        go_enter Tryd.func21, Tryd.ntmps21
        go_wp2_with fail
        refine (rmay_yes B _ _ _ _ _ HM.out HR.out hB).mono ?_
        rintro e w1 ⟨rfl, hb1⟩
        obtain ⟨b', off', ea, _, hc⟩ := (HR.out.over hb1 hB) (by omega)
        simp at ea
        obtain ⟨rfl, rfl⟩ := ea
        obtain ⟨c0, c1⟩ := hc k hkn
        have hbw : b < w1.heap.size := by have := hb1.size; omega
        have HB := Lib.hid hb1
        have hz := hb1.size
        have hk := HK.out
        clear hb1 hc
        go_wp2_with fail
        refine (rwords_is HW.out _).mono ?_
        rintro e w2 ⟨rfl, rfl⟩
        go_wp2
        go_ret
        exact ⟨by rw [HV.out]; rfl, HB.out.alloc hz _⟩
theorem rbegins_any (hn : n ≤ 1000) (hr : PRow w B A n f) (hB : B ≤ w.heap.size) :
    Calls Tryd.prog 21 #[.slice A n c, .int .i64 a] w fun e w' => e = .returned (.int .i64 (bg f n a)) ∧ Below w.heap.size w w' := by
  by_cases h : mayB f n = true ∧ 16 ≤ a ∧ a < 16 + 16 * (n : Int)
  · obtain ⟨hM, h0, h1⟩ := h
    obtain ⟨k, hk⟩ : ∃ k : Nat, a / 16 - 1 = k := ⟨(a / 16 - 1).toNat, by omega⟩
    rw [bg_in hM h0 h1 hk]
    exact rbegins_in B A n c f a w k hn hr hB hM h0 h1 hk
  · rw [bg_no h]
    exact rbegins_out B A n c f a w hn hr hB h
end
end Go.Proofs.YtlmaeppckaempaaDoor
