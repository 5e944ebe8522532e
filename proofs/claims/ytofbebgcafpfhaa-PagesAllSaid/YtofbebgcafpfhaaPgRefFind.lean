/-
  Package pages' Find in whatever case, and the reference's Free and Find.
-/
import Derived.Test.YtofbebgcafpfhaaPgFind
namespace Go.Proofs.Ytofbebgcafpfhaa
open Go.RowKit

theorem isRun_no (c : Int) (w : World) (h : runB c = false) :
    Calls Try.prog 24 #[.int .i64 c] w fun e w' => e = .returned (.bool false) ∧ w = w' := by
  rw [← h]; exact isRun_any c w
theorem isRun_yes (c : Int) (w : World) (h : runB c = true) :
    Calls Try.prog 24 #[.int .i64 c] w fun e w' => e = .returned (.bool true) ∧ w = w' := by
  rw [← h]; exact isRun_any c w
theorem isClass_no (c : Int) (w : World) (h : clB c = false) :
    Calls Try.prog 27 #[.int .i64 c] w fun e w' => e = .returned (.bool false) ∧ w = w' := by
  rw [← h]; exact isClass_any c w
theorem isClass_yes (c : Int) (w : World) (h : clB c = true) :
    Calls Try.prog 27 #[.int .i64 c] w fun e w' => e = .returned (.bool true) ∧ w = w' := by
  rw [← h]; exact isClass_any c w

theorem find_any (B : Nat) (A : Option Addr) (n c : Nat) (f : Nat → Int × Int) (m : Int) (w : World) (hn : n ≤ 1000) (hnc : n ≤ c) (hr : PRow w B A n f) (hB : B ≤ w.heap.size) :
    Calls Try.prog 11 #[.slice A n c, .int .i64 m] w fun e w' => e = .returned (.tuple #[.int .i64 (findV f n m), .bool (findS f n m)]) ∧ Below w.heap.size w w' := by
  cases hM : mayB f n
  · have HN := Lib.hid (findO_bad (f := f) (n := n) (m := m) (.inl hM))
    have HM := Lib.hid hM
    have HR := Lib.hid hr
    clear hM hr
    go_enter Try.func11, Try.ntmps11
    go_wp2
    go_step3
    go_wp2_with fail
    refine (may_no B _ _ _ _ _ HM.out hn HR.out hB).mono ?_
    rintro e w1 ⟨rfl, hb1⟩
    go_wp2
    try rw [Exit.noGoto_ret]
    go_ret2
    exact ⟨nowhere HN.out, hb1⟩
  cases hrun : runB m
  · have HN := Lib.hid (findO_bad (f := f) (n := n) (m := m) (.inr hrun))
    have HM := Lib.hid hM
    have HR := Lib.hid hr
    have HRun := Lib.hid hrun
    clear hM hr hrun
    go_enter Try.func11, Try.ntmps11
    go_wp2
    go_step3
    go_wp2_with fail
    refine (may_yes B _ _ _ _ _ HM.out HR.out hB).mono ?_
    rintro e w1 ⟨rfl, hb1⟩
    go_wp2_with fail
    refine (isRun_no _ _ HRun.out).mono ?_
    rintro e w2 ⟨rfl, rfl⟩
    go_wp2
    try rw [Exit.noGoto_ret]
    go_ret2
    exact ⟨nowhere HN.out, hb1⟩
  · have hm := (runB_iff m).1 hrun
    obtain ⟨k, rfl⟩ : ∃ k : Nat, m = k := ⟨m.toNat, by omega⟩
    exact find_core B A n c f k w hM (by omega) (by omega) hnc hr hB

set_option maxHeartbeats 400000 in
theorem rfree_any (B : Nat) (A : Option Addr) (n c : Nat) (f : Nat → Int × Int) (a m : Nat) (w : World) (hn : n ≤ 1000) (ham : a + m ≤ n) (hr : PRow w B A n f) :
    Calls Try.prog 25 #[.slice A n c, .int .i64 a, .int .i64 m] w fun e w' => e = .returned (.bool (freeB f a m)) ∧ w = w' := by
  have HR := Lib.hid hr
  clear hr
  go_enter Try.func25, Try.ntmps25
  go_wp2
  go_loop [7] (fun i => ∃ q : Nat, a ≤ q ∧ q ≤ a + m ∧ i = .int .i64 q ∧ Open f a (q - a)) (fun i => a + m - (intOf i).toNat)
  case atStart => exact ⟨a, by omega, by omega, rfl, by rw [Nat.sub_self]; exact Open.zero f a⟩
  case round =>
    obtain ⟨q, hq1, hq2, rfl, ho⟩ := hrel
    have HO := Lib.hid ho
    clear ho
    by_cases hlt : q < a + m
    · obtain ⟨b, off, rfl, _, hc⟩ := HR.out (by omega)
      obtain ⟨c0, c1⟩ := hc q (by omega)
      have hd : decide ((q : Int) < a + m) = true := by simp; omega
      clear hc
      by_cases hf : (f q).1 = 0
      · have HO2 := Lib.hid (HO.out.next (by rw [show a + (q - a) = q by omega]; exact hf))
        have e0 : ((f q).1 != 0) = false := by simpa using hf
        clear hf
        go_wp2
        go_round
        case rel => exact ⟨q + 1, by omega, by omega, by go_num, by rw [show q + 1 - a = q - a + 1 by omega]; exact HO2.out⟩
        case measure => simp [intOf]; omega
      · have HF := Lib.hid (freeB_not (f := f) (a := a) (n := m) (j := q - a) (by omega) (by rw [show a + (q - a) = q by omega]; exact hf))
        have e0 : ((f q).1 != 0) = true := by simpa using hf
        clear hf
        go_wp2
        go_ret
        exact ⟨rint HF.out.symm, rfl⟩
    · have hd : decide ((q : Int) < a + m) = false := by simp; omega
      have HF := Lib.hid ((freeB_iff f a m).2 (by have := HO.out; rwa [show q - a = m by omega] at this))
      go_wp2
      go_ret
      exact ⟨rint HF.out.symm, rfl⟩
theorem rfree_yes (B : Nat) (A : Option Addr) (n c : Nat) (f : Nat → Int × Int) (a m : Nat) (w : World) (h : freeB f a m = true) (hn : n ≤ 1000) (ham : a + m ≤ n) (hr : PRow w B A n f) :
    Calls Try.prog 25 #[.slice A n c, .int .i64 a, .int .i64 m] w fun e w' => e = .returned (.bool true) ∧ w = w' := by
  rw [← h]; exact rfree_any B A n c f a m w hn ham hr
theorem rfree_no (B : Nat) (A : Option Addr) (n c : Nat) (f : Nat → Int × Int) (a m : Nat) (w : World) (h : freeB f a m = false) (hn : n ≤ 1000) (ham : a + m ≤ n) (hr : PRow w B A n f) :
    Calls Try.prog 25 #[.slice A n c, .int .i64 a, .int .i64 m] w fun e w' => e = .returned (.bool false) ∧ w = w' := by
  rw [← h]; exact rfree_any B A n c f a m w hn ham hr

set_option maxHeartbeats 1000000 in
theorem rfind_core (B : Nat) (A : Option Addr) (n c : Nat) (f : Nat → Int × Int) (m : Nat) (w : World) (hM : mayB f n = true) (hm1 : 1 ≤ m) (hm4 : m ≤ 4) (hr : PRow w B A n f) (hB : B ≤ w.heap.size) :
    Calls Try.prog 12 #[.slice A n c, .int .i64 m] w fun e w' => e = .returned (.tuple #[.int .i64 (findV f n m), .bool (findS f n m)]) ∧ Below w.heap.size w w' := by
  obtain ⟨n1, n64, -, -⟩ := (mayB_iff f n).1 hM
  have HM := Lib.hid hM
  have HR := Lib.hid hr
  have HRun := Lib.hid ((runB_iff (m : Int)).2 (by omega))
  clear hM hr
  go_enter Try.func12, Try.ntmps12
  go_wp2_with fail
  refine (rmay_yes B _ _ _ _ _ HM.out HR.out hB).mono ?_
  rintro e w1 ⟨rfl, hb1⟩
  have HR1 := Lib.hid (HR.out.over hb1 hB)
  have HB1 := Lib.hid hb1
  clear hb1
  have d1 : decide ((m : Int) < 1) = false := by simp; omega
  have d2 : decide (4 < (m : Int)) = false := by simp; omega
  go_wp2
  go_loop [7] (fun i => ∃ j : Nat, j ≤ n ∧ i = .int .i64 j ∧ Passed f m j) (fun i => n + 1 - (intOf i).toNat)
  case atStart => exact ⟨0, by omega, rfl, Passed.zero f m⟩
  case round =>
    obtain ⟨j, hj, rfl, hp⟩ := hrel
    have HP := Lib.hid hp
    clear hp
    by_cases hlt : j + m ≤ n
    · have hd : decide ((j : Int) + m ≤ n) = true := by simp; omega
      cases hf : freeB f j m
      · have HF := Lib.hid hf
        clear hf
        go_wp2_with fail
        refine (rfree_no B _ _ _ _ _ _ _ HF.out (by omega) hlt HR1.out).mono ?_
        rintro e w2 ⟨rfl, rfl⟩
        go_wp2
        go_round
        case rel => exact ⟨j + 1, by omega, by go_num, HP.out.next HF.out⟩
        case measure => simp [intOf]; omega
      · have HF := Lib.hid hf
        have HO := Lib.hid (findO_some.2 ⟨HM.out, HRun.out, by simp; omega, by simpa using hf, fun i hi => by rw [Int.toNat_natCast]; exact HP.out i hi⟩ : findO f n m = some j)
        clear hf
        go_wp2_with fail
        refine (rfree_yes B _ _ _ _ _ _ _ HF.out (by omega) hlt HR1.out).mono ?_
        rintro e w2 ⟨rfl, rfl⟩
        go_wp2
        go_ret2
        exact ⟨found HO.out, HB1.out⟩
    · have hd : decide ((j : Int) + m ≤ n) = false := by simp; omega
      have HN := Lib.hid (findO_none (f := f) (n := n) (m := m) (fun i hi => by have := HP.out i (by simp at hi; omega); simpa using this))
      go_wp2
      go_ret2
      exact ⟨nowhere HN.out, HB1.out⟩

theorem rfind_any (B : Nat) (A : Option Addr) (n c : Nat) (f : Nat → Int × Int) (m : Int) (w : World) (hn : n ≤ 1000) (hr : PRow w B A n f) (hB : B ≤ w.heap.size) :
    Calls Try.prog 12 #[.slice A n c, .int .i64 m] w fun e w' => e = .returned (.tuple #[.int .i64 (findV f n m), .bool (findS f n m)]) ∧ Below w.heap.size w w' := by
  cases hM : mayB f n
  · have HN := Lib.hid (findO_bad (f := f) (n := n) (m := m) (.inl hM))
    have HM := Lib.hid hM
    have HR := Lib.hid hr
    clear hM hr
    go_enter Try.func12, Try.ntmps12
    go_wp2_with fail
    refine (rmay_no B _ _ _ _ _ HM.out hn HR.out hB).mono ?_
    rintro e w1 ⟨rfl, hb1⟩
    go_wp2
    go_ret2
    exact ⟨nowhere HN.out, hb1⟩
  cases hrun : runB m
  · have HN := Lib.hid (findO_bad (f := f) (n := n) (m := m) (.inr hrun))
    have HM := Lib.hid hM
    have HR := Lib.hid hr
    by_cases h1 : m < 1
    · have d1 : decide (m < 1) = true := by simpa using h1
      clear hM hr hrun
      go_enter Try.func12, Try.ntmps12
      go_wp2_with fail
      refine (rmay_yes B _ _ _ _ _ HM.out HR.out hB).mono ?_
      rintro e w1 ⟨rfl, hb1⟩
      go_wp2
      go_ret2
      exact ⟨nowhere HN.out, hb1⟩
    · have d1 : decide (m < 1) = false := by simpa using h1
      have d2 : decide (4 < m) = true := by
        by_cases h : 4 < m
        · simpa using h
        · exact absurd ((runB_iff m).2 (by omega)) (by rw [hrun]; decide)
      clear hM hr hrun
      go_enter Try.func12, Try.ntmps12
      go_wp2_with fail
      refine (rmay_yes B _ _ _ _ _ HM.out HR.out hB).mono ?_
      rintro e w1 ⟨rfl, hb1⟩
      go_wp2
      go_ret2
      exact ⟨nowhere HN.out, hb1⟩
  · have hm := (runB_iff m).1 hrun
    obtain ⟨k, rfl⟩ : ∃ k : Nat, m = k := ⟨m.toNat, by omega⟩
    exact rfind_core B A n c f k w hM (by omega) (by omega) hr hB
end Go.Proofs.Ytofbebgcafpfhaa
