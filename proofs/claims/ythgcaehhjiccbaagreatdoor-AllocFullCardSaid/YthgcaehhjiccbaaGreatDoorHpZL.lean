/-
  Merged texts: PgFind, PgRefFind, PgFill, HpClone, HpCp.
-/
import Derived.Test.YthgcaehhjiccbaaGreatDoorHpZE
import Derived.Deep.LoopGhost
import Derived.Lib.SliceRun
import Derived.Test.YthgcaehhjiccbaaGreatDoorZHpNewP
import Derived.Test.YthgcaehhjiccbaaGreatDoorZHpEvery
section
namespace Go.Proofs.YthgcaehhjiccbaaGreatDoor.Cl
open Go.Proofs.YthgcaehhjiccbaaGreatDoor
set_option maxRecDepth 100000
open Go.RowKit

def findO (f : Nat → Int × Int) (n : Nat) (m : Int) : Option Nat := if mayB f n && runB m then (List.range (n + 1 - m.toNat)).find? (fun k => freeB f k m.toNat) else none
def findV (f : Nat → Int × Int) (n : Nat) (m : Int) : Int := match findO f n m with | some k => k | none => 0
def findS (f : Nat → Int × Int) (n : Nat) (m : Int) : Bool := (findO f n m).isSome
theorem findO_some {f : Nat → Int × Int} {n : Nat} {m : Int} {k : Nat} : findO f n m = some k ↔ mayB f n = true ∧ runB m = true ∧ k + m.toNat ≤ n ∧ freeB f k m.toNat = true ∧ ∀ j, j < k → freeB f j m.toNat = false := by
  unfold findO
  by_cases h : mayB f n = true ∧ runB m = true
  · have hm := (runB_iff m).1 h.2
    rw [if_pos (by simp [h.1, h.2]), List.find?_range_eq_some]
    simp only [h.1, h.2, true_and, List.mem_range, Bool.not_eq_true', and_left_comm]
    constructor
    · rintro ⟨a, b, c⟩; exact ⟨by omega, by simpa using b, c⟩
    · rintro ⟨a, b, c⟩; exact ⟨by omega, by simpa using b, c⟩
  · rw [if_neg (by simpa using h)]
    constructor
    · intro h'; cases h'
    · rintro ⟨a, b, _⟩; exact absurd ⟨a, b⟩ h
theorem findO_none {f : Nat → Int × Int} {n : Nat} {m : Int} (h : ∀ k, k + m.toNat ≤ n → freeB f k m.toNat = false) : findO f n m = none := by
  cases e : findO f n m with
  | none => rfl
  | some k =>
    have := findO_some.1 e
    rw [h k this.2.2.1] at this
    exact absurd this.2.2.2.1 (by decide)
theorem findO_bad {f : Nat → Int × Int} {n : Nat} {m : Int} (h : mayB f n = false ∨ runB m = false) : findO f n m = none := by
  cases e : findO f n m with
  | none => rfl
  | some k =>
    have := findO_some.1 e
    rcases h with h | h <;> rw [h] at this <;> simp at this
theorem found {f : Nat → Int × Int} {n : Nat} {m : Int} {k : Nat} (h : findO f n m = some k) :
    Ending.returned (.tuple #[.int .i64 k, .bool true]) = .returned (.tuple #[.int .i64 (findV f n m), .bool (findS f n m)]) := by
  unfold findV findS; rw [h]; rfl
theorem nowhere {f : Nat → Int × Int} {n : Nat} {m : Int} (h : findO f n m = none) :
    Ending.returned (.tuple #[.int .i64 0, .bool false]) = .returned (.tuple #[.int .i64 (findV f n m), .bool (findS f n m)]) := by
  unfold findV findS; rw [h]; rfl

/-- None of the places before j serves. -/
def Passed (f : Nat → Int × Int) (m : Nat) (j : Nat) : Prop := ∀ i, i < j → freeB f i m = false
theorem Passed.zero (f : Nat → Int × Int) (m : Nat) : Passed f m 0 := fun i h => absurd h (by omega)
theorem Passed.next {f : Nat → Int × Int} {m j : Nat} (h : Passed f m j) (hj : freeB f j m = false) : Passed f m (j + 1) := fun i hi => by
  by_cases e : i = j
  · rw [e]; exact hj
  · exact h i (by omega)
/-- The first t pages from j on are free. -/
def Open (f : Nat → Int × Int) (j t : Nat) : Prop := ∀ i, i < t → (f (j + i)).1 = 0
theorem Open.zero (f : Nat → Int × Int) (j : Nat) : Open f j 0 := fun i h => absurd h (by omega)
theorem Open.next {f : Nat → Int × Int} {j t : Nat} (h : Open f j t) (ht : (f (j + t)).1 = 0) : Open f j (t + 1) := fun i hi => by
  by_cases e : i = t
  · rw [e]; exact ht
  · exact h i (by omega)

set_option maxHeartbeats 2000000 in
theorem find_core (B : Nat) (A : Option Addr) (n c : Nat) (f : Nat → Int × Int) (m : Nat) (w : World) (hM : mayB f n = true) (hm1 : 1 ≤ m) (hm4 : m ≤ 4) (hnc : n ≤ c) (hr : PRow w B A n f) (hB : B ≤ w.heap.size) :
    Calls Tryz.prog 31 #[.slice A n c, .int .i64 m] w fun e w' => e = .returned (.tuple #[.int .i64 (findV f n m), .bool (findS f n m)]) ∧ Below w.heap.size w w' := by
  obtain ⟨n1, n64, -, -⟩ := (mayB_iff f n).1 hM
  have HM := Lib.hid hM
  have HR := Lib.hid hr
  have hrun : runB (m : Int) = true := (runB_iff _).2 (by omega)
  have HRun := Lib.hid hrun
  clear hM hr
  go_enter Tryz.func31, Tryz.ntmps31
  go_wp2
  go_step3
  go_wp2_with fail
  refine (may_yes B _ _ _ _ _ HM.out HR.out hB).mono ?_
  rintro e w1 ⟨rfl, hb1⟩
  have HB1 := Lib.hid hb1
  clear hb1
  go_wp2_with fail
  refine (isRun_any _ _).mono ?_
  rintro e w2 ⟨rfl, rfl⟩
  go_wp2
  go_step3
  go_wp2
  clear hrun
  go_loopg [22] (n + 1) (fun g i wr => ∃ j : Nat, j + g = n + 1 ∧ i = .int .i64 j ∧ Passed f m j ∧ Below w.heap.size w wr)
  case atStart => exact ⟨0, by omega, rfl, Passed.zero f m, HB1.out⟩
  case round =>
    obtain ⟨j, hj, rfl, hp, hb⟩ := hrel
    have HP := Lib.hid hp
    have HB := Lib.hid hb
    have hz := hb.size
    have HJ := Lib.hid hj
    have hj1 : j ≤ n + 1 := by omega
    clear hp hb hj
    obtain ⟨wo, rfl⟩ : ∃ wo : World, wo = wr := ⟨_, rfl⟩
    obtain ⟨go, rfl⟩ : ∃ go : Nat, go = gk := ⟨_, rfl⟩
    by_cases hlt : (j : Int) < n - m + 1
    · obtain ⟨b, off, rfl, hbB, -⟩ := (HR.out.over HB.out hB) (by omega)
      have HPart := Lib.hid (HR.out.part (k := j) (m := m) (by omega))
      have hd : decide ((j : Int) < n - m + 1) = true := by simpa using hlt
      go_wp2
      rw [show j + m - j = m by omega]
      go_loopg [32] m (fun g i wi => ∃ t : Nat, t + g = m ∧ i = .int .i64 t ∧ Open f j t ∧ Below w.heap.size w wi)
      case atStart => exact ⟨0, by omega, rfl, Open.zero f j, HB.out⟩
      case round =>
        obtain ⟨t, ht, rfl, ho, hb2⟩ := hrel
        have HO := Lib.hid ho
        have HB2 := Lib.hid hb2
        have hz2 := hb2.size
        have HG := Lib.hid ht
        have ht1 : t ≤ m := by omega
        clear ho ht
        by_cases htm : t < m
        · obtain ⟨b', off', ea, hb', hc'⟩ := ((HR.out.over hb2 hB).part (k := j) (m := m) (by omega)) (by omega)
          simp at ea
          obtain ⟨rfl, rfl⟩ := ea
          obtain ⟨p0, p1⟩ := hc' t htm
          clear hc' hb2
          by_cases hf : (f (j + t)).1 = 0
          · have HO2 := Lib.hid (HO.out.next hf)
            have e0 : ((f (j + t)).1 != 0) = false := by simpa using hf
            clear hf
            go_wp2
            go_roundg (gk - 1)
            case rel => exact ⟨t + 1, by have := HG.out; omega, by go_num, HO2.out, HB2.out.alloc hz2 _⟩
            case measure => have := HG.out; omega
          · have HP2 := Lib.hid (HP.out.next (freeB_not htm hf))
            have e0 : ((f (j + t)).1 != 0) = true := by simpa using hf
            clear hf
            go_wp2
            go_roundg (go - 1)
            case rel => exact ⟨j + 1, by have := HJ.out; omega, by go_num, HP2.out, HB2.out.alloc hz2 _⟩
            case measure => have := HJ.out; omega
        · obtain rfl : t = m := by omega
          have HF := Lib.hid (findO_some.2 ⟨HM.out, HRun.out, by simp; omega, by simpa using (freeB_iff f j t).2 HO.out, fun i hi => by rw [Int.toNat_natCast]; exact HP.out i hi⟩ : findO f n t = some j)
          clear hb2
          go_wp2
          try rw [Exit.noGoto_ret]
          go_ret2
          exact ⟨found HF.out, HB2.out⟩
    · have hd : decide ((j : Int) < n - m + 1) = false := by simpa using hlt
      have HN := Lib.hid (findO_none (f := f) (n := n) (m := m) (fun i hi => by have := HP.out i (by simp at hi; omega); simpa using this))
      go_wp2
      try rw [Exit.noGoto_ret]
      go_ret2
      exact ⟨nowhere HN.out, HB.out⟩
end Go.Proofs.YthgcaehhjiccbaaGreatDoor.Cl
end
section
namespace Go.Proofs.YthgcaehhjiccbaaGreatDoor.Cl
open Go.Proofs.YthgcaehhjiccbaaGreatDoor
set_option maxRecDepth 100000
open Go.RowKit

theorem isRun_no (c : Int) (w : World) (h : runB c = false) :
    Calls Tryz.prog 74 #[.int .i64 c] w fun e w' => e = .returned (.bool false) ∧ w = w' := by
  rw [← h]; exact isRun_any c w
theorem isRun_yes (c : Int) (w : World) (h : runB c = true) :
    Calls Tryz.prog 74 #[.int .i64 c] w fun e w' => e = .returned (.bool true) ∧ w = w' := by
  rw [← h]; exact isRun_any c w
theorem isClass_no (c : Int) (w : World) (h : clB c = false) :
    Calls Tryz.prog 128 #[.int .i64 c] w fun e w' => e = .returned (.bool false) ∧ w = w' := by
  rw [← h]; exact isClass_any c w
theorem isClass_yes (c : Int) (w : World) (h : clB c = true) :
    Calls Tryz.prog 128 #[.int .i64 c] w fun e w' => e = .returned (.bool true) ∧ w = w' := by
  rw [← h]; exact isClass_any c w

theorem pfind_any (B : Nat) (A : Option Addr) (n c : Nat) (f : Nat → Int × Int) (m : Int) (w : World) (hn : n ≤ 1000) (hnc : n ≤ c) (hr : PRow w B A n f) (hB : B ≤ w.heap.size) :
    Calls Tryz.prog 31 #[.slice A n c, .int .i64 m] w fun e w' => e = .returned (.tuple #[.int .i64 (findV f n m), .bool (findS f n m)]) ∧ Below w.heap.size w w' := by
  cases hM : mayB f n
  · have HN := Lib.hid (findO_bad (f := f) (n := n) (m := m) (.inl hM))
    have HM := Lib.hid hM
    have HR := Lib.hid hr
    clear hM hr
    go_enter Tryz.func31, Tryz.ntmps31
    go_wp2
    go_step3
    go_wp2_with fail
    refine (may_no B _ _ _ _ _ HM.out hn HR.out hB).mono ?_
    rintro e w1 ⟨rfl, hb1⟩
    go_wp2
    try rw [Exit.noGoto_ret]
    go_ret2
    exact ⟨nowhere HN.out, hb1⟩
  cases hrun : runB m
  · have HN := Lib.hid (findO_bad (f := f) (n := n) (m := m) (.inr hrun))
    have HM := Lib.hid hM
    have HR := Lib.hid hr
    have HRun := Lib.hid hrun
    clear hM hr hrun
    go_enter Tryz.func31, Tryz.ntmps31
    go_wp2
    go_step3
    go_wp2_with fail
    refine (may_yes B _ _ _ _ _ HM.out HR.out hB).mono ?_
    rintro e w1 ⟨rfl, hb1⟩
    go_wp2_with fail
    refine (isRun_no _ _ HRun.out).mono ?_
    rintro e w2 ⟨rfl, rfl⟩
    go_wp2
    try rw [Exit.noGoto_ret]
    go_ret2
    exact ⟨nowhere HN.out, hb1⟩
  · have hm := (runB_iff m).1 hrun
    obtain ⟨k, rfl⟩ : ∃ k : Nat, m = k := ⟨m.toNat, by omega⟩
    exact find_core B A n c f k w hM (by omega) (by omega) hnc hr hB

set_option maxHeartbeats 400000 in
theorem rfree_any (B : Nat) (A : Option Addr) (n c : Nat) (f : Nat → Int × Int) (a m : Nat) (w : World) (hn : n ≤ 1000) (ham : a + m ≤ n) (hr : PRow w B A n f) :
    Calls Tryz.prog 91 #[.slice A n c, .int .i64 a, .int .i64 m] w fun e w' => e = .returned (.bool (freeB f a m)) ∧ w = w' := by
  have HR := Lib.hid hr
  clear hr
  go_enter Tryz.func91, Tryz.ntmps91
  go_wp2
  go_loop [7] (fun i => ∃ q : Nat, a ≤ q ∧ q ≤ a + m ∧ i = .int .i64 q ∧ Open f a (q - a)) (fun i => a + m - (intOf i).toNat)
  case atStart => exact ⟨a, by omega, by omega, rfl, by rw [Nat.sub_self]; exact Open.zero f a⟩
  case round =>
    obtain ⟨q, hq1, hq2, rfl, ho⟩ := hrel
    have HO := Lib.hid ho
    clear ho
    by_cases hlt : q < a + m
    · obtain ⟨b, off, rfl, _, hc⟩ := HR.out (by omega)
      obtain ⟨c0, c1⟩ := hc q (by omega)
      have hd : decide ((q : Int) < a + m) = true := by simp; omega
      clear hc
      by_cases hf : (f q).1 = 0
      · have HO2 := Lib.hid (HO.out.next (by rw [show a + (q - a) = q by omega]; exact hf))
        have e0 : ((f q).1 != 0) = false := by simpa using hf
        clear hf
        go_wp2
        go_round
        case rel => exact ⟨q + 1, by omega, by omega, by go_num, by rw [show q + 1 - a = q - a + 1 by omega]; exact HO2.out⟩
        case measure => simp [intOf]; omega
      · have HF := Lib.hid (freeB_not (f := f) (a := a) (n := m) (j := q - a) (by omega) (by rw [show a + (q - a) = q by omega]; exact hf))
        have e0 : ((f q).1 != 0) = true := by simpa using hf
        clear hf
        go_wp2
        go_ret
        exact ⟨rint HF.out.symm, rfl⟩
    · have hd : decide ((q : Int) < a + m) = false := by simp; omega
      have HF := Lib.hid ((freeB_iff f a m).2 (by have := HO.out; rwa [show q - a = m by omega] at this))
      go_wp2
      go_ret
      exact ⟨rint HF.out.symm, rfl⟩
theorem rfree_yes (B : Nat) (A : Option Addr) (n c : Nat) (f : Nat → Int × Int) (a m : Nat) (w : World) (h : freeB f a m = true) (hn : n ≤ 1000) (ham : a + m ≤ n) (hr : PRow w B A n f) :
    Calls Tryz.prog 91 #[.slice A n c, .int .i64 a, .int .i64 m] w fun e w' => e = .returned (.bool true) ∧ w = w' := by
  rw [← h]; exact rfree_any B A n c f a m w hn ham hr
theorem rfree_no (B : Nat) (A : Option Addr) (n c : Nat) (f : Nat → Int × Int) (a m : Nat) (w : World) (h : freeB f a m = false) (hn : n ≤ 1000) (ham : a + m ≤ n) (hr : PRow w B A n f) :
    Calls Tryz.prog 91 #[.slice A n c, .int .i64 a, .int .i64 m] w fun e w' => e = .returned (.bool false) ∧ w = w' := by
  rw [← h]; exact rfree_any B A n c f a m w hn ham hr

set_option maxHeartbeats 1000000 in
theorem rfind_core (B : Nat) (A : Option Addr) (n c : Nat) (f : Nat → Int × Int) (m : Nat) (w : World) (hM : mayB f n = true) (hm1 : 1 ≤ m) (hm4 : m ≤ 4) (hr : PRow w B A n f) (hB : B ≤ w.heap.size) :
    Calls Tryz.prog 51 #[.slice A n c, .int .i64 m] w fun e w' => e = .returned (.tuple #[.int .i64 (findV f n m), .bool (findS f n m)]) ∧ Below w.heap.size w w' := by
  obtain ⟨n1, n64, -, -⟩ := (mayB_iff f n).1 hM
  have HM := Lib.hid hM
  have HR := Lib.hid hr
  have HRun := Lib.hid ((runB_iff (m : Int)).2 (by omega))
  clear hM hr
  go_enter Tryz.func51, Tryz.ntmps51
  go_wp2_with fail
  refine (rmay_yes B _ _ _ _ _ HM.out HR.out hB).mono ?_
  rintro e w1 ⟨rfl, hb1⟩
  have HR1 := Lib.hid (HR.out.over hb1 hB)
  have HB1 := Lib.hid hb1
  clear hb1
  have d1 : decide ((m : Int) < 1) = false := by simp; omega
  have d2 : decide (4 < (m : Int)) = false := by simp; omega
  go_wp2
  go_loop [7] (fun i => ∃ j : Nat, j ≤ n ∧ i = .int .i64 j ∧ Passed f m j) (fun i => n + 1 - (intOf i).toNat)
  case atStart => exact ⟨0, by omega, rfl, Passed.zero f m⟩
  case round =>
    obtain ⟨j, hj, rfl, hp⟩ := hrel
    have HP := Lib.hid hp
    clear hp
    by_cases hlt : j + m ≤ n
    · have hd : decide ((j : Int) + m ≤ n) = true := by simp; omega
      cases hf : freeB f j m
      · have HF := Lib.hid hf
        clear hf
        go_wp2_with fail
        refine (rfree_no B _ _ _ _ _ _ _ HF.out (by omega) hlt HR1.out).mono ?_
        rintro e w2 ⟨rfl, rfl⟩
        go_wp2
        go_round
        case rel => exact ⟨j + 1, by omega, by go_num, HP.out.next HF.out⟩
        case measure => simp [intOf]; omega
      · have HF := Lib.hid hf
        have HO := Lib.hid (findO_some.2 ⟨HM.out, HRun.out, by simp; omega, by simpa using hf, fun i hi => by rw [Int.toNat_natCast]; exact HP.out i hi⟩ : findO f n m = some j)
        clear hf
        go_wp2_with fail
        refine (rfree_yes B _ _ _ _ _ _ _ HF.out (by omega) hlt HR1.out).mono ?_
        rintro e w2 ⟨rfl, rfl⟩
        go_wp2
        go_ret2
        exact ⟨found HO.out, HB1.out⟩
    · have hd : decide ((j : Int) + m ≤ n) = false := by simp; omega
      have HN := Lib.hid (findO_none (f := f) (n := n) (m := m) (fun i hi => by have := HP.out i (by simp at hi; omega); simpa using this))
      go_wp2
      go_ret2
      exact ⟨nowhere HN.out, HB1.out⟩

theorem rfind_any (B : Nat) (A : Option Addr) (n c : Nat) (f : Nat → Int × Int) (m : Int) (w : World) (hn : n ≤ 1000) (hr : PRow w B A n f) (hB : B ≤ w.heap.size) :
    Calls Tryz.prog 51 #[.slice A n c, .int .i64 m] w fun e w' => e = .returned (.tuple #[.int .i64 (findV f n m), .bool (findS f n m)]) ∧ Below w.heap.size w w' := by
  cases hM : mayB f n
  · have HN := Lib.hid (findO_bad (f := f) (n := n) (m := m) (.inl hM))
    have HM := Lib.hid hM
    have HR := Lib.hid hr
    clear hM hr
    go_enter Tryz.func51, Tryz.ntmps51
    go_wp2_with fail
    refine (rmay_no B _ _ _ _ _ HM.out hn HR.out hB).mono ?_
    rintro e w1 ⟨rfl, hb1⟩
    go_wp2
    go_ret2
    exact ⟨nowhere HN.out, hb1⟩
  cases hrun : runB m
  · have HN := Lib.hid (findO_bad (f := f) (n := n) (m := m) (.inr hrun))
    have HM := Lib.hid hM
    have HR := Lib.hid hr
    by_cases h1 : m < 1
    · have d1 : decide (m < 1) = true := by simpa using h1
      clear hM hr hrun
      go_enter Tryz.func51, Tryz.ntmps51
      go_wp2_with fail
      refine (rmay_yes B _ _ _ _ _ HM.out HR.out hB).mono ?_
      rintro e w1 ⟨rfl, hb1⟩
      go_wp2
      go_ret2
      exact ⟨nowhere HN.out, hb1⟩
    · have d1 : decide (m < 1) = false := by simpa using h1
      have d2 : decide (4 < m) = true := by
        by_cases h : 4 < m
        · simpa using h
        · exact absurd ((runB_iff m).2 (by omega)) (by rw [hrun]; decide)
      clear hM hr hrun
      go_enter Tryz.func51, Tryz.ntmps51
      go_wp2_with fail
      refine (rmay_yes B _ _ _ _ _ HM.out HR.out hB).mono ?_
      rintro e w1 ⟨rfl, hb1⟩
      go_wp2
      go_ret2
      exact ⟨nowhere HN.out, hb1⟩
  · have hm := (runB_iff m).1 hrun
    obtain ⟨k, rfl⟩ : ∃ k : Nat, m = k := ⟨m.toNat, by omega⟩
    exact rfind_core B A n c f k w hM (by omega) (by omega) hr hB
end Go.Proofs.YthgcaehhjiccbaaGreatDoor.Cl
end
section
namespace Go.Proofs.YthgcaehhjiccbaaGreatDoor.Cl
open Go.Proofs.YthgcaehhjiccbaaGreatDoor
set_option maxRecDepth 100000
open Go.RowKit

theorem info_page : (Tryz.prog.info? 61).map (fun i => (i.zero, i.size, i.bytes)) = some (some (.agg #[.int .i64 0, .int .i64 0]), 2, 16) := by kernel_rfl

/-- The row's block is as it was. -/
theorem PMine.kept {w w' : World} {base e g n c : Nat} {f : Nat → Int × Int} (h : PMine w base e g n c f) (hg : w'.heap[g]? = w.heap[g]?) (hs : w.heap.size ≤ w'.heap.size) : PMine w' base e g n c f := by
  obtain ⟨⟨h1, h2⟩, h3, h4, h5⟩ := h
  refine ⟨⟨h1, ?_⟩, h3, by omega, h5⟩
  rcases h2 with h2 | ⟨g', cap, cur, hv, hb, hh, hr⟩
  · exact .inl h2
  · simp only [Value.slice.injEq, Option.some.injEq, Addr.mk.injEq, and_true, true_and] at hv
    obtain ⟨rfl, rfl⟩ := hv
    exact .inr ⟨g, c, cur, rfl, hb, hg.trans hh, hr⟩
theorem PMine.alloc {w : World} {base e g n c : Nat} {f : Nat → Int × Int} (h : PMine w base e g n c f) (o : Obj) : PMine (w.alloc o) base e g n c f :=
  h.kept (Below.heap_alloc w o g h.2.2.1) (by simp)
theorem PMine.below {w w' : World} {base e g n c B : Nat} {f : Nat → Int × Int} (h : PMine w base e g n c f) (hb : Below B w w') (hg : g < B) : PMine w' base e g n c f :=
  h.kept (hb.block g hg) hb.size

/-- Pages a to a + m are p. -/
def fillF (f : Nat → Int × Int) (a m : Nat) (p : Int × Int) : Nat → Int × Int := fun j => if a ≤ j ∧ j < a + m then p else f j
theorem fillF_zero (f : Nat → Int × Int) (a : Nat) (p : Int × Int) : fillF f a 0 p = f := by
  funext j
  exact if_neg (by omega)
theorem fillF_succ (f : Nat → Int × Int) (a m : Nat) (p : Int × Int) : put (fillF f a m p) (a + m) p = fillF f a (m + 1) p := by
  funext j
  unfold put fillF
  by_cases e : j = a + m
  · rw [if_pos e, if_pos (by omega)]
  · rw [if_neg e]
    by_cases h : a ≤ j ∧ j < a + m
    · rw [if_pos h, if_pos (by omega)]
    · rw [if_neg h, if_neg (by omega)]

/-- A copy of the call's own was returned; all that was there is as it was. -/
def PMade (w : World) (n : Nat) (f : Nat → Int × Int) (e : Ending) (w' : World) : Prop :=
  ∃ g c, e = .returned (.slice (some ⟨g, 0, none⟩) n c) ∧ PMine w' w.heap.size 61 g n c f ∧ Below w.heap.size w w'

theorem pcells_of {w : World} {b off n : Nat} {f : Nat → Int × Int} (hc : ∀ i, i < n → w.cell? ⟨b, off + i * 2, none⟩ = some (.int .i64 (f i).1) ∧ w.cell? ⟨b, off + i * 2 + 1, none⟩ = some (.int .i64 (f i).2))
    (j : Nat) (u : Value) (hj : (pcells f n)[j]? = some u) : w.cell? ⟨b, off + j, none⟩ = some u := by
  have hjn : j < n * 2 := by
    have := (List.getElem?_eq_some_iff.1 hj).1
    rwa [pcells_length] at this
  rw [pcells_at f n j hjn] at hj
  obtain rfl := Option.some.inj hj
  by_cases hm : j % 2 = 0
  · have := (hc (j / 2) (by omega)).1
    rw [show off + j / 2 * 2 = off + j by omega] at this
    rw [this]
    simp [pcell, hm]
  · have := (hc (j / 2) (by omega)).2
    rw [show off + j / 2 * 2 + 1 = off + j by omega] at this
    rw [this]
    simp [pcell, hm]
theorem pcells_one {f : Nat → Int × Int} {n : Nat} : ∀ u ∈ pcells f n, u.oneCell' = true := by
  intro u hu
  obtain ⟨x, _, rfl⟩ := List.mem_map.1 hu
  rfl

theorem pclone_ok (B : Nat) (A : Option Addr) (n c : Nat) (f : Nat → Int × Int) (w : World) (hn : 0 < n) (hbig : n ≤ 1000) (hr : PRow w B A n f) :
    Calls Tryz.prog 77 #[.slice A n c] w (PMade w n f) := by
  obtain ⟨i0, hi, hz0, hz1, hz2⟩ := info_parts info_page
  obtain ⟨b, off, rfl, _, hc⟩ := hr hn
  have HC := Lib.hid hc
  have q22 : ∀ (w : World) (a : Option Addr) (n c n' c' : Nat), (binOp .eql 23 (.slice a n c) (.slice none n' c')).run Tryz.prog w = .ok (.bool a.isNone) w := fun w a n c n' c' => Lib.run_eql_slice_nil w _ _ a n c n' c' Tryz.underlying23
  have u22 : ∀ w, Sem.run Tryz.prog (underlying 23) w = .ok (TypeDesc.slice 61) w := run_underlying Tryz.underlying23
  clear hc hr
  go_enter Tryz.func77, Tryz.ntmps77
  go_wp2_with (at_builtin; refine wpList_append_own _ rfl _ _ 23 rfl w.heap.size 61 i0 (.agg #[.int .i64 0, .int .i64 0]) 2 16 Tryz.underlying23 hi hz0 hz1 hz2 rfl (by decide) _ _ _ rfl (World.ownsRow_made w #[] 0 (Nat.le_refl _) (Nat.zero_le _) rfl) ⟨b, off, none⟩ n c (pcells f n) rfl ?qc1 ?qc2 ?qc3 ?qc4 ?qc5 ?qc6 ?_)
  case qc1 => exact pcells_length f n
  case qc2 =>
    intro j u hj
    rw [Addr.add_lit]
    exact Lib.cell?_alloc_some _ (pcells_of HC.out j u hj)
  case qc3 => exact pcells_one
  case qc4 => unfold maxLen; omega
  case qc5 => omega
  case qc6 => simp
  intro v' w1 hown hgrow hnil
  have hown' : w1.ownsRow w.heap.size 61 2 v' n (pcells f n) := by simpa using hown
  obtain ⟨g, c', rfl, hm⟩ := pmine_of hown' hn
  have HM := Lib.hid hm
  clear hown hown' hnil hm
  go_wp2
  go_ret
  exact ⟨g, c', rfl, HM.out, ((Below.refl _ w).alloc (Nat.le_refl _) _).grown hgrow (by simp) (by intro k hk; simp [Value.ownBlock] at hk; omega)⟩

/-- Pages of a row of the caller's own were filled. -/
def Filled (w : World) (base g n c : Nat) (f : Nat → Int × Int) (e : Ending) (w' : World) : Prop :=
  e = .returned (.tuple #[]) ∧ PMine w' base 61 g n c f ∧ Below base w w'
set_option maxHeartbeats 400000 in
theorem fill_any (base g n c cc a m : Nat) (f : Nat → Int × Int) (p : Int × Int) (w : World) (hn : n ≤ 1000) (ham : a + m ≤ n) (hb0 : base ≤ w.heap.size) (h : PMine w base 61 g n c f) :
    Calls Tryz.prog 143 #[.slice (some ⟨g, a * 2, none⟩) m cc, .agg #[.int .i64 p.1, .int .i64 p.2]] w (Filled w base g n c (fillF f a m p)) := by
  obtain ⟨p0, p1⟩ := p
  have hg := h.2.2.1
  have hbg := h.2.1
  have HM := Lib.hid (h.alloc (.cells #[.int .i64 p0, .int .i64 p1] 61))
  clear h
  go_enter Tryz.func143, Tryz.ntmps143
  go_wp2
  go_loopw [7] (fun i wr => ∃ k : Nat, k ≤ m ∧ i = .int .i64 k ∧ PMine wr base 61 g n c (fillF f a k (p0, p1)) ∧ Below base w wr ∧ w.heap.size < wr.heap.size ∧
    wr.cell? ⟨w.heap.size, 0, none⟩ = some (.int .i64 p0) ∧ wr.cell? ⟨w.heap.size, 1, none⟩ = some (.int .i64 p1)) (fun i _ => m - (intOf i).toNat)
  case atStart => exact ⟨0, Nat.zero_le _, rfl, by rw [fillF_zero]; exact HM.out, (Below.refl _ _).alloc hb0 _, by simp, by simp [go_sem], by simp [go_sem]⟩
  case round =>
    obtain ⟨k, hk, rfl, hm, hb, hsz, c0, c1⟩ := hrel
    have HB := Lib.hid hb
    have HK := Lib.hid hm
    have hz := hb.size
    by_cases hlt : k < m
    · have f0 := hm.free (a * 2 + k * 2)
      have f1 := hm.free (a * 2 + k * 2 + 1)
      have hgr := hm.2.2.1
      obtain ⟨d0, d1⟩ := hm.cells (a + k) (by omega)
      rw [show (a + k) * 2 = a * 2 + k * 2 by omega] at d0 d1
      clear hm hb
      go_wp2
      go_roundw
      case rel =>
        refine ⟨k + 1, by omega, by go_num, ?_, ?_, ?_, ?_, ?_⟩
        · have := HK.out.stored (a + k) (p0, p1)
          rw [show (a + k) * 2 = a * 2 + k * 2 by omega, fillF_succ] at this
          exact this
        · exact (HB.out.setCell (by simpa using hbg) _).setCell (by simpa using hbg) _
        · simpa using hsz
        · simp [go_sem, c0]
        · simp [go_sem, c1]
      case measure => simp [intOf]; omega
    · obtain rfl : k = m := by omega
      clear hm hb
      go_wp2
      go_end0
      exact ⟨rfl, HK.out, HB.out⟩
end Go.Proofs.YthgcaehhjiccbaaGreatDoor.Cl
end
section
namespace Go.Proofs.YthgcaehhjiccbaaGreatDoor
open Go.RowKit
set_option maxRecDepth 100000

theorem iclone_any (B : Nat) (A : Option Addr) (n c : Nat) (xs : List Int) (w : World) (hn : n ≤ 2000000) (hB : B ≤ w.heap.size) (hr : Row w B A n xs) :
    Calls Tryz.prog 76 #[.slice A n c] w (Ls.AllOut w xs) := by
  have HR := Lib.hid hr
  have q22 : ∀ (w : World) (a : Option Addr) (n c n' c' : Nat), (binOp .eql 22 (.slice a n c) (.slice none n' c')).run Tryz.prog w = .ok (.bool a.isNone) w := fun w a n c n' c' => Lib.run_eql_slice_nil w _ _ a n c n' c' Tryz.underlying22
  have hl := hr.1
  have hA : A = none → n = 0 ∧ xs = [] := fun e => by
    by_cases h0 : n = 0
    · exact ⟨h0, List.eq_nil_of_length_eq_zero (by omega)⟩
    · obtain ⟨b, off, e', _⟩ := hr.2 (by omega)
      rw [e] at e'
      cases e'
  clear hr hl
  cases A with
  | none =>
    obtain ⟨rfl, rfl⟩ := hA rfl
    clear hA
    go_enter Tryz.func76, Tryz.ntmps76
    go_wp2
    go_ret
    exact ⟨⟨none, 0, 0⟩, rfl, World.ownsRow_nil _ _ _ _, Below.refl _ _⟩
  | some x =>
    clear hA
    go_enter Tryz.func76, Tryz.ntmps76
    go_wp2_with (at_builtin; refine Ls.list_cat rfl (.tmp 5) (.tmp 6) rfl rfl rfl (xs := []) (World.ownsRow_made w #[] 0 (Nat.le_refl _) (Nat.zero_le _) rfl) (HR.out.below ((Below.refl B w).alloc hB _)) (by simp) (by omega) ?_)
    intro p' cp' w1 hcat
    have ho := hcat.own
    have hg := hcat.grown
    have HO := Lib.hid ho
    have HG := Lib.hid hg
    clear hcat ho hg
    go_wp2
    go_ret
    exact ⟨⟨p', n, cp'⟩, rfl, HO.out, ((Below.refl _ w).alloc (Nat.le_refl _) _).grown HG.out (by simp) (by intro k hk; simp [Value.ownBlock] at hk; omega)⟩

def bcells (f : Nat → Bool) (n : Nat) : List Value := (List.range n).map fun i => .bool (f i)
theorem bcells_at (f : Nat → Bool) (n i : Nat) (h : i < n) : (bcells f n)[i]? = some (.bool (f i)) := by simp [bcells, h]
theorem info_boolC : (Tryz.prog.info? 4).map (fun i => (i.zero, i.size, i.bytes)) = some (some (.bool false), 1, 1) := by kernel_rfl
/-- A row of truth values in a block of the call's own. -/
def BMade (w : World) (n : Nat) (f : Nat → Bool) (e : Ending) (w' : World) : Prop :=
  ∃ g c, e = .returned (.slice (some ⟨g, 0, none⟩) n c) ∧ (∀ i, i < n → w'.cell? ⟨g, i, none⟩ = some (.bool (f i))) ∧ w.heap.size ≤ g ∧ g < w'.heap.size ∧ Below w.heap.size w w'
theorem bmade_of {w w1 : World} {v : Value} {n : Nat} {f : Nat → Bool} (h : w1.ownsRow w.heap.size 4 1 v n (bcells f n)) (hn : 0 < n) :
    ∃ g c, v = .slice (some ⟨g, 0, none⟩) n c ∧ (∀ i, i < n → w1.cell? ⟨g, i, none⟩ = some (.bool (f i))) ∧ w.heap.size ≤ g ∧ g < w1.heap.size := by
  rcases h.2 with ⟨rfl, h0⟩ | ⟨g, c, cur, rfl, hb, hh, hnc, hcm, _⟩
  · omega
  · exact ⟨g, c, rfl, fun i hi => (h.cellAt i (by omega)).trans (bcells_at f n i hi), hb, (Array.getElem?_eq_some_iff.1 hh).1⟩
theorem bclone_ok (B : Nat) (A : Option Addr) (n c : Nat) (f : Nat → Bool) (w : World) (hn : 0 < n) (hbig : n ≤ 1000000) (hr : BRow w B A n f) :
    Calls Tryz.prog 78 #[.slice A n c] w (BMade w n f) := by
  obtain ⟨i0, hi, hz0, hz1, hz2⟩ := info_parts info_boolC
  obtain ⟨b, off, rfl, _, hc⟩ := hr hn
  have HC := Lib.hid hc
  have q22 : ∀ (w : World) (a : Option Addr) (n c n' c' : Nat), (binOp .eql 26 (.slice a n c) (.slice none n' c')).run Tryz.prog w = .ok (.bool a.isNone) w := fun w a n c n' c' => Lib.run_eql_slice_nil w _ _ a n c n' c' Tryz.underlying26
  have u22 : ∀ w, Sem.run Tryz.prog (underlying 26) w = .ok (TypeDesc.slice 4) w := run_underlying Tryz.underlying26
  clear hc hr
  go_enter Tryz.func78, Tryz.ntmps78
  go_wp2_with (at_builtin; refine wpList_append_own _ rfl _ _ 26 rfl w.heap.size 4 i0 (.bool false) 1 1 Tryz.underlying26 hi hz0 hz1 hz2 rfl (by decide) _ _ _ rfl (World.ownsRow_made w #[] 0 (Nat.le_refl _) (Nat.zero_le _) rfl) ⟨b, off, none⟩ n c (bcells f n) rfl ?qc1 ?qc2 ?qc3 ?qc4 ?qc5 ?qc6 ?_)
  case qc1 => simp [bcells]
  case qc2 =>
    intro j u hj
    rw [Addr.add_lit]
    have hjn : j < n := by
      have := (List.getElem?_eq_some_iff.1 hj).1
      simpa [bcells] using this
    rw [bcells_at f n j hjn] at hj
    rw [← hj]
    exact Lib.cell?_alloc_some _ (HC.out j hjn)
  case qc3 =>
    intro u hu
    obtain ⟨x, _, rfl⟩ := List.mem_map.1 hu
    rfl
  case qc4 => unfold maxLen; omega
  case qc5 => omega
  case qc6 => simp
  intro v' w1 hown hgrow hnil
  have hown' : w1.ownsRow w.heap.size 4 1 v' n (bcells f n) := by simpa using hown
  obtain ⟨g, c', rfl, hm, hb, hl⟩ := bmade_of hown' hn
  have HM := Lib.hid hm
  clear hown hown' hnil hm
  go_wp2
  go_ret
  exact ⟨g, c', rfl, HM.out, hb, hl, ((Below.refl _ w).alloc (Nat.le_refl _) _).grown hgrow (by simp) (by intro k hk; simp [Value.ownBlock] at hk; omega)⟩
end Go.Proofs.YthgcaehhjiccbaaGreatDoor
end
section
namespace Go.Proofs.YthgcaehhjiccbaaGreatDoor
open Go.RowKit
set_option maxRecDepth 100000

/-- A box of six cells that are not frozen. -/
structure Box6 (W : World) (b : Nat) (t : Hs) : Prop where
  box : HBox W b t
  free : ∀ j, W.frozen? ⟨b, j, none⟩ = false
/-- Of such a heap's slices none lies in the two boxes. -/
def Off (b : Nat) (v : Ls.Sl) : Prop := 0 < v.n → ∀ x, v.a = some x → ¬ x.block = b ∧ ¬ x.block = b + 1
/-- A slice in new memory. -/
def New (b : Nat) (v : Ls.Sl) : Prop := 0 < v.n → ∀ x, v.a = some x → b ≤ x.block
/-- A heap that is being copied: what the box holds so far. -/
structure Cp (w W : World) (t : Hs) (d : Hd_) : Prop where
  bel : Below w.heap.size w W
  hp : Hp W W.heap.size t d
  ow : Off w.heap.size t.w
  op : Off w.heap.size t.p
  ou : ∀ j, j < 3 → Off w.heap.size (t.u j)
  oc : Off w.heap.size t.c
  box : Box6 W w.heap.size t
  res : Box6 W (w.heap.size + 1) noHs
theorem Box6.next {W W' : World} {b : Nat} {t : Hs} (h : Box6 W b t) (hb : Below W.heap.size W W') : Box6 W' b t := ⟨h.box.next hb, fun j => (hb.frozen (p := ⟨b, j, none⟩) h.box.lt).trans (h.free j)⟩
theorem Box6.same {W W' : World} {b : Nat} {t : Hs} (h : Box6 W b t) (hs : W'.heap[b]? = W.heap[b]?) (hl : W.heap.size ≤ W'.heap.size) : Box6 W' b t :=
  ⟨⟨(World.cell?_of_block (a := ⟨b, 0, none⟩) hs).trans h.box.c0, (World.cell?_of_block (a := ⟨b, 1, none⟩) hs).trans h.box.c1, (World.cell?_of_block (a := ⟨b, 2, none⟩) hs).trans h.box.c2, (World.cell?_of_block (a := ⟨b, 3, none⟩) hs).trans h.box.c3, (World.cell?_of_block (a := ⟨b, 4, none⟩) hs).trans h.box.c4, (World.cell?_of_block (a := ⟨b, 5, none⟩) hs).trans h.box.c5, Nat.lt_of_lt_of_le h.box.lt hl⟩,
   fun j => (World.frozen?_of_block (a := ⟨b, j, none⟩) hs).trans (h.free j)⟩
theorem Cp.next {w W W' : World} {t : Hs} {d : Hd_} (h : Cp w W t d) (hb : Below W.heap.size W W') : Cp w W' t d :=
  ⟨h.bel.trans (hb.mono h.bel.size), h.hp.next hb, h.ow, h.op, h.ou, h.oc, h.box.next hb, h.res.next hb⟩
/-- All slices stand where only the first box is turned. -/
theorem hp_off {W W' : World} {b : Nat} {t : Hs} {d : Hd_} (h : Hp W W.heap.size t d) (ow : Off b t.w) (op : Off b t.p) (ou : ∀ j, j < 3 → Off b (t.u j)) (oc : Off b t.c) (hs : ∀ k, ¬ k = b → ¬ k = b + 1 → W'.heap[k]? = W.heap[k]?) (hl : W.heap.size = W'.heap.size) : Hp W' W'.heap.size t d := by
  rw [← hl]
  refine ⟨row_same h.words fun hn x hx => hs _ (ow hn x hx).1 (ow hn x hx).2, fun hn => ?_, fun j hj => ⟨row_same (h.free j hj).1 fun hn x hx => hs _ (ou j hj hn x hx).1 (ou j hj hn x hx).2, (h.free j hj).2⟩, fun hn => ?_⟩
  · obtain ⟨b', off, e, hlt, hc⟩ := h.pages hn
    refine ⟨b', off, e, hlt, fun i hi => ?_⟩
    have hb' := hs b' (op hn _ e).1 (op hn _ e).2
    exact ⟨(World.cell?_of_block (a := ⟨b', off + i * 2, none⟩) hb').trans (hc i hi).1, (World.cell?_of_block (a := ⟨b', off + i * 2 + 1, none⟩) hb').trans (hc i hi).2⟩
  · obtain ⟨b', off, e, hlt, hc⟩ := h.cards hn
    refine ⟨b', off, e, hlt, fun i hi => ?_⟩
    exact (World.cell?_of_block (a := ⟨b', off + i, none⟩) (hs b' (oc hn _ e).1 (oc hn _ e).2)).trans (hc i hi)
theorem frozen_set {W : World} {b k : Nat} {v : Value} (h : ∀ j, W.frozen? ⟨b, j, none⟩ = false) : ∀ j, (W.setCell ⟨b, k, none⟩ v).frozen? ⟨b, j, none⟩ = false := fun j => by rw [World.frozen?_setCell]; exact h j
theorem cell_set {W : World} {b k j : Nat} {v x y : Value} (h : W.cell? ⟨b, j, none⟩ = some x) (hy : y = if j = k then v else x) : (W.setCell ⟨b, k, none⟩ v).cell? ⟨b, j, none⟩ = some y := by
  subst hy
  by_cases e : j = k
  · subst e
    rw [if_pos rfl]
    exact World.cell?_setCell_same' _ _ _ (by rw [h]; rfl)
  · rw [if_neg e, World.cell?_setCell_other _ _ _ _ (by intro hh; simp only [Addr.mk.injEq, true_and, and_true] at hh; omega)]
    exact h
/-- One cell of the box is turned: the heap with that slice in the place of the old one. -/
theorem Cp.set {w W : World} {t t' : Hs} {d : Hd_} (h : Cp w W t d) (k : Nat) (v : Value) (hp : Hp W W.heap.size t' d) (ow : Off w.heap.size t'.w) (op : Off w.heap.size t'.p) (ou : ∀ j, j < 3 → Off w.heap.size (t'.u j)) (oc : Off w.heap.size t'.c)
    (e0 : Value.slice t'.w.a t'.w.n t'.w.c = if 0 = k then v else .slice t.w.a t.w.n t.w.c) (e1 : Value.slice t'.p.a t'.p.n t'.p.c = if 1 = k then v else .slice t.p.a t.p.n t.p.c)
    (e2 : Value.slice (t'.u 0).a (t'.u 0).n (t'.u 0).c = if 2 = k then v else .slice (t.u 0).a (t.u 0).n (t.u 0).c) (e3 : Value.slice (t'.u 1).a (t'.u 1).n (t'.u 1).c = if 3 = k then v else .slice (t.u 1).a (t.u 1).n (t.u 1).c)
    (e4 : Value.slice (t'.u 2).a (t'.u 2).n (t'.u 2).c = if 4 = k then v else .slice (t.u 2).a (t.u 2).n (t.u 2).c) (e5 : Value.slice t'.c.a t'.c.n t'.c.c = if 5 = k then v else .slice t.c.a t.c.n t.c.c) :
    Cp w (W.setCell ⟨w.heap.size, k, none⟩ v) t' d := by
  have hsz : W.heap.size = (W.setCell ⟨w.heap.size, k, none⟩ v).heap.size := by simp [World.setCell]
  have hoth : ∀ j, ¬ j = w.heap.size → (W.setCell ⟨w.heap.size, k, none⟩ v).heap[j]? = W.heap[j]? := fun j hj => Below.heap_setCell _ _ _ _ hj
  exact ⟨h.bel.setCell (Nat.le_refl _) _, hp_off hp ow op ou oc (fun j hj _ => hoth j hj) hsz, ow, op, ou, oc,
    ⟨⟨cell_set h.box.box.c0 e0, cell_set h.box.box.c1 e1, cell_set h.box.box.c2 e2, cell_set h.box.box.c3 e3, cell_set h.box.box.c4 e4, cell_set h.box.box.c5 e5, by rw [← hsz]; exact h.box.box.lt⟩, frozen_set h.box.free⟩,
    h.res.same (hoth _ (by omega)) (Nat.le_of_eq hsz)⟩
theorem Cp.drew {w W : World} {t : Hs} {d : Hd_} (h : Cp w W t d) : Cp w W.drew t d := h.next (below_drawn' (Below.refl _ _) 1)
theorem off_old {w : World} {b : Nat} {v : Ls.Sl} {xs : List Int} (h : Row w b v.a v.n xs) : Off b v := fun hn x hx => by
  obtain ⟨b', off, e, hlt, _⟩ := h.2 hn
  rw [hx] at e
  cases e
  exact ⟨by show ¬ b' = b; omega, by show ¬ b' = b + 1; omega⟩
theorem off_new {b g : Nat} (n c o : Nat) (h : b + 2 ≤ g) : Off b ⟨some ⟨g, o, none⟩, n, c⟩ := fun _ x hx => by
  cases hx
  exact ⟨by show ¬ g = b; omega, by show ¬ g = b + 1; omega⟩
/-- A slice that a call made, as a row, and apart from the boxes. -/
theorem own_off {b base : Nat} {W : World} {v : Ls.Sl} {xs : List Int} (ho : W.ownsRow base 3 1 (.slice v.a v.n v.c) v.n (xs.map (Value.int .i64))) (hb : b + 2 ≤ base) : Row W W.heap.size v.a v.n xs ∧ v.n ≤ v.c ∧ v.c ≤ maxLen ∧ Off b v ∧ New b v := by
  obtain ⟨a, c, e, hr, h1, h2⟩ := Ls.owns_row ho
  simp only [Value.slice.injEq, true_and] at e
  obtain ⟨rfl, rfl⟩ := e
  refine ⟨hr, h1, h2, fun _ x hx => ?_, fun _ x hx => ?_⟩
  · have := (ho.lt x.block (by rw [Ls.ownBlock_slice, hx]; rfl)).1
    exact ⟨by omega, by omega⟩
  · have := (ho.lt x.block (by rw [Ls.ownBlock_slice, hx]; rfl)).1
    omega
theorem new_new {b g : Nat} (n c o : Nat) (h : b + 2 ≤ g) : New b ⟨some ⟨g, o, none⟩, n, c⟩ := fun _ x hx => by
  cases hx
  show b ≤ g
  omega
/-- What copied leaves: the same heap, in memory of its own. -/
structure News (b : Nat) (t : Hs) : Prop where
  w : New b t.w
  p : New b t.p
  u : ∀ j, j < 3 → New b (t.u j)
  c : New b t.c
/-- A heap in new memory stands where nothing of that is turned. -/
theorem News.kept {b : Nat} {t : Hs} {d : Hd_} {W W' : World} (hn : News b t) (h : Hp W W.heap.size t d) (hs : ∀ k, b ≤ k → k < W.heap.size → W'.heap[k]? = W.heap[k]?) (hl : W.heap.size ≤ W'.heap.size) : Hp W' W'.heap.size t d := by
  refine Hp.more ?_ hl
  refine ⟨row_same h.words fun h0 x hx => ?_, fun h0 => ?_, fun j hj => ⟨row_same (h.free j hj).1 fun h0 x hx => ?_, (h.free j hj).2⟩, fun h0 => ?_⟩
  · obtain ⟨b', off, e, hlt, _⟩ := h.words.2 h0
    rw [hx] at e
    cases e
    exact hs _ (hn.w h0 _ hx) hlt
  · obtain ⟨b', off, e, hlt, hc⟩ := h.pages h0
    have hb' := hs b' (hn.p h0 _ e) hlt
    exact ⟨b', off, e, hlt, fun i hi => ⟨(World.cell?_of_block (a := ⟨b', off + i * 2, none⟩) hb').trans (hc i hi).1, (World.cell?_of_block (a := ⟨b', off + i * 2 + 1, none⟩) hb').trans (hc i hi).2⟩⟩
  · obtain ⟨b', off, e, hlt, _⟩ := (h.free j hj).1.2 h0
    rw [hx] at e
    cases e
    exact hs _ (hn.u j hj h0 _ hx) hlt
  · obtain ⟨b', off, e, hlt, hc⟩ := h.cards h0
    exact ⟨b', off, e, hlt, fun i hi => (World.cell?_of_block (a := ⟨b', off + i, none⟩) (hs b' (hn.c h0 _ e) hlt)).trans (hc i hi)⟩
def CopyOut (w : World) (s : Hs) (d : Hd_) (e : Ending) (w' : World) : Prop :=
  ∃ t : Hs, e = .returned (.agg #[.slice t.w.a t.w.n t.w.c, .slice t.p.a t.p.n t.p.c, .slice (t.u 0).a (t.u 0).n (t.u 0).c, .slice (t.u 1).a (t.u 1).n (t.u 1).c, .slice (t.u 2).a (t.u 2).n (t.u 2).c, .slice t.c.a t.c.n t.c.c]) ∧ Hp w' w'.heap.size t d ∧ (t.w.n = s.w.n ∧ t.p.n = s.p.n ∧ (∀ j, j < 3 → (t.u j).n = (s.u j).n) ∧ t.c.n = s.c.n) ∧ News w.heap.size t ∧ Below w.heap.size w w'
/-- Words, pages and cards are turned at once. -/
theorem Cp.three {w W : World} {s t : Hs} {d : Hd_} (h : Cp w W s d) (hp : Hp W W.heap.size t d) (ow : Off w.heap.size t.w) (op : Off w.heap.size t.p) (oc : Off w.heap.size t.c) (eu : t.u = s.u) :
    Cp w (((W.setCell ⟨w.heap.size, 0, none⟩ (.slice t.w.a t.w.n t.w.c)).setCell ⟨w.heap.size, 1, none⟩ (.slice t.p.a t.p.n t.p.c)).setCell ⟨w.heap.size, 5, none⟩ (.slice t.c.a t.c.n t.c.c)) t d := by
  have hsz : W.heap.size = (((W.setCell ⟨w.heap.size, 0, none⟩ (.slice t.w.a t.w.n t.w.c)).setCell ⟨w.heap.size, 1, none⟩ (.slice t.p.a t.p.n t.p.c)).setCell ⟨w.heap.size, 5, none⟩ (.slice t.c.a t.c.n t.c.c)).heap.size := by simp [World.setCell]
  have hoth : ∀ j, ¬ j = w.heap.size → (((W.setCell ⟨w.heap.size, 0, none⟩ (.slice t.w.a t.w.n t.w.c)).setCell ⟨w.heap.size, 1, none⟩ (.slice t.p.a t.p.n t.p.c)).setCell ⟨w.heap.size, 5, none⟩ (.slice t.c.a t.c.n t.c.c)).heap[j]? = W.heap[j]? := fun j hj => (Below.heap_setCell _ _ _ _ hj).trans ((Below.heap_setCell _ _ _ _ hj).trans (Below.heap_setCell _ _ _ _ hj))
  have ou : ∀ j, j < 3 → Off w.heap.size (t.u j) := by rw [eu]; exact h.ou
  refine ⟨((h.bel.setCell (p := ⟨w.heap.size, 0, none⟩) (Nat.le_refl _) _).setCell (p := ⟨w.heap.size, 1, none⟩) (Nat.le_refl _) _).setCell (p := ⟨w.heap.size, 5, none⟩) (Nat.le_refl _) _, hp_off hp ow op ou oc (fun j hj _ => hoth j hj) hsz, ow, op, ou, oc,
    ⟨⟨?_, ?_, ?_, ?_, ?_, ?_, by rw [← hsz]; exact h.box.box.lt⟩, frozen_set (frozen_set (frozen_set h.box.free))⟩, h.res.same (hoth _ (by omega)) (Nat.le_of_eq hsz)⟩
  · exact cell_set (cell_set (cell_set h.box.box.c0 rfl) rfl) rfl
  · exact cell_set (cell_set (cell_set h.box.box.c1 rfl) rfl) rfl
  · rw [eu]; exact cell_set (cell_set (cell_set h.box.box.c2 rfl) rfl) rfl
  · rw [eu]; exact cell_set (cell_set (cell_set h.box.box.c3 rfl) rfl) rfl
  · rw [eu]; exact cell_set (cell_set (cell_set h.box.box.c4 rfl) rfl) rfl
  · exact cell_set (cell_set (cell_set h.box.box.c5 rfl) rfl) rfl
/-- One of the lists is turned. -/
theorem Cp.list {w W : World} {t : Hs} {d : Hd_} (h : Cp w W t d) {k : Nat} (hk : k < 3) (v : Ls.Sl) (hr : Row W W.heap.size v.a v.n (d.F k)) (h1 : v.n ≤ v.c) (h2 : v.c ≤ maxLen) (ho : Off w.heap.size v) :
    Cp w (W.setCell ⟨w.heap.size, 2 + k, none⟩ (.slice v.a v.n v.c)) ⟨t.w, t.p, Ls.upd t.u k v, t.c⟩ d := by
  have hp : Hp W W.heap.size ⟨t.w, t.p, Ls.upd t.u k v, t.c⟩ d := ⟨h.hp.words, h.hp.pages, by
    have := h.hp.free.set k v (d.F k) hr h1 h2
    rwa [show Ls.upd d.F k (d.F k) = d.F by funext j; by_cases e : j = k <;> simp [Ls.upd, e]] at this, h.hp.cards⟩
  have ou : ∀ j, j < 3 → Off w.heap.size (Ls.upd t.u k v j) := fun j hj => by
    by_cases e : j = k
    · subst e; rw [Ls.upd_same]; exact ho
    · rw [Ls.upd_other _ _ e]; exact h.ou j hj
  refine h.set (2 + k) _ hp h.ow h.op ou h.oc ?_ ?_ ?_ ?_ ?_ ?_
  · rw [if_neg (by omega)]
  · rw [if_neg (by omega)]
  · by_cases e : k = 0
    · subst e; rfl
    · rw [if_neg (by omega)]
      dsimp only
      rw [Ls.upd_other _ _ (by omega)]
  · by_cases e : k = 1
    · subst e; rfl
    · rw [if_neg (by omega)]
      dsimp only
      rw [Ls.upd_other _ _ (by omega)]
  · by_cases e : k = 2
    · subst e; rfl
    · rw [if_neg (by omega)]
      dsimp only
      rw [Ls.upd_other _ _ (by omega)]
  · rw [if_neg (by omega)]
theorem prow_more {w : World} {B C n : Nat} {a : Option Addr} {f : Nat → Int × Int} (h : Cl.PRow w B a n f) (hB : B ≤ C) : Cl.PRow w C a n f := fun hn => by
  obtain ⟨b, off, e, hlt, hc⟩ := h hn
  exact ⟨b, off, e, Nat.lt_of_lt_of_le hlt hB, hc⟩
def Lens (s t : Hs) : Prop := t.w.n = s.w.n ∧ t.p.n = s.p.n ∧ (∀ j, j < 3 → (t.u j).n = (s.u j).n) ∧ t.c.n = s.c.n
theorem cp_end {w W : World} {s t : Hs} {d : Hd_} (h : Cp w W t d) (hl : Lens s t) (hn : News w.heap.size t) (v0 v1 v2 v3 v4 v5 : Value) : CopyOut w s d (.returned (.agg #[.slice t.w.a t.w.n t.w.c, .slice t.p.a t.p.n t.p.c, .slice (t.u 0).a (t.u 0).n (t.u 0).c, .slice (t.u 1).a (t.u 1).n (t.u 1).c, .slice (t.u 2).a (t.u 2).n (t.u 2).c, .slice t.c.a t.c.n t.c.c])) (put6 W (w.heap.size + 1) v0 v1 v2 v3 v4 v5) :=
  ⟨t, rfl, hp_off h.hp h.ow h.op h.ou h.oc (fun _ _ hk => put6_other _ _ _ _ _ _ _ _ hk) (put6_size _ _ _ _ _ _ _ _).symm, hl, hn, below_put6 h.bel (by omega) _ _ _ _ _ _⟩
theorem cp_start {w W0 : World} {s : Hs} {d : Hd_} (hp : Hp w w.heap.size s d) (h : W0 = (w.alloc (.cells #[.slice s.w.a s.w.n s.w.c, .slice s.p.a s.p.n s.p.c, .slice (s.u 0).a (s.u 0).n (s.u 0).c, .slice (s.u 1).a (s.u 1).n (s.u 1).c, .slice (s.u 2).a (s.u 2).n (s.u 2).c, .slice s.c.a s.c.n s.c.c] 28)).alloc (.cells #[.slice none 0 0, .slice none 0 0, .slice none 0 0, .slice none 0 0, .slice none 0 0, .slice none 0 0] 28)) : Cp w W0 s d := by
  have hb : Below w.heap.size w W0 := by rw [h]; exact ((Below.refl _ _).alloc (Nat.le_refl _) _).alloc (by simp) _
  have b1 := HBox.new w s 28
  have bb : Below (w.alloc (.cells #[.slice s.w.a s.w.n s.w.c, .slice s.p.a s.p.n s.p.c, .slice (s.u 0).a (s.u 0).n (s.u 0).c, .slice (s.u 1).a (s.u 1).n (s.u 1).c, .slice (s.u 2).a (s.u 2).n (s.u 2).c, .slice s.c.a s.c.n s.c.c] 28)).heap.size (w.alloc (.cells #[.slice s.w.a s.w.n s.w.c, .slice s.p.a s.p.n s.p.c, .slice (s.u 0).a (s.u 0).n (s.u 0).c, .slice (s.u 1).a (s.u 1).n (s.u 1).c, .slice (s.u 2).a (s.u 2).n (s.u 2).c, .slice s.c.a s.c.n s.c.c] 28)) W0 := by rw [h]; exact (Below.refl _ _).alloc (Nat.le_refl _) _
  refine ⟨hb, hp.next hb, off_old hp.words, fun hn x hx => ?_, fun j hj => off_old (hp.free j hj).1, fun hn x hx => ?_, Box6.next ⟨b1, fun j => by simp [go_sem]⟩ bb, ?_⟩
  · obtain ⟨b', off, e, hlt, _⟩ := hp.pages hn
    rw [hx] at e
    cases e
    exact ⟨by show ¬ b' = _; omega, by show ¬ b' = _; omega⟩
  · obtain ⟨b', off, e, hlt, _⟩ := hp.cards hn
    rw [hx] at e
    cases e
    exact ⟨by show ¬ b' = _; omega, by show ¬ b' = _; omega⟩
  · have b2 := HBox.new (w.alloc (.cells #[.slice s.w.a s.w.n s.w.c, .slice s.p.a s.p.n s.p.c, .slice (s.u 0).a (s.u 0).n (s.u 0).c, .slice (s.u 1).a (s.u 1).n (s.u 1).c, .slice (s.u 2).a (s.u 2).n (s.u 2).c, .slice s.c.a s.c.n s.c.c] 28)) noHs 28
    rw [World.size_alloc] at b2
    rw [h]
    exact ⟨b2, fun j => by simp [go_sem]⟩
theorem put6_at {W : World} {b : Nat} {t : Hs} (h : Box6 W b t) (v0 v1 v2 v3 v4 v5 : Value) :
    (put6 W b v0 v1 v2 v3 v4 v5).cell? ⟨b, 0, none⟩ = some v0 ∧ (put6 W b v0 v1 v2 v3 v4 v5).cell? ⟨b, 1, none⟩ = some v1 ∧ (put6 W b v0 v1 v2 v3 v4 v5).cell? ⟨b, 2, none⟩ = some v2 ∧
    (put6 W b v0 v1 v2 v3 v4 v5).cell? ⟨b, 3, none⟩ = some v3 ∧ (put6 W b v0 v1 v2 v3 v4 v5).cell? ⟨b, 4, none⟩ = some v4 ∧ (put6 W b v0 v1 v2 v3 v4 v5).cell? ⟨b, 5, none⟩ = some v5 := by
  have h0 := h.box.c0
  have h1 := h.box.c1
  have h2 := h.box.c2
  have h3 := h.box.c3
  have h4 := h.box.c4
  have h5 := h.box.c5
  refine ⟨?_, ?_, ?_, ?_, ?_, ?_⟩ <;> simp [put6, go_sem, h0, h1, h2, h3, h4, h5]
end Go.Proofs.YthgcaehhjiccbaaGreatDoor
end
