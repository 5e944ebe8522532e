/-
  Package pages' Find, and the reference's: the first place from which on so many pages are free.
-/
import Derived.Test.YtofbebgcafpfhaaPgRefMay
import Derived.Deep.LoopGhost
namespace Go.Proofs.Ytofbebgcafpfhaa
open Go.RowKit

def findO (f : Nat → Int × Int) (n : Nat) (m : Int) : Option Nat := if mayB f n && runB m then (List.range (n + 1 - m.toNat)).find? (fun k => freeB f k m.toNat) else none
def findV (f : Nat → Int × Int) (n : Nat) (m : Int) : Int := match findO f n m with | some k => k | none => 0
def findS (f : Nat → Int × Int) (n : Nat) (m : Int) : Bool := (findO f n m).isSome
theorem findO_some {f : Nat → Int × Int} {n : Nat} {m : Int} {k : Nat} : findO f n m = some k ↔ mayB f n = true ∧ runB m = true ∧ k + m.toNat ≤ n ∧ freeB f k m.toNat = true ∧ ∀ j, j < k → freeB f j m.toNat = false := by
  unfold findO
  by_cases h : mayB f n = true ∧ runB m = true
  · have hm := (runB_iff m).1 h.2
    rw [if_pos (by simp [h.1, h.2]), List.find?_range_eq_some]
    simp only [h.1, h.2, true_and, List.mem_range, Bool.not_eq_true', and_left_comm]
    constructor
    · rintro ⟨a, b, c⟩; exact ⟨by omega, by simpa using b, c⟩
    · rintro ⟨a, b, c⟩; exact ⟨by omega, by simpa using b, c⟩
  · rw [if_neg (by simpa using h)]
    constructor
    · intro h'; cases h'
    · rintro ⟨a, b, _⟩; exact absurd ⟨a, b⟩ h
theorem findO_none {f : Nat → Int × Int} {n : Nat} {m : Int} (h : ∀ k, k + m.toNat ≤ n → freeB f k m.toNat = false) : findO f n m = none := by
  cases e : findO f n m with
  | none => rfl
  | some k =>
    have := findO_some.1 e
    rw [h k this.2.2.1] at this
    exact absurd this.2.2.2.1 (by decide)
theorem findO_bad {f : Nat → Int × Int} {n : Nat} {m : Int} (h : mayB f n = false ∨ runB m = false) : findO f n m = none := by
  cases e : findO f n m with
  | none => rfl
  | some k =>
    have := findO_some.1 e
    rcases h with h | h <;> rw [h] at this <;> simp at this
theorem found {f : Nat → Int × Int} {n : Nat} {m : Int} {k : Nat} (h : findO f n m = some k) :
    Ending.returned (.tuple #[.int .i64 k, .bool true]) = .returned (.tuple #[.int .i64 (findV f n m), .bool (findS f n m)]) := by
  unfold findV findS; rw [h]; rfl
theorem nowhere {f : Nat → Int × Int} {n : Nat} {m : Int} (h : findO f n m = none) :
    Ending.returned (.tuple #[.int .i64 0, .bool false]) = .returned (.tuple #[.int .i64 (findV f n m), .bool (findS f n m)]) := by
  unfold findV findS; rw [h]; rfl

/-- None of the places before j serves. -/
def Passed (f : Nat → Int × Int) (m : Nat) (j : Nat) : Prop := ∀ i, i < j → freeB f i m = false
theorem Passed.zero (f : Nat → Int × Int) (m : Nat) : Passed f m 0 := fun i h => absurd h (by omega)
theorem Passed.next {f : Nat → Int × Int} {m j : Nat} (h : Passed f m j) (hj : freeB f j m = false) : Passed f m (j + 1) := fun i hi => by
  by_cases e : i = j
  · rw [e]; exact hj
  · exact h i (by omega)
/-- The first t pages from j on are free. -/
def Open (f : Nat → Int × Int) (j t : Nat) : Prop := ∀ i, i < t → (f (j + i)).1 = 0
theorem Open.zero (f : Nat → Int × Int) (j : Nat) : Open f j 0 := fun i h => absurd h (by omega)
theorem Open.next {f : Nat → Int × Int} {j t : Nat} (h : Open f j t) (ht : (f (j + t)).1 = 0) : Open f j (t + 1) := fun i hi => by
  by_cases e : i = t
  · rw [e]; exact ht
  · exact h i (by omega)

set_option maxHeartbeats 2000000 in
theorem find_core (B : Nat) (A : Option Addr) (n c : Nat) (f : Nat → Int × Int) (m : Nat) (w : World) (hM : mayB f n = true) (hm1 : 1 ≤ m) (hm4 : m ≤ 4) (hnc : n ≤ c) (hr : PRow w B A n f) (hB : B ≤ w.heap.size) :
    Calls Try.prog 11 #[.slice A n c, .int .i64 m] w fun e w' => e = .returned (.tuple #[.int .i64 (findV f n m), .bool (findS f n m)]) ∧ Below w.heap.size w w' := by
  obtain ⟨n1, n64, -, -⟩ := (mayB_iff f n).1 hM
  have HM := Lib.hid hM
  have HR := Lib.hid hr
  have hrun : runB (m : Int) = true := (runB_iff _).2 (by omega)
  have HRun := Lib.hid hrun
  clear hM hr
  go_enter Try.func11, Try.ntmps11
  go_wp2
  go_step3
  go_wp2_with fail
  refine (may_yes B _ _ _ _ _ HM.out HR.out hB).mono ?_
  rintro e w1 ⟨rfl, hb1⟩
  have HB1 := Lib.hid hb1
  clear hb1
  go_wp2_with fail
  refine (isRun_any _ _).mono ?_
  rintro e w2 ⟨rfl, rfl⟩
  go_wp2
  go_step3
  go_wp2
  clear hrun
  go_loopg [22] (n + 1) (fun g i wr => ∃ j : Nat, j + g = n + 1 ∧ i = .int .i64 j ∧ Passed f m j ∧ Below w.heap.size w wr)
  case atStart => exact ⟨0, by omega, rfl, Passed.zero f m, HB1.out⟩
  case round =>
    obtain ⟨j, hj, rfl, hp, hb⟩ := hrel
    have HP := Lib.hid hp
    have HB := Lib.hid hb
    have hz := hb.size
    have HJ := Lib.hid hj
    have hj1 : j ≤ n + 1 := by omega
    clear hp hb hj
    obtain ⟨wo, rfl⟩ : ∃ wo : World, wo = wr := ⟨_, rfl⟩
    obtain ⟨go, rfl⟩ : ∃ go : Nat, go = gk := ⟨_, rfl⟩
    by_cases hlt : (j : Int) < n - m + 1
    · obtain ⟨b, off, rfl, hbB, -⟩ := (HR.out.over HB.out hB) (by omega)
      have HPart := Lib.hid (HR.out.part (k := j) (m := m) (by omega))
      have hd : decide ((j : Int) < n - m + 1) = true := by simpa using hlt
      go_wp2
      rw [show j + m - j = m by omega]
      go_loopg [32] m (fun g i wi => ∃ t : Nat, t + g = m ∧ i = .int .i64 t ∧ Open f j t ∧ Below w.heap.size w wi)
      case atStart => exact ⟨0, by omega, rfl, Open.zero f j, HB.out⟩
      case round =>
        obtain ⟨t, ht, rfl, ho, hb2⟩ := hrel
        have HO := Lib.hid ho
        have HB2 := Lib.hid hb2
        have hz2 := hb2.size
        have HG := Lib.hid ht
        have ht1 : t ≤ m := by omega
        clear ho ht
        by_cases htm : t < m
        · obtain ⟨b', off', ea, hb', hc'⟩ := ((HR.out.over hb2 hB).part (k := j) (m := m) (by omega)) (by omega)
          simp at ea
          obtain ⟨rfl, rfl⟩ := ea
          obtain ⟨p0, p1⟩ := hc' t htm
          clear hc' hb2
          by_cases hf : (f (j + t)).1 = 0
          · have HO2 := Lib.hid (HO.out.next hf)
            have e0 : ((f (j + t)).1 != 0) = false := by simpa using hf
            clear hf
            go_wp2
            go_roundg (gk - 1)
            case rel => exact ⟨t + 1, by have := HG.out; omega, by go_num, HO2.out, HB2.out.alloc hz2 _⟩
            case measure => have := HG.out; omega
          · have HP2 := Lib.hid (HP.out.next (freeB_not htm hf))
            have e0 : ((f (j + t)).1 != 0) = true := by simpa using hf
            clear hf
            go_wp2
            go_roundg (go - 1)
            case rel => exact ⟨j + 1, by have := HJ.out; omega, by go_num, HP2.out, HB2.out.alloc hz2 _⟩
            case measure => have := HJ.out; omega
        · obtain rfl : t = m := by omega
          have HF := Lib.hid (findO_some.2 ⟨HM.out, HRun.out, by simp; omega, by simpa using (freeB_iff f j t).2 HO.out, fun i hi => by rw [Int.toNat_natCast]; exact HP.out i hi⟩ : findO f n t = some j)
          clear hb2
          go_wp2
          try rw [Exit.noGoto_ret]
          go_ret2
          exact ⟨found HF.out, HB2.out⟩
    · have hd : decide ((j : Int) < n - m + 1) = false := by simpa using hlt
      have HN := Lib.hid (findO_none (f := f) (n := n) (m := m) (fun i hi => by have := HP.out i (by simp at hi; omega); simpa using this))
      go_wp2
      try rw [Exit.noGoto_ret]
      go_ret2
      exact ⟨nowhere HN.out, HB.out⟩
end Go.Proofs.Ytofbebgcafpfhaa
