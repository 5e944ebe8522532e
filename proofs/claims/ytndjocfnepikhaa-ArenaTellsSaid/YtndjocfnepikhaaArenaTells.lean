/-
  ArenaTells: any words may be, or not; any address has the word, and the page, is put, and noughts are put from it on, as the reference says, or it has the error: for all words and numbers, without a condition.
-/
import Derived.Test.YtndjocfnepikhaaArAwake
import Derived.Test.YtndjocfnepikhaaArRef
namespace Go.Proofs.Ytndjocfnepikhaa.ArenaTells
open Go.Proofs.Ytndjocfnepikhaa
open Go.ChangeShapes Go.WideShapes Go.ChangeAt Go.RowKit

/-- What Get answers: the word, and the error. -/
def getV (n : Nat) (xs : List Int) (a : Int) : Int := if mayB n = true ∧ 16 ≤ a ∧ a < 16 + n then xs.getD (a - 16).toNat 0 else 0
def getE (n : Nat) (a : Int) : Int := if mayB n = true then if 16 ≤ a ∧ a < 16 + n then 0 else 3 else 1
/-- .. Page. -/
def pageV (n : Nat) (a : Int) : Int := if mayB n = true ∧ 16 ≤ a ∧ a < 16 + n then (a - 16) / 16 else 0
/-- .. At. -/
def atV (n : Nat) (p : Int) : Int := if mayB n = true ∧ 0 ≤ p ∧ 16 * p < n then 16 + p * 16 else 0
def atE (n : Nat) (p : Int) : Int := if mayB n = true then if 0 ≤ p ∧ 16 * p < n then 0 else 3 else 1
/-- .. Put. -/
def putL (n : Nat) (xs : List Int) (a v : Int) : List Int := if mayB n = true ∧ 16 ≤ a ∧ a < 16 + n then xs.set (a - 16).toNat v else []
/-- .. Zero. -/
def zeroOk (n : Nat) (a k : Int) : Bool := mayB n && (decide (k = 0) || decide (0 < k ∧ 16 ≤ a ∧ k ≤ 16 + n - a))
def zeroL (n : Nat) (xs : List Int) (a k : Int) : List Int := if zeroOk n a k = true then (if k = 0 then xs else wipe xs (a - 16).toNat k.toNat) else []
def zeroE (n : Nat) (a k : Int) : Int := if zeroOk n a k = true then 0 else if mayB n = true ∧ 0 ≤ k then 3 else 1

/-- A slice of these numbers was returned, and that error. -/
def Told (w : World) (xs : List Int) (er : Int) (e : Ending) (w' : World) : Prop :=
  ∃ A c, e = .returned (.tuple #[.slice A xs.length c, .int .i64 er]) ∧ Row w' w'.heap.size A xs.length xs ∧ Below w.heap.size w w'
theorem Told.none_ {w w' : World} {er : Int} {e : Ending} (he : e = .returned (.tuple #[.slice none 0 0, .int .i64 er])) (hb : Below w.heap.size w w') : Told w [] er e w' :=
  ⟨none, 0, he, Row.none_ _ _, hb⟩
theorem Told.made {w w' : World} {n : Nat} {xs : List Int} {e : Ending} (h : Made w n xs e w') : Told w xs 0 e w' := by
  obtain ⟨g, c, he, hm, hb⟩ := h
  have hl := hm.row.1
  subst hl
  exact ⟨_, c, he, hm.row, hb⟩

theorem get_any (A : Option Addr) (n c : Nat) (xs : List Int) (a : Int) (w : World) (hn : n ≤ 9223372036854775807) (l1 : -9223372036854775808 ≤ a) (l2 : a ≤ 9223372036854775807) (hr : Row w w.heap.size A n xs) :
    Calls Try.prog 11 #[.slice A n c, .int .i64 a] w fun e w' => e = .returned (.tuple #[.int .i64 (getV n xs a), .int .i64 (getE n a)]) ∧ w = w' := by
  unfold getV getE
  cases h : mayB n
  · simp
    exact get_bad A n c a w hn h
  · by_cases ha : 16 ≤ a ∧ a < 16 + n
    · simp only [true_and, if_pos ha, if_true]
      exact get_ok _ A n c xs a w h ha.1 ha.2 hr
    · simp only [true_and, if_neg ha, if_true]
      exact get_none A n c a w h (by omega) l2
theorem page_any (A : Option Addr) (n c : Nat) (xs : List Int) (a : Int) (w : World) (hn : n ≤ 9223372036854775807) (l1 : -9223372036854775808 ≤ a) (l2 : a ≤ 9223372036854775807) (_hr : Row w w.heap.size A n xs) :
    Calls Try.prog 18 #[.slice A n c, .int .i64 a] w fun e w' => e = .returned (.tuple #[.int .i64 (pageV n a), .int .i64 (getE n a)]) ∧ w = w' := by
  unfold pageV getE
  cases h : mayB n
  · simp
    exact page_bad A n c a w hn h
  · by_cases ha : 16 ≤ a ∧ a < 16 + n
    · simp only [true_and, if_pos ha, if_true]
      exact page_ok A n c a w h ha.1 ha.2
    · simp only [true_and, if_neg ha, if_true]
      exact page_none A n c a w h (by omega) l2
theorem at_any (A : Option Addr) (n c : Nat) (a : Int) (w : World) (hn : n ≤ 9223372036854775807) :
    Calls Try.prog 20 #[.slice A n c, .int .i64 a] w fun e w' => e = .returned (.tuple #[.int .i64 (atV n a), .int .i64 (atE n a)]) ∧ w = w' := by
  unfold atV atE
  cases h : mayB n
  · simp
    exact at_bad A n c a w hn h
  · by_cases ha : 0 ≤ a ∧ 16 * a < n
    · simp only [true_and, if_pos ha, if_true]
      exact at_ok A n c a w h ha.1 ha.2
    · simp only [true_and, if_neg ha, if_true]
      exact at_none A n c a w h (by omega)
theorem put_any (A : Option Addr) (n c : Nat) (xs : List Int) (a v : Int) (w : World) (hn : n ≤ 9223372036854775807) (l1 : -9223372036854775808 ≤ a) (l2 : a ≤ 9223372036854775807) (hr : Row w w.heap.size A n xs) :
    Calls Try.prog 13 #[.slice A n c, .int .i64 a, .int .i64 v] w (Told w (putL n xs a v) (getE n a)) := by
  unfold putL getE
  cases h : mayB n
  · simp
    exact (put_bad A n c a v w hn h).mono fun e w' ⟨he, hw⟩ => Told.none_ he (hw ▸ Below.refl _ _)
  · by_cases ha : 16 ≤ a ∧ a < 16 + n
    · simp only [true_and, if_pos ha, if_true]
      exact (put_ok _ A n c xs a v w h ha.1 ha.2 hr).mono fun e w' hm => Told.made hm
    · simp only [true_and, if_neg ha, if_true]
      exact (put_none A n c a v w h (by omega) l2).mono fun e w' ⟨he, hw⟩ => Told.none_ he (hw ▸ Below.refl _ _)
theorem zero_any (A : Option Addr) (n c : Nat) (xs : List Int) (a k : Int) (w : World) (hn : n ≤ 9223372036854775807) (l1 : -9223372036854775808 ≤ a) (l2 : a ≤ 9223372036854775807) (hr : Row w w.heap.size A n xs) :
    Calls Try.prog 16 #[.slice A n c, .int .i64 a, .int .i64 k] w (Told w (zeroL n xs a k) (zeroE n a k)) := by
  unfold zeroL zeroE
  cases h : mayB n
  · have hz : zeroOk n a k = false := by simp [zeroOk, h]
    simp [hz]
    exact (zero_bad A n c a k w hn h).mono fun e w' ⟨he, hw⟩ => Told.none_ he (hw ▸ Below.refl _ _)
  · by_cases h0 : k < 0
    · have hz : zeroOk n a k = false := by simp [zeroOk, h]; omega
      have hk : ¬ 0 ≤ k := by omega
      simp [hz, hk]
      exact (zero_neg A n c a k w h h0).mono fun e w' ⟨he, hw⟩ => Told.none_ he (hw ▸ Below.refl _ _)
    by_cases h1 : k = 0
    · subst h1
      have hz : zeroOk n a 0 = true := by simp [zeroOk, h]
      simp [hz]
      exact (zero_nil _ A n c xs a w h hr).mono fun e w' hm => Told.made hm
    by_cases h2 : 16 ≤ a ∧ k ≤ 16 + n - a
    · have hz : zeroOk n a k = true := by simp [zeroOk, h]; omega
      simp only [hz, if_true, if_neg h1]
      obtain ⟨i, rfl⟩ : ∃ i : Nat, a = 16 + i := ⟨(a - 16).toNat, by omega⟩
      obtain ⟨m, rfl⟩ : ∃ m : Nat, k = m := ⟨k.toNat, by omega⟩
      have e1 : (16 + (i : Int) - 16).toNat = i := by omega
      have e2 : ((m : Int)).toNat = m := by omega
      rw [e1, e2]
      · skip
        exact (zero_ok _ A n c xs i m w h (by omega) (by omega) hr).mono fun e w' hm => Told.made hm
    · have hz : zeroOk n a k = false := by simp [zeroOk, h]; omega
      have hk : 0 ≤ k := by omega
      simp [hz, hk]
      exact (zero_none A n c a k w h (by omega) (by omega) l2).mono fun e w' ⟨he, hw⟩ => Told.none_ he (hw ▸ Below.refl _ _)
theorem rget_any (A : Option Addr) (n c : Nat) (xs : List Int) (a : Int) (w : World) (hn : n ≤ 9223372036854775807) (l1 : -9223372036854775808 ≤ a) (l2 : a ≤ 9223372036854775807) (hr : Row w w.heap.size A n xs) :
    Calls Try.prog 12 #[.slice A n c, .int .i64 a] w fun e w' => e = .returned (.tuple #[.int .i64 (getV n xs a), .int .i64 (getE n a)]) ∧ w = w' := by
  unfold getV getE
  cases h : mayB n
  · simp
    exact rget_bad A n c a w hn h
  · by_cases ha : 16 ≤ a ∧ a < 16 + n
    · simp only [true_and, if_pos ha, if_true]
      exact rget_ok _ A n c xs a w h ha.1 ha.2 hr
    · simp only [true_and, if_neg ha, if_true]
      exact rget_none A n c a w h (by omega)
theorem rpage_any (A : Option Addr) (n c : Nat) (xs : List Int) (a : Int) (w : World) (hn : n ≤ 9223372036854775807) (l1 : -9223372036854775808 ≤ a) (l2 : a ≤ 9223372036854775807) (hr : Row w w.heap.size A n xs) :
    Calls Try.prog 19 #[.slice A n c, .int .i64 a] w fun e w' => e = .returned (.tuple #[.int .i64 (pageV n a), .int .i64 (getE n a)]) ∧ w = w' := by
  unfold pageV getE
  cases h : mayB n
  · simp
    exact rpage_bad A n c a w hn h
  · by_cases ha : 16 ≤ a ∧ a < 16 + n
    · simp only [true_and, if_pos ha, if_true]
      exact rpage_ok _ A n c xs a w h ha.1 ha.2 hr
    · simp only [true_and, if_neg ha, if_true]
      exact rpage_none A n c a w h (by omega)
theorem rat_any (A : Option Addr) (n c : Nat) (a : Int) (w : World) (hn : n ≤ 9223372036854775807) :
    Calls Try.prog 21 #[.slice A n c, .int .i64 a] w fun e w' => e = .returned (.tuple #[.int .i64 (atV n a), .int .i64 (atE n a)]) ∧ w = w' := by
  unfold atV atE
  cases h : mayB n
  · simp
    exact rat_bad A n c a w hn h
  · by_cases ha : 0 ≤ a ∧ 16 * a < n
    · simp only [true_and, if_pos ha, if_true]
      exact rat_ok A n c a w h ha.1 ha.2
    · simp only [true_and, if_neg ha, if_true]
      exact rat_none A n c a w h (by omega)
theorem rput_any (A : Option Addr) (n c : Nat) (xs : List Int) (a v : Int) (w : World) (hn : n ≤ 9223372036854775807) (l1 : -9223372036854775808 ≤ a) (l2 : a ≤ 9223372036854775807) (hr : Row w w.heap.size A n xs) :
    Calls Try.prog 14 #[.slice A n c, .int .i64 a, .int .i64 v] w (Told w (putL n xs a v) (getE n a)) := by
  unfold putL getE
  cases h : mayB n
  · simp
    exact (rput_bad A n c a v w hn h).mono fun e w' ⟨he, hw⟩ => Told.none_ he (hw ▸ Below.refl _ _)
  · by_cases ha : 16 ≤ a ∧ a < 16 + n
    · simp only [true_and, if_pos ha, if_true]
      exact (rput_ok _ A n c xs a v w h ha.1 ha.2 hr).mono fun e w' hm => Told.made hm
    · simp only [true_and, if_neg ha, if_true]
      exact (rput_none A n c a v w h (by omega)).mono fun e w' ⟨he, hw⟩ => Told.none_ he (hw ▸ Below.refl _ _)
theorem rzero_any (A : Option Addr) (n c : Nat) (xs : List Int) (a k : Int) (w : World) (hn : n ≤ 9223372036854775807) (l1 : -9223372036854775808 ≤ a) (l2 : a ≤ 9223372036854775807) (hr : Row w w.heap.size A n xs) :
    Calls Try.prog 17 #[.slice A n c, .int .i64 a, .int .i64 k] w (Told w (zeroL n xs a k) (zeroE n a k)) := by
  unfold zeroL zeroE
  cases h : mayB n
  · have hz : zeroOk n a k = false := by simp [zeroOk, h]
    simp [hz]
    exact (rzero_bad A n c a k w hn h).mono fun e w' ⟨he, hw⟩ => Told.none_ he (hw ▸ Below.refl _ _)
  · by_cases h0 : k < 0
    · have hz : zeroOk n a k = false := by simp [zeroOk, h]; omega
      have hk : ¬ 0 ≤ k := by omega
      simp [hz, hk]
      exact (rzero_neg A n c a k w h h0).mono fun e w' ⟨he, hw⟩ => Told.none_ he (hw ▸ Below.refl _ _)
    by_cases h1 : k = 0
    · subst h1
      have hz : zeroOk n a 0 = true := by simp [zeroOk, h]
      simp [hz]
      exact (rzero_nil _ A n c xs a w h hr).mono fun e w' hm => Told.made hm
    by_cases h2 : 16 ≤ a ∧ k ≤ 16 + n - a
    · have hz : zeroOk n a k = true := by simp [zeroOk, h]; omega
      simp only [hz, if_true, if_neg h1]
      obtain ⟨i, rfl⟩ : ∃ i : Nat, a = 16 + i := ⟨(a - 16).toNat, by omega⟩
      obtain ⟨m, rfl⟩ : ∃ m : Nat, k = m := ⟨k.toNat, by omega⟩
      have e1 : (16 + (i : Int) - 16).toNat = i := by omega
      have e2 : ((m : Int)).toNat = m := by omega
      rw [e1, e2]
      · skip
        exact (rzero_ok _ A n c xs i m w h (by omega) hr).mono fun e w' hm => Told.made hm
    · have hz : zeroOk n a k = false := by simp [zeroOk, h]; omega
      have hk : 0 ≤ k := by omega
      simp [hz, hk]
      by_cases ho : a < 16 ∨ 16 + n ≤ a
      · exact (rzero_out _ A n c xs a k w h (by omega) ho hr l1 l2).mono fun e w' ⟨he, hb⟩ => Told.none_ he hb
      · obtain ⟨i, rfl⟩ : ∃ i : Nat, a = 16 + i := ⟨(a - 16).toNat, by omega⟩
        exact (rzero_short _ A n c xs i k w h (by omega) (by omega) hr).mono fun e w' ⟨he, hb⟩ => Told.none_ he hb
theorem long (A : Option Addr) (n c : Nat) (a : Int) (v : Int) (k : Int) (w : World) (h : 2000 < n) (hn : n ≤ 9223372036854775807) :
    Calls Try.prog 3 #[.slice A n c, .int .i64 a, .int .i64 v, .int .i64 k] w fun e w' => e = .returned (.bool true) ∧ Below w.heap.size w w' := by
  go_enter Try.func3, Try.ntmps3
  go_wp2_with fail
  refine (awake_yes _).mono ?_
  rintro e w1 ⟨rfl, hb1⟩
  go_wp2
  go_ret
  exact ⟨rfl, hb1⟩
theorem full (A : Option Addr) (n c : Nat) (xs : List Int) (a : Int) (v : Int) (k : Int) (w : World) (hs : n ≤ 2000) (l1 : -9223372036854775808 ≤ a) (l2 : a ≤ 9223372036854775807) (hr : Row w w.heap.size A n xs) :
    Calls Try.prog 3 #[.slice A n c, .int .i64 a, .int .i64 v, .int .i64 k] w fun e w' => e = .returned (.bool true) ∧ Below w.heap.size w w' := by
  have HR := Lib.hid hr
  have hn : n ≤ 9223372036854775807 := by omega
  have L1 : (putL n xs a v).length ≤ 9223372036854775806 := by
    have := hr.1
    unfold putL
    split
    · rw [List.length_set]; omega
    · simp
  have L2 : (zeroL n xs a k).length ≤ 9223372036854775806 := by
    have := hr.1
    unfold zeroL
    split
    · split
      · omega
      · rw [wipe_length]; omega
    · simp
  have K1 := Lib.hid L1
  have K2 := Lib.hid L2
  clear hr L1 L2
  go_enter Try.func3, Try.ntmps3
  go_wp2_with fail
  refine (awake_yes _).mono ?_
  rintro e w1 ⟨rfl, hb1⟩
  have HR1 := Lib.hid ((HR.out.below hb1).more hb1.size)
  go_wp2_with fail
  refine (get_any _ _ _ xs _ _ hn l1 l2 HR1.out).mono ?_
  rintro e w' ⟨rfl, rfl⟩
  go_wp2_with fail
  refine (rget_any _ _ _ xs _ _ hn l1 l2 HR1.out).mono ?_
  rintro e w' ⟨rfl, rfl⟩
  go_wp2_with fail
  refine (put_any _ _ _ xs _ _ _ hn l1 l2 HR1.out).mono ?_
  rintro e w2 ⟨A2, c2, rfl, r2, hb2⟩
  have HR2 := Lib.hid ((HR1.out.below hb2).more hb2.size)
  have P2 := Lib.hid r2
  clear r2
  go_wp2_with fail
  refine (rput_any _ _ _ xs _ _ _ hn l1 l2 HR2.out).mono ?_
  rintro e w3 ⟨A3, c3, rfl, r3, hb3⟩
  have HR3 := Lib.hid ((HR2.out.below hb3).more hb3.size)
  have P3 := Lib.hid r3
  clear r3
  go_wp2_with fail
  refine (ints_same _ _ _ _ _ _ _ _ _ K1.out (P2.out.below hb3) P3.out).mono ?_
  rintro e w4 ⟨rfl, hb4⟩
  have HR4 := Lib.hid ((HR3.out.below hb4).more hb4.size)
  go_wp2_with fail
  refine (zero_any _ _ _ xs _ _ _ hn l1 l2 HR4.out).mono ?_
  rintro e w5 ⟨A5, c5, rfl, r5, hb5⟩
  have HR5 := Lib.hid ((HR4.out.below hb5).more hb5.size)
  have P5 := Lib.hid r5
  clear r5
  go_wp2_with fail
  refine (rzero_any _ _ _ xs _ _ _ hn l1 l2 HR5.out).mono ?_
  rintro e w6 ⟨A6, c6, rfl, r6, hb6⟩
  have HR6 := Lib.hid ((HR5.out.below hb6).more hb6.size)
  have P6 := Lib.hid r6
  clear r6
  go_wp2_with fail
  refine (ints_same _ _ _ _ _ _ _ _ _ K2.out (P5.out.below hb6) P6.out).mono ?_
  rintro e w7 ⟨rfl, hb7⟩
  have HR7 := Lib.hid ((HR6.out.below hb7).more hb7.size)
  go_wp2_with fail
  refine (page_any _ _ _ xs _ _ hn l1 l2 HR7.out).mono ?_
  rintro e w' ⟨rfl, rfl⟩
  go_wp2_with fail
  refine (rpage_any _ _ _ xs _ _ hn l1 l2 HR7.out).mono ?_
  rintro e w' ⟨rfl, rfl⟩
  go_wp2_with fail
  refine (at_any _ _ _ _ _ hn).mono ?_
  rintro e w' ⟨rfl, rfl⟩
  go_wp2_with fail
  refine (rat_any _ _ _ _ _ hn).mono ?_
  rintro e w' ⟨rfl, rfl⟩
  have T1 := hb1.size
  have T2 := hb2.size
  have T3 := hb3.size
  have T4 := hb4.size
  have T5 := hb5.size
  have T6 := hb6.size
  have HB : Hid (Below w.heap.size w w7) := (((((hb1.trans (hb2.mono T1)).trans (hb3.mono (by omega))).trans (hb4.mono (by omega))).trans (hb5.mono (by omega))).trans (hb6.mono (by omega))).trans (hb7.mono (by omega))
  clear hb1 hb2 hb3 hb4 hb5 hb6 hb7 T1 T2 T3 T4 T5 T6 HR HR1 HR2 HR3 HR4 HR5 HR6 HR7 P2 P3 P5 P6 K1 K2
  cases hm : mayB n
  · have M := Lib.hid hm
    clear hm
    go_wp2_with fail
    refine (may_no _ _ _ _ hn M.out).mono ?_
    rintro e w' ⟨rfl, rfl⟩
    go_wp2_with fail
    refine (rmay_no _ _ _ _ hn M.out).mono ?_
    rintro e w' ⟨rfl, rfl⟩
    go_wp2
    go_ret
    exact ⟨rfl, HB.out⟩
  · have M := Lib.hid hm
    clear hm
    go_wp2_with fail
    refine (may_yes _ _ _ _ M.out).mono ?_
    rintro e w' ⟨rfl, rfl⟩
    go_wp2_with fail
    refine (rmay_yes _ _ _ _ M.out).mono ?_
    rintro e w' ⟨rfl, rfl⟩
    go_wp2
    go_ret
    exact ⟨rfl, HB.out⟩
theorem walk (A : Option Addr) (n c : Nat) (xs : List Int) (a : Int) (v : Int) (k : Int) (w : World) (hr : IsIn w A n c xs) (wa : (Lit.int .i64 a).wf = true) (_wv : (Lit.int .i64 v).wf = true) (_wk : (Lit.int .i64 k).wf = true) :
    Calls Try.prog 3 #[.slice A n c, .int .i64 a, .int .i64 v, .int .i64 k] w fun e w' => e = .returned (.bool true) ∧ Below w.heap.size w w' := by
  have hn : n ≤ 9223372036854775807 := by have h1 := hr.2.1; have h2 := hr.2.2; unfold maxLen at h2; omega
  by_cases hl : 2000 < n
  · exact long A n c a v k w hl hn
  · exact full A n c xs a v k w (by omega) (bounds_i64 wa).1 (bounds_i64 wa).2 hr.1

set_option maxRecDepth 100000 in
theorem lifted (os : Os) (started : os.Started) (H : Type) (enc : TypeId × Value → H) :
    ReturnsInHanded {} Try.checked os 3 .any (Rows.arenaTellsSpec.pre6 enc Try.prog Try.f3 Rows.arenaTellsRow.domain false) (Rows.arenaTellsSpec.post enc Try.prog Try.f3 false true false false) := by
  refine returnsInHanded_of_change (C := Try.checked) own started (by kernel_rfl) Try.func3
    (ChangeSpec.witness6 (enc := enc) (C := Try.checked) false ⟨#[], #[.slice none 0 0, .int .i64 0, .int .i64 0, .int .i64 0], []⟩ 8 (by kernel_rfl) (by kernel_rfl) (by kernel_rfl) (by kernel_rfl)) ?_
  intro W base args ds gs before hval0 hW hcnd _
  have hval : ∀ (j : Nat) t v, Try.f3.params[j]? = some t → args[j]? = some v → Value.okWide Try.prog W .any base t v := hval0
  have hW' := hW
  obtain ⟨p, q, hA0, hV, rfl, hfz, hnd⟩ := hW
  have hA : DataW.TrodAll enc Try.prog W 0 (fun _ => true) true Try.f3.params.toList args.toList ds p := hA0
  rw [Try.params3] at hA hval
  obtain ⟨v0, vs0, d0, ds0, p0, q0, hargs, rfl, rfl, h0, r0⟩ := trodAll_cons hA
  obtain ⟨v1, vs1, d1, ds1, p1, q1, rfl, rfl, rfl, h1, r1⟩ := trodAll_cons r0
  obtain ⟨v2, vs2, d2, ds2, p2, q2, rfl, rfl, rfl, h2, r2⟩ := trodAll_cons r1
  obtain ⟨v3, vs3, d3, ds3, p3, q3, rfl, rfl, rfl, h3, r3⟩ := trodAll_cons r2
  obtain ⟨rfl, rfl, rfl⟩ := trodAll_nil r3
  obtain rfl : args = #[v0, v1, v2, v3] := by cases args; simp_all
  obtain ⟨rfl, rfl⟩ := trodVars_none hV
  obtain ⟨a0, len0, cap0, rfl⟩ := okWide_slice Try.underlying22 (hval 0 22 v0 rfl rfl)
  have k0 := h0
  have lt0 : ∀ x ∈ p0, x.block < W.heap.size := by obtain ⟨m, hm⟩ := k0; exact DataW.trod_lt m _ _ _ hm
  obtain ⟨z0, w0⟩ : ∃ zs, IsIn W a0 len0 cap0 zs := in_of Try.underlying22 Try.underlying3 (by kernel_rfl) h0
  obtain ⟨a1, rfl, rfl, rfl, w1⟩ := open_int Try.underlying3 (hval 1 3 v1 rfl rfl) h1
  obtain ⟨a2, rfl, rfl, rfl, w2⟩ := open_int Try.underlying3 (hval 2 3 v2 rfl rfl) h2
  obtain ⟨a3, rfl, rfl, rfl, w3⟩ := open_int Try.underlying3 (hval 3 3 v3 rfl rfl) h3
  clear hA0 hval0
  refine (walk a0 len0 cap0 z0 a1 a2 a3 W w0 w1 w2 w3).mono fun e W' ⟨he, bel⟩ => ?_
  subst he
  exact ⟨_, rfl, _, _, _, [], _, [], hW', trodAll_mk1 (shut_bool Try.underlying4 _), (trodAll_cons_mk (Below.trod laidOut (by kernel_rfl) (of_decide_eq_true (by kernel_rfl)) k0 bel lt0) (trodAll_cons_mk (shut_int Try.underlying3 w1) (trodAll_cons_mk (shut_int Try.underlying3 w2) (trodAll_cons_mk (shut_int Try.underlying3 w3) trodAll_mk0)))), rfl, bel.frame _, fun h => by cases h⟩

theorem over : Rows.arenaTellsRow.holds Try.pinned (OpenSpec.ofChange Rows.arenaTellsSpec) :=
  OpenClaim.holds_of_wide 3 Try.f3 rfl rfl rfl rfl rfl rfl rfl ⟨rfl, rfl, rfl, rfl, rfl⟩ rfl rfl rfl rfl rfl (by kernel_rfl) Try.func3 (by kernel_rfl)
    (of_decide_eq_true (by kernel_rfl)) (by unfold Func.isWrapper; first | (rw [if_pos (by decide +kernel)]; kernel_rfl) | (rw [if_neg (by decide +kernel)]; exact ⟨rfl, rfl⟩))
    (fun os started H enc _ => lifted os started H enc)

/-- The statement. -/
theorem proved : Rows.ArenaTellsSaid :=
  over
#print axioms proved
end Go.Proofs.Ytndjocfnepikhaa.ArenaTells
