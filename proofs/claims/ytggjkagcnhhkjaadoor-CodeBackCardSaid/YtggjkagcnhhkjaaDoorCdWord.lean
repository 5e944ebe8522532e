/-
  strconv.Itoa of a number of at most 999; an operation's word.
-/
import Derived.Test.YtggjkagcnhhkjaaDoorCdMay
import Derived.Test.YtggjkagcnhhkjaaDoorShelf
import Derived.Laws.Concat
namespace Go.Proofs.YtggjkagcnhhkjaaDoor.Cd
open Go.Proofs.YtggjkagcnhhkjaaDoor Go.Proofs.YtggjkagcnhhkjaaDoor.Rt
open Go.RowKit
set_option maxRecDepth 100000

/-- The library's table of powers of ten is as its text lays it. -/
def Tb (w : World) : Prop := Lib.TabIs Tryd.prog w "internal/strconv.uint64pow10" .u64 Lib.pow10Tab
theorem gTab : Tryd.prog.globalNamed "internal/strconv.uint64pow10" = some 1 := by kernel_rfl
theorem Tb.next {w w' : World} (h : Tb w) (hb : Below w.heap.size w w') : Tb w' := by
  unfold Tb Lib.TabIs World.var? at h ⊢
  rw [gTab] at h ⊢
  simp only [Option.bind_some] at h ⊢
  by_cases hlt : 1 < w.heap.size
  · rw [hb.block 1 hlt]
    exact h
  · rw [Array.getElem?_eq_none (by omega)] at h
    cases h
theorem Tb.alloc {w : World} (h : Tb w) (o : Obj) : Tb (w.alloc o) := h.next ((Below.refl _ _).alloc (Nat.le_refl _) o)
theorem itoa_digits {n : Int} (h0 : 0 ≤ n) (h1 : n ≤ 999) : Lib.itoa n = digits n := by
  unfold Lib.itoa digits
  rw [if_neg (by omega)]
  have d1 : ∀ m : Nat, m < 10 → UInt8.ofNat (48 + m) = dig (m : Int) := fun m _ => rfl
  obtain ⟨m, rfl⟩ : ∃ m : Nat, n = m := ⟨n.toNat, by omega⟩
  rw [show ((m : Int)).toNat = m by omega]
  by_cases c1 : m < 10
  · rw [if_pos (by omega), Lib.decDigits_one c1]
    rfl
  · rw [if_neg (by omega)]
    by_cases c2 : m < 100
    · rw [if_pos (by omega), Lib.decDigits_two c1 c2, d1 _ (by omega), d1 _ (by omega)]
      norm_cast
    · rw [if_neg (by omega), Lib.decDigits, dif_neg c1, Lib.decDigits_two (by omega) (by omega), d1 _ (by omega), d1 _ (by omega), d1 _ (by omega)]
      have e1 : m / 10 / 10 = m / 100 := by omega
      rw [e1]
      rfl
theorem below_os (w : World) (k : Nat) (os : Array Obj) : Below w.heap.size w (Sort.grow (w.drewN k) os) :=
  ⟨rfl, rfl, rfl, by show w.heap.size ≤ (w.heap ++ os).size; rw [Array.size_append]; omega, fun j hj => by
    show (w.heap ++ os)[j]? = w.heap[j]?
    exact Array.getElem?_append_left hj⟩
theorem itoa_any (n : Int) (w : World) (h0 : 0 ≤ n) (h1 : n ≤ 999) (hT : Tb w) : Calls Tryd.prog 21 #[.int .i64 n] w fun e w' => e = .returned (.string (bs (digits n))) ∧ Below w.heap.size w w' := by
  refine (Tryd.strconv_Itoa n (by omega) (by omega) w hT).mono ?_
  rintro e w' ⟨rfl, k, os, rfl⟩
  rw [itoa_digits h0 h1]
  exact ⟨rfl, below_os w k os⟩
theorem bs_append (x y : List UInt8) : bs x ++ bs y = bs (x ++ y) := ByteArray.mk_append_mk x y
theorem add_bs (x y : List UInt8) (w : World) (hx : x.length ≤ 100000) (hy : y.length ≤ 100000) : (Op.stringOp .add (bs x) (bs y)).run Tryd.prog w = .ok (.string (bs (x ++ y))) w := by
  rw [run_string_add_sum w _ _ (by rw [bs_size, bs_size]; omega), bs_append]
theorem conv_sign {k : Int} (h : 0 ≤ k ∧ k ≤ 6) (w : World) : (convert 21 9 (.int .i32 (signR k))).run Tryd.prog w = .ok (.string (bs (sign k))) w := by
  have e : (convert 21 9 (.int .i32 (signR k))).run Tryd.prog w = .ok (.string (Utf8.encode (signR k))) w := by kernel_rfl
  rw [e, encode_sign h]
  rfl

/-- The first m numbers with commas between. -/
def commasN (x : O4) (m : Nat) : List UInt8 := commas ((nums x).take m)
theorem commasN_one (x : O4) : commasN x 1 = digits x.a := rfl
theorem commasN_two (x : O4) : commasN x 2 = commasN x 1 ++ ([44] ++ digits x.b) := rfl
theorem commasN_three (x : O4) : commasN x 3 = commasN x 2 ++ ([44] ++ digits x.c) := by
  show digits x.a ++ 44 :: (digits x.b ++ 44 :: digits x.c) = (digits x.a ++ 44 :: digits x.b) ++ ([44] ++ digits x.c)
  simp
theorem commasN_len (x : O4) (m : Nat) : (commasN x m).length ≤ 12 := by
  unfold commasN
  have h := commas_len ((nums x).take m)
  have : ((nums x).take m).length ≤ 3 := by rw [List.length_take]; exact Nat.le_trans (Nat.min_le_right _ _) (by simp [nums])
  omega
/-- An operation's word, and its error. -/
def wordS (x : O4) : ByteArray := if may x then bs (word x) else bs []
def wordE (x : O4) : Int := if may x then 0 else 1
theorem word_yes {x : O4} (h : may x) : wordS x = bs (word x) ∧ wordE x = 0 := ⟨if_pos h, if_pos h⟩
theorem word_no {x : O4} (h : ¬ may x) : wordS x = bs [] ∧ wordE x = 1 := ⟨if_neg h, if_neg h⟩
def WOut (w : World) (x : O4) (e : Ending) (w' : World) : Prop := e = .returned (.tuple #[.string (wordS x), .int .i64 (wordE x)]) ∧ Below w.heap.size w w'
theorem word_bad (k a b c : Int) (w : World) (h : ¬ may ⟨k, a, b, c⟩) : Calls Tryd.prog 10 #[opv ⟨k, a, b, c⟩] w (WOut w ⟨k, a, b, c⟩) := by
  have HM := Lib.hid (And.intro (mayB_no h) (word_no h))
  have HC : ∀ W, Calls Tryd.prog 12 #[.agg #[.int .i64 k, .int .i64 a, .int .i64 b, .int .i64 c]] W (MOut W ⟨k, a, b, c⟩) := fun W => may_any ⟨k, a, b, c⟩ W
  have HH := Lib.hid HC
  unfold opv
  clear h HC
  go_enter Tryd.func10, Tryd.ntmps10
  go_wp2_with fail
  refine (HH.out _).mono ?_
  rintro e w1 ⟨rfl, hb1⟩
  rw [HM.out.1]
  go_wp2
  go_ret2
  exact ⟨by rw [HM.out.2.1, HM.out.2.2]; rfl, ((Below.refl _ w).alloc (Nat.le_refl _) _).trans (hb1.mono (by simp))⟩
theorem many_le {k : Int} (h : 0 ≤ k ∧ k ≤ 6) : many k ≤ 3 := by
  rcases (show k = 0 ∨ k = 1 ∨ k = 2 ∨ k = 3 ∨ k = 4 ∨ k = 5 ∨ k = 6 by omega) with e | e | e | e | e | e | e <;> rw [e] <;> decide
/-- The word so far. -/
def sofar (x : O4) (m : Nat) : List UInt8 := sign x.k ++ commasN x m
theorem sofar_len (x : O4) (m : Nat) : (sofar x m).length ≤ 15 := by
  have h1 := sign_len x.k
  have h2 := commasN_len x m
  unfold sofar
  rw [List.length_append]
  omega
theorem sofar_one (x : O4) : sofar x 0 ++ digits x.a = sofar x 1 := by
  unfold sofar
  rw [commasN_one, show commasN x 0 = [] from rfl, List.append_nil]
theorem sofar_two (x : O4) : (sofar x 1 ++ [44]) ++ digits x.b = sofar x 2 := by
  unfold sofar
  rw [commasN_two]
  simp
theorem sofar_three (x : O4) : (sofar x 2 ++ [44]) ++ digits x.c = sofar x 3 := by
  unfold sofar
  rw [commasN_three]
  simp
theorem slice_all (N A : Nat) (h : N ≤ 3) (w : World) : Sem.run Tryd.prog (Instr.sliceAt 42 (.pointer (some ⟨A, 0, none⟩)) none (some (.int .i64 (N : Int))) none) w = .ok (.slice (some ⟨A, 0, none⟩) N 3) w := by
  rcases (show N = 0 ∨ N = 1 ∨ N = 2 ∨ N = 3 by omega) with rfl | rfl | rfl | rfl
  · kernel_rfl
  · kernel_rfl
  · kernel_rfl
  · kernel_rfl
set_option maxHeartbeats 1000000 in
theorem word_good (k a b c : Int) (w : World) (hT : Tb w) (h : may ⟨k, a, b, c⟩) : Calls Tryd.prog 10 #[opv ⟨k, a, b, c⟩] w (WOut w ⟨k, a, b, c⟩) := by
  have hk : 0 ≤ k ∧ k ≤ 6 := ⟨h.1, h.2.1⟩
  obtain ⟨f1, f2, f3, f4⟩ := f_yes hk
  have HF := Lib.hid (And.intro f1 (And.intro f2 (And.intro f3 f4)))
  have HM := Lib.hid (And.intro (mayB_yes h) (And.intro (word_yes h) (And.intro hk h)))
  have HT := Lib.hid hT
  have HC : ∀ W, Calls Tryd.prog 12 #[.agg #[.int .i64 k, .int .i64 a, .int .i64 b, .int .i64 c]] W (MOut W ⟨k, a, b, c⟩) := fun W => may_any ⟨k, a, b, c⟩ W
  have HH := Lib.hid HC
  obtain ⟨N, hN⟩ : ∃ N : Nat, N = many k := ⟨_, rfl⟩
  have hN3 : N ≤ 3 := by rw [hN]; exact many_le hk
  have HN := Lib.hid hN
  unfold opv
  clear f1 f2 f3 f4 h HC hk hN hT
  go_enter Tryd.func10, Tryd.ntmps10
  go_wp2_with fail
  refine (HH.out _).mono ?_
  rintro e w1 ⟨rfl, hb1⟩
  rw [HM.out.1]
  have HX := Lib.hid ((Box.new w [.int .i64 k, .int .i64 a, .int .i64 b, .int .i64 c] 28).next hb1)
  have HB := Lib.hid (((Below.refl _ w).alloc (Nat.le_refl _) (.cells [Value.int .i64 k, .int .i64 a, .int .i64 b, .int .i64 c].toArray 28)).trans (hb1.mono (by simp)))
  clear hb1
  have c0 := HX.out.cel 0 _ rfl
  have cl := HX.out.lt
  go_wp2_with fail
  refine (find_any _ _).mono ?_
  rintro e w2 ⟨rfl, hb2⟩
  rw [HF.out.1, HF.out.2.1, HF.out.2.2.1, HF.out.2.2.2, ← HN.out]
  have HX2 := Lib.hid (HX.out.next hb2)
  have HB2 := Lib.hid (HB.out.trans (hb2.mono HB.out.size))
  clear hb2 c0 cl HX HB
  have c0 := HX2.out.cel 0 _ rfl
  have c1 := HX2.out.cel 1 _ rfl
  have c2 := HX2.out.cel 2 _ rfl
  have c3 := HX2.out.cel 3 _ rfl
  have cl := HX2.out.lt
  have hcv := fun w => conv_sign HM.out.2.2.1 w
  go_wp2_with fail
  refine (numbers_any _ _ _ _ _).mono ?_
  rintro e w3 ⟨rfl, hb3⟩
  have HY := Lib.hid ((Box.new w2 [.int .i64 k, .int .i64 N] 39).next hb3)
  have HB3 := Lib.hid ((HB2.out.alloc HB2.out.size (.cells [Value.int .i64 k, .int .i64 N].toArray 39)).trans (hb3.mono (by have := HB2.out.size; simp; omega)))
  clear hb3 c0 c1 c2 c3 cl HX2 HB2 hcv
  have y1 := HY.out.cel 1 _ rfl
  have yl := HY.out.lt
  have hsl := fun w => slice_all N w3.heap.size hN3 w
  obtain ⟨s0, hs0⟩ : ∃ s0, s0 = sofar ⟨k, a, b, c⟩ 0 := ⟨_, rfl⟩
  have es : sign k = s0 := by rw [hs0]; unfold sofar; rw [show commasN ⟨k, a, b, c⟩ 0 = [] from rfl, List.append_nil]
  have ES := Lib.hid hs0
  clear hs0
  rw [es]
  have EE := Lib.hid es
  clear es
  go_wp2_with fail
  have HA := Lib.hid (Box.new w3 [.int .i64 a, .int .i64 b, .int .i64 c] 42)
  have HB4 := Lib.hid (HB3.out.alloc HB3.out.size (.cells [Value.int .i64 a, .int .i64 b, .int .i64 c].toArray 42))
  have HQ := Lib.hid (And.intro (And.intro HM.out.2.2.2.2.2.1.1 HM.out.2.2.2.2.2.1.2.1) (And.intro (And.intro HM.out.2.2.2.2.2.2.1.1 HM.out.2.2.2.2.2.2.1.2.1) (And.intro HM.out.2.2.2.2.2.2.2.1 HM.out.2.2.2.2.2.2.2.2.1)))
  generalize w3.heap.size = A at HA ⊢
  generalize w3.alloc (.cells #[Value.int .i64 a, .int .i64 b, .int .i64 c] 42) = w4 at HA HB4 ⊢
  clear hsl y1 yl HY HB3
  go_loopw [7, 29] (fun s i wr => ∃ m : Nat, m ≤ N ∧ i = .int .i64 m ∧ s = .string (bs (sofar ⟨k, a, b, c⟩ m)) ∧ Hid (Box wr A [.int .i64 a, .int .i64 b, .int .i64 c] ∧ Below w.heap.size w wr)) (fun _ i _ => 3 - (intOf i).toNat)
  case atStart => exact ⟨0, by omega, rfl, by rw [ES.out], Lib.hid ⟨HA.out, HB4.out⟩⟩
  case round =>
    obtain ⟨m, hm, rfl, rfl, HR⟩ := hrel
    by_cases hlt : m < N
    · have hm3 : m = 0 ∨ m = 1 ∨ m = 2 := by omega
      have q0 := HR.out.1.cel 0 _ rfl
      have q1 := HR.out.1.cel 1 _ rfl
      have q2 := HR.out.1.cel 2 _ rfl
      have ql := HR.out.1.lt
      have hTr := Lib.hid (HT.out.next HR.out.2)
      rcases hm3 with rfl | rfl | rfl
      · have hlt' : (0 : Int) < (N : Int) := by omega
        have hadd := fun w => add_bs (sofar ⟨k, a, b, c⟩ 0) (digits a) w (by have := sofar_len ⟨k, a, b, c⟩ 0; omega) (by have := digits_len a; omega)
        rw [sofar_one ⟨k, a, b, c⟩] at hadd
        go_wp2_with fail
        refine (itoa_any a _ HQ.out.1.1 HQ.out.1.2 hTr.out).mono ?_
        rintro e w5 ⟨rfl, hb5⟩
        have H5 := Lib.hid (And.intro (HR.out.1.next hb5) (HR.out.2.trans (hb5.mono HR.out.2.size)))
        clear hb5 q0 q1 q2 ql
        go_wp2
        go_roundw
        case rel => exact ⟨1, by omega, by rfl, by rfl, H5⟩
        case measure => simp [intOf]
      · have hlt' : (1 : Int) < (N : Int) := by omega
        have hcm : ∀ w, (Op.stringOp .add (bs (sofar ⟨k, a, b, c⟩ 1)) { data := #[44] }).run Tryd.prog w = .ok (.string (bs (sofar ⟨k, a, b, c⟩ 1 ++ [44]))) w := fun w => add_bs (sofar ⟨k, a, b, c⟩ 1) [44] w (by have := sofar_len ⟨k, a, b, c⟩ 1; omega) (by simp)
        have hadd := fun w => add_bs (sofar ⟨k, a, b, c⟩ 1 ++ [44]) (digits b) w (by have := sofar_len ⟨k, a, b, c⟩ 1; simp; omega) (by have := digits_len b; omega)
        rw [sofar_two ⟨k, a, b, c⟩] at hadd
        go_wp2_with fail
        refine (itoa_any b _ HQ.out.2.1.1 HQ.out.2.1.2 hTr.out).mono ?_
        rintro e w5 ⟨rfl, hb5⟩
        have H5 := Lib.hid (And.intro (HR.out.1.next hb5) (HR.out.2.trans (hb5.mono HR.out.2.size)))
        clear hb5 q0 q1 q2 ql
        go_wp2
        go_roundw
        case rel => exact ⟨2, by omega, by rfl, by rfl, H5⟩
        case measure => simp [intOf]
      · have hlt' : (2 : Int) < (N : Int) := by omega
        have hcm : ∀ w, (Op.stringOp .add (bs (sofar ⟨k, a, b, c⟩ 2)) { data := #[44] }).run Tryd.prog w = .ok (.string (bs (sofar ⟨k, a, b, c⟩ 2 ++ [44]))) w := fun w => add_bs (sofar ⟨k, a, b, c⟩ 2) [44] w (by have := sofar_len ⟨k, a, b, c⟩ 2; omega) (by simp)
        have hadd := fun w => add_bs (sofar ⟨k, a, b, c⟩ 2 ++ [44]) (digits c) w (by have := sofar_len ⟨k, a, b, c⟩ 2; simp; omega) (by have := digits_len c; omega)
        rw [sofar_three ⟨k, a, b, c⟩] at hadd
        go_wp2_with fail
        refine (itoa_any c _ HQ.out.2.2.1 HQ.out.2.2.2 hTr.out).mono ?_
        rintro e w5 ⟨rfl, hb5⟩
        have H5 := Lib.hid (And.intro (HR.out.1.next hb5) (HR.out.2.trans (hb5.mono HR.out.2.size)))
        clear hb5 q0 q1 q2 ql
        go_wp2
        go_roundw
        case rel => exact ⟨3, by omega, by rfl, by rfl, H5⟩
        case measure => simp [intOf]
    · obtain rfl : m = N := by omega
      have hw : wordS ⟨k, a, b, c⟩ = bs (sofar ⟨k, a, b, c⟩ m) := by
        rw [HM.out.2.1.1, HN.out]
        rfl
      have HW := Lib.hid (And.intro hw HM.out.2.1.2)
      clear hw
      go_wp2
      go_ret2
      exact ⟨by rw [HW.out.1, HW.out.2]; rfl, HR.out.2⟩
theorem word_any (x : O4) (w : World) (hT : Tb w) : Calls Tryd.prog 10 #[opv x] w (WOut w x) := by
  obtain ⟨k, a, b, c⟩ := x
  by_cases h : may ⟨k, a, b, c⟩
  · exact word_good k a b c w hT h
  · exact word_bad k a b c w h
end Go.Proofs.YtggjkagcnhhkjaaDoor.Cd
