/-
  HeadOrder: of two heads that differ in Mark alone that with the greater one has the greater word, and so it is with Born and with N: for every head and every three numbers, without a condition.
-/
import Derived.Test.YthfpblkhcodohaaFrame
import Derived.Test.YthfpblkhcodohaaAwake
import Derived.Test.YthfpblkhcodohaaSame
namespace Go.Proofs.Ythfpblkhcodohaa.Order
open Go.Proofs.Ythfpblkhcodohaa
open Go.ChangeShapes Go.WideShapes Go.ChangeAt Go.RowKit

theorem free (o e : Bool) (n b m x y z : Int) (w : World) :
    Calls Try.prog 7 #[.agg #[.bool false, .bool o, .bool e, .int .i64 n, .int .i64 b, .int .i64 m], .int .i64 x, .int .i64 y, .int .i64 z] w fun r w' => r = .returned (.bool true) ∧ Below w.heap.size w w' := by
  go_enter Try.func7, Try.ntmps7
  go_wp2_with fail
  refine (awake_yes _).mono ?_
  rintro r w1 ⟨rfl, hb1⟩
  have hc1 := old_cell hb1
  have hf1 := old_mark hb1
  have s1 := hb1.size
  simp at s1
  have z1_0_0 : w.heap.size < w1.heap.size := by omega
  have z1_0_1 : w.heap.size < w1.heap.size + 1 := by omega
  have z1_0_2 : w.heap.size < w1.heap.size + 1 + 1 := by omega
  have z1_0_3 : w.heap.size < w1.heap.size + 1 + 1 + 1 := by omega
  go_wp2
  go_ret
  exact ⟨rfl, (((((((((((Below.refl _ _)).alloc (by first | omega | (simp; omega) | simp) _)).trans (hb1.mono (by first | omega | (simp; omega) | simp)))).alloc (by first | omega | (simp; omega) | simp) _)).alloc (by first | omega | (simp; omega) | simp) _)).alloc (by first | omega | (simp; omega) | simp) _)⟩
theorem no_h (o e : Bool) (n b m x y z : Int) (w : World) (h : mayB true o e n b m = false) :
    Calls Try.prog 7 #[.agg #[.bool true, .bool o, .bool e, .int .i64 n, .int .i64 b, .int .i64 m], .int .i64 x, .int .i64 y, .int .i64 z] w fun r w' => r = .returned (.bool true) ∧ Below w.heap.size w w' := by
  have H := Lib.hid h
  clear h
  go_enter Try.func7, Try.ntmps7
  go_wp2_with fail
  refine (awake_yes _).mono ?_
  rintro r w1 ⟨rfl, hb1⟩
  have hc1 := old_cell hb1
  have hf1 := old_mark hb1
  have s1 := hb1.size
  simp at s1
  have z1_0_0 : w.heap.size < w1.heap.size := by omega
  have z1_0_1 : w.heap.size < w1.heap.size + 1 := by omega
  have z1_0_2 : w.heap.size < w1.heap.size + 1 + 1 := by omega
  have z1_0_3 : w.heap.size < w1.heap.size + 1 + 1 + 1 := by omega
  go_wp2_with fail
  refine (may_no _ _ _ _ _ _ _ H.out).mono ?_
  rintro r w2 ⟨rfl, hb2⟩
  have hc2 := old_cell hb2
  have hf2 := old_mark hb2
  have s2 := hb2.size
  simp at s2
  have z2_0_0 : w.heap.size < w2.heap.size := by omega
  have z2_1_0 : w1.heap.size < w2.heap.size := by omega
  have z2_2_0 : w1.heap.size + 1 < w2.heap.size := by omega
  have z2_3_0 : w1.heap.size + 1 + 1 < w2.heap.size := by omega
  go_wp2
  go_ret
  exact ⟨rfl, (((((((((((((Below.refl _ _)).alloc (by first | omega | (simp; omega) | simp) _)).trans (hb1.mono (by first | omega | (simp; omega) | simp)))).alloc (by first | omega | (simp; omega) | simp) _)).alloc (by first | omega | (simp; omega) | simp) _)).alloc (by first | omega | (simp; omega) | simp) _)).trans (hb2.mono (by first | omega | (simp; omega) | simp)))⟩
theorem no_i (o e : Bool) (n b m x y z : Int) (w : World) (h : mayB true o e n b m = true) (i : mayB true o e n b x = false) :
    Calls Try.prog 7 #[.agg #[.bool true, .bool o, .bool e, .int .i64 n, .int .i64 b, .int .i64 m], .int .i64 x, .int .i64 y, .int .i64 z] w fun r w' => r = .returned (.bool true) ∧ Below w.heap.size w w' := by
  have H := Lib.hid h
  clear h
  have I := Lib.hid i
  clear i
  go_enter Try.func7, Try.ntmps7
  go_wp2_with fail
  refine (awake_yes _).mono ?_
  rintro r w1 ⟨rfl, hb1⟩
  have hc1 := old_cell hb1
  have hf1 := old_mark hb1
  have s1 := hb1.size
  simp at s1
  have z1_0_0 : w.heap.size < w1.heap.size := by omega
  have z1_0_1 : w.heap.size < w1.heap.size + 1 := by omega
  have z1_0_2 : w.heap.size < w1.heap.size + 1 + 1 := by omega
  have z1_0_3 : w.heap.size < w1.heap.size + 1 + 1 + 1 := by omega
  go_wp2_with fail
  refine (may_yes _ _ _ _ _ _ _ H.out).mono ?_
  rintro r w2 ⟨rfl, hb2⟩
  have hc2 := old_cell hb2
  have hf2 := old_mark hb2
  have s2 := hb2.size
  simp at s2
  have z2_0_0 : w.heap.size < w2.heap.size := by omega
  have z2_1_0 : w1.heap.size < w2.heap.size := by omega
  have z2_2_0 : w1.heap.size + 1 < w2.heap.size := by omega
  have z2_3_0 : w1.heap.size + 1 + 1 < w2.heap.size := by omega
  go_wp2_with fail
  refine (may_no _ _ _ _ _ _ _ I.out).mono ?_
  rintro r w3 ⟨rfl, hb3⟩
  have hc3 := old_cell hb3
  have hf3 := old_mark hb3
  have s3 := hb3.size
  have z3_0_0 : w.heap.size < w3.heap.size := by omega
  have z3_1_0 : w1.heap.size < w3.heap.size := by omega
  have z3_2_0 : w1.heap.size + 1 < w3.heap.size := by omega
  have z3_3_0 : w1.heap.size + 1 + 1 < w3.heap.size := by omega
  go_wp2
  go_ret
  exact ⟨rfl, (((((((((((((((Below.refl _ _)).alloc (by first | omega | (simp; omega) | simp) _)).trans (hb1.mono (by first | omega | (simp; omega) | simp)))).alloc (by first | omega | (simp; omega) | simp) _)).alloc (by first | omega | (simp; omega) | simp) _)).alloc (by first | omega | (simp; omega) | simp) _)).trans (hb2.mono (by first | omega | (simp; omega) | simp)))).trans (hb3.mono (by first | omega | (simp; omega) | simp)))⟩
theorem no_j (o e : Bool) (n b m x y z : Int) (w : World) (h : mayB true o e n b m = true) (i : mayB true o e n b x = true) (j : mayB true o e n y m = false) :
    Calls Try.prog 7 #[.agg #[.bool true, .bool o, .bool e, .int .i64 n, .int .i64 b, .int .i64 m], .int .i64 x, .int .i64 y, .int .i64 z] w fun r w' => r = .returned (.bool true) ∧ Below w.heap.size w w' := by
  have H := Lib.hid h
  clear h
  have I := Lib.hid i
  clear i
  have J := Lib.hid j
  clear j
  go_enter Try.func7, Try.ntmps7
  go_wp2_with fail
  refine (awake_yes _).mono ?_
  rintro r w1 ⟨rfl, hb1⟩
  have hc1 := old_cell hb1
  have hf1 := old_mark hb1
  have s1 := hb1.size
  simp at s1
  have z1_0_0 : w.heap.size < w1.heap.size := by omega
  have z1_0_1 : w.heap.size < w1.heap.size + 1 := by omega
  have z1_0_2 : w.heap.size < w1.heap.size + 1 + 1 := by omega
  have z1_0_3 : w.heap.size < w1.heap.size + 1 + 1 + 1 := by omega
  go_wp2_with fail
  refine (may_yes _ _ _ _ _ _ _ H.out).mono ?_
  rintro r w2 ⟨rfl, hb2⟩
  have hc2 := old_cell hb2
  have hf2 := old_mark hb2
  have s2 := hb2.size
  simp at s2
  have z2_0_0 : w.heap.size < w2.heap.size := by omega
  have z2_1_0 : w1.heap.size < w2.heap.size := by omega
  have z2_2_0 : w1.heap.size + 1 < w2.heap.size := by omega
  have z2_3_0 : w1.heap.size + 1 + 1 < w2.heap.size := by omega
  go_wp2_with fail
  refine (may_yes _ _ _ _ _ _ _ I.out).mono ?_
  rintro r w3 ⟨rfl, hb3⟩
  have hc3 := old_cell hb3
  have hf3 := old_mark hb3
  have s3 := hb3.size
  have z3_0_0 : w.heap.size < w3.heap.size := by omega
  have z3_1_0 : w1.heap.size < w3.heap.size := by omega
  have z3_2_0 : w1.heap.size + 1 < w3.heap.size := by omega
  have z3_3_0 : w1.heap.size + 1 + 1 < w3.heap.size := by omega
  go_wp2_with fail
  refine (may_no _ _ _ _ _ _ _ J.out).mono ?_
  rintro r w4 ⟨rfl, hb4⟩
  have hc4 := old_cell hb4
  have hf4 := old_mark hb4
  have s4 := hb4.size
  have z4_0_0 : w.heap.size < w4.heap.size := by omega
  have z4_1_0 : w1.heap.size < w4.heap.size := by omega
  have z4_2_0 : w1.heap.size + 1 < w4.heap.size := by omega
  have z4_3_0 : w1.heap.size + 1 + 1 < w4.heap.size := by omega
  go_wp2
  go_ret
  exact ⟨rfl, (((((((((((((((((Below.refl _ _)).alloc (by first | omega | (simp; omega) | simp) _)).trans (hb1.mono (by first | omega | (simp; omega) | simp)))).alloc (by first | omega | (simp; omega) | simp) _)).alloc (by first | omega | (simp; omega) | simp) _)).alloc (by first | omega | (simp; omega) | simp) _)).trans (hb2.mono (by first | omega | (simp; omega) | simp)))).trans (hb3.mono (by first | omega | (simp; omega) | simp)))).trans (hb4.mono (by first | omega | (simp; omega) | simp)))⟩
theorem no_l (o e : Bool) (n b m x y z : Int) (w : World) (h : mayB true o e n b m = true) (i : mayB true o e n b x = true) (j : mayB true o e n y m = true) (l : mayB true o e z b m = false) :
    Calls Try.prog 7 #[.agg #[.bool true, .bool o, .bool e, .int .i64 n, .int .i64 b, .int .i64 m], .int .i64 x, .int .i64 y, .int .i64 z] w fun r w' => r = .returned (.bool true) ∧ Below w.heap.size w w' := by
  have H := Lib.hid h
  clear h
  have I := Lib.hid i
  clear i
  have J := Lib.hid j
  clear j
  have L := Lib.hid l
  clear l
  go_enter Try.func7, Try.ntmps7
  go_wp2_with fail
  refine (awake_yes _).mono ?_
  rintro r w1 ⟨rfl, hb1⟩
  have hc1 := old_cell hb1
  have hf1 := old_mark hb1
  have s1 := hb1.size
  simp at s1
  have z1_0_0 : w.heap.size < w1.heap.size := by omega
  have z1_0_1 : w.heap.size < w1.heap.size + 1 := by omega
  have z1_0_2 : w.heap.size < w1.heap.size + 1 + 1 := by omega
  have z1_0_3 : w.heap.size < w1.heap.size + 1 + 1 + 1 := by omega
  go_wp2_with fail
  refine (may_yes _ _ _ _ _ _ _ H.out).mono ?_
  rintro r w2 ⟨rfl, hb2⟩
  have hc2 := old_cell hb2
  have hf2 := old_mark hb2
  have s2 := hb2.size
  simp at s2
  have z2_0_0 : w.heap.size < w2.heap.size := by omega
  have z2_1_0 : w1.heap.size < w2.heap.size := by omega
  have z2_2_0 : w1.heap.size + 1 < w2.heap.size := by omega
  have z2_3_0 : w1.heap.size + 1 + 1 < w2.heap.size := by omega
  go_wp2_with fail
  refine (may_yes _ _ _ _ _ _ _ I.out).mono ?_
  rintro r w3 ⟨rfl, hb3⟩
  have hc3 := old_cell hb3
  have hf3 := old_mark hb3
  have s3 := hb3.size
  have z3_0_0 : w.heap.size < w3.heap.size := by omega
  have z3_1_0 : w1.heap.size < w3.heap.size := by omega
  have z3_2_0 : w1.heap.size + 1 < w3.heap.size := by omega
  have z3_3_0 : w1.heap.size + 1 + 1 < w3.heap.size := by omega
  go_wp2_with fail
  refine (may_yes _ _ _ _ _ _ _ J.out).mono ?_
  rintro r w4 ⟨rfl, hb4⟩
  have hc4 := old_cell hb4
  have hf4 := old_mark hb4
  have s4 := hb4.size
  have z4_0_0 : w.heap.size < w4.heap.size := by omega
  have z4_1_0 : w1.heap.size < w4.heap.size := by omega
  have z4_2_0 : w1.heap.size + 1 < w4.heap.size := by omega
  have z4_3_0 : w1.heap.size + 1 + 1 < w4.heap.size := by omega
  go_wp2_with fail
  refine (may_no _ _ _ _ _ _ _ L.out).mono ?_
  rintro r w5 ⟨rfl, hb5⟩
  have hc5 := old_cell hb5
  have hf5 := old_mark hb5
  have s5 := hb5.size
  have z5_0_0 : w.heap.size < w5.heap.size := by omega
  have z5_1_0 : w1.heap.size < w5.heap.size := by omega
  have z5_2_0 : w1.heap.size + 1 < w5.heap.size := by omega
  have z5_3_0 : w1.heap.size + 1 + 1 < w5.heap.size := by omega
  go_wp2
  go_ret
  exact ⟨rfl, (((((((((((((((((((Below.refl _ _)).alloc (by first | omega | (simp; omega) | simp) _)).trans (hb1.mono (by first | omega | (simp; omega) | simp)))).alloc (by first | omega | (simp; omega) | simp) _)).alloc (by first | omega | (simp; omega) | simp) _)).alloc (by first | omega | (simp; omega) | simp) _)).trans (hb2.mono (by first | omega | (simp; omega) | simp)))).trans (hb3.mono (by first | omega | (simp; omega) | simp)))).trans (hb4.mono (by first | omega | (simp; omega) | simp)))).trans (hb5.mono (by first | omega | (simp; omega) | simp)))⟩
theorem all (o e : Bool) (n b m x y z : Int) (w : World) (h : mayB true o e n b m = true) (i : mayB true o e n b x = true) (j : mayB true o e n y m = true) (l : mayB true o e z b m = true) (p1 : decide (word true o e n b m < word true o e n b x) = decide (m < x)) (p2 : decide (word true o e n b m < word true o e n y m) = decide (b < y)) (p3 : decide (word true o e n b m < word true o e z b m) = decide (n < z)) :
    Calls Try.prog 7 #[.agg #[.bool true, .bool o, .bool e, .int .i64 n, .int .i64 b, .int .i64 m], .int .i64 x, .int .i64 y, .int .i64 z] w fun r w' => r = .returned (.bool true) ∧ Below w.heap.size w w' := by
  have H := Lib.hid h
  clear h
  have I := Lib.hid i
  clear i
  have J := Lib.hid j
  clear j
  have L := Lib.hid l
  clear l
  go_enter Try.func7, Try.ntmps7
  go_wp2_with fail
  refine (awake_yes _).mono ?_
  rintro r w1 ⟨rfl, hb1⟩
  have hc1 := old_cell hb1
  have hf1 := old_mark hb1
  have s1 := hb1.size
  simp at s1
  have z1_0_0 : w.heap.size < w1.heap.size := by omega
  have z1_0_1 : w.heap.size < w1.heap.size + 1 := by omega
  have z1_0_2 : w.heap.size < w1.heap.size + 1 + 1 := by omega
  have z1_0_3 : w.heap.size < w1.heap.size + 1 + 1 + 1 := by omega
  go_wp2_with fail
  refine (may_yes _ _ _ _ _ _ _ H.out).mono ?_
  rintro r w2 ⟨rfl, hb2⟩
  have hc2 := old_cell hb2
  have hf2 := old_mark hb2
  have s2 := hb2.size
  simp at s2
  have z2_0_0 : w.heap.size < w2.heap.size := by omega
  have z2_1_0 : w1.heap.size < w2.heap.size := by omega
  have z2_2_0 : w1.heap.size + 1 < w2.heap.size := by omega
  have z2_3_0 : w1.heap.size + 1 + 1 < w2.heap.size := by omega
  go_wp2_with fail
  refine (may_yes _ _ _ _ _ _ _ I.out).mono ?_
  rintro r w3 ⟨rfl, hb3⟩
  have hc3 := old_cell hb3
  have hf3 := old_mark hb3
  have s3 := hb3.size
  have z3_0_0 : w.heap.size < w3.heap.size := by omega
  have z3_1_0 : w1.heap.size < w3.heap.size := by omega
  have z3_2_0 : w1.heap.size + 1 < w3.heap.size := by omega
  have z3_3_0 : w1.heap.size + 1 + 1 < w3.heap.size := by omega
  go_wp2_with fail
  refine (may_yes _ _ _ _ _ _ _ J.out).mono ?_
  rintro r w4 ⟨rfl, hb4⟩
  have hc4 := old_cell hb4
  have hf4 := old_mark hb4
  have s4 := hb4.size
  have z4_0_0 : w.heap.size < w4.heap.size := by omega
  have z4_1_0 : w1.heap.size < w4.heap.size := by omega
  have z4_2_0 : w1.heap.size + 1 < w4.heap.size := by omega
  have z4_3_0 : w1.heap.size + 1 + 1 < w4.heap.size := by omega
  go_wp2_with fail
  refine (may_yes _ _ _ _ _ _ _ L.out).mono ?_
  rintro r w5 ⟨rfl, hb5⟩
  have hc5 := old_cell hb5
  have hf5 := old_mark hb5
  have s5 := hb5.size
  have z5_0_0 : w.heap.size < w5.heap.size := by omega
  have z5_1_0 : w1.heap.size < w5.heap.size := by omega
  have z5_2_0 : w1.heap.size + 1 < w5.heap.size := by omega
  have z5_3_0 : w1.heap.size + 1 + 1 < w5.heap.size := by omega
  go_wp2_with fail
  refine (pack_yes _ _ _ _ _ _ _ H.out).mono ?_
  rintro r w6 ⟨rfl, hb6⟩
  have hc6 := old_cell hb6
  have hf6 := old_mark hb6
  have s6 := hb6.size
  have z6_0_0 : w.heap.size < w6.heap.size := by omega
  have z6_1_0 : w1.heap.size < w6.heap.size := by omega
  have z6_2_0 : w1.heap.size + 1 < w6.heap.size := by omega
  have z6_3_0 : w1.heap.size + 1 + 1 < w6.heap.size := by omega
  go_wp2_with fail
  refine (pack_yes _ _ _ _ _ _ _ I.out).mono ?_
  rintro r w7 ⟨rfl, hb7⟩
  have hc7 := old_cell hb7
  have hf7 := old_mark hb7
  have s7 := hb7.size
  have z7_0_0 : w.heap.size < w7.heap.size := by omega
  have z7_1_0 : w1.heap.size < w7.heap.size := by omega
  have z7_2_0 : w1.heap.size + 1 < w7.heap.size := by omega
  have z7_3_0 : w1.heap.size + 1 + 1 < w7.heap.size := by omega
  go_wp2_with fail
  refine (pack_yes _ _ _ _ _ _ _ J.out).mono ?_
  rintro r w8 ⟨rfl, hb8⟩
  have hc8 := old_cell hb8
  have hf8 := old_mark hb8
  have s8 := hb8.size
  have z8_0_0 : w.heap.size < w8.heap.size := by omega
  have z8_1_0 : w1.heap.size < w8.heap.size := by omega
  have z8_2_0 : w1.heap.size + 1 < w8.heap.size := by omega
  have z8_3_0 : w1.heap.size + 1 + 1 < w8.heap.size := by omega
  go_wp2_with fail
  refine (pack_yes _ _ _ _ _ _ _ L.out).mono ?_
  rintro r w9 ⟨rfl, hb9⟩
  have hc9 := old_cell hb9
  have hf9 := old_mark hb9
  have s9 := hb9.size
  have z9_0_0 : w.heap.size < w9.heap.size := by omega
  have z9_1_0 : w1.heap.size < w9.heap.size := by omega
  have z9_2_0 : w1.heap.size + 1 < w9.heap.size := by omega
  have z9_3_0 : w1.heap.size + 1 + 1 < w9.heap.size := by omega
  go_wp2
  go_ret
  exact ⟨rfl, (((((((((((((((((((((((((((Below.refl _ _)).alloc (by first | omega | (simp; omega) | simp) _)).trans (hb1.mono (by first | omega | (simp; omega) | simp)))).alloc (by first | omega | (simp; omega) | simp) _)).alloc (by first | omega | (simp; omega) | simp) _)).alloc (by first | omega | (simp; omega) | simp) _)).trans (hb2.mono (by first | omega | (simp; omega) | simp)))).trans (hb3.mono (by first | omega | (simp; omega) | simp)))).trans (hb4.mono (by first | omega | (simp; omega) | simp)))).trans (hb5.mono (by first | omega | (simp; omega) | simp)))).trans (hb6.mono (by first | omega | (simp; omega) | simp)))).trans (hb7.mono (by first | omega | (simp; omega) | simp)))).trans (hb8.mono (by first | omega | (simp; omega) | simp)))).trans (hb9.mono (by first | omega | (simp; omega) | simp)))⟩
theorem walk (u o e : Bool) (n b m : Int) (x : Int) (y : Int) (z : Int) (w : World) :
    Calls Try.prog 7 #[.agg #[.bool u, .bool o, .bool e, .int .i64 n, .int .i64 b, .int .i64 m], .int .i64 x, .int .i64 y, .int .i64 z] w fun r w' => r = .returned (.bool true) ∧ Below w.heap.size w w' := by
  cases u
  · exact free o e n b m x y z w
  · cases h : mayB true o e n b m
    · exact no_h o e n b m x y z w h
    · cases i : mayB true o e n b x
      · exact no_i o e n b m x y z w h i
      · cases j : mayB true o e n y m
        · exact no_j o e n b m x y z w h i j
        · cases l : mayB true o e z b m
          · exact no_l o e n b m x y z w h i j l
          · exact all o e n b m x y z w h i j l (by rw [decide_eq_decide]; simp only [word, if_true]; omega) (by rw [decide_eq_decide]; simp only [word, if_true]; omega) (by rw [decide_eq_decide]; simp only [word, if_true]; omega)

theorem cellsHead : Try.prog.cellsOf 23 = 6 := by kernel_rfl
set_option maxRecDepth 100000 in
theorem lifted (os : Os) (started : os.Started) (H : Type) (enc : TypeId × Value → H) :
    ReturnsInHanded {} Try.checked os 7 .any (Rows.headOrderSpec.pre6 enc Try.prog Try.f7 Rows.headOrderRow.domain false) (Rows.headOrderSpec.post enc Try.prog Try.f7 false true false false) := by
  refine returnsInHanded_of_change (C := Try.checked) own started (by kernel_rfl) Try.func7
    (ChangeSpec.witness6 (enc := enc) (C := Try.checked) false ⟨#[], #[.agg #[.bool false, .bool false, .bool false, .int .i64 0, .int .i64 0, .int .i64 0], .int .i64 0, .int .i64 0, .int .i64 0], []⟩ 8 (by kernel_rfl) (by kernel_rfl) (by kernel_rfl) (by kernel_rfl)) ?_
  intro W base args ds gs before hval0 hW hcnd _
  have hval : ∀ (j : Nat) t v, Try.f7.params[j]? = some t → args[j]? = some v → Value.okWide Try.prog W .any base t v := hval0
  have hW' := hW
  obtain ⟨p, q, hA0, hV, rfl, hfz, hnd⟩ := hW
  have hA : DataW.TrodAll enc Try.prog W 0 (fun _ => true) true Try.f7.params.toList args.toList ds p := hA0
  rw [Try.params7] at hA hval
  obtain ⟨v0, vs0, d0, ds0, p0, q0, hargs, rfl, rfl, h0, r0⟩ := trodAll_cons hA
  obtain ⟨v1, vs1, d1, ds1, p1, q1, rfl, rfl, rfl, h1, r1⟩ := trodAll_cons r0
  obtain ⟨v2, vs2, d2, ds2, p2, q2, rfl, rfl, rfl, h2, r2⟩ := trodAll_cons r1
  obtain ⟨v3, vs3, d3, ds3, p3, q3, rfl, rfl, rfl, h3, r3⟩ := trodAll_cons r2
  obtain ⟨rfl, rfl, rfl⟩ := trodAll_nil r3
  obtain rfl : args = #[v0, v1, v2, v3] := by cases args; simp_all
  obtain ⟨rfl, rfl⟩ := trodVars_none hV
  obtain ⟨u0, o0, e0, n0, b0, m0, rfl, rfl, rfl, x0, y0, z0⟩ := six_open Try.underlying23 cellsHead (by kernel_rfl) rfl Try.underlying4 Try.underlying3 (hval 0 23 v0 rfl rfl) h0
  obtain ⟨a1, rfl, rfl, rfl, x1⟩ := open_int Try.underlying3 (hval 1 3 v1 rfl rfl) h1
  obtain ⟨a2, rfl, rfl, rfl, x2⟩ := open_int Try.underlying3 (hval 2 3 v2 rfl rfl) h2
  obtain ⟨a3, rfl, rfl, rfl, x3⟩ := open_int Try.underlying3 (hval 3 3 v3 rfl rfl) h3
  clear hA0 hval0
  simp only [List.append_nil] at hW'
  refine (walk u0 o0 e0 n0 b0 m0 a1 a2 a3 W).mono fun e W' ⟨he, hb⟩ => ?_
  subst he
  exact ⟨_, rfl, law_post hW' (fun _ _ _ => trodAll_cons_mk (shut_bool Try.underlying4 _) trodAll_mk0) (fun _ => trodAll_cons_mk (six_shut Try.underlying23 cellsHead (by kernel_rfl) rfl Try.underlying4 Try.underlying3 _ _ _ _ _ _ x0 y0 z0) (trodAll_cons_mk (shut_int Try.underlying3 x1) (trodAll_cons_mk (shut_int Try.underlying3 x2) (trodAll_cons_mk (shut_int Try.underlying3 x3) trodAll_mk0)))) (fun _ => rfl) hb⟩

theorem over : Rows.headOrderRow.holds Try.pinned (OpenSpec.ofChange Rows.headOrderSpec) :=
  OpenClaim.holds_of_wide 7 Try.f7 rfl rfl rfl rfl rfl rfl rfl ⟨rfl, rfl, rfl, rfl, rfl⟩ rfl rfl rfl rfl rfl (by kernel_rfl) Try.func7 (by kernel_rfl)
    (of_decide_eq_true (by kernel_rfl)) (by unfold Func.isWrapper; first | (rw [if_pos (by decide +kernel)]; kernel_rfl) | (rw [if_neg (by decide +kernel)]; exact ⟨rfl, rfl⟩))
    (fun os started H enc _ => lifted os started H enc)

/-- The statement. -/
theorem proved : Rows.HeadOrderSaid :=
  over
#print axioms proved
end Go.Proofs.Ythfpblkhcodohaa.Order
