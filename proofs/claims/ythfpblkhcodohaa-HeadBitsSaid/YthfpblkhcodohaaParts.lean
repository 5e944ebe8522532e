/-
  HeadBits: marked, grown old, or gone through, a head's word differs in just that part: for every head and every number, without a condition.
-/
import Derived.Test.YthfpblkhcodohaaFrame
import Derived.Test.YthfpblkhcodohaaAwake
import Derived.Test.YthfpblkhcodohaaSame
namespace Go.Proofs.Ythfpblkhcodohaa.Parts
open Go.Proofs.Ythfpblkhcodohaa
open Go.ChangeShapes Go.WideShapes Go.ChangeAt Go.RowKit

theorem no (u o e : Bool) (n b m x : Int) (w : World) (h : mayB u o e n b m = false) :
    Calls Try.prog 6 #[.agg #[.bool u, .bool o, .bool e, .int .i64 n, .int .i64 b, .int .i64 m], .int .i64 x] w fun r w' => r = .returned (.bool true) ∧ Below w.heap.size w w' := by
  have H := Lib.hid h
  clear h
  go_enter Try.func6, Try.ntmps6
  go_wp2_with fail
  refine (awake_yes _).mono ?_
  rintro r w1 ⟨rfl, hb1⟩
  have hc1 := old_cell hb1
  have hf1 := old_mark hb1
  have s1 := hb1.size
  simp at s1
  have z1_0_0 : w.heap.size < w1.heap.size := by omega
  go_wp2_with fail
  refine (pack_no _ _ _ _ _ _ _ H.out).mono ?_
  rintro r w2 ⟨rfl, hb2⟩
  have hc2 := old_cell hb2
  have hf2 := old_mark hb2
  have s2 := hb2.size
  have z2_0_0 : w.heap.size < w2.heap.size := by omega
  go_wp2
  go_ret
  exact ⟨rfl, (((((((Below.refl _ _)).alloc (by first | omega | (simp; omega) | simp) _)).trans (hb1.mono (by first | omega | (simp; omega) | simp)))).trans (hb2.mono (by first | omega | (simp; omega) | simp)))⟩
theorem free (o e : Bool) (n b m x : Int) (w : World) (h : mayB false o e n b m = true) :
    Calls Try.prog 6 #[.agg #[.bool false, .bool o, .bool e, .int .i64 n, .int .i64 b, .int .i64 m], .int .i64 x] w fun r w' => r = .returned (.bool true) ∧ Below w.heap.size w w' := by
  have H := Lib.hid h
  clear h
  go_enter Try.func6, Try.ntmps6
  go_wp2_with fail
  refine (awake_yes _).mono ?_
  rintro r w1 ⟨rfl, hb1⟩
  have hc1 := old_cell hb1
  have hf1 := old_mark hb1
  have s1 := hb1.size
  simp at s1
  have z1_0_0 : w.heap.size < w1.heap.size := by omega
  go_wp2_with fail
  refine (pack_yes _ _ _ _ _ _ _ H.out).mono ?_
  rintro r w2 ⟨rfl, hb2⟩
  have hc2 := old_cell hb2
  have hf2 := old_mark hb2
  have s2 := hb2.size
  have z2_0_0 : w.heap.size < w2.heap.size := by omega
  go_wp2
  go_ret
  exact ⟨rfl, (((((((Below.refl _ _)).alloc (by first | omega | (simp; omega) | simp) _)).trans (hb1.mono (by first | omega | (simp; omega) | simp)))).trans (hb2.mono (by first | omega | (simp; omega) | simp)))⟩
theorem less (o e : Bool) (n b m x : Int) (w : World) (h : mayB true o e n b m = true) (k : x < 0) :
    Calls Try.prog 6 #[.agg #[.bool true, .bool o, .bool e, .int .i64 n, .int .i64 b, .int .i64 m], .int .i64 x] w fun r w' => r = .returned (.bool true) ∧ Below w.heap.size w w' := by
  have H := Lib.hid h
  clear h
  go_enter Try.func6, Try.ntmps6
  go_wp2_with fail
  refine (awake_yes _).mono ?_
  rintro r w1 ⟨rfl, hb1⟩
  have hc1 := old_cell hb1
  have hf1 := old_mark hb1
  have s1 := hb1.size
  simp at s1
  have z1_0_0 : w.heap.size < w1.heap.size := by omega
  go_wp2_with fail
  refine (pack_yes _ _ _ _ _ _ _ H.out).mono ?_
  rintro r w2 ⟨rfl, hb2⟩
  have hc2 := old_cell hb2
  have hf2 := old_mark hb2
  have s2 := hb2.size
  have z2_0_0 : w.heap.size < w2.heap.size := by omega
  go_wp2
  go_ret
  exact ⟨rfl, (((((((Below.refl _ _)).alloc (by first | omega | (simp; omega) | simp) _)).trans (hb1.mono (by first | omega | (simp; omega) | simp)))).trans (hb2.mono (by first | omega | (simp; omega) | simp)))⟩
theorem more (o e : Bool) (n b m x : Int) (w : World) (h : mayB true o e n b m = true) (k : 1048576 < x) :
    Calls Try.prog 6 #[.agg #[.bool true, .bool o, .bool e, .int .i64 n, .int .i64 b, .int .i64 m], .int .i64 x] w fun r w' => r = .returned (.bool true) ∧ Below w.heap.size w w' := by
  have H := Lib.hid h
  clear h
  go_enter Try.func6, Try.ntmps6
  go_wp2_with fail
  refine (awake_yes _).mono ?_
  rintro r w1 ⟨rfl, hb1⟩
  have hc1 := old_cell hb1
  have hf1 := old_mark hb1
  have s1 := hb1.size
  simp at s1
  have z1_0_0 : w.heap.size < w1.heap.size := by omega
  go_wp2_with fail
  refine (pack_yes _ _ _ _ _ _ _ H.out).mono ?_
  rintro r w2 ⟨rfl, hb2⟩
  have hc2 := old_cell hb2
  have hf2 := old_mark hb2
  have s2 := hb2.size
  have z2_0_0 : w.heap.size < w2.heap.size := by omega
  go_wp2
  go_ret
  exact ⟨rfl, (((((((Below.refl _ _)).alloc (by first | omega | (simp; omega) | simp) _)).trans (hb1.mono (by first | omega | (simp; omega) | simp)))).trans (hb2.mono (by first | omega | (simp; omega) | simp)))⟩
theorem all_false_false (n b m x : Int) (w : World) (h : mayB true false false n b m = true) (i : mayB true true false n b m = true) (j : mayB true false true n b m = true) (l : mayB true false false n b x = true) (x0 : 0 ≤ x) (x1 : x ≤ 1048576) (m0 : 0 ≤ m) (m1 : m ≤ 1048576) (ra0 : 0 ≤ word true false false n b m) (ra1 : word true false false n b m ≤ 4503600701112831) (rc0 : 0 ≤ word true true false n b m) (rc1 : word true true false n b m ≤ 4503600701112831) (rd0 : 0 ≤ word true false true n b m) (rd1 : word true false true n b m ≤ 4503600701112831) (rf0 : 0 ≤ word true false false n b x) (rf1 : word true false false n b x ≤ 4503600701112831) (p1 : (word true true false n b m - word true false false n b m == 2) = true) (p3 : (word true false true n b m - word true false false n b m == 4) = true) (p5 : (word true false false n b x - word true false false n b m == 4294967296 * (x - m)) = true) :
    Calls Try.prog 6 #[.agg #[.bool true, .bool false, .bool false, .int .i64 n, .int .i64 b, .int .i64 m], .int .i64 x] w fun r w' => r = .returned (.bool true) ∧ Below w.heap.size w w' := by
  have H := Lib.hid h
  clear h
  have I := Lib.hid i
  clear i
  have J := Lib.hid j
  clear j
  have L := Lib.hid l
  clear l
  go_enter Try.func6, Try.ntmps6
  go_wp2_with fail
  refine (awake_yes _).mono ?_
  rintro r w1 ⟨rfl, hb1⟩
  have hc1 := old_cell hb1
  have hf1 := old_mark hb1
  have s1 := hb1.size
  simp at s1
  have z1_0_0 : w.heap.size < w1.heap.size := by omega
  go_wp2_with fail
  refine (pack_yes _ _ _ _ _ _ _ H.out).mono ?_
  rintro r w2 ⟨rfl, hb2⟩
  have hc2 := old_cell hb2
  have hf2 := old_mark hb2
  have s2 := hb2.size
  have z2_0_0 : w.heap.size < w2.heap.size := by omega
  have z2_0_1 : w.heap.size < w2.heap.size + 1 := by omega
  have z2_0_2 : w.heap.size < w2.heap.size + 1 + 1 := by omega
  have z2_0_3 : w.heap.size < w2.heap.size + 1 + 1 + 1 := by omega
  go_wp2_with fail
  refine (pack_yes _ _ _ _ _ _ _ I.out).mono ?_
  rintro r w3 ⟨rfl, hb3⟩
  have hc3 := old_cell hb3
  have hf3 := old_mark hb3
  have s3 := hb3.size
  simp at s3
  have z3_0_0 : w.heap.size < w3.heap.size := by omega
  have z3_1_0 : w2.heap.size < w3.heap.size := by omega
  have z3_2_0 : w2.heap.size + 1 < w3.heap.size := by omega
  have z3_3_0 : w2.heap.size + 1 + 1 < w3.heap.size := by omega
  go_wp2_with fail
  refine (pack_yes _ _ _ _ _ _ _ J.out).mono ?_
  rintro r w4 ⟨rfl, hb4⟩
  have hc4 := old_cell hb4
  have hf4 := old_mark hb4
  have s4 := hb4.size
  have z4_0_0 : w.heap.size < w4.heap.size := by omega
  have z4_1_0 : w2.heap.size < w4.heap.size := by omega
  have z4_2_0 : w2.heap.size + 1 < w4.heap.size := by omega
  have z4_3_0 : w2.heap.size + 1 + 1 < w4.heap.size := by omega
  go_wp2_with fail
  refine (pack_yes _ _ _ _ _ _ _ L.out).mono ?_
  rintro r w5 ⟨rfl, hb5⟩
  have hc5 := old_cell hb5
  have hf5 := old_mark hb5
  have s5 := hb5.size
  have z5_0_0 : w.heap.size < w5.heap.size := by omega
  have z5_1_0 : w2.heap.size < w5.heap.size := by omega
  have z5_2_0 : w2.heap.size + 1 < w5.heap.size := by omega
  have z5_3_0 : w2.heap.size + 1 + 1 < w5.heap.size := by omega
  go_wp2
  go_ret
  exact ⟨rfl, (((((((((((((((((((Below.refl _ _)).alloc (by first | omega | (simp; omega) | simp) _)).trans (hb1.mono (by first | omega | (simp; omega) | simp)))).trans (hb2.mono (by first | omega | (simp; omega) | simp)))).alloc (by first | omega | (simp; omega) | simp) _)).alloc (by first | omega | (simp; omega) | simp) _)).alloc (by first | omega | (simp; omega) | simp) _)).trans (hb3.mono (by first | omega | (simp; omega) | simp)))).trans (hb4.mono (by first | omega | (simp; omega) | simp)))).trans (hb5.mono (by first | omega | (simp; omega) | simp)))⟩
theorem all_false_true (n b m x : Int) (w : World) (h : mayB true false true n b m = true) (i : mayB true true true n b m = true) (j : mayB true false false n b m = true) (l : mayB true false true n b x = true) (x0 : 0 ≤ x) (x1 : x ≤ 1048576) (m0 : 0 ≤ m) (m1 : m ≤ 1048576) (ra0 : 0 ≤ word true false true n b m) (ra1 : word true false true n b m ≤ 4503600701112831) (rc0 : 0 ≤ word true true true n b m) (rc1 : word true true true n b m ≤ 4503600701112831) (rd0 : 0 ≤ word true false false n b m) (rd1 : word true false false n b m ≤ 4503600701112831) (rf0 : 0 ≤ word true false true n b x) (rf1 : word true false true n b x ≤ 4503600701112831) (p1 : (word true true true n b m - word true false true n b m == 2) = true) (p3 : (word true false false n b m - word true false true n b m == 4) = false) (p4 : (word true false true n b m - word true false false n b m == 4) = true) (p5 : (word true false true n b x - word true false true n b m == 4294967296 * (x - m)) = true) :
    Calls Try.prog 6 #[.agg #[.bool true, .bool false, .bool true, .int .i64 n, .int .i64 b, .int .i64 m], .int .i64 x] w fun r w' => r = .returned (.bool true) ∧ Below w.heap.size w w' := by
  have H := Lib.hid h
  clear h
  have I := Lib.hid i
  clear i
  have J := Lib.hid j
  clear j
  have L := Lib.hid l
  clear l
  go_enter Try.func6, Try.ntmps6
  go_wp2_with fail
  refine (awake_yes _).mono ?_
  rintro r w1 ⟨rfl, hb1⟩
  have hc1 := old_cell hb1
  have hf1 := old_mark hb1
  have s1 := hb1.size
  simp at s1
  have z1_0_0 : w.heap.size < w1.heap.size := by omega
  go_wp2_with fail
  refine (pack_yes _ _ _ _ _ _ _ H.out).mono ?_
  rintro r w2 ⟨rfl, hb2⟩
  have hc2 := old_cell hb2
  have hf2 := old_mark hb2
  have s2 := hb2.size
  have z2_0_0 : w.heap.size < w2.heap.size := by omega
  have z2_0_1 : w.heap.size < w2.heap.size + 1 := by omega
  have z2_0_2 : w.heap.size < w2.heap.size + 1 + 1 := by omega
  have z2_0_3 : w.heap.size < w2.heap.size + 1 + 1 + 1 := by omega
  go_wp2_with fail
  refine (pack_yes _ _ _ _ _ _ _ I.out).mono ?_
  rintro r w3 ⟨rfl, hb3⟩
  have hc3 := old_cell hb3
  have hf3 := old_mark hb3
  have s3 := hb3.size
  simp at s3
  have z3_0_0 : w.heap.size < w3.heap.size := by omega
  have z3_1_0 : w2.heap.size < w3.heap.size := by omega
  have z3_2_0 : w2.heap.size + 1 < w3.heap.size := by omega
  have z3_3_0 : w2.heap.size + 1 + 1 < w3.heap.size := by omega
  go_wp2_with fail
  refine (pack_yes _ _ _ _ _ _ _ J.out).mono ?_
  rintro r w4 ⟨rfl, hb4⟩
  have hc4 := old_cell hb4
  have hf4 := old_mark hb4
  have s4 := hb4.size
  have z4_0_0 : w.heap.size < w4.heap.size := by omega
  have z4_1_0 : w2.heap.size < w4.heap.size := by omega
  have z4_2_0 : w2.heap.size + 1 < w4.heap.size := by omega
  have z4_3_0 : w2.heap.size + 1 + 1 < w4.heap.size := by omega
  go_wp2_with fail
  refine (pack_yes _ _ _ _ _ _ _ L.out).mono ?_
  rintro r w5 ⟨rfl, hb5⟩
  have hc5 := old_cell hb5
  have hf5 := old_mark hb5
  have s5 := hb5.size
  have z5_0_0 : w.heap.size < w5.heap.size := by omega
  have z5_1_0 : w2.heap.size < w5.heap.size := by omega
  have z5_2_0 : w2.heap.size + 1 < w5.heap.size := by omega
  have z5_3_0 : w2.heap.size + 1 + 1 < w5.heap.size := by omega
  go_wp2
  go_ret
  exact ⟨rfl, (((((((((((((((((((Below.refl _ _)).alloc (by first | omega | (simp; omega) | simp) _)).trans (hb1.mono (by first | omega | (simp; omega) | simp)))).trans (hb2.mono (by first | omega | (simp; omega) | simp)))).alloc (by first | omega | (simp; omega) | simp) _)).alloc (by first | omega | (simp; omega) | simp) _)).alloc (by first | omega | (simp; omega) | simp) _)).trans (hb3.mono (by first | omega | (simp; omega) | simp)))).trans (hb4.mono (by first | omega | (simp; omega) | simp)))).trans (hb5.mono (by first | omega | (simp; omega) | simp)))⟩
theorem all_true_false (n b m x : Int) (w : World) (h : mayB true true false n b m = true) (i : mayB true false false n b m = true) (j : mayB true true true n b m = true) (l : mayB true true false n b x = true) (x0 : 0 ≤ x) (x1 : x ≤ 1048576) (m0 : 0 ≤ m) (m1 : m ≤ 1048576) (ra0 : 0 ≤ word true true false n b m) (ra1 : word true true false n b m ≤ 4503600701112831) (rc0 : 0 ≤ word true false false n b m) (rc1 : word true false false n b m ≤ 4503600701112831) (rd0 : 0 ≤ word true true true n b m) (rd1 : word true true true n b m ≤ 4503600701112831) (rf0 : 0 ≤ word true true false n b x) (rf1 : word true true false n b x ≤ 4503600701112831) (p1 : (word true false false n b m - word true true false n b m == 2) = false) (p2 : (word true true false n b m - word true false false n b m == 2) = true) (p3 : (word true true true n b m - word true true false n b m == 4) = true) (p5 : (word true true false n b x - word true true false n b m == 4294967296 * (x - m)) = true) :
    Calls Try.prog 6 #[.agg #[.bool true, .bool true, .bool false, .int .i64 n, .int .i64 b, .int .i64 m], .int .i64 x] w fun r w' => r = .returned (.bool true) ∧ Below w.heap.size w w' := by
  have H := Lib.hid h
  clear h
  have I := Lib.hid i
  clear i
  have J := Lib.hid j
  clear j
  have L := Lib.hid l
  clear l
  go_enter Try.func6, Try.ntmps6
  go_wp2_with fail
  refine (awake_yes _).mono ?_
  rintro r w1 ⟨rfl, hb1⟩
  have hc1 := old_cell hb1
  have hf1 := old_mark hb1
  have s1 := hb1.size
  simp at s1
  have z1_0_0 : w.heap.size < w1.heap.size := by omega
  go_wp2_with fail
  refine (pack_yes _ _ _ _ _ _ _ H.out).mono ?_
  rintro r w2 ⟨rfl, hb2⟩
  have hc2 := old_cell hb2
  have hf2 := old_mark hb2
  have s2 := hb2.size
  have z2_0_0 : w.heap.size < w2.heap.size := by omega
  have z2_0_1 : w.heap.size < w2.heap.size + 1 := by omega
  have z2_0_2 : w.heap.size < w2.heap.size + 1 + 1 := by omega
  have z2_0_3 : w.heap.size < w2.heap.size + 1 + 1 + 1 := by omega
  go_wp2_with fail
  refine (pack_yes _ _ _ _ _ _ _ I.out).mono ?_
  rintro r w3 ⟨rfl, hb3⟩
  have hc3 := old_cell hb3
  have hf3 := old_mark hb3
  have s3 := hb3.size
  simp at s3
  have z3_0_0 : w.heap.size < w3.heap.size := by omega
  have z3_1_0 : w2.heap.size < w3.heap.size := by omega
  have z3_2_0 : w2.heap.size + 1 < w3.heap.size := by omega
  have z3_3_0 : w2.heap.size + 1 + 1 < w3.heap.size := by omega
  go_wp2_with fail
  refine (pack_yes _ _ _ _ _ _ _ J.out).mono ?_
  rintro r w4 ⟨rfl, hb4⟩
  have hc4 := old_cell hb4
  have hf4 := old_mark hb4
  have s4 := hb4.size
  have z4_0_0 : w.heap.size < w4.heap.size := by omega
  have z4_1_0 : w2.heap.size < w4.heap.size := by omega
  have z4_2_0 : w2.heap.size + 1 < w4.heap.size := by omega
  have z4_3_0 : w2.heap.size + 1 + 1 < w4.heap.size := by omega
  go_wp2_with fail
  refine (pack_yes _ _ _ _ _ _ _ L.out).mono ?_
  rintro r w5 ⟨rfl, hb5⟩
  have hc5 := old_cell hb5
  have hf5 := old_mark hb5
  have s5 := hb5.size
  have z5_0_0 : w.heap.size < w5.heap.size := by omega
  have z5_1_0 : w2.heap.size < w5.heap.size := by omega
  have z5_2_0 : w2.heap.size + 1 < w5.heap.size := by omega
  have z5_3_0 : w2.heap.size + 1 + 1 < w5.heap.size := by omega
  go_wp2
  go_ret
  exact ⟨rfl, (((((((((((((((((((Below.refl _ _)).alloc (by first | omega | (simp; omega) | simp) _)).trans (hb1.mono (by first | omega | (simp; omega) | simp)))).trans (hb2.mono (by first | omega | (simp; omega) | simp)))).alloc (by first | omega | (simp; omega) | simp) _)).alloc (by first | omega | (simp; omega) | simp) _)).alloc (by first | omega | (simp; omega) | simp) _)).trans (hb3.mono (by first | omega | (simp; omega) | simp)))).trans (hb4.mono (by first | omega | (simp; omega) | simp)))).trans (hb5.mono (by first | omega | (simp; omega) | simp)))⟩
theorem all_true_true (n b m x : Int) (w : World) (h : mayB true true true n b m = true) (i : mayB true false true n b m = true) (j : mayB true true false n b m = true) (l : mayB true true true n b x = true) (x0 : 0 ≤ x) (x1 : x ≤ 1048576) (m0 : 0 ≤ m) (m1 : m ≤ 1048576) (ra0 : 0 ≤ word true true true n b m) (ra1 : word true true true n b m ≤ 4503600701112831) (rc0 : 0 ≤ word true false true n b m) (rc1 : word true false true n b m ≤ 4503600701112831) (rd0 : 0 ≤ word true true false n b m) (rd1 : word true true false n b m ≤ 4503600701112831) (rf0 : 0 ≤ word true true true n b x) (rf1 : word true true true n b x ≤ 4503600701112831) (p1 : (word true false true n b m - word true true true n b m == 2) = false) (p2 : (word true true true n b m - word true false true n b m == 2) = true) (p3 : (word true true false n b m - word true true true n b m == 4) = false) (p4 : (word true true true n b m - word true true false n b m == 4) = true) (p5 : (word true true true n b x - word true true true n b m == 4294967296 * (x - m)) = true) :
    Calls Try.prog 6 #[.agg #[.bool true, .bool true, .bool true, .int .i64 n, .int .i64 b, .int .i64 m], .int .i64 x] w fun r w' => r = .returned (.bool true) ∧ Below w.heap.size w w' := by
  have H := Lib.hid h
  clear h
  have I := Lib.hid i
  clear i
  have J := Lib.hid j
  clear j
  have L := Lib.hid l
  clear l
  go_enter Try.func6, Try.ntmps6
  go_wp2_with fail
  refine (awake_yes _).mono ?_
  rintro r w1 ⟨rfl, hb1⟩
  have hc1 := old_cell hb1
  have hf1 := old_mark hb1
  have s1 := hb1.size
  simp at s1
  have z1_0_0 : w.heap.size < w1.heap.size := by omega
  go_wp2_with fail
  refine (pack_yes _ _ _ _ _ _ _ H.out).mono ?_
  rintro r w2 ⟨rfl, hb2⟩
  have hc2 := old_cell hb2
  have hf2 := old_mark hb2
  have s2 := hb2.size
  have z2_0_0 : w.heap.size < w2.heap.size := by omega
  have z2_0_1 : w.heap.size < w2.heap.size + 1 := by omega
  have z2_0_2 : w.heap.size < w2.heap.size + 1 + 1 := by omega
  have z2_0_3 : w.heap.size < w2.heap.size + 1 + 1 + 1 := by omega
  go_wp2_with fail
  refine (pack_yes _ _ _ _ _ _ _ I.out).mono ?_
  rintro r w3 ⟨rfl, hb3⟩
  have hc3 := old_cell hb3
  have hf3 := old_mark hb3
  have s3 := hb3.size
  simp at s3
  have z3_0_0 : w.heap.size < w3.heap.size := by omega
  have z3_1_0 : w2.heap.size < w3.heap.size := by omega
  have z3_2_0 : w2.heap.size + 1 < w3.heap.size := by omega
  have z3_3_0 : w2.heap.size + 1 + 1 < w3.heap.size := by omega
  go_wp2_with fail
  refine (pack_yes _ _ _ _ _ _ _ J.out).mono ?_
  rintro r w4 ⟨rfl, hb4⟩
  have hc4 := old_cell hb4
  have hf4 := old_mark hb4
  have s4 := hb4.size
  have z4_0_0 : w.heap.size < w4.heap.size := by omega
  have z4_1_0 : w2.heap.size < w4.heap.size := by omega
  have z4_2_0 : w2.heap.size + 1 < w4.heap.size := by omega
  have z4_3_0 : w2.heap.size + 1 + 1 < w4.heap.size := by omega
  go_wp2_with fail
  refine (pack_yes _ _ _ _ _ _ _ L.out).mono ?_
  rintro r w5 ⟨rfl, hb5⟩
  have hc5 := old_cell hb5
  have hf5 := old_mark hb5
  have s5 := hb5.size
  have z5_0_0 : w.heap.size < w5.heap.size := by omega
  have z5_1_0 : w2.heap.size < w5.heap.size := by omega
  have z5_2_0 : w2.heap.size + 1 < w5.heap.size := by omega
  have z5_3_0 : w2.heap.size + 1 + 1 < w5.heap.size := by omega
  go_wp2
  go_ret
  exact ⟨rfl, (((((((((((((((((((Below.refl _ _)).alloc (by first | omega | (simp; omega) | simp) _)).trans (hb1.mono (by first | omega | (simp; omega) | simp)))).trans (hb2.mono (by first | omega | (simp; omega) | simp)))).alloc (by first | omega | (simp; omega) | simp) _)).alloc (by first | omega | (simp; omega) | simp) _)).alloc (by first | omega | (simp; omega) | simp) _)).trans (hb3.mono (by first | omega | (simp; omega) | simp)))).trans (hb4.mono (by first | omega | (simp; omega) | simp)))).trans (hb5.mono (by first | omega | (simp; omega) | simp)))⟩
theorem walk (u o e : Bool) (n b m : Int) (x : Int) (w : World) :
    Calls Try.prog 6 #[.agg #[.bool u, .bool o, .bool e, .int .i64 n, .int .i64 b, .int .i64 m], .int .i64 x] w fun r w' => r = .returned (.bool true) ∧ Below w.heap.size w w' := by
  cases h : mayB u o e n b m
  · exact no u o e n b m x w h
  · cases u
    · exact free o e n b m x w h
    · by_cases k : x < 0
      · exact less o e n b m x w h k
      · by_cases k' : 1048576 < x
        · exact more o e n b m x w h k'
        · obtain ⟨n0, n1, b0, b1, m0, m1⟩ := (may_used_iff o e n b m).1 h
          have yes : ∀ o' e' : Bool, mayB true o' e' n b m = true := fun o' e' => (may_used_iff o' e' n b m).2 ⟨n0, n1, b0, b1, m0, m1⟩
          have yesx : mayB true o e n b x = true := (may_used_iff o e n b x).2 ⟨n0, n1, b0, b1, by omega, by omega⟩
          have r : ∀ o' e' : Bool, 0 ≤ word true o' e' n b m ∧ word true o' e' n b m ≤ 4503600701112831 := fun o' e' => word_range (yes o' e')
          have rx := word_range yesx
          cases o <;> cases e
          · exact all_false_false n b m x w h (yes true false) (yes false true) yesx (by omega) (by omega) m0 m1 (r _ _).1 (r _ _).2 (r _ _).1 (r _ _).2 (r _ _).1 (r _ _).2 rx.1 rx.2 (by simp only [word, bitOf]; simp; try omega) (by simp only [word, bitOf]; simp; try omega) (by simp only [word, bitOf]; simp; try omega)
          · exact all_false_true n b m x w h (yes true true) (yes false false) yesx (by omega) (by omega) m0 m1 (r _ _).1 (r _ _).2 (r _ _).1 (r _ _).2 (r _ _).1 (r _ _).2 rx.1 rx.2 (by simp only [word, bitOf]; simp; try omega) (by simp only [word, bitOf]; simp; try omega) (by simp only [word, bitOf]; simp; try omega) (by simp only [word, bitOf]; simp; try omega)
          · exact all_true_false n b m x w h (yes false false) (yes true true) yesx (by omega) (by omega) m0 m1 (r _ _).1 (r _ _).2 (r _ _).1 (r _ _).2 (r _ _).1 (r _ _).2 rx.1 rx.2 (by simp only [word, bitOf]; simp; try omega) (by simp only [word, bitOf]; simp; try omega) (by simp only [word, bitOf]; simp; try omega) (by simp only [word, bitOf]; simp; try omega)
          · exact all_true_true n b m x w h (yes false true) (yes true false) yesx (by omega) (by omega) m0 m1 (r _ _).1 (r _ _).2 (r _ _).1 (r _ _).2 (r _ _).1 (r _ _).2 rx.1 rx.2 (by simp only [word, bitOf]; simp; try omega) (by simp only [word, bitOf]; simp; try omega) (by simp only [word, bitOf]; simp; try omega) (by simp only [word, bitOf]; simp; try omega) (by simp only [word, bitOf]; simp; try omega)

theorem cellsHead : Try.prog.cellsOf 23 = 6 := by kernel_rfl
set_option maxRecDepth 100000 in
theorem lifted (os : Os) (started : os.Started) (H : Type) (enc : TypeId × Value → H) :
    ReturnsInHanded {} Try.checked os 6 .any (Rows.headBitsSpec.pre6 enc Try.prog Try.f6 Rows.headBitsRow.domain false) (Rows.headBitsSpec.post enc Try.prog Try.f6 false true false false) := by
  refine returnsInHanded_of_change (C := Try.checked) own started (by kernel_rfl) Try.func6
    (ChangeSpec.witness6 (enc := enc) (C := Try.checked) false ⟨#[], #[.agg #[.bool false, .bool false, .bool false, .int .i64 0, .int .i64 0, .int .i64 0], .int .i64 0], []⟩ 8 (by kernel_rfl) (by kernel_rfl) (by kernel_rfl) (by kernel_rfl)) ?_
  intro W base args ds gs before hval0 hW hcnd _
  have hval : ∀ (j : Nat) t v, Try.f6.params[j]? = some t → args[j]? = some v → Value.okWide Try.prog W .any base t v := hval0
  have hW' := hW
  obtain ⟨p, q, hA0, hV, rfl, hfz, hnd⟩ := hW
  have hA : DataW.TrodAll enc Try.prog W 0 (fun _ => true) true Try.f6.params.toList args.toList ds p := hA0
  rw [Try.params6] at hA hval
  obtain ⟨v0, vs0, d0, ds0, p0, q0, hargs, rfl, rfl, h0, r0⟩ := trodAll_cons hA
  obtain ⟨v1, vs1, d1, ds1, p1, q1, rfl, rfl, rfl, h1, r1⟩ := trodAll_cons r0
  obtain ⟨rfl, rfl, rfl⟩ := trodAll_nil r1
  obtain rfl : args = #[v0, v1] := by cases args; simp_all
  obtain ⟨rfl, rfl⟩ := trodVars_none hV
  obtain ⟨u0, o0, e0, n0, b0, m0, rfl, rfl, rfl, x0, y0, z0⟩ := six_open Try.underlying23 cellsHead (by kernel_rfl) rfl Try.underlying4 Try.underlying3 (hval 0 23 v0 rfl rfl) h0
  obtain ⟨a1, rfl, rfl, rfl, x1⟩ := open_int Try.underlying3 (hval 1 3 v1 rfl rfl) h1
  clear hA0 hval0
  simp only [List.append_nil] at hW'
  refine (walk u0 o0 e0 n0 b0 m0 a1 W).mono fun e W' ⟨he, hb⟩ => ?_
  subst he
  exact ⟨_, rfl, law_post hW' (fun _ _ _ => trodAll_cons_mk (shut_bool Try.underlying4 _) trodAll_mk0) (fun _ => trodAll_cons_mk (six_shut Try.underlying23 cellsHead (by kernel_rfl) rfl Try.underlying4 Try.underlying3 _ _ _ _ _ _ x0 y0 z0) (trodAll_cons_mk (shut_int Try.underlying3 x1) trodAll_mk0)) (fun _ => rfl) hb⟩

theorem over : Rows.headBitsRow.holds Try.pinned (OpenSpec.ofChange Rows.headBitsSpec) :=
  OpenClaim.holds_of_wide 6 Try.f6 rfl rfl rfl rfl rfl rfl rfl ⟨rfl, rfl, rfl, rfl, rfl⟩ rfl rfl rfl rfl rfl (by kernel_rfl) Try.func6 (by kernel_rfl)
    (of_decide_eq_true (by kernel_rfl)) (by unfold Func.isWrapper; first | (rw [if_pos (by decide +kernel)]; kernel_rfl) | (rw [if_neg (by decide +kernel)]; exact ⟨rfl, rfl⟩))
    (fun os started H enc _ => lifted os started H enc)

/-- The statement. -/
theorem proved : Rows.HeadBitsSaid :=
  over
#print axioms proved
end Go.Proofs.Ythfpblkhcodohaa.Parts
