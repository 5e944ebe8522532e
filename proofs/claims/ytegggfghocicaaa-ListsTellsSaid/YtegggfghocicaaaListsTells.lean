/-
  ListsTells: any lists are pushed to, popped, moved and parted as the document says, or have the error.
-/
import Derived.Test.YtegggfghocicaaaLsTell
namespace Go.Proofs.Ytegggfghocicaaa.ListsTells
open Go.Proofs.Ytegggfghocicaaa
open Go.ChangeShapes Go.WideShapes Go.ChangeAt Go.RowKit
set_option linter.unusedSimpArgs false

set_option maxRecDepth 100000 in
theorem many1 (u v : Nat → Sl) (cl n low high : Int) (t : Sl) (w : World) (d1 : fewB u = false) :
    Calls Try.prog 3 #[(.agg #[.slice (u 0).a (u 0).n (u 0).c, .slice (u 1).a (u 1).n (u 1).c, .slice (u 2).a (u 2).n (u 2).c]), (.agg #[.slice (v 0).a (v 0).n (v 0).c, .slice (v 1).a (v 1).n (v 1).c, .slice (v 2).a (v 2).n (v 2).c]), .int .i64 cl, .int .i64 n, .slice t.a t.n t.c, .int .i64 low, .int .i64 high] w (Tells w true) := by
  have H0 := Lib.hid ((Has.start w).laid2 u v)
  go_enter Try.func3, Try.ntmps3
  go_wp2_with fail
  refine (awake_has H0.out).mono ?_
  rintro e w1 ⟨rfl, h1⟩
  have H1 := Lib.hid h1
  clear h1 H0
  have mX := (H1.out).at (b := w.heap.size) (u := u) (by simp)
  have m0 := mX.cell 0 (by decide)
  have m1 := mX.cell 1 (by decide)
  have m2 := mX.cell 2 (by decide)
  have ml := mX.lt
  clear mX
  go_wp2_with fail
  refine (few_has H1.out u).mono ?_
  rintro e w2 ⟨rfl, h2⟩
  have H2 := Lib.hid h2
  clear h2 H1
  clear m0 m1 m2 ml
  have mX := (H2.out).at (b := (w.heap.size+1)) (u := v) (by simp)
  have m0 := mX.cell 0 (by decide)
  have m1 := mX.cell 1 (by decide)
  have m2 := mX.cell 2 (by decide)
  have ml := mX.lt
  clear mX
  go_wp2_with fail
  refine (few_has H2.out v).mono ?_
  rintro e w3 ⟨rfl, h3⟩
  have H3 := Lib.hid h3
  clear h3 H2
  clear m0 m1 m2 ml
  go_wp2
  go_ret
  exact ⟨rfl, H3.out.bel⟩

set_option maxRecDepth 100000 in
theorem many2 (u v : Nat → Sl) (cl n low high : Int) (t : Sl) (w : World) (d1 : fewB u = true) (d2 : fewB v = false) :
    Calls Try.prog 3 #[(.agg #[.slice (u 0).a (u 0).n (u 0).c, .slice (u 1).a (u 1).n (u 1).c, .slice (u 2).a (u 2).n (u 2).c]), (.agg #[.slice (v 0).a (v 0).n (v 0).c, .slice (v 1).a (v 1).n (v 1).c, .slice (v 2).a (v 2).n (v 2).c]), .int .i64 cl, .int .i64 n, .slice t.a t.n t.c, .int .i64 low, .int .i64 high] w (Tells w true) := by
  have H0 := Lib.hid ((Has.start w).laid2 u v)
  go_enter Try.func3, Try.ntmps3
  go_wp2_with fail
  refine (awake_has H0.out).mono ?_
  rintro e w1 ⟨rfl, h1⟩
  have H1 := Lib.hid h1
  clear h1 H0
  have mX := (H1.out).at (b := w.heap.size) (u := u) (by simp)
  have m0 := mX.cell 0 (by decide)
  have m1 := mX.cell 1 (by decide)
  have m2 := mX.cell 2 (by decide)
  have ml := mX.lt
  clear mX
  go_wp2_with fail
  refine (few_has H1.out u).mono ?_
  rintro e w2 ⟨rfl, h2⟩
  have H2 := Lib.hid h2
  clear h2 H1
  clear m0 m1 m2 ml
  have mX := (H2.out).at (b := (w.heap.size+1)) (u := v) (by simp)
  have m0 := mX.cell 0 (by decide)
  have m1 := mX.cell 1 (by decide)
  have m2 := mX.cell 2 (by decide)
  have ml := mX.lt
  clear mX
  go_wp2_with fail
  refine (few_has H2.out v).mono ?_
  rintro e w3 ⟨rfl, h3⟩
  have H3 := Lib.hid h3
  clear h3 H2
  clear m0 m1 m2 ml
  go_wp2
  go_ret
  exact ⟨rfl, H3.out.bel⟩

set_option maxRecDepth 100000 in
theorem many3 (u v : Nat → Sl) (cl n low high : Int) (t : Sl) (w : World) (d1 : fewB u = true) (d2 : fewB v = true) (d3 : decide (50 < (t.n : Int)) = true) (_ : t.n ≤ 9223372036854775807) :
    Calls Try.prog 3 #[(.agg #[.slice (u 0).a (u 0).n (u 0).c, .slice (u 1).a (u 1).n (u 1).c, .slice (u 2).a (u 2).n (u 2).c]), (.agg #[.slice (v 0).a (v 0).n (v 0).c, .slice (v 1).a (v 1).n (v 1).c, .slice (v 2).a (v 2).n (v 2).c]), .int .i64 cl, .int .i64 n, .slice t.a t.n t.c, .int .i64 low, .int .i64 high] w (Tells w true) := by
  have H0 := Lib.hid ((Has.start w).laid2 u v)
  go_enter Try.func3, Try.ntmps3
  go_wp2_with fail
  refine (awake_has H0.out).mono ?_
  rintro e w1 ⟨rfl, h1⟩
  have H1 := Lib.hid h1
  clear h1 H0
  have mX := (H1.out).at (b := w.heap.size) (u := u) (by simp)
  have m0 := mX.cell 0 (by decide)
  have m1 := mX.cell 1 (by decide)
  have m2 := mX.cell 2 (by decide)
  have ml := mX.lt
  clear mX
  go_wp2_with fail
  refine (few_has H1.out u).mono ?_
  rintro e w2 ⟨rfl, h2⟩
  have H2 := Lib.hid h2
  clear h2 H1
  clear m0 m1 m2 ml
  have mX := (H2.out).at (b := (w.heap.size+1)) (u := v) (by simp)
  have m0 := mX.cell 0 (by decide)
  have m1 := mX.cell 1 (by decide)
  have m2 := mX.cell 2 (by decide)
  have ml := mX.lt
  clear mX
  go_wp2_with fail
  refine (few_has H2.out v).mono ?_
  rintro e w3 ⟨rfl, h3⟩
  have H3 := Lib.hid h3
  clear h3 H2
  clear m0 m1 m2 ml
  go_wp2
  go_ret
  exact ⟨rfl, H3.out.bel⟩

set_option maxRecDepth 100000 in
set_option maxHeartbeats 8000000 in
theorem main (u v : Nat → Sl) (f g : Nat → List Int) (cl n low high : Int) (t : Sl) (ys : List Int) (w : World) (hl : L3 w w.heap.size u f) (hl' : L3 w w.heap.size v g) (hr : Row w w.heap.size t.a t.n ys) (d1 : fewB u = true) (d2 : fewB v = true) (hn : t.n ≤ 50) (hx : n ≤ 9223372036854775807) :
    Calls Try.prog 3 #[(.agg #[.slice (u 0).a (u 0).n (u 0).c, .slice (u 1).a (u 1).n (u 1).c, .slice (u 2).a (u 2).n (u 2).c]), (.agg #[.slice (v 0).a (v 0).n (v 0).c, .slice (v 1).a (v 1).n (v 1).c, .slice (v 2).a (v 2).n (v 2).c]), .int .i64 cl, .int .i64 n, .slice t.a t.n t.c, .int .i64 low, .int .i64 high] w (Tells w true) := by
  have hu200 : ∀ j, j < 3 → (u j).n ≤ 200 := few_all d1
  have hv200 : ∀ j, j < 3 → (v j).n ≤ 200 := few_all d2
  have HU := Lib.hid hu200
  have HV := Lib.hid hv200
  have d3 : decide (50 < (t.n : Int)) = false := by simp; omega
  have cf := few_cnt hl hu200
  have cg := few_cnt hl' hv200
  have hyl : ys.length ≤ 50 := by have := hr.1; omega
  clear hu200 hv200
  have H0 := Lib.hid (((((Has.start w).list hl').list hl).rowOf (s := t) hr).laid2 u v)
  go_enter Try.func3, Try.ntmps3
  go_wp2_with fail
  refine (awake_has H0.out).mono ?_
  rintro e w1 ⟨rfl, h1⟩
  have H1 := Lib.hid h1
  clear h1 H0
  have mX := (H1.out).at (b := w.heap.size) (u := u) (by simp)
  have m0 := mX.cell 0 (by decide)
  have m1 := mX.cell 1 (by decide)
  have m2 := mX.cell 2 (by decide)
  have ml := mX.lt
  clear mX
  go_wp2_with fail
  refine (few_has H1.out u).mono ?_
  rintro e w2 ⟨rfl, h2⟩
  have H2 := Lib.hid h2
  clear h2 H1
  clear m0 m1 m2 ml
  have mX := (H2.out).at (b := (w.heap.size+1)) (u := v) (by simp)
  have m0 := mX.cell 0 (by decide)
  have m1 := mX.cell 1 (by decide)
  have m2 := mX.cell 2 (by decide)
  have ml := mX.lt
  clear mX
  go_wp2_with fail
  refine (few_has H2.out v).mono ?_
  rintro e w3 ⟨rfl, h3⟩
  have H3 := Lib.hid h3
  clear h3 H2
  clear m0 m1 m2 ml

  have mX := (H3.out).at (b := w.heap.size) (u := u) (by simp)
  have m0 := mX.cell 0 (by decide)
  have m1 := mX.cell 1 (by decide)
  have m2 := mX.cell 2 (by decide)
  have ml := mX.lt
  clear mX
  go_wp2_with fail
  refine (push_tells H3.out (u := u) (f := f) (by simp) HU.out cl (s := t) (ys := ys) (by simp) hn).mono ?_
  rintro e w4 ⟨a1, rfl, h4⟩
  have H4 := Lib.hid (h4.laid a1)
  clear m0 m1 m2 ml
  have mX := (h4).at (b := w.heap.size) (u := u) (by simp)
  have m0 := mX.cell 0 (by decide)
  have m1 := mX.cell 1 (by decide)
  have m2 := mX.cell 2 (by decide)
  have ml := mX.lt
  clear mX
  clear h4 H3
  go_wp2_with fail
  generalize w4.alloc (.cells #[.slice (a1 0).a (a1 0).n (a1 0).c, .slice (a1 1).a (a1 1).n (a1 1).c, .slice (a1 2).a (a1 2).n (a1 2).c] 24) = w5 at H4 ⊢
  refine (rpush_tells H4.out (u := u) (f := f) (by simp) HU.out cl (s := t) (ys := ys) (by simp) hn).mono ?_
  rintro e w6 ⟨a2, rfl, h6⟩
  have H6 := Lib.hid (h6.laid a2)
  clear m0 m1 m2 ml
  have mX := (h6).at (b := w4.heap.size) (u := a1) (by simp)
  have m0 := mX.cell 0 (by decide)
  have m1 := mX.cell 1 (by decide)
  have m2 := mX.cell 2 (by decide)
  have ml := mX.lt
  clear mX
  clear h6 H4
  go_wp2_with fail
  generalize w6.alloc (.cells #[.slice (a2 0).a (a2 0).n (a2 0).c, .slice (a2 1).a (a2 1).n (a2 1).c, .slice (a2 2).a (a2 2).n (a2 2).c] 24) = w7 at H6 ⊢
  refine (sameTell_has H6.out (u := a1) (v := a2) (f := pushF f cl ys) (by simp) (by simp) (pushF_cnt cf hyl)).mono ?_
  rintro e w8 ⟨rfl, h8⟩
  have H8 := Lib.hid (has_forget h8)
  clear m0 m1 m2 ml
  have mX := (h8).at (b := w.heap.size) (u := u) (by simp)
  have m0 := mX.cell 0 (by decide)
  have m1 := mX.cell 1 (by decide)
  have m2 := mX.cell 2 (by decide)
  have ml := mX.lt
  clear mX
  clear h8 H6
  go_wp2_with fail
  refine (pop_tells H8.out (u := u) (f := f) (by simp) HU.out cl).mono ?_
  rintro e w9 ⟨a3, rfl, h9⟩
  have H9 := Lib.hid (h9.laid a3)
  clear m0 m1 m2 ml
  have mX := (h9).at (b := w.heap.size) (u := u) (by simp)
  have m0 := mX.cell 0 (by decide)
  have m1 := mX.cell 1 (by decide)
  have m2 := mX.cell 2 (by decide)
  have ml := mX.lt
  clear mX
  clear h9 H8
  go_wp2_with fail
  generalize w9.alloc (.cells #[.slice (a3 0).a (a3 0).n (a3 0).c, .slice (a3 1).a (a3 1).n (a3 1).c, .slice (a3 2).a (a3 2).n (a3 2).c] 24) = w10 at H9 ⊢
  refine (rpop_tells H9.out (u := u) (f := f) (by simp) HU.out cl).mono ?_
  rintro e w11 ⟨a4, rfl, h11⟩
  have H11 := Lib.hid (h11.laid a4)
  clear m0 m1 m2 ml
  have mX := (h11).at (b := w9.heap.size) (u := a3) (by simp)
  have m0 := mX.cell 0 (by decide)
  have m1 := mX.cell 1 (by decide)
  have m2 := mX.cell 2 (by decide)
  have ml := mX.lt
  clear mX
  clear h11 H9
  go_wp2_with fail
  generalize w11.alloc (.cells #[.slice (a4 0).a (a4 0).n (a4 0).c, .slice (a4 1).a (a4 1).n (a4 1).c, .slice (a4 2).a (a4 2).n (a4 2).c] 24) = w12 at H11 ⊢
  refine (sameTell_has H11.out (u := a3) (v := a4) (f := popF f cl) (by simp) (by simp) (popF_cnt cf)).mono ?_
  rintro e w13 ⟨rfl, h13⟩
  have H13 := Lib.hid (has_forget h13)
  clear m0 m1 m2 ml
  have mX := (h13).at (b := w.heap.size) (u := u) (by simp)
  have m0 := mX.cell 0 (by decide)
  have m1 := mX.cell 1 (by decide)
  have m2 := mX.cell 2 (by decide)
  have ml := mX.lt
  clear mX
  have bX := (h13).at (b := (w.heap.size+1)) (u := v) (by simp)
  have b0 := bX.cell 0 (by decide)
  have b1 := bX.cell 1 (by decide)
  have b2 := bX.cell 2 (by decide)
  have bl := bX.lt
  clear bX
  clear h13 H11
  go_wp2_with fail
  refine (move_tells H13.out (u := u) (v := v) (f := f) (g := g) (by simp) (by simp) HU.out HV.out cl n hx).mono ?_
  rintro e w14 ⟨a5, a6, rfl, h14⟩
  have H14 := Lib.hid (h14.laid2 a5 a6)
  clear m0 m1 m2 ml
  clear b0 b1 b2 bl
  have mX := (h14).at (b := w.heap.size) (u := u) (by simp)
  have m0 := mX.cell 0 (by decide)
  have m1 := mX.cell 1 (by decide)
  have m2 := mX.cell 2 (by decide)
  have ml := mX.lt
  clear mX
  have bX := (h14).at (b := (w.heap.size+1)) (u := v) (by simp)
  have b0 := bX.cell 0 (by decide)
  have b1 := bX.cell 1 (by decide)
  have b2 := bX.cell 2 (by decide)
  have bl := bX.lt
  clear bX
  clear h14 H13
  go_wp2_with fail
  generalize (w14.alloc (.cells #[.slice (a5 0).a (a5 0).n (a5 0).c, .slice (a5 1).a (a5 1).n (a5 1).c, .slice (a5 2).a (a5 2).n (a5 2).c] 24)).alloc (.cells #[.slice (a6 0).a (a6 0).n (a6 0).c, .slice (a6 1).a (a6 1).n (a6 1).c, .slice (a6 2).a (a6 2).n (a6 2).c] 24) = w15 at H14 ⊢
  refine (rmove_tells H14.out (u := u) (v := v) (f := f) (g := g) (by simp) (by simp) HU.out HV.out cl n hx).mono ?_
  rintro e w16 ⟨a7, a8, rfl, h16⟩
  have H16 := Lib.hid (h16.laid2 a7 a8)
  clear m0 m1 m2 ml
  clear b0 b1 b2 bl
  have mX := (h16).at (b := w14.heap.size) (u := a5) (by simp)
  have m0 := mX.cell 0 (by decide)
  have m1 := mX.cell 1 (by decide)
  have m2 := mX.cell 2 (by decide)
  have ml := mX.lt
  clear mX
  clear h16 H14
  go_wp2_with fail
  generalize (w16.alloc (.cells #[.slice (a7 0).a (a7 0).n (a7 0).c, .slice (a7 1).a (a7 1).n (a7 1).c, .slice (a7 2).a (a7 2).n (a7 2).c] 24)).alloc (.cells #[.slice (a8 0).a (a8 0).n (a8 0).c, .slice (a8 1).a (a8 1).n (a8 1).c, .slice (a8 2).a (a8 2).n (a8 2).c] 24) = w17 at H16 ⊢
  refine (sameTell_has H16.out (u := a5) (v := a7) (f := moveF f cl n) (by simp) (by simp) (moveF_cnt cf)).mono ?_
  rintro e w18 ⟨rfl, h18⟩
  have H18 := Lib.hid h18
  clear m0 m1 m2 ml
  have mX := (h18).at (b := (w14.heap.size+1)) (u := a6) (by simp)
  have m0 := mX.cell 0 (by decide)
  have m1 := mX.cell 1 (by decide)
  have m2 := mX.cell 2 (by decide)
  have ml := mX.lt
  clear mX
  have bX := (h18).at (b := (w16.heap.size+1)) (u := a8) (by simp)
  have b0 := bX.cell 0 (by decide)
  have b1 := bX.cell 1 (by decide)
  have b2 := bX.cell 2 (by decide)
  have bl := bX.lt
  clear bX
  clear h18 H16
  go_wp2_with fail
  refine (sameTell_has H18.out (u := a6) (v := a8) (f := moveG f g cl n) (by simp) (by simp) (moveG_cnt cf cg)).mono ?_
  rintro e w19 ⟨rfl, h19⟩
  have H19 := Lib.hid (has_forget2 h19)
  clear m0 m1 m2 ml
  clear b0 b1 b2 bl
  have mX := (h19).at (b := w.heap.size) (u := u) (by simp)
  have m0 := mX.cell 0 (by decide)
  have m1 := mX.cell 1 (by decide)
  have m2 := mX.cell 2 (by decide)
  have ml := mX.lt
  clear mX
  clear h19 H18
  go_wp2_with fail
  refine (part_tells H19.out (u := u) (f := f) (by simp) HU.out cl low high).mono ?_
  rintro e w20 ⟨a9, s9, rfl, h20⟩
  have H20 := Lib.hid (h20.laid a9)
  clear m0 m1 m2 ml
  have mX := (h20).at (b := w.heap.size) (u := u) (by simp)
  have m0 := mX.cell 0 (by decide)
  have m1 := mX.cell 1 (by decide)
  have m2 := mX.cell 2 (by decide)
  have ml := mX.lt
  clear mX
  clear h20 H19
  go_wp2_with fail
  generalize w20.alloc (.cells #[.slice (a9 0).a (a9 0).n (a9 0).c, .slice (a9 1).a (a9 1).n (a9 1).c, .slice (a9 2).a (a9 2).n (a9 2).c] 24) = w21 at H20 ⊢
  refine (rpart_tells H20.out (u := u) (f := f) (by simp) HU.out cl low high).mono ?_
  rintro e w22 ⟨a10, s10, rfl, h22⟩
  have H22 := Lib.hid (h22.laid a10)
  clear m0 m1 m2 ml
  have mX := (h22).at (b := w20.heap.size) (u := a9) (by simp)
  have m0 := mX.cell 0 (by decide)
  have m1 := mX.cell 1 (by decide)
  have m2 := mX.cell 2 (by decide)
  have ml := mX.lt
  clear mX
  clear h22 H20
  go_wp2_with fail
  generalize w22.alloc (.cells #[.slice (a10 0).a (a10 0).n (a10 0).c, .slice (a10 1).a (a10 1).n (a10 1).c, .slice (a10 2).a (a10 2).n (a10 2).c] 24) = w23 at H22 ⊢
  refine (sameTell_has H22.out (u := a9) (v := a10) (f := partF f cl low high) (by simp) (by simp) (partF_cnt cf)).mono ?_
  rintro e w24 ⟨rfl, h24⟩
  have H24 := Lib.hid h24
  clear m0 m1 m2 ml
  clear h24 H22
  go_wp2_with fail
  refine (intsTell_has H24.out (s := s9) (t := s10) (xs := partS f cl low high) (by simp) (by simp) (partS_cnt cf)).mono ?_
  rintro e w25 ⟨rfl, h25⟩
  have H25 := Lib.hid h25
  clear h25 H24
  go_wp2
  go_ret
  exact ⟨rfl, H25.out.bel⟩
theorem walk (u : Nat → Sl) (f : Nat → List Int) (v : Nat → Sl) (g : Nat → List Int) (cl n : Int) (a : Option Addr) (len cap : Nat) (ys : List Int) (low high : Int) (w : World) (hl : L3 w w.heap.size u f) (hl' : L3 w w.heap.size v g) (_ : (Lit.int .i64 cl).wf = true) (hw : (Lit.int .i64 n).wf = true) (hr : Row w w.heap.size a len ys ∧ len ≤ cap ∧ cap ≤ maxLen) (_ : (Lit.int .i64 low).wf = true) (_ : (Lit.int .i64 high).wf = true) :
    Calls Try.prog 3 #[(.agg #[.slice (u 0).a (u 0).n (u 0).c, .slice (u 1).a (u 1).n (u 1).c, .slice (u 2).a (u 2).n (u 2).c]), (.agg #[.slice (v 0).a (v 0).n (v 0).c, .slice (v 1).a (v 1).n (v 1).c, .slice (v 2).a (v 2).n (v 2).c]), .int .i64 cl, .int .i64 n, .slice a len cap, .int .i64 low, .int .i64 high] w (Tells w true) := by
  have hx : n ≤ 9223372036854775807 := by simp [Lit.wf, IntKind.min, IntKind.max, IntKind.signed, IntKind.bits] at hw; omega
  have hm : len ≤ 9223372036854775807 := by have h1 := hr.2.1; have h2 := hr.2.2; unfold maxLen at h2; omega
  cases d1 : fewB u
  · exact many1 u v cl n low high ⟨a, len, cap⟩ w d1
  cases d2 : fewB v
  · exact many2 u v cl n low high ⟨a, len, cap⟩ w d1 d2
  by_cases h3 : 50 < len
  · exact many3 u v cl n low high ⟨a, len, cap⟩ w d1 d2 (by simp; omega) hm
  · exact main u v f g cl n low high ⟨a, len, cap⟩ ys w hl hl' hr.1 d1 d2 (by show len ≤ 50; omega) hx
-- the frame (lsframe.py)
set_option maxRecDepth 100000 in
theorem lifted (os : Os) (started : os.Started) (H : Type) (enc : TypeId × Value → H) :
    ReturnsInHanded {} Try.checked os 3 .any (Rows.listsTellsSpec.pre6 enc Try.prog Try.f3 Rows.listsTellsRow.domain false) (Rows.listsTellsSpec.post enc Try.prog Try.f3 false true false false) := by
  refine returnsInHanded_of_change (C := Try.checked) own started (by kernel_rfl) Try.func3
    (ChangeSpec.witness6 (enc := enc) (C := Try.checked) false ⟨#[], #[.agg #[.slice none 0 0, .slice none 0 0, .slice none 0 0], .agg #[.slice none 0 0, .slice none 0 0, .slice none 0 0], .int .i64 0, .int .i64 0, .slice none 0 0, .int .i64 0, .int .i64 0], []⟩ 8 (by kernel_rfl) (by kernel_rfl) (by kernel_rfl) (by kernel_rfl)) ?_
  intro W base args ds gs before hval0 hW hcnd _
  have hval : ∀ (j : Nat) t v, Try.f3.params[j]? = some t → args[j]? = some v → Value.okWide Try.prog W .any base t v := hval0
  have hW' := hW
  obtain ⟨p, q, hA0, hV, rfl, hfz, hnd⟩ := hW
  have hA : DataW.TrodAll enc Try.prog W 0 (fun _ => true) true Try.f3.params.toList args.toList ds p := hA0
  rw [Try.params3] at hA hval
  obtain ⟨v0, vs0, d0, ds0, p0, q0, hargs, rfl, rfl, h0, r0⟩ := trodAll_cons hA
  obtain ⟨v1, vs1, d1, ds1, p1, q1, rfl, rfl, rfl, h1, r1⟩ := trodAll_cons r0
  obtain ⟨v2, vs2, d2, ds2, p2, q2, rfl, rfl, rfl, h2, r2⟩ := trodAll_cons r1
  obtain ⟨v3, vs3, d3, ds3, p3, q3, rfl, rfl, rfl, h3, r3⟩ := trodAll_cons r2
  obtain ⟨v4, vs4, d4, ds4, p4, q4, rfl, rfl, rfl, h4, r4⟩ := trodAll_cons r3
  obtain ⟨v5, vs5, d5, ds5, p5, q5, rfl, rfl, rfl, h5, r5⟩ := trodAll_cons r4
  obtain ⟨v6, vs6, d6, ds6, p6, q6, rfl, rfl, rfl, h6, r6⟩ := trodAll_cons r5
  obtain ⟨rfl, rfl, rfl⟩ := trodAll_nil r6
  obtain rfl : args = #[v0, v1, v2, v3, v4, v5, v6] := by cases args; simp_all
  obtain ⟨rfl, rfl⟩ := trodVars_none hV
  have k0 := h0
  have lt0 : ∀ x ∈ p0, x.block < W.heap.size := by obtain ⟨m, hm⟩ := k0; exact DataW.trod_lt m _ _ _ hm
  obtain ⟨u0, z0, rfl, w0, b0⟩ := lists_of (hval 0 24 v0 rfl rfl) h0
  have k1 := h1
  have lt1 : ∀ x ∈ p1, x.block < W.heap.size := by obtain ⟨m, hm⟩ := k1; exact DataW.trod_lt m _ _ _ hm
  obtain ⟨u1, z1, rfl, w1, b1⟩ := lists_of (hval 1 24 v1 rfl rfl) h1
  obtain ⟨a2, rfl, rfl, rfl, w2⟩ := open_int Try.underlying3 (hval 2 3 v2 rfl rfl) h2
  obtain ⟨a3, rfl, rfl, rfl, w3⟩ := open_int Try.underlying3 (hval 3 3 v3 rfl rfl) h3
  have k4 := h4
  have lt4 : ∀ x ∈ p4, x.block < W.heap.size := by obtain ⟨m, hm⟩ := k4; exact DataW.trod_lt m _ _ _ hm
  obtain ⟨a4, len4, cap4, rfl⟩ := okWide_slice Try.underlying22 (hval 4 22 v4 rfl rfl)
  obtain ⟨z4, w4, b4⟩ := slice_of h4
  obtain ⟨a5, rfl, rfl, rfl, w5⟩ := open_int Try.underlying3 (hval 5 3 v5 rfl rfl) h5
  obtain ⟨a6, rfl, rfl, rfl, w6⟩ := open_int Try.underlying3 (hval 6 3 v6 rfl rfl) h6
  clear hA0 hval0
  refine (walk u0 z0 u1 z1 a2 a3 a4 len4 cap4 z4 a5 a6 W w0 w1 w2 w3 w4 w5 w6).mono fun e W' ⟨he, bel⟩ => ?_
  subst he
  exact ⟨_, rfl, _, _, _, [], _, [], hW', trodAll_mk1 (shut_bool Try.underlying4 _), (trodAll_cons_mk (Below.trod laidOut (by kernel_rfl) (of_decide_eq_true (by kernel_rfl)) k0 bel lt0) (trodAll_cons_mk (Below.trod laidOut (by kernel_rfl) (of_decide_eq_true (by kernel_rfl)) k1 bel lt1) (trodAll_cons_mk (shut_int Try.underlying3 w2) (trodAll_cons_mk (shut_int Try.underlying3 w3) (trodAll_cons_mk (Below.trod laidOut (by kernel_rfl) (of_decide_eq_true (by kernel_rfl)) k4 bel lt4) (trodAll_cons_mk (shut_int Try.underlying3 w5) (trodAll_cons_mk (shut_int Try.underlying3 w6) trodAll_mk0))))))), rfl, bel.frame _, fun h => by cases h⟩

theorem over : Rows.listsTellsRow.holds Try.pinned (OpenSpec.ofChange Rows.listsTellsSpec) :=
  OpenClaim.holds_of_wide 3 Try.f3 rfl rfl rfl rfl rfl rfl rfl ⟨rfl, rfl, rfl, rfl, rfl⟩ rfl rfl rfl rfl rfl (by kernel_rfl) Try.func3 (by kernel_rfl)
    (of_decide_eq_true (by kernel_rfl)) (by unfold Func.isWrapper; first | (rw [if_pos (by decide +kernel)]; kernel_rfl) | (rw [if_neg (by decide +kernel)]; exact ⟨rfl, rfl⟩))
    (fun os started H enc _ => lifted os started H enc)

/-- The statement. -/
theorem proved : Rows.ListsTellsSaid :=
  over
#print axioms proved
end Go.Proofs.Ytegggfghocicaaa.ListsTells
