/-
  ListsKeep: what was pushed is popped, what is moved and parted is lost nowhere.
-/
import Derived.Test.YtegggfghocicaaaLsTwo
import Derived.Deep.RegionHeld3
import Derived.Deep.DrawnRows
namespace Go.Proofs.Ytegggfghocicaaa.ListsKeep
open Go.Proofs.Ytegggfghocicaaa
open Go.ChangeShapes Go.WideShapes Go.ChangeAt Go.RowKit
set_option linter.unusedSimpArgs false

theorem bad1 (u v : Nat → Sl) (cl n a low high : Int) (w : World) (d1 : decide (cl < 0) = true) :
    Calls Try.prog 5 #[(.agg #[.slice (u 0).a (u 0).n (u 0).c, .slice (u 1).a (u 1).n (u 1).c, .slice (u 2).a (u 2).n (u 2).c]), (.agg #[.slice (v 0).a (v 0).n (v 0).c, .slice (v 1).a (v 1).n (v 1).c, .slice (v 2).a (v 2).n (v 2).c]), .int .i64 cl, .int .i64 n, .int .i64 a, .int .i64 low, .int .i64 high] w (Tells w true) := by
  have H0 := Lib.hid ((Has.start w).laid2 u v)
  go_enter Try.func5, Try.ntmps5
  go_wp2_with fail
  refine (awake_has H0.out).mono ?_
  rintro e w1 ⟨rfl, h1⟩
  have H1 := Lib.hid h1
  clear h1 H0
  go_wp2
  go_ret
  exact ⟨rfl, H1.out.bel⟩
theorem bad2 (u v : Nat → Sl) (cl n a low high : Int) (w : World) (d1 : decide (cl < 0) = false) (d2 : decide (2 < cl) = true) :
    Calls Try.prog 5 #[(.agg #[.slice (u 0).a (u 0).n (u 0).c, .slice (u 1).a (u 1).n (u 1).c, .slice (u 2).a (u 2).n (u 2).c]), (.agg #[.slice (v 0).a (v 0).n (v 0).c, .slice (v 1).a (v 1).n (v 1).c, .slice (v 2).a (v 2).n (v 2).c]), .int .i64 cl, .int .i64 n, .int .i64 a, .int .i64 low, .int .i64 high] w (Tells w true) := by
  have H0 := Lib.hid ((Has.start w).laid2 u v)
  go_enter Try.func5, Try.ntmps5
  go_wp2_with fail
  refine (awake_has H0.out).mono ?_
  rintro e w1 ⟨rfl, h1⟩
  have H1 := Lib.hid h1
  clear h1 H0
  go_wp2
  go_ret
  exact ⟨rfl, H1.out.bel⟩
theorem bad3 (u v : Nat → Sl) (cl n a low high : Int) (w : World) (d1 : decide (cl < 0) = false) (d2 : decide (2 < cl) = false) (d3 : decide (n < 0) = true) :
    Calls Try.prog 5 #[(.agg #[.slice (u 0).a (u 0).n (u 0).c, .slice (u 1).a (u 1).n (u 1).c, .slice (u 2).a (u 2).n (u 2).c]), (.agg #[.slice (v 0).a (v 0).n (v 0).c, .slice (v 1).a (v 1).n (v 1).c, .slice (v 2).a (v 2).n (v 2).c]), .int .i64 cl, .int .i64 n, .int .i64 a, .int .i64 low, .int .i64 high] w (Tells w true) := by
  have H0 := Lib.hid ((Has.start w).laid2 u v)
  go_enter Try.func5, Try.ntmps5
  go_wp2_with fail
  refine (awake_has H0.out).mono ?_
  rintro e w1 ⟨rfl, h1⟩
  have H1 := Lib.hid h1
  clear h1 H0
  go_wp2
  go_ret
  exact ⟨rfl, H1.out.bel⟩
theorem bad (u v : Nat → Sl) (cl n a low high : Int) (w : World) (h : cl < 0 ∨ 2 < cl ∨ n < 0) :
    Calls Try.prog 5 #[(.agg #[.slice (u 0).a (u 0).n (u 0).c, .slice (u 1).a (u 1).n (u 1).c, .slice (u 2).a (u 2).n (u 2).c]), (.agg #[.slice (v 0).a (v 0).n (v 0).c, .slice (v 1).a (v 1).n (v 1).c, .slice (v 2).a (v 2).n (v 2).c]), .int .i64 cl, .int .i64 n, .int .i64 a, .int .i64 low, .int .i64 high] w (Tells w true) := by
  by_cases h1 : cl < 0
  · exact bad1 u v cl n a low high w (by simp; omega)
  by_cases h2 : 2 < cl
  · exact bad2 u v cl n a low high w (by simp; omega) (by simp; omega)
  exact bad3 u v cl n a low high w (by simp; omega) (by simp; omega) (by simp; omega)
set_option maxRecDepth 100000 in
theorem long (u v : Nat → Sl) (f g : Nat → List Int) (cl n a low high : Int) (w : World) (d1 : decide (cl < 0) = false) (d2 : decide (2 < cl) = false) (d3 : decide (n < 0) = false) (hl : L3 w w.heap.size u f) (hl' : L3 w w.heap.size v g) (hc : 120 < cnt3 f + cnt3 g) (hb : cnt3 f + cnt3 g ≤ 1048576) :
    Calls Try.prog 5 #[(.agg #[.slice (u 0).a (u 0).n (u 0).c, .slice (u 1).a (u 1).n (u 1).c, .slice (u 2).a (u 2).n (u 2).c]), (.agg #[.slice (v 0).a (v 0).n (v 0).c, .slice (v 1).a (v 1).n (v 1).c, .slice (v 2).a (v 2).n (v 2).c]), .int .i64 cl, .int .i64 n, .int .i64 a, .int .i64 low, .int .i64 high] w (Tells w true) := by
  have H0 := Lib.hid ((((Has.start w).list hl').list hl).laid2 u v)
  clear hl hl'
  go_enter Try.func5, Try.ntmps5
  go_wp2_with fail
  refine (awake_has H0.out).mono ?_
  rintro e w1 ⟨rfl, h1⟩
  have H1 := Lib.hid h1
  clear h1 H0
  have cX := (H1.out).at (b := w.heap.size) (u := u) (by simp)
  have c0 := cX.cell 0 (by decide)
  have c1 := cX.cell 1 (by decide)
  have c2 := cX.cell 2 (by decide)
  have cl := cX.lt
  clear cX
  have bX := (H1.out).at (b := (w.heap.size+1)) (u := v) (by simp)
  have b0 := bX.cell 0 (by decide)
  have b1 := bX.cell 1 (by decide)
  have b2 := bX.cell 2 (by decide)
  have bl := bX.lt
  clear bX
  go_wp2_with fail
  refine (all2 H1.out (u := u) (v := v) (f := f) (g := g) (by simp) (by simp) (by omega)).mono ?_
  rintro e w2 ⟨s, rfl, hs, _, h2, _⟩
  have H2 := Lib.hid h2
  have dn : decide (120 < (s.n : Int)) = true := by simp; omega
  have hs2 : s.n ≤ 4000000 := by omega
  clear h2 H1
  clear c0 c1 c2 cl
  clear b0 b1 b2 bl
  go_wp2
  go_ret
  exact ⟨rfl, H2.out.bel⟩

set_option maxRecDepth 100000 in
theorem notApart (u v : Nat → Sl) (f g : Nat → List Int) (cl n a low high : Int) (w : World) (d1 : decide (cl < 0) = false) (d2 : decide (2 < cl) = false) (d3 : decide (n < 0) = false) (hl : L3 w w.heap.size u f) (hl' : L3 w w.heap.size v g) (hc : cnt3 f + cnt3 g ≤ 120) (ha : decide (upTo f 3 ++ upTo g 3).Nodup = false) :
    Calls Try.prog 5 #[(.agg #[.slice (u 0).a (u 0).n (u 0).c, .slice (u 1).a (u 1).n (u 1).c, .slice (u 2).a (u 2).n (u 2).c]), (.agg #[.slice (v 0).a (v 0).n (v 0).c, .slice (v 1).a (v 1).n (v 1).c, .slice (v 2).a (v 2).n (v 2).c]), .int .i64 cl, .int .i64 n, .int .i64 a, .int .i64 low, .int .i64 high] w (Tells w true) := by
  have H0 := Lib.hid ((((Has.start w).list hl').list hl).laid2 u v)
  clear hl hl'
  go_enter Try.func5, Try.ntmps5
  go_wp2_with fail
  refine (awake_has H0.out).mono ?_
  rintro e w1 ⟨rfl, h1⟩
  have H1 := Lib.hid h1
  clear h1 H0
  have cX := (H1.out).at (b := w.heap.size) (u := u) (by simp)
  have c0 := cX.cell 0 (by decide)
  have c1 := cX.cell 1 (by decide)
  have c2 := cX.cell 2 (by decide)
  have cl := cX.lt
  clear cX
  have bX := (H1.out).at (b := (w.heap.size+1)) (u := v) (by simp)
  have b0 := bX.cell 0 (by decide)
  have b1 := bX.cell 1 (by decide)
  have b2 := bX.cell 2 (by decide)
  have bl := bX.lt
  clear bX
  go_wp2_with fail
  refine (all2 H1.out (u := u) (v := v) (f := f) (g := g) (by simp) (by simp) (by omega)).mono ?_
  rintro e w2 ⟨s, rfl, hs, _, h2, _⟩
  have H2 := Lib.hid h2
  have dn : decide (120 < (s.n : Int)) = false := by simp; omega
  have hs2 : s.n ≤ 4000000 := by omega
  clear h2 H1
  clear c0 c1 c2 cl
  clear b0 b1 b2 bl
  have cX := (H2.out).at (b := w.heap.size) (u := u) (by simp)
  have c0 := cX.cell 0 (by decide)
  have c1 := cX.cell 1 (by decide)
  have c2 := cX.cell 2 (by decide)
  have cl := cX.lt
  clear cX
  have bX := (H2.out).at (b := (w.heap.size+1)) (u := v) (by simp)
  have b0 := bX.cell 0 (by decide)
  have b1 := bX.cell 1 (by decide)
  have b2 := bX.cell 2 (by decide)
  have bl := bX.lt
  clear bX
  go_wp2_with fail
  have HQ := apart_two H2.out (u := u) (v := v) (f := f) (g := g) (by simp) (by simp) (by omega)
  rw [ha] at HQ
  refine HQ.mono ?_
  rintro e w3 ⟨rfl, h3⟩
  have H3 := Lib.hid h3
  clear h3 H2 HQ
  clear c0 c1 c2 cl
  clear b0 b1 b2 bl
  go_wp2
  go_ret
  exact ⟨rfl, H3.out.bel⟩

set_option maxRecDepth 100000 in
set_option maxHeartbeats 2000000 in
theorem main (u v : Nat → Sl) (f g : Nat → List Int) (k m : Nat) (a low high : Int) (hk : k < 3) (hm : m ≤ 9223372036854775807) (w : World) (hl : L3 w w.heap.size u f) (hl' : L3 w w.heap.size v g) (hc : cnt3 f + cnt3 g ≤ 120) (ha : decide (upTo f 3 ++ upTo g 3).Nodup = true) :
    Calls Try.prog 5 #[(.agg #[.slice (u 0).a (u 0).n (u 0).c, .slice (u 1).a (u 1).n (u 1).c, .slice (u 2).a (u 2).n (u 2).c]), (.agg #[.slice (v 0).a (v 0).n (v 0).c, .slice (v 1).a (v 1).n (v 1).c, .slice (v 2).a (v 2).n (v 2).c]), .int .i64 k, .int .i64 m, .int .i64 a, .int .i64 low, .int .i64 high] w (Tells w true) := by
  have H0 := Lib.hid ((((Has.start w).list hl').list hl).laid2 u v)
  have d1 : decide ((k : Int) < 0) = false := by simp
  have d2 : decide (2 < (k : Int)) = false := by simp; omega
  have d3 : decide ((m : Int) < 0) = false := by simp
  have i0 : (0 : Int) ≤ k := by omega
  have i3 : (k : Int) < 3 := by omega
  have cg := cnt_ge f k hk
  have HAP := Lib.hid ha
  clear hl hl' ha
  go_enter Try.func5, Try.ntmps5
  go_wp2_with fail
  refine (awake_has H0.out).mono ?_
  rintro e w1 ⟨rfl, h1⟩
  have H1 := Lib.hid h1
  clear h1 H0
  have cX := (H1.out).at (b := w.heap.size) (u := u) (by simp)
  have c0 := cX.cell 0 (by decide)
  have c1 := cX.cell 1 (by decide)
  have c2 := cX.cell 2 (by decide)
  have cl := cX.lt
  clear cX
  have bX := (H1.out).at (b := (w.heap.size+1)) (u := v) (by simp)
  have b0 := bX.cell 0 (by decide)
  have b1 := bX.cell 1 (by decide)
  have b2 := bX.cell 2 (by decide)
  have bl := bX.lt
  clear bX
  go_wp2_with fail
  refine (all2 H1.out (u := u) (v := v) (f := f) (g := g) (by simp) (by simp) (by omega)).mono ?_
  rintro e w2 ⟨s, rfl, hs, _, h2, _⟩
  have H2 := Lib.hid h2
  have dn : decide (120 < (s.n : Int)) = false := by simp; omega
  have hs2 : s.n ≤ 4000000 := by omega
  clear h2 H1
  clear c0 c1 c2 cl
  clear b0 b1 b2 bl
  have cX := (H2.out).at (b := w.heap.size) (u := u) (by simp)
  have c0 := cX.cell 0 (by decide)
  have c1 := cX.cell 1 (by decide)
  have c2 := cX.cell 2 (by decide)
  have cl := cX.lt
  clear cX
  have bX := (H2.out).at (b := (w.heap.size+1)) (u := v) (by simp)
  have b0 := bX.cell 0 (by decide)
  have b1 := bX.cell 1 (by decide)
  have b2 := bX.cell 2 (by decide)
  have bl := bX.lt
  clear bX
  go_wp2_with fail
  have HQ := apart_two H2.out (u := u) (v := v) (f := f) (g := g) (by simp) (by simp) (by omega)
  rw [HAP.out] at HQ
  refine HQ.mono ?_
  rintro e w3 ⟨rfl, h3⟩
  have H3 := Lib.hid h3
  clear h3 H2 HQ
  clear c0 c1 c2 cl
  clear b0 b1 b2 bl
  have cX := (H3.out).at (b := w.heap.size) (u := u) (by simp)
  have c0 := cX.cell 0 (by decide)
  have c1 := cX.cell 1 (by decide)
  have c2 := cX.cell 2 (by decide)
  have cl := cX.lt
  clear cX
  go_wp2_with fail
  refine (push_has (H3.out.alloc _) (u := u) (f := f) (by simp) k hk (ys := [a]) (by rw [World.size_alloc]; exact row_lit1 w3 a) (by omega) (by decide)).mono ?_
  rintro e w4 ⟨x, rfl, h4⟩
  have H4 := Lib.hid (h4.laid x)
  clear h4 H3
  clear c0 c1 c2 cl
  go_wp2_with fail
  generalize w4.alloc (.cells #[.slice (x 0).a (x 0).n (x 0).c, .slice (x 1).a (x 1).n (x 1).c, .slice (x 2).a (x 2).n (x 2).c] 24) = w5 at H4 ⊢
  have hxn : (x k).n = (f k).length + 1 := ((H4.out.of (u := x) (f := upd f k (f k ++ [a])) (by simp)).len k hk).trans (by rw [upd_same]; simp)
  have cu := cnt_upd f k hk (f k ++ [a])
  rw [List.length_append] at cu
  have HXN := Lib.hid hxn
  clear hxn
  refine (pop_has H4.out (u := x) (f := upd f k (f k ++ [a])) (by simp) k hk _ HXN.out (by simp at cu; omega)).mono ?_
  rintro e w6 ⟨y, rfl, h6⟩
  have ev : (upd f k (f k ++ [a]) k).getD (f k).length 0 = a := by rw [upd_same]; simp [List.getD]
  have el : upd (upd f k (f k ++ [a])) k ((upd f k (f k ++ [a]) k).take (f k).length) = f := by
    rw [upd_same, upd_upd]
    funext j
    by_cases e : j = k
    · rw [e, upd_same]
      simp
    · exact upd_other _ _ e
  rw [ev]
  rw [el] at h6
  have H6 := Lib.hid (h6.laid y)
  have cX := (h6).at (b := w.heap.size) (u := u) (by simp)
  have c0 := cX.cell 0 (by decide)
  have c1 := cX.cell 1 (by decide)
  have c2 := cX.cell 2 (by decide)
  have cl := cX.lt
  clear cX
  clear h6 H4 cu ev el
  go_wp2_with fail
  generalize w6.alloc (.cells #[.slice (y 0).a (y 0).n (y 0).c, .slice (y 1).a (y 1).n (y 1).c, .slice (y 2).a (y 2).n (y 2).c] 24) = w7 at H6 ⊢
  refine (sameYes_has H6.out (u := y) (v := u) (f := f) (g := f) (by simp) (by simp) (by omega) (by omega) (fun _ _ => rfl)).mono ?_
  rintro e w8 ⟨rfl, h8⟩
  have H8 := Lib.hid h8
  clear c0 c1 c2 cl
  have cX := (h8).at (b := w.heap.size) (u := u) (by simp)
  have c0 := cX.cell 0 (by decide)
  have c1 := cX.cell 1 (by decide)
  have c2 := cX.cell 2 (by decide)
  have cl := cX.lt
  clear cX
  have bX := (h8).at (b := (w.heap.size+1)) (u := v) (by simp)
  have b0 := bX.cell 0 (by decide)
  have b1 := bX.cell 1 (by decide)
  have b2 := bX.cell 2 (by decide)
  have bl := bX.lt
  clear bX
  clear h8 H6
  go_wp2_with fail
  refine (move_has H8.out (u := u) (v := v) (f := f) (g := g) (by simp) (by simp) k m hk hm (by omega) (by omega)).mono ?_
  rintro e w9 ⟨p, q, rfl, h9⟩
  have H9 := Lib.hid (h9.laid2 p q)
  clear c0 c1 c2 cl
  clear b0 b1 b2 bl
  have cX := (h9).at (b := w.heap.size) (u := u) (by simp)
  have c0 := cX.cell 0 (by decide)
  have c1 := cX.cell 1 (by decide)
  have c2 := cX.cell 2 (by decide)
  have cl := cX.lt
  clear cX
  clear h9 H8
  go_wp2_with fail
  generalize (w9.alloc (.cells #[.slice (p 0).a (p 0).n (p 0).c, .slice (p 1).a (p 1).n (p 1).c, .slice (p 2).a (p 2).n (p 2).c] 24)).alloc (.cells #[.slice (q 0).a (q 0).n (q 0).c, .slice (q 1).a (q 1).n (q 1).c, .slice (q 2).a (q 2).n (q 2).c] 24) = w10 at H9 ⊢
  refine (part_has H9.out (u := u) (f := f) (by simp) k hk low high (by omega)).mono ?_
  rintro e w11 ⟨r, t, rfl, h11⟩
  have H11 := Lib.hid (h11.laid r)
  clear h11 H9
  clear c0 c1 c2 cl
  go_wp2
  generalize w11.alloc (.cells #[.slice (r 0).a (r 0).n (r 0).c, .slice (r 1).a (r 1).n (r 1).c, .slice (r 2).a (r 2).n (r 2).c] 24) = w12 at H11 ⊢
  have htl : t.n = (inOf low high (f k)).length := (H11.out.rw_ (s := t) (xs := inOf low high (f k)) (by simp)).1.symm
  have htn : t.n ≤ 200 := by have := part_split low high (f k); omega
  obtain ⟨A, hA⟩ : ∃ A, A = t.a := ⟨_, rfl⟩
  obtain ⟨n, hn⟩ : ∃ n, n = t.n := ⟨_, rfl⟩
  have HA := Lib.hid hA
  have HN := Lib.hid hn
  have HTL := Lib.hid htl
  rw [← hA, ← hn]
  have hn2 : n ≤ 200 := by omega
  clear hA hn htl htn
  go_loopw [28] (fun i wr => ∃ j : Nat, j ≤ n ∧ i = .int .i64 j ∧ wr = w12) (fun i _ => n - (intOf i).toNat)
  case atStart => exact ⟨0, by omega, rfl, rfl⟩
  case round =>
    obtain ⟨j, hj, rfl, rfl⟩ := hrel
    by_cases hlt : j < n
    · obtain ⟨b, off, e, _, hcell⟩ := (H11.out.rw_ (s := t) (xs := inOf low high (f k)) (by simp)).2 (by have := HN.out; omega)
      have hq := hcell j (by have := HN.out; omega)
      have hl := in_low (low := low) (high := high) (xs := f k) (i := j) (by have := HN.out; have := HTL.out; omega)
      rw [← HA.out] at e
      subst e
      obtain ⟨y, hy⟩ : ∃ y, y = (inOf low high (f k)).getD j 0 := ⟨_, rfl⟩
      rw [← hy] at hq hl
      have hbl : b < wr.heap.size := World.block_lt_of_cell? wr _ hq
      have e1 : decide (y < low) = false := by simp; omega
      have e2 : decide (high ≤ y) = false := by simp; omega
      clear hcell hy hl
      go_wp2
      go_roundw
      case rel => exact ⟨j + 1, by omega, by go_num, trivial⟩
      case measure => simp [intOf]; omega
    · obtain rfl : j = n := by omega
      obtain rfl := HN.out
      obtain rfl := HA.out
      clear HA HN
      go_wp2
      obtain ⟨N, hN⟩ : ∃ N, cnt3 f + cnt3 g = N := ⟨_, rfl⟩
      obtain ⟨M, hM⟩ : ∃ M, cnt3 f = M := ⟨_, rfl⟩
      have hN2 := (moved_len (f := f) (g := g) (t := (f k).length - m) hk (by omega)).trans hN
      have hmv := moved_mem (f := f) (g := g) (t := (f k).length - m) hk
      have hM2 := (parted_len (f := f) (low := low) (high := high) hk).trans hM
      rw [← HTL.out] at hM2
      have hpt := parted_mem (f := f) (low := low) (high := high) hk
      generalize upd f k ((f k).take ((f k).length - m)) = P at H11 hN2 hmv
      generalize upd g k (g k ++ ((f k).drop ((f k).length - m)).reverse) = Q at H11 hN2 hmv
      generalize upd f k (outOf low high (f k)) = R at H11 hM2 hpt
      obtain ⟨MR, hMR⟩ : ∃ MR, cnt3 R = MR := ⟨_, rfl⟩
      have hNle : N ≤ 120 := by omega
      have hMle : M ≤ 120 := by omega
      have hMRle : MR ≤ 120 := by omega
      have FN := Lib.hid (And.intro hN (And.intro hN2 hmv))
      have FM := Lib.hid (And.intro hM (And.intro hMR (And.intro (show MR + t.n = M by omega) hpt)))
      clear hN hN2 hmv hM hM2 hpt hMR HTL
      go_region_held3 (fun w' => w'.cell? ⟨w.heap.size, 0, none⟩ = some (.slice (u 0).a (u 0).n (u 0).c) ∧ w'.cell? ⟨w.heap.size, 1, none⟩ = some (.slice (u 1).a (u 1).n (u 1).c) ∧ w'.cell? ⟨w.heap.size, 2, none⟩ = some (.slice (u 2).a (u 2).n (u 2).c) ∧ w.heap.size < w'.heap.size ∧ w'.cell? ⟨(w.heap.size+1), 0, none⟩ = some (.slice (v 0).a (v 0).n (v 0).c) ∧ w'.cell? ⟨(w.heap.size+1), 1, none⟩ = some (.slice (v 1).a (v 1).n (v 1).c) ∧ w'.cell? ⟨(w.heap.size+1), 2, none⟩ = some (.slice (v 2).a (v 2).n (v 2).c) ∧ (w.heap.size+1) < w'.heap.size ∧ w'.cell? ⟨w9.heap.size, 0, none⟩ = some (.slice (p 0).a (p 0).n (p 0).c) ∧ w'.cell? ⟨w9.heap.size, 1, none⟩ = some (.slice (p 1).a (p 1).n (p 1).c) ∧ w'.cell? ⟨w9.heap.size, 2, none⟩ = some (.slice (p 2).a (p 2).n (p 2).c) ∧ w9.heap.size < w'.heap.size ∧ w'.cell? ⟨(w9.heap.size+1), 0, none⟩ = some (.slice (q 0).a (q 0).n (q 0).c) ∧ w'.cell? ⟨(w9.heap.size+1), 1, none⟩ = some (.slice (q 1).a (q 1).n (q 1).c) ∧ w'.cell? ⟨(w9.heap.size+1), 2, none⟩ = some (.slice (q 2).a (q 2).n (q 2).c) ∧ (w9.heap.size+1) < w'.heap.size) (first
        | (with_reducible exact cells4 (has_drawn H11.out) (by simp) (by simp) (by simp) (by simp))
        | (with_reducible exact cells4 ((has_drawn H11.out).alloc _) (by simp) (by simp) (by simp) (by simp))
        | (with_reducible exact cells4 (((has_drawn H11.out).alloc _).alloc _) (by simp) (by simp) (by simp) (by simp))
        | (with_reducible exact cells4 (has_drawn (H11.out.alloc _)) (by simp) (by simp) (by simp) (by simp))
        | (with_reducible exact cells4 (has_drawn ((H11.out.alloc _).alloc _)) (by simp) (by simp) (by simp) (by simp))
        | (with_reducible exact cells4 H13.out (by simp) (by simp) (by simp) (by simp))
        | (with_reducible exact cells4 (H13.out.alloc _) (by simp) (by simp) (by simp) (by simp))
        | (with_reducible exact cells4 H14.out (by simp) (by simp) (by simp) (by simp))
        | (with_reducible exact cells4 H15.out (by simp) (by simp) (by simp) (by simp))) (first
        | ((go_at_call 21; (first | (with_reducible refine (all2_a H11.out (u := u) (v := v) (f := f) (g := g) (by simp) (by simp) FN.out.1 (by omega)).mono ?_) | (with_reducible refine (all2_a' H11.out (u := u) (v := v) (f := f) (g := g) (by simp) (by simp) FN.out.1 (by omega)).mono ?_)); rintro e w13 ⟨A1, c1, rfl, h13, hL⟩; have H13 := Lib.hid h13; have L13 := Lib.hid hL; clear h13 hL))
        | ((go_at_call 21; (first | (with_reducible refine (all2_b H11.out (u := u) (v := v) (f := f) (g := g) (p := p) (q := q) (P := P) (Q := Q) (by simp) (by simp) (by simp) (by simp) FN.out.1 (by omega)).mono ?_) | (with_reducible refine (all2_b' H11.out (u := u) (v := v) (f := f) (g := g) (p := p) (q := q) (P := P) (Q := Q) (by simp) (by simp) (by simp) (by simp) FN.out.1 (by omega)).mono ?_)); rintro e w13 ⟨A1, c1, rfl, h13, hL⟩; have H13 := Lib.hid h13; have L13 := Lib.hid hL; clear h13 hL))
        | ((go_at_call 21; (first | (with_reducible refine (all2_c H11.out (u := u) (v := v) (f := f) (g := g) (p := p) (q := q) (P := P) (Q := Q) (by simp) (by simp) (by simp) (by simp) FN.out.1 (by omega)).mono ?_) | (with_reducible refine (all2_c' H11.out (u := u) (v := v) (f := f) (g := g) (p := p) (q := q) (P := P) (Q := Q) (by simp) (by simp) (by simp) (by simp) FN.out.1 (by omega)).mono ?_)); rintro e w13 ⟨A1, c1, rfl, h13, hL⟩; have H13 := Lib.hid h13; have L13 := Lib.hid hL; clear h13 hL))
        | ((go_at_call 21; with_reducible refine (all2_d H13.out (u := p) (v := q) (f := P) (g := Q) (by simp) (by simp) FN.out.2.1 (by omega)).mono ?_; rintro e w14 ⟨A2, c2, rfl, h14, hL⟩; have H14 := Lib.hid h14; clear h14 hL))
        | ((go_at_call 21; with_reducible refine (all2_e H13.out L13.out FN.out.2.1 (by omega)).mono ?_; rintro e w14 ⟨A2, c2, rfl, h14, hL⟩; have H14 := Lib.hid h14; clear h14 hL))
        | ((go_at_call 25; with_reducible refine (law_same H14.out (by simp) (by simp) rfl (by omega) FN.out.2.2).mono ?_; rintro e w15 ⟨rfl, h15⟩; have H15 := Lib.hid h15; clear h15)))
      all_goals clear FN H14
      all_goals go_wp2
      all_goals
        go_region_held3 (fun w' => w'.cell? ⟨w.heap.size, 0, none⟩ = some (.slice (u 0).a (u 0).n (u 0).c) ∧ w'.cell? ⟨w.heap.size, 1, none⟩ = some (.slice (u 1).a (u 1).n (u 1).c) ∧ w'.cell? ⟨w.heap.size, 2, none⟩ = some (.slice (u 2).a (u 2).n (u 2).c) ∧ w.heap.size < w'.heap.size ∧ w'.cell? ⟨w11.heap.size, 0, none⟩ = some (.slice (r 0).a (r 0).n (r 0).c) ∧ w'.cell? ⟨w11.heap.size, 1, none⟩ = some (.slice (r 1).a (r 1).n (r 1).c) ∧ w'.cell? ⟨w11.heap.size, 2, none⟩ = some (.slice (r 2).a (r 2).n (r 2).c) ∧ w11.heap.size < w'.heap.size) (first
        | (with_reducible exact cells2 (has_drawn H15.out) (by simp) (by simp))
        | (with_reducible exact cells2 ((has_drawn H15.out).alloc _) (by simp) (by simp))
        | (with_reducible exact cells2 (((has_drawn H15.out).alloc _).alloc _) (by simp) (by simp))
        | (with_reducible exact cells2 (has_drawn (H15.out.alloc _)) (by simp) (by simp))
        | (with_reducible exact cells2 (has_drawn ((H15.out.alloc _).alloc _)) (by simp) (by simp))
        | (with_reducible exact cells2 H16.out (by simp) (by simp))
        | (with_reducible exact cells2 (H16.out.alloc _) (by simp) (by simp))
        | (with_reducible exact cells2 H17.out.has (by simp) (by simp))
        | (with_reducible exact cells2 H18.out (by simp) (by simp))
        | (with_reducible exact cells2 H19.out (by simp) (by simp))) (first
        | ((go_at_call 21; (first | (with_reducible refine (all1_a H15.out (u := u) (f := f) (by simp) FM.out.1 (by omega)).mono ?_) | (with_reducible refine (all1_a' H15.out (u := u) (f := f) (by simp) FM.out.1 (by omega)).mono ?_)); rintro e w16 ⟨A3, c3, rfl, h16, hL⟩; have H16 := Lib.hid h16; have L16 := Lib.hid hL; clear h16 hL))
        | ((go_at_call 21; (first | (with_reducible refine (all1_b H15.out (u := u) (f := f) (p := r) (P := R) (by simp) (by simp) FM.out.1 (by omega)).mono ?_) | (with_reducible refine (all1_b' H15.out (u := u) (f := f) (p := r) (P := R) (by simp) (by simp) FM.out.1 (by omega)).mono ?_)); rintro e w16 ⟨A3, c3, rfl, h16, hL⟩; have H16 := Lib.hid h16; have L16 := Lib.hid hL; clear h16 hL))
        | ((go_at_call 21; (first | (with_reducible refine (all1_c H15.out (u := u) (f := f) (p := r) (P := R) (by simp) (by simp) FM.out.1 (by omega)).mono ?_) | (with_reducible refine (all1_c' H15.out (u := u) (f := f) (p := r) (P := R) (by simp) (by simp) FM.out.1 (by omega)).mono ?_)); rintro e w16 ⟨A3, c3, rfl, h16, hL⟩; have H16 := Lib.hid h16; have L16 := Lib.hid hL; clear h16 hL))
        | ((go_at_call 21; with_reducible refine (all1_d H16.out (u := r) (f := R) (by simp) FM.out.2.1 (by omega)).mono ?_; rintro e w17 ⟨A4, c4, rfl, h17, hL⟩; have H17 := Lib.hid h17; clear h17 hL))
        | ((go_at_call 21; with_reducible refine (all1_e H16.out L16.out FM.out.2.1 (by omega)).mono ?_; rintro e w17 ⟨A4, c4, rfl, h17, hL⟩; have H17 := Lib.hid h17; clear h17 hL))
        | ((refine step_ready (by rfl) (.tmp 132) (.tmp 133) (by rfl) (S := t) (Y := inOf low high (f k)) (by rfl) (by rfl) H17.out (by simp) (by omega) ?_; intro p' cp' w18 h18; have H18 := Lib.hid h18; clear h18))
        | ((go_at_call 25; with_reducible refine (law_same H18.out (by simp) (by simp) FM.out.2.2.1 (by omega) FM.out.2.2.2).mono ?_; rintro e w19 ⟨rfl, h19⟩; have H19 := Lib.hid h19; clear h19)))
      all_goals go_wp2
      all_goals go_ret
      all_goals exact ⟨rfl, H19.out.bel⟩
theorem walk (u : Nat → Sl) (f : Nat → List Int) (v : Nat → Sl) (g : Nat → List Int) (cl n a low high : Int) (w : World) (hl : L3 w w.heap.size u f) (hl' : L3 w w.heap.size v g) (_ : (Lit.int .i64 cl).wf = true) (hw : (Lit.int .i64 n).wf = true) (_ : (Lit.int .i64 a).wf = true) (_ : (Lit.int .i64 low).wf = true) (_ : (Lit.int .i64 high).wf = true)
    (hb : (u 0).n + (u 1).n + (u 2).n + (v 0).n + (v 1).n + (v 2).n ≤ 1048576) :
    Calls Try.prog 5 #[(.agg #[.slice (u 0).a (u 0).n (u 0).c, .slice (u 1).a (u 1).n (u 1).c, .slice (u 2).a (u 2).n (u 2).c]), (.agg #[.slice (v 0).a (v 0).n (v 0).c, .slice (v 1).a (v 1).n (v 1).c, .slice (v 2).a (v 2).n (v 2).c]), .int .i64 cl, .int .i64 n, .int .i64 a, .int .i64 low, .int .i64 high] w (Tells w true) := by
  have hx : n ≤ 9223372036854775807 := by simp [Lit.wf, IntKind.min, IntKind.max, IntKind.signed, IntKind.bits] at hw; omega
  have hcb := cnt_bulk hl
  have hcb' := cnt_bulk hl'
  by_cases h1 : cl < 0 ∨ 2 < cl ∨ n < 0
  · exact bad u v cl n a low high w h1
  by_cases h2 : 120 < cnt3 f + cnt3 g
  · exact long u v f g cl n a low high w (by simp; omega) (by simp; omega) (by simp; omega) hl hl' h2 (by omega)
  by_cases h3 : (upTo f 3 ++ upTo g 3).Nodup
  · obtain ⟨k, rfl⟩ := Int.eq_ofNat_of_zero_le (show 0 ≤ cl by omega)
    obtain ⟨m, rfl⟩ := Int.eq_ofNat_of_zero_le (show 0 ≤ n by omega)
    exact main u v f g k m a low high (by omega) (by omega) w hl hl' (by omega) (decide_eq_true h3)
  · exact notApart u v f g cl n a low high w (by simp; omega) (by simp; omega) (by simp; omega) hl hl' (by omega) (decide_eq_false h3)
-- the frame (lsframe.py)
set_option maxRecDepth 100000 in
theorem lifted (os : Os) (started : os.Started) (H : Type) (enc : TypeId × Value → H) (F : Stop.Interp) :
    ReturnsInHanded {} Try.checked os 5 .any ((Rows.OpenSpec.upto Rows.listsKeepSpec).pre6 enc Try.prog Try.f5 Rows.listsKeepUptoRow.domain false) (((Rows.OpenSpec.upto Rows.listsKeepSpec).at F).post enc Try.prog Try.f5 false true false false) := by
  refine returnsInHanded_of_cond (C := Try.checked) (s := Rows.OpenSpec.upto Rows.listsKeepSpec) (k := Rows.uptoSmall) rfl own started (by kernel_rfl) Try.func5
    (OpenSpec.witness (enc := enc) (C := Try.checked) (s := Rows.OpenSpec.upto Rows.listsKeepSpec) (k := Rows.uptoSmall) rfl false ⟨#[], #[.agg #[.slice none 0 0, .slice none 0 0, .slice none 0 0], .agg #[.slice none 0 0, .slice none 0 0, .slice none 0 0], .int .i64 0, .int .i64 0, .int .i64 0, .int .i64 0, .int .i64 0], []⟩ 8 (by kernel_rfl) (by kernel_rfl) (by kernel_rfl)
      (x := ([.agg [.nil, .nil, .nil], .agg [.nil, .nil, .nil], .lit (.int .i64 0), .lit (.int .i64 0), .lit (.int .i64 0), .lit (.int .i64 0), .lit (.int .i64 0)], [], [])) (by kernel_rfl) rfl (by kernel_rfl)) ?_
  intro W base args ds gs before hval0 hW _ hk _
  have hval : ∀ (j : Nat) t v, Try.f5.params[j]? = some t → args[j]? = some v → Value.okWide Try.prog W .any base t v := hval0
  have hW' := hW
  obtain ⟨p, q, hA0, hV, rfl, hfz, hnd⟩ := hW
  have hA : DataW.TrodAll enc Try.prog W 0 (fun _ => true) true Try.f5.params.toList args.toList ds p := hA0
  rw [Try.params5] at hA hval
  obtain ⟨v0, vs0, d0, ds0, p0, q0, hargs, rfl, rfl, h0, r0⟩ := trodAll_cons hA
  obtain ⟨v1, vs1, d1, ds1, p1, q1, rfl, rfl, rfl, h1, r1⟩ := trodAll_cons r0
  obtain ⟨v2, vs2, d2, ds2, p2, q2, rfl, rfl, rfl, h2, r2⟩ := trodAll_cons r1
  obtain ⟨v3, vs3, d3, ds3, p3, q3, rfl, rfl, rfl, h3, r3⟩ := trodAll_cons r2
  obtain ⟨v4, vs4, d4, ds4, p4, q4, rfl, rfl, rfl, h4, r4⟩ := trodAll_cons r3
  obtain ⟨v5, vs5, d5, ds5, p5, q5, rfl, rfl, rfl, h5, r5⟩ := trodAll_cons r4
  obtain ⟨v6, vs6, d6, ds6, p6, q6, rfl, rfl, rfl, h6, r6⟩ := trodAll_cons r5
  obtain ⟨rfl, rfl, rfl⟩ := trodAll_nil r6
  obtain rfl : args = #[v0, v1, v2, v3, v4, v5, v6] := by cases args; simp_all
  obtain ⟨rfl, rfl⟩ := trodVars_none hV
  have k0 := h0
  have lt0 : ∀ x ∈ p0, x.block < W.heap.size := by obtain ⟨m, hm⟩ := k0; exact DataW.trod_lt m _ _ _ hm
  obtain ⟨u0, z0, rfl, w0, b0⟩ := lists_of (hval 0 24 v0 rfl rfl) h0
  have k1 := h1
  have lt1 : ∀ x ∈ p1, x.block < W.heap.size := by obtain ⟨m, hm⟩ := k1; exact DataW.trod_lt m _ _ _ hm
  obtain ⟨u1, z1, rfl, w1, b1⟩ := lists_of (hval 1 24 v1 rfl rfl) h1
  obtain ⟨a2, rfl, rfl, rfl, w2⟩ := open_int Try.underlying3 (hval 2 3 v2 rfl rfl) h2
  obtain ⟨a3, rfl, rfl, rfl, w3⟩ := open_int Try.underlying3 (hval 3 3 v3 rfl rfl) h3
  obtain ⟨a4, rfl, rfl, rfl, w4⟩ := open_int Try.underlying3 (hval 4 3 v4 rfl rfl) h4
  obtain ⟨a5, rfl, rfl, rfl, w5⟩ := open_int Try.underlying3 (hval 5 3 v5 rfl rfl) h5
  obtain ⟨a6, rfl, rfl, rfl, w6⟩ := open_int Try.underlying3 (hval 6 3 v6 rfl rfl) h6
  have hb : (u0 0).n + (u0 1).n + (u0 2).n + (u1 0).n + (u1 1).n + (u1 2).n ≤ 1048576 := by
    have h := of_decide_eq_true hk
    simp only [Rows.uptoBulkAll, List.cons_append, List.nil_append, List.append_nil] at h
    omega
  clear hA0 hval0
  refine (walk u0 z0 u1 z1 a2 a3 a4 a5 a6 W w0 w1 w2 w3 w4 w5 w6 hb).mono fun e W' ⟨he, bel⟩ => ?_
  subst he
  exact ⟨_, rfl, _, _, _, [], _, [], hW', trodAll_mk1 (shut_bool Try.underlying4 _), (trodAll_cons_mk (Below.trod laidOut (by kernel_rfl) (of_decide_eq_true (by kernel_rfl)) k0 bel lt0) (trodAll_cons_mk (Below.trod laidOut (by kernel_rfl) (of_decide_eq_true (by kernel_rfl)) k1 bel lt1) (trodAll_cons_mk (shut_int Try.underlying3 w2) (trodAll_cons_mk (shut_int Try.underlying3 w3) (trodAll_cons_mk (shut_int Try.underlying3 w4) (trodAll_cons_mk (shut_int Try.underlying3 w5) (trodAll_cons_mk (shut_int Try.underlying3 w6) trodAll_mk0))))))), rfl, bel.frame _, fun h => by cases h⟩

theorem over : Rows.listsKeepUptoRow.holds Try.pinned (Rows.OpenSpec.upto Rows.listsKeepSpec) :=
  OpenClaim.holds_of_cond 5 Try.f5 rfl rfl rfl rfl rfl rfl rfl ⟨rfl, rfl, rfl, rfl, rfl⟩ rfl rfl rfl rfl rfl (by kernel_rfl) Try.func5 (by kernel_rfl)
    (of_decide_eq_true (by kernel_rfl)) (by unfold Func.isWrapper; first | (rw [if_pos (by decide +kernel)]; kernel_rfl) | (rw [if_neg (by decide +kernel)]; exact ⟨rfl, rfl⟩))
    (fun os started H enc _ F => lifted os started H enc F)

/-- The statement. -/
theorem proved : Rows.ListsKeepUptoSaid :=
  over
#print axioms proved
end Go.Proofs.Ytegggfghocicaaa.ListsKeep
