/-
  ListsPushes: cells that are pushed at once stand as if they were pushed one by one; each is popped, the last one first.
-/
import Derived.Test.YtegggfghocicaaaLsHas
namespace Go.Proofs.Ytegggfghocicaaa.ListsPushes
open Go.Proofs.Ytegggfghocicaaa
open Go.ChangeShapes Go.WideShapes Go.ChangeAt Go.RowKit
set_option linter.unusedSimpArgs false

theorem bad1 (u : Nat → Sl) (cl : Int) (A : Option Addr) (n c : Nat) (w : World) (d1 : decide (cl < 0) = true) (_ : n ≤ 9223372036854775807) :
    Calls Try.prog 8 #[(.agg #[.slice (u 0).a (u 0).n (u 0).c, .slice (u 1).a (u 1).n (u 1).c, .slice (u 2).a (u 2).n (u 2).c]), .int .i64 cl, .slice A n c] w (Tells w true) := by
  have H0 := Lib.hid ((Has.start w).laid u)
  go_enter Try.func8, Try.ntmps8
  go_wp2_with fail
  refine (awake_has H0.out).mono ?_
  rintro e w1 ⟨rfl, h1⟩
  have H1 := Lib.hid h1
  clear h1 H0
  go_wp2
  go_ret
  exact ⟨rfl, H1.out.bel⟩
theorem bad2 (u : Nat → Sl) (cl : Int) (A : Option Addr) (n c : Nat) (w : World) (d1 : decide (cl < 0) = false) (d2 : decide (2 < cl) = true) (_ : n ≤ 9223372036854775807) :
    Calls Try.prog 8 #[(.agg #[.slice (u 0).a (u 0).n (u 0).c, .slice (u 1).a (u 1).n (u 1).c, .slice (u 2).a (u 2).n (u 2).c]), .int .i64 cl, .slice A n c] w (Tells w true) := by
  have H0 := Lib.hid ((Has.start w).laid u)
  go_enter Try.func8, Try.ntmps8
  go_wp2_with fail
  refine (awake_has H0.out).mono ?_
  rintro e w1 ⟨rfl, h1⟩
  have H1 := Lib.hid h1
  clear h1 H0
  go_wp2
  go_ret
  exact ⟨rfl, H1.out.bel⟩
theorem bad3 (u : Nat → Sl) (cl : Int) (A : Option Addr) (n c : Nat) (w : World) (d1 : decide (cl < 0) = false) (d2 : decide (2 < cl) = false) (d3 : decide (20 < (n : Int)) = true) (_ : n ≤ 9223372036854775807) :
    Calls Try.prog 8 #[(.agg #[.slice (u 0).a (u 0).n (u 0).c, .slice (u 1).a (u 1).n (u 1).c, .slice (u 2).a (u 2).n (u 2).c]), .int .i64 cl, .slice A n c] w (Tells w true) := by
  have H0 := Lib.hid ((Has.start w).laid u)
  go_enter Try.func8, Try.ntmps8
  go_wp2_with fail
  refine (awake_has H0.out).mono ?_
  rintro e w1 ⟨rfl, h1⟩
  have H1 := Lib.hid h1
  clear h1 H0
  go_wp2
  go_ret
  exact ⟨rfl, H1.out.bel⟩

theorem long (u : Nat → Sl) (f : Nat → List Int) (cl : Int) (A : Option Addr) (n c : Nat) (w : World) (d1 : decide (cl < 0) = false) (d2 : decide (2 < cl) = false) (d3 : decide (20 < (n : Int)) = false) (hl : L3 w w.heap.size u f) (hc : 120 < cnt3 f) (hb : cnt3 f ≤ 1048576) :
    Calls Try.prog 8 #[(.agg #[.slice (u 0).a (u 0).n (u 0).c, .slice (u 1).a (u 1).n (u 1).c, .slice (u 2).a (u 2).n (u 2).c]), .int .i64 cl, .slice A n c] w (Tells w true) := by
  have H0 := Lib.hid (((Has.start w).list hl).laid u)
  clear hl
  go_enter Try.func8, Try.ntmps8
  go_wp2_with fail
  refine (awake_has H0.out).mono ?_
  rintro e w1 ⟨rfl, h1⟩
  have H1 := Lib.hid h1
  clear h1 H0
  have cX := (H1.out).at (b := w.heap.size) (u := u) (by simp)
  have c0 := cX.cell 0 (by decide)
  have c1 := cX.cell 1 (by decide)
  have c2 := cX.cell 2 (by decide)
  have cl := cX.lt
  clear cX
  go_wp2_with fail
  refine (all1 H1.out (u := u) (f := f) (by simp) (by omega)).mono ?_
  rintro e w2 ⟨s, rfl, hs, _, _, h2, _⟩
  have H2 := Lib.hid h2
  have dn : decide (120 < (s.n : Int)) = true := by simp; omega
  have hs2 : s.n ≤ 4000000 := by omega
  clear h2 H1
  clear c0 c1 c2 cl
  go_wp2
  go_ret
  exact ⟨rfl, H2.out.bel⟩

/-- A box is stored to: rows of numbers stand, wherever they lie. -/
theorem row_put {w : World} {B n b : Nat} {A : Option Addr} {xs : List Int} {u v : Nat → Sl} (h : Row w B A n xs) (X : Box3 w b u) : Row (put3 w b v) B A n xs := by
  refine ⟨h.1, fun hn => ?_⟩
  obtain ⟨g, off, e, hg, hc⟩ := h.2 hn
  refine ⟨g, off, e, hg, fun i hi => ?_⟩
  have hci := hc i hi
  by_cases hb : g = b
  · subst hb
    have far : ∀ j, j < 3 → ¬ off + i = j := fun j hj e => by
      have := X.cell j hj
      rw [← e, hci] at this
      cases this
    have f0 := far 0 (by decide)
    have f1 := far 1 (by decide)
    have f2 := far 2 (by decide)
    unfold put3
    rw [World.cell?_setCell_other _ _ _ _ (by intro hh; simp only [Addr.mk.injEq, true_and, and_true] at hh; omega),
      World.cell?_setCell_other _ _ _ _ (by intro hh; simp only [Addr.mk.injEq, true_and, and_true] at hh; omega),
      World.cell?_setCell_other _ _ _ _ (by intro hh; simp only [Addr.mk.injEq, true_and, and_true] at hh; omega)]
    exact hci
  · exact (World.cell?_of_block (a := ⟨g, off + i, none⟩) (put3_other _ _ hb)).trans hci
theorem has_put {w W : World} {b : Nat} {u : Nat → Sl} {bs : List (Nat × (Nat → Sl))} {ls : List ((Nat → Sl) × (Nat → List Int))} {rs : List (Sl × List Int)} (h : Has w W ((b, u) :: bs) ls rs) (hb : w.heap.size ≤ b) (hne : ∀ p, p ∈ bs → ¬ p.1 = b) (v : Nat → Sl) :
    Has w (put3 W b v) ((b, v) :: bs) ls rs := by
  have X := h.box (b, u) (List.mem_cons_self ..)
  refine ⟨below_put3 h.bel hb v, fun p hp => ?_, fun p hp j hj => ?_, fun p hp => ?_⟩
  · cases hp with
    | head => exact X.put v
    | tail _ hp => exact (h.box p (.tail _ hp)).putOther (hne p hp) v
  · have := h.lst p hp j hj
    rw [put3_size]
    exact ⟨row_put this.1 X, this.2⟩
  · rw [put3_size]
    exact row_put (h.row p hp) X
theorem take1 {ys : List Int} {n i : Nat} (hl : ys.length = n) (hi : i < n) : ys.take (i + 1) = ys.take i ++ [ys.getD i 0] := take_next hl hi
theorem has_drew {w W : World} {bs : List (Nat × (Nat → Sl))} {ls : List ((Nat → Sl) × (Nat → List Int))} {rs : List (Sl × List Int)} (h : Has w W bs ls rs) : Has w W.drew bs ls rs := h.drewN 1

theorem has_drop {w W : World} {bs : List (Nat × (Nat → Sl))} {a b : (Nat → Sl) × (Nat → List Int)} {ls : List ((Nat → Sl) × (Nat → List Int))} {rs : List (Sl × List Int)} (h : Has w W bs (a :: b :: ls) rs) : Has w W bs (a :: ls) rs :=
  ⟨h.bel, h.box, fun p hp => (by cases hp with
    | head => exact h.lst _ (List.mem_cons_self ..)
    | tail _ hp => exact h.lst p (.tail _ (.tail _ hp))), h.row⟩
theorem has_more {w W : World} {bs : List (Nat × (Nat → Sl))} {u : Nat → Sl} {f : Nat → List Int} {ls : List ((Nat → Sl) × (Nat → List Int))} {rs : List (Sl × List Int)} (h : Has w W bs ls rs) (hm : (u, f) ∈ ls) : Has w W bs ((u, f) :: ls) rs := h.list (h.of hm)
theorem has_unbox {w W : World} {a : Nat × (Nat → Sl)} {bs : List (Nat × (Nat → Sl))} {ls : List ((Nat → Sl) × (Nat → List Int))} {rs : List (Sl × List Int)} (h : Has w W (a :: bs) ls rs) : Has w W bs ls rs :=
  ⟨h.bel, fun p hp => h.box p (.tail _ hp), h.lst, h.row⟩
theorem upd_none {f : Nat → List Int} {k : Nat} {ys : List Int} : upd f k (f k ++ ys.take 0) = f := by
  funext j
  by_cases h : j = k
  · rw [h, upd_same]
    simp
  · exact upd_other _ _ h
theorem pop_next {f : Nat → List Int} {k j : Nat} {ys : List Int} (_ : j < ys.length) : upd (upd f k (f k ++ ys.take (j + 1))) k ((upd f k (f k ++ ys.take (j + 1)) k).take ((f k).length + j)) = upd f k (f k ++ ys.take j) := by
  rw [upd_same, upd_upd, List.take_append]
  congr 1
  rw [List.take_of_length_le (by omega), List.take_take]
  congr 2
  omega
theorem pop_val {f : Nat → List Int} {k j : Nat} {ys : List Int} (_ : j < ys.length) : (upd f k (f k ++ ys.take (j + 1)) k).getD ((f k).length + j) 0 = ys.getD j 0 := by
  rw [upd_same]
  simp [List.getD, List.getElem?_append_right, List.getElem?_take]
theorem pop_len {f : Nat → List Int} {k j : Nat} {ys : List Int} (hj : j < ys.length) : (upd f k (f k ++ ys.take (j + 1)) k).length = (f k).length + j + 1 := by
  rw [upd_same, List.length_append, List.length_take]
  omega
theorem row_drew (w : World) (z : Int) : Row (w.alloc (.cells #[.int .i64 z] 3)).drew ((w.alloc (.cells #[.int .i64 z] 3)).drew).heap.size (some ⟨w.heap.size, 0, none⟩) 1 [z] := by
  have h : ((w.alloc (.cells #[.int .i64 z] 3)).drew).heap.size = w.heap.size + 1 := by show (w.alloc _).heap.size = _; simp
  rw [h]
  exact row_lit1 w z
theorem row_of_drew (w : World) (z : Int) : Row (w.drew.alloc (.cells #[.int .i64 z] 3)) (w.drew.alloc (.cells #[.int .i64 z] 3)).heap.size (some ⟨w.heap.size, 0, none⟩) 1 [z] := by
  rw [World.size_alloc]
  exact row_lit1 w.drew z
theorem push_next {f : Nat → List Int} {k q : Nat} {ys : List Int} {y : Int} {n : Nat} (hl : ys.length = n) (hq : q < n) (hy : y = ys.getD q 0) : upd (upd f k (f k ++ ys.take q)) k (upd f k (f k ++ ys.take q) k ++ [y]) = upd f k (f k ++ ys.take (q + 1)) := by
  rw [upd_same, upd_upd, take1 hl hq, ← hy, List.append_assoc]
theorem push_cnt {f : Nat → List Int} {k : Nat} (hk : k < 3) {ys : List Int} (hc : cnt3 f ≤ 120) (hn : ys.length ≤ 20) : cnt3 (upd f k (f k ++ ys)) ≤ 140 := by
  have := cnt_upd f k hk (f k ++ ys)
  rw [List.length_append] at this
  omega

set_option maxRecDepth 100000 in
set_option maxHeartbeats 1000000 in
theorem main (u : Nat → Sl) (f : Nat → List Int) (k : Nat) (hk : k < 3) (t : Sl) (ys : List Int) (w : World) (hl : L3 w w.heap.size u f) (hr : Row w w.heap.size t.a t.n ys) (hc : cnt3 f ≤ 120) (hn : t.n ≤ 20) :
    Calls Try.prog 8 #[(.agg #[.slice (u 0).a (u 0).n (u 0).c, .slice (u 1).a (u 1).n (u 1).c, .slice (u 2).a (u 2).n (u 2).c]), .int .i64 k, .slice t.a t.n t.c] w (Tells w true) := by
  have H0 := Lib.hid ((((Has.start w).list hl).rowOf (s := t) hr).laid u)
  have d1 : decide ((k : Int) < 0) = false := by simp
  have d2 : decide (2 < (k : Int)) = false := by simp; omega
  have d3 : decide (20 < (t.n : Int)) = false := by simp; omega
  have i0 : (0 : Int) ≤ k := by omega
  have i3 : (k : Int) < 3 := by omega
  have cg := cnt_ge f k hk
  have hyl : ys.length = t.n := hr.1
  obtain ⟨A, hA⟩ : ∃ A, A = t.a := ⟨_, rfl⟩
  obtain ⟨n, hn'⟩ : ∃ n, n = t.n := ⟨_, rfl⟩
  have HY := Lib.hid hyl
  have HA := Lib.hid hA
  have HNN := Lib.hid hn'
  rw [← hn'] at hn d3
  rw [← hA, ← hn']
  clear hl hr hyl hA hn'
  go_enter Try.func8, Try.ntmps8
  go_wp2_with fail
  refine (awake_has H0.out).mono ?_
  rintro e w1 ⟨rfl, h1⟩
  have H1 := Lib.hid h1
  clear h1 H0
  have cX := (H1.out).at (b := w.heap.size) (u := u) (by simp)
  have c0 := cX.cell 0 (by decide)
  have c1 := cX.cell 1 (by decide)
  have c2 := cX.cell 2 (by decide)
  have cl := cX.lt
  clear cX
  go_wp2_with fail
  refine (all1 H1.out (u := u) (f := f) (by simp) (by omega)).mono ?_
  rintro e w2 ⟨s, rfl, hs, _, _, h2, _⟩
  have H2 := Lib.hid h2
  have dn : decide (120 < (s.n : Int)) = false := by simp; omega
  have hs2 : s.n ≤ 4000000 := by omega
  clear h2 H1
  clear c0 c1 c2 cl
  have cX := (H2.out).at (b := w.heap.size) (u := u) (by simp)
  have c0 := cX.cell 0 (by decide)
  have c1 := cX.cell 1 (by decide)
  have c2 := cX.cell 2 (by decide)
  have cl := cX.lt
  clear cX
  have HT := Lib.hid (H2.out.rw_ (s := t) (xs := ys) (by simp))
  rw [← HA.out, ← HNN.out] at HT
  go_wp2_with fail
  refine (push_has H2.out (u := u) (f := f) (by simp) k hk (ys := ys) HT.out (by omega) (by omega)).mono ?_
  rintro e w3 ⟨x, rfl, h3⟩
  have H3 := Lib.hid ((h3.laid x).laid u)
  rw [World.size_alloc] at H3
  clear H2 HT
  clear c0 c1 c2 cl
  have cX := (h3).at (b := w.heap.size) (u := u) (by simp)
  have c0 := cX.cell 0 (by decide)
  have c1 := cX.cell 1 (by decide)
  have c2 := cX.cell 2 (by decide)
  have cl := cX.lt
  clear cX
  have hw3 : w.heap.size < w3.heap.size := cl
  clear h3
  go_wp2
  generalize (w3.alloc (.cells #[.slice (x 0).a (x 0).n (x 0).c, .slice (x 1).a (x 1).n (x 1).c, .slice (x 2).a (x 2).n (x 2).c] 24)).alloc (.cells #[.slice (u 0).a (u 0).n (u 0).c, .slice (u 1).a (u 1).n (u 1).c, .slice (u 2).a (u 2).n (u 2).c] 24) = w4 at H3 ⊢
  clear c0 c1 c2 cl
  go_loopw [11] (fun i wr => ∃ (q : Nat) (z : Nat → Sl), q ≤ n ∧ i = .int .i64 q ∧ Hid (Has w wr [(w3.heap.size + 1, z), (w3.heap.size, x), (w.heap.size, u)] [(z, upd f k (f k ++ ys.take q)), (x, upd f k (f k ++ ys)), (u, f)] [(t, ys)])) (fun i _ => n - (intOf i).toNat)
  case atStart =>
    refine ⟨0, u, Nat.zero_le _, rfl, Lib.hid ?_⟩
    have e : upd f k (f k ++ ys.take 0) = f := by
      funext j
      by_cases h : j = k
      · rw [h, upd_same]
        simp
      · exact upd_other _ _ h
    rw [e]
    exact has_more H3.out (by simp)
  case round =>
    obtain ⟨q, z, hq, rfl, HH⟩ := hrel
    by_cases hlt : q < n
    · have hz0 := HH.out.bel.size
      have cX := (HH.out).at (b := (w3.heap.size+1)) (u := z) (by simp)
      have c0 := cX.cell 0 (by decide)
      have c1 := cX.cell 1 (by decide)
      have c2 := cX.cell 2 (by decide)
      have cl := cX.lt
      clear cX
      obtain ⟨b, off, e, _, hcell⟩ := (HH.out.rw_ (s := t) (xs := ys) (by simp)).2 (by have := HNN.out; omega)
      have hq1 := hcell q (by have := HNN.out; omega)
      rw [← HA.out] at e
      subst e
      obtain ⟨y, hy⟩ : ∃ y, y = ys.getD q 0 := ⟨_, rfl⟩
      rw [← hy] at hq1
      have HYY := Lib.hid hy
      clear hcell hy
      go_wp2
      have hyl2 : ys.length ≤ 20 := by have := HY.out; have := HNN.out; omega
      have PC := Lib.hid (push_cnt hk hc (show (ys.take q).length ≤ 20 by simp; omega))
      have PN := Lib.hid (push_next (f := f) (k := k) (y := y) HY.out (by have := HNN.out; omega) HYY.out)
      have hne : ∀ p, p ∈ [(w3.heap.size, x), (w.heap.size, u)] → ¬ p.1 = w3.heap.size + 1 := by
        have := HH.out.at (b := w3.heap.size) (u := x) (by simp)
        intro p hp
        simp at hp
        rcases hp with rfl | rfl
        · simp
        · simp
          omega
      have HNE := Lib.hid hne
      clear hne
      go_region_with ((go_at_call 11; (first | (with_reducible refine (push_has (has_drew (HH.out.alloc _)) (u := z) (f := upd f k (f k ++ ys.take q)) (by simp) k hk (ys := [y]) (row_drew wr y) (by have := PC.out; omega) (by decide)).mono ?_) | (with_reducible refine (push_has ((has_drew HH.out).alloc _) (u := z) (f := upd f k (f k ++ ys.take q)) (by simp) k hk (ys := [y]) (row_of_drew wr y) (by have := PC.out; omega) (by decide)).mono ?_)); (rintro e w5 ⟨p, rfl, h5⟩); (rw [PN.out] at h5); (have X5 := h5.at (b := w3.heap.size + 1) (u := z) (by simp)); (have e0 := X5.cell 0 (by decide)); (have e1 := X5.cell 1 (by decide)); (have e2 := X5.cell 2 (by decide)); (have g0 := X5.free 0); (have g1 := X5.free 1); (have g2 := X5.free 2); (have gl := X5.lt); (replace h5 := Lib.hid h5); (clear X5)))
      all_goals have HP := Lib.hid (has_put (has_drop h5.out) (by omega) HNE.out p)
      all_goals clear h5 e0 e1 e2 g0 g1 g2 c0 c1 c2 hq1
      all_goals go_wp2
      all_goals go_roundw
      case rel => exact ⟨q + 1, p, by omega, by go_num, HP⟩
      case measure => simp [intOf]; omega
      case rel => exact ⟨q + 1, p, by omega, by go_num, HP⟩
      case measure => simp [intOf]; omega
      case rel => exact ⟨q + 1, p, by omega, by go_num, HP⟩
      case measure => simp [intOf]; omega
    · obtain rfl : q = n := by omega
      have hyl : ys.length = q := HY.out.trans HNN.out.symm
      have hall : ys.take q = ys := List.take_of_length_le (by omega)
      have hh := HH.out
      rw [hall] at hh
      have HA1 := Lib.hid hh
      have PC := push_cnt (f := f) (ys := ys) hk hc (by omega)
      have HYL := Lib.hid hyl
      clear HH hh hall hyl
      have cX := (HA1.out).at (b := (w3.heap.size+1)) (u := z) (by simp)
      have c0 := cX.cell 0 (by decide)
      have c1 := cX.cell 1 (by decide)
      have c2 := cX.cell 2 (by decide)
      have cl := cX.lt
      clear cX
      have bX := (HA1.out).at (b := w3.heap.size) (u := x) (by simp)
      have b0 := bX.cell 0 (by decide)
      have b1 := bX.cell 1 (by decide)
      have b2 := bX.cell 2 (by decide)
      have bl := bX.lt
      clear bX
      go_wp2_with fail
      refine (sameYes_has HA1.out (u := x) (v := z) (f := upd f k (f k ++ ys)) (g := upd f k (f k ++ ys)) (by simp) (by simp) (by omega) (by omega) (fun _ _ => rfl)).mono ?_
      rintro e w5 ⟨rfl, h5⟩
      have H5 := Lib.hid (has_unbox (has_drop (has_drop (has_more h5 (u := x) (f := upd f k (f k ++ ys)) (by simp)))))
      clear h5 HA1 PC
      clear c0 c1 c2 cl
      clear b0 b1 b2 bl
      go_wp2
      go_loopw [13, 14, 15, 16] (fun v _ _ _ wr => ∃ (i : Nat) (g : Nat → Sl) (e : Int), i ≤ q ∧ v = .int .i64 e ∧ e = (i : Int) - 1 ∧ Hid (Has w wr [(w3.heap.size, g), (w.heap.size, u)] [(g, upd f k (f k ++ ys.take i)), (u, f)] [(t, ys)])) (fun v _ _ _ _ => (intOf v + 1).toNat)
      case atStart =>
        refine ⟨q, x, _, Nat.le_refl _, rfl, rfl, ?_⟩
        rw [List.take_of_length_le (by have := HYL.out; omega)]
        exact H5
      case round =>
        obtain ⟨i, g, e, hi, rfl, he, HH⟩ := hrel
        by_cases h0 : i = 0
        · subst h0
          obtain rfl : e = -1 := by omega
          have hh := HH.out
          rw [upd_none] at hh
          have HF := Lib.hid hh
          clear hh HH he
          have cX := (HF.out).at (b := w3.heap.size) (u := g) (by simp)
          have c0 := cX.cell 0 (by decide)
          have c1 := cX.cell 1 (by decide)
          have c2 := cX.cell 2 (by decide)
          have cl := cX.lt
          clear cX
          have bX := (HF.out).at (b := w.heap.size) (u := u) (by simp)
          have b0 := bX.cell 0 (by decide)
          have b1 := bX.cell 1 (by decide)
          have b2 := bX.cell 2 (by decide)
          have bl := bX.lt
          clear bX
          go_wp2_with fail
          refine (sameYes_has HF.out (u := g) (v := u) (f := f) (g := f) (by simp) (by simp) (by omega) (by omega) (fun _ _ => rfl)).mono ?_
          rintro e w7 ⟨rfl, h7⟩
          have H7 := Lib.hid h7
          clear h7 HF
          go_wp2
          go_ret
          exact ⟨rfl, H7.out.bel⟩
        · obtain ⟨j, rfl⟩ : ∃ j, i = j + 1 := ⟨i - 1, by omega⟩
          obtain rfl : e = (j : Int) := by omega
          have hjl : j < ys.length := by have := HYL.out; omega
          have hjq : j < q := by omega
          have cX := (HH.out).at (b := w3.heap.size) (u := g) (by simp)
          have c0 := cX.cell 0 (by decide)
          have c1 := cX.cell 1 (by decide)
          have c2 := cX.cell 2 (by decide)
          have cl := cX.lt
          clear cX
          have hgn : (g k).n = (f k).length + j + 1 := ((HH.out.of (u := g) (f := upd f k (f k ++ ys.take (j + 1))) (by simp)).len k hk).trans (pop_len hjl)
          have PC := push_cnt (f := f) (ys := ys.take (j + 1)) hk hc (by simp; omega)
          have HGN := Lib.hid hgn
          clear he hgn h0
          go_wp2_with fail
          refine (pop_has HH.out (u := g) (f := upd f k (f k ++ ys.take (j + 1))) (by simp) k hk _ HGN.out (by omega)).mono ?_
          rintro e w6 ⟨p, rfl, h6⟩
          rw [pop_next hjl] at h6
          rw [pop_val hjl]
          obtain ⟨b, off, e', _, hcell⟩ := (h6.rw_ (s := t) (xs := ys) (by simp)).2 (by have := HNN.out; omega)
          have hq1 := hcell j (by have := HNN.out; omega)
          have hbl : b < w6.heap.size := World.block_lt_of_cell? w6 _ hq1
          rw [← HA.out] at e'
          subst e'
          obtain ⟨y, hy⟩ : ∃ y, y = ys.getD j 0 := ⟨_, rfl⟩
          rw [← hy] at hq1 ⊢
          have X5 := h6.at (b := w3.heap.size) (u := g) (by simp)
          have e0 := X5.cell 0 (by decide)
          have e1 := X5.cell 1 (by decide)
          have e2 := X5.cell 2 (by decide)
          have g0 := X5.free 0
          have g1 := X5.free 1
          have g2 := X5.free 2
          have gl := X5.lt
          have HP := Lib.hid ((has_put (has_drop h6) (by omega) (by intro z hz; simp at hz; rw [hz]; simp; omega) p).alloc (.cells #[.slice (p 0).a (p 0).n (p 0).c, .slice (p 1).a (p 1).n (p 1).c, .slice (p 2).a (p 2).n (p 2).c] 24))
          clear hcell hy h6 X5
          clear c0 c1 c2 cl
          go_wp2
          go_roundw
          case rel => exact ⟨j, p, _, by omega, by go_num, rfl, HP⟩
          case measure => simp [intOf]
theorem walk (u : Nat → Sl) (f : Nat → List Int) (cl : Int) (A : Option Addr) (n c : Nat) (ys : List Int) (w : World) (hl : L3 w w.heap.size u f) (_ : (Lit.int .i64 cl).wf = true) (hr : Row w w.heap.size A n ys ∧ n ≤ c ∧ c ≤ maxLen)
    (hb : (u 0).n + (u 1).n + (u 2).n + n ≤ 1048576) :
    Calls Try.prog 8 #[(.agg #[.slice (u 0).a (u 0).n (u 0).c, .slice (u 1).a (u 1).n (u 1).c, .slice (u 2).a (u 2).n (u 2).c]), .int .i64 cl, .slice A n c] w (Tells w true) := by
  have hcb := cnt_bulk hl
  by_cases h1 : cl < 0
  · exact bad1 u cl A n c w (by simp; omega) (by omega)
  by_cases h2 : 2 < cl
  · exact bad2 u cl A n c w (by simp; omega) (by simp; omega) (by omega)
  by_cases h3 : 20 < n
  · exact bad3 u cl A n c w (by simp; omega) (by simp; omega) (by simp; omega) (by omega)
  by_cases h4 : 120 < cnt3 f
  · exact long u f cl A n c w (by simp; omega) (by simp; omega) (by simp; omega) hl h4 (by omega)
  obtain ⟨k, rfl⟩ := Int.eq_ofNat_of_zero_le (show 0 ≤ cl by omega)
  exact main u f k (by omega) ⟨A, n, c⟩ ys w hl hr.1 (by omega) (by show n ≤ 20; omega)
-- the frame (lsframe.py)
set_option maxRecDepth 100000 in
theorem lifted (os : Os) (started : os.Started) (H : Type) (enc : TypeId × Value → H) (F : Stop.Interp) :
    ReturnsInHanded {} Try.checked os 8 .any ((Rows.OpenSpec.upto Rows.listsPushesSpec).pre6 enc Try.prog Try.f8 Rows.listsPushesUptoRow.domain false) (((Rows.OpenSpec.upto Rows.listsPushesSpec).at F).post enc Try.prog Try.f8 false true false false) := by
  refine returnsInHanded_of_cond (C := Try.checked) (s := Rows.OpenSpec.upto Rows.listsPushesSpec) (k := Rows.uptoSmall) rfl own started (by kernel_rfl) Try.func8
    (OpenSpec.witness (enc := enc) (C := Try.checked) (s := Rows.OpenSpec.upto Rows.listsPushesSpec) (k := Rows.uptoSmall) rfl false ⟨#[], #[.agg #[.slice none 0 0, .slice none 0 0, .slice none 0 0], .int .i64 0, .slice none 0 0], []⟩ 8 (by kernel_rfl) (by kernel_rfl) (by kernel_rfl)
      (x := ([.agg [.nil, .nil, .nil], .lit (.int .i64 0), .nil], [], [])) (by kernel_rfl) rfl (by kernel_rfl)) ?_
  intro W base args ds gs before hval0 hW _ hk _
  have hval : ∀ (j : Nat) t v, Try.f8.params[j]? = some t → args[j]? = some v → Value.okWide Try.prog W .any base t v := hval0
  have hW' := hW
  obtain ⟨p, q, hA0, hV, rfl, hfz, hnd⟩ := hW
  have hA : DataW.TrodAll enc Try.prog W 0 (fun _ => true) true Try.f8.params.toList args.toList ds p := hA0
  rw [Try.params8] at hA hval
  obtain ⟨v0, vs0, d0, ds0, p0, q0, hargs, rfl, rfl, h0, r0⟩ := trodAll_cons hA
  obtain ⟨v1, vs1, d1, ds1, p1, q1, rfl, rfl, rfl, h1, r1⟩ := trodAll_cons r0
  obtain ⟨v2, vs2, d2, ds2, p2, q2, rfl, rfl, rfl, h2, r2⟩ := trodAll_cons r1
  obtain ⟨rfl, rfl, rfl⟩ := trodAll_nil r2
  obtain rfl : args = #[v0, v1, v2] := by cases args; simp_all
  obtain ⟨rfl, rfl⟩ := trodVars_none hV
  have k0 := h0
  have lt0 : ∀ x ∈ p0, x.block < W.heap.size := by obtain ⟨m, hm⟩ := k0; exact DataW.trod_lt m _ _ _ hm
  obtain ⟨u0, z0, rfl, w0, b0⟩ := lists_of (hval 0 24 v0 rfl rfl) h0
  obtain ⟨a1, rfl, rfl, rfl, w1⟩ := open_int Try.underlying3 (hval 1 3 v1 rfl rfl) h1
  have k2 := h2
  have lt2 : ∀ x ∈ p2, x.block < W.heap.size := by obtain ⟨m, hm⟩ := k2; exact DataW.trod_lt m _ _ _ hm
  obtain ⟨a2, len2, cap2, rfl⟩ := okWide_slice Try.underlying22 (hval 2 22 v2 rfl rfl)
  obtain ⟨z2, w2, b2⟩ := slice_of h2
  have hb : (u0 0).n + (u0 1).n + (u0 2).n + len2 ≤ 1048576 := by
    have h := of_decide_eq_true hk
    simp only [Rows.uptoBulkAll, List.cons_append, List.nil_append, List.append_nil] at h
    omega
  clear hA0 hval0
  refine (walk u0 z0 a1 a2 len2 cap2 z2 W w0 w1 w2 hb).mono fun e W' ⟨he, bel⟩ => ?_
  subst he
  exact ⟨_, rfl, _, _, _, [], _, [], hW', trodAll_mk1 (shut_bool Try.underlying4 _), (trodAll_cons_mk (Below.trod laidOut (by kernel_rfl) (of_decide_eq_true (by kernel_rfl)) k0 bel lt0) (trodAll_cons_mk (shut_int Try.underlying3 w1) (trodAll_cons_mk (Below.trod laidOut (by kernel_rfl) (of_decide_eq_true (by kernel_rfl)) k2 bel lt2) trodAll_mk0))), rfl, bel.frame _, fun h => by cases h⟩

theorem over : Rows.listsPushesUptoRow.holds Try.pinned (Rows.OpenSpec.upto Rows.listsPushesSpec) :=
  OpenClaim.holds_of_cond 8 Try.f8 rfl rfl rfl rfl rfl rfl rfl ⟨rfl, rfl, rfl, rfl, rfl⟩ rfl rfl rfl rfl rfl (by kernel_rfl) Try.func8 (by kernel_rfl)
    (of_decide_eq_true (by kernel_rfl)) (by unfold Func.isWrapper; first | (rw [if_pos (by decide +kernel)]; kernel_rfl) | (rw [if_neg (by decide +kernel)]; exact ⟨rfl, rfl⟩))
    (fun os started H enc _ F => lifted os started H enc F)

/-- The statement. -/
theorem proved : Rows.ListsPushesUptoSaid :=
  over
#print axioms proved
end Go.Proofs.Ytegggfghocicaaa.ListsPushes
