/-
  ListsOther: what is done to one class changes no other one.
-/
import Derived.Test.YtegggfghocicaaaLsHas
namespace Go.Proofs.Ytegggfghocicaaa.ListsOther
open Go.Proofs.Ytegggfghocicaaa
open Go.ChangeShapes Go.WideShapes Go.ChangeAt Go.RowKit
set_option linter.unusedSimpArgs false

theorem bad1 (u v : Nat → Sl) (cl n a : Int) (w : World) (d1 : decide (cl < 0) = true) :
    Calls Try.prog 7 #[(.agg #[.slice (u 0).a (u 0).n (u 0).c, .slice (u 1).a (u 1).n (u 1).c, .slice (u 2).a (u 2).n (u 2).c]), (.agg #[.slice (v 0).a (v 0).n (v 0).c, .slice (v 1).a (v 1).n (v 1).c, .slice (v 2).a (v 2).n (v 2).c]), .int .i64 cl, .int .i64 n, .int .i64 a] w (Tells w true) := by
  have H0 := Lib.hid ((Has.start w).laid2 u v)
  go_enter Try.func7, Try.ntmps7
  go_wp2_with fail
  refine (awake_has H0.out).mono ?_
  rintro e w1 ⟨rfl, h1⟩
  have H1 := Lib.hid h1
  clear h1 H0
  go_wp2
  go_ret
  exact ⟨rfl, H1.out.bel⟩
theorem bad2 (u v : Nat → Sl) (cl n a : Int) (w : World) (d1 : decide (cl < 0) = false) (d2 : decide (2 < cl) = true) :
    Calls Try.prog 7 #[(.agg #[.slice (u 0).a (u 0).n (u 0).c, .slice (u 1).a (u 1).n (u 1).c, .slice (u 2).a (u 2).n (u 2).c]), (.agg #[.slice (v 0).a (v 0).n (v 0).c, .slice (v 1).a (v 1).n (v 1).c, .slice (v 2).a (v 2).n (v 2).c]), .int .i64 cl, .int .i64 n, .int .i64 a] w (Tells w true) := by
  have H0 := Lib.hid ((Has.start w).laid2 u v)
  go_enter Try.func7, Try.ntmps7
  go_wp2_with fail
  refine (awake_has H0.out).mono ?_
  rintro e w1 ⟨rfl, h1⟩
  have H1 := Lib.hid h1
  clear h1 H0
  go_wp2
  go_ret
  exact ⟨rfl, H1.out.bel⟩
theorem bad3 (u v : Nat → Sl) (cl n a : Int) (w : World) (d1 : decide (cl < 0) = false) (d2 : decide (2 < cl) = false) (d3 : decide (n < 0) = true) :
    Calls Try.prog 7 #[(.agg #[.slice (u 0).a (u 0).n (u 0).c, .slice (u 1).a (u 1).n (u 1).c, .slice (u 2).a (u 2).n (u 2).c]), (.agg #[.slice (v 0).a (v 0).n (v 0).c, .slice (v 1).a (v 1).n (v 1).c, .slice (v 2).a (v 2).n (v 2).c]), .int .i64 cl, .int .i64 n, .int .i64 a] w (Tells w true) := by
  have H0 := Lib.hid ((Has.start w).laid2 u v)
  go_enter Try.func7, Try.ntmps7
  go_wp2_with fail
  refine (awake_has H0.out).mono ?_
  rintro e w1 ⟨rfl, h1⟩
  have H1 := Lib.hid h1
  clear h1 H0
  go_wp2
  go_ret
  exact ⟨rfl, H1.out.bel⟩
theorem bad (u v : Nat → Sl) (cl n a : Int) (w : World) (h : cl < 0 ∨ 2 < cl ∨ n < 0) :
    Calls Try.prog 7 #[(.agg #[.slice (u 0).a (u 0).n (u 0).c, .slice (u 1).a (u 1).n (u 1).c, .slice (u 2).a (u 2).n (u 2).c]), (.agg #[.slice (v 0).a (v 0).n (v 0).c, .slice (v 1).a (v 1).n (v 1).c, .slice (v 2).a (v 2).n (v 2).c]), .int .i64 cl, .int .i64 n, .int .i64 a] w (Tells w true) := by
  by_cases h1 : cl < 0
  · exact bad1 u v cl n a w (by simp; omega)
  by_cases h2 : 2 < cl
  · exact bad2 u v cl n a w (by simp; omega) (by simp; omega)
  exact bad3 u v cl n a w (by simp; omega) (by simp; omega) (by simp; omega)
theorem quiet_ints {wr : World} {a a' : Option Addr} {n n' c c' : Nat} {xs : List Int} (hx : Row wr wr.heap.size a n xs) (hy : Row wr wr.heap.size a' n' xs) (hn : xs.length ≤ 4000000) (d : Nat) :
    Calls Try.prog 20 #[.slice a n c, .slice a' n' c'] (wr.drewN d) fun e w'' => e = .returned (.bool true) ∧ ∃ m, w'' = wr.drewN m := by
  have := ints_any wr.heap.size wr.heap.size a a' n n' c c' xs xs (wr.drewN d) (by have := hx.1; omega) (by have := hy.1; omega) (below_row_drewN hx d) (below_row_drewN hy d)
  rw [show decide (xs = xs) = true by simp] at this
  exact this.mono fun _ _ ⟨he, m, hm⟩ => ⟨he, d + m, by rw [hm, World.drewN_drewN]⟩
theorem quiet_ints2 {wr : World} {a a' : Option Addr} {n n' c c' : Nat} {xs : List Int} (hx : Row wr wr.heap.size a n xs) (hy : Row wr wr.heap.size a' n' xs) (hn : xs.length ≤ 4000000) (d0 d : Nat) :
    Calls Try.prog 20 #[.slice a n c, .slice a' n' c'] (wr.drewN (d0 + d)) fun e w'' => e = .returned (.bool true) ∧ ∃ m, w'' = wr.drewN (d0 + m) := by
  have := ints_any wr.heap.size wr.heap.size a a' n n' c c' xs xs (wr.drewN (d0 + d)) (by have := hx.1; omega) (by have := hy.1; omega) (below_row_drewN hx _) (below_row_drewN hy _)
  rw [show decide (xs = xs) = true by simp] at this
  exact this.mono fun _ _ ⟨he, m, hm⟩ => ⟨he, d + m, by rw [hm, World.drewN_drewN, Nat.add_assoc]⟩
theorem pair_has {w W : World} {bs : List (Nat × (Nat → Sl))} {ls : List ((Nat → Sl) × (Nat → List Int))} {rs : List (Sl × List Int)} {u v : Nat → Sl} {f g : Nat → List Int} (h : Has w W bs ls rs) (hu : (u, f) ∈ ls) (hv : (v, g) ∈ ls) (c : Nat) (hc : c < 3) (e : f c = g c) (hn : cnt3 g ≤ 200) :
    Row W W.heap.size (u c).a (u c).n (g c) ∧ Row W W.heap.size (v c).a (v c).n (g c) ∧ (g c).length ≤ 4000000 :=
  ⟨by rw [← e]; exact ((h.of hu) c hc).1, ((h.of hv) c hc).1, by have := cnt_ge g c hc; omega⟩

theorem long (u v : Nat → Sl) (f g : Nat → List Int) (cl n a : Int) (w : World) (d1 : decide (cl < 0) = false) (d2 : decide (2 < cl) = false) (d3 : decide (n < 0) = false) (hl : L3 w w.heap.size u f) (hl' : L3 w w.heap.size v g) (hc : 200 < cnt3 f + cnt3 g) (hb : cnt3 f + cnt3 g ≤ 1048576) :
    Calls Try.prog 7 #[(.agg #[.slice (u 0).a (u 0).n (u 0).c, .slice (u 1).a (u 1).n (u 1).c, .slice (u 2).a (u 2).n (u 2).c]), (.agg #[.slice (v 0).a (v 0).n (v 0).c, .slice (v 1).a (v 1).n (v 1).c, .slice (v 2).a (v 2).n (v 2).c]), .int .i64 cl, .int .i64 n, .int .i64 a] w (Tells w true) := by
  have H0 := Lib.hid ((((Has.start w).list hl').list hl).laid2 u v)
  clear hl hl'
  go_enter Try.func7, Try.ntmps7
  go_wp2_with fail
  refine (awake_has H0.out).mono ?_
  rintro e w1 ⟨rfl, h1⟩
  have H1 := Lib.hid h1
  clear h1 H0
  have cX := (H1.out).at (b := w.heap.size) (u := u) (by simp)
  have c0 := cX.cell 0 (by decide)
  have c1 := cX.cell 1 (by decide)
  have c2 := cX.cell 2 (by decide)
  have cl := cX.lt
  clear cX
  have bX := (H1.out).at (b := (w.heap.size+1)) (u := v) (by simp)
  have b0 := bX.cell 0 (by decide)
  have b1 := bX.cell 1 (by decide)
  have b2 := bX.cell 2 (by decide)
  have bl := bX.lt
  clear bX
  go_wp2_with fail
  refine (all2 H1.out (u := u) (v := v) (f := f) (g := g) (by simp) (by simp) (by omega)).mono ?_
  rintro e w2 ⟨s, rfl, hs, _, h2, _⟩
  have H2 := Lib.hid h2
  have dn : decide (200 < (s.n : Int)) = true := by simp; omega
  have hs2 : s.n ≤ 4000000 := by omega
  clear h2 H1
  clear c0 c1 c2 cl
  clear b0 b1 b2 bl
  go_wp2
  go_ret
  exact ⟨rfl, H2.out.bel⟩

set_option maxRecDepth 100000 in
set_option maxHeartbeats 2000000 in
theorem main_0 (u v : Nat → Sl) (f g : Nat → List Int) (k m : Nat) (a : Int) (hk : k < 3) (hm : m ≤ 9223372036854775807) (w : World) (hl : L3 w w.heap.size u f) (hl' : L3 w w.heap.size v g) (hc : cnt3 f + cnt3 g ≤ 200)
    (hpop : ∀ W bs ls rs, Has w W bs ls rs → (u, f) ∈ ls → Calls Try.prog 14 #[(.agg #[.slice (u 0).a (u 0).n (u 0).c, .slice (u 1).a (u 1).n (u 1).c, .slice (u 2).a (u 2).n (u 2).c]), .int .i64 k] W fun e W' => ∃ p b F, e = .returned (.tuple #[(.agg #[.slice (p 0).a (p 0).n (p 0).c, .slice (p 1).a (p 1).n (p 1).c, .slice (p 2).a (p 2).n (p 2).c]), .int .i64 b, .int .i64 0]) ∧ Has w W' bs ((p, F) :: ls) rs ∧ cnt3 F ≤ 200 ∧ (0 = 0 → ∀ j, ¬ j = k → F j = f j))
    (d5 : decide (0 < (u k).n) = decide (0 = 0)) :
    Calls Try.prog 7 #[(.agg #[.slice (u 0).a (u 0).n (u 0).c, .slice (u 1).a (u 1).n (u 1).c, .slice (u 2).a (u 2).n (u 2).c]), (.agg #[.slice (v 0).a (v 0).n (v 0).c, .slice (v 1).a (v 1).n (v 1).c, .slice (v 2).a (v 2).n (v 2).c]), .int .i64 k, .int .i64 m, .int .i64 a] w (Tells w true) := by
  have H0 := Lib.hid ((((Has.start w).list hl').list hl).laid2 u v)
  have d1 : decide ((k : Int) < 0) = false := by simp
  have d2 : decide (2 < (k : Int)) = false := by simp; omega
  have d3 : decide ((m : Int) < 0) = false := by simp
  have i0 : (0 : Int) ≤ k := by omega
  have i3 : (k : Int) < 3 := by omega
  have D5 := Lib.hid d5
  have HPOP := Lib.hid hpop
  have cg := cnt_ge f k hk
  clear hl hl' d5 hpop
  go_enter Try.func7, Try.ntmps7
  go_wp2_with fail
  refine (awake_has H0.out).mono ?_
  rintro e w1 ⟨rfl, h1⟩
  have H1 := Lib.hid h1
  clear h1 H0
  have cX := (H1.out).at (b := w.heap.size) (u := u) (by simp)
  have c0 := cX.cell 0 (by decide)
  have c1 := cX.cell 1 (by decide)
  have c2 := cX.cell 2 (by decide)
  have cl := cX.lt
  clear cX
  have bX := (H1.out).at (b := (w.heap.size+1)) (u := v) (by simp)
  have b0 := bX.cell 0 (by decide)
  have b1 := bX.cell 1 (by decide)
  have b2 := bX.cell 2 (by decide)
  have bl := bX.lt
  clear bX
  go_wp2_with fail
  refine (all2 H1.out (u := u) (v := v) (f := f) (g := g) (by simp) (by simp) (by omega)).mono ?_
  rintro e w2 ⟨s, rfl, hs, _, h2, _⟩
  have H2 := Lib.hid h2
  have dn : decide (200 < (s.n : Int)) = false := by simp; omega
  have hs2 : s.n ≤ 4000000 := by omega
  clear h2 H1
  clear c0 c1 c2 cl
  clear b0 b1 b2 bl
  have cX := (H2.out).at (b := w.heap.size) (u := u) (by simp)
  have c0 := cX.cell 0 (by decide)
  have c1 := cX.cell 1 (by decide)
  have c2 := cX.cell 2 (by decide)
  have cl := cX.lt
  clear cX
  go_wp2_with fail
  refine (push_has (H2.out.alloc _) (u := u) (f := f) (by simp) k hk (ys := [a]) (by rw [World.size_alloc]; exact row_lit1 w2 a) (by omega) (by decide)).mono ?_
  rintro e w3 ⟨x, rfl, h3⟩
  have H3 := Lib.hid (h3.laid x)
  clear H2
  clear c0 c1 c2 cl
  have cX := (h3).at (b := w.heap.size) (u := u) (by simp)
  have c0 := cX.cell 0 (by decide)
  have c1 := cX.cell 1 (by decide)
  have c2 := cX.cell 2 (by decide)
  have cl := cX.lt
  clear cX
  clear h3
  go_wp2_with fail
  generalize w3.alloc (.cells #[.slice (x 0).a (x 0).n (x 0).c, .slice (x 1).a (x 1).n (x 1).c, .slice (x 2).a (x 2).n (x 2).c] 24) = w4 at H3 ⊢
  refine (HPOP.out _ _ _ _ H3.out (by simp)).mono ?_
  rintro e w5 ⟨y, b, F, rfl, h5, hF, hFj⟩
  have H5 := Lib.hid (h5.laid y)
  have HF := Lib.hid (And.intro hF hFj)
  clear H3 hF hFj
  clear c0 c1 c2 cl
  have cX := (h5).at (b := w.heap.size) (u := u) (by simp)
  have c0 := cX.cell 0 (by decide)
  have c1 := cX.cell 1 (by decide)
  have c2 := cX.cell 2 (by decide)
  have cl := cX.lt
  clear cX
  have bX := (h5).at (b := (w.heap.size+1)) (u := v) (by simp)
  have b0 := bX.cell 0 (by decide)
  have b1 := bX.cell 1 (by decide)
  have b2 := bX.cell 2 (by decide)
  have bl := bX.lt
  clear bX
  clear h5
  go_wp2_with fail
  generalize w5.alloc (.cells #[.slice (y 0).a (y 0).n (y 0).c, .slice (y 1).a (y 1).n (y 1).c, .slice (y 2).a (y 2).n (y 2).c] 24) = w6 at H5 ⊢
  refine (move_has H5.out (u := u) (v := v) (f := f) (g := g) (by simp) (by simp) k m hk hm (by omega) (by omega)).mono ?_
  rintro e w7 ⟨p, q, rfl, h7⟩
  have H7 := Lib.hid (h7.laid2 p q)
  clear H5
  clear c0 c1 c2 cl
  clear b0 b1 b2 bl
  have cX := (h7).at (b := w.heap.size) (u := u) (by simp)
  have c0 := cX.cell 0 (by decide)
  have c1 := cX.cell 1 (by decide)
  have c2 := cX.cell 2 (by decide)
  have cl := cX.lt
  clear cX
  clear h7
  go_wp2_with fail
  generalize (w7.alloc (.cells #[.slice (p 0).a (p 0).n (p 0).c, .slice (p 1).a (p 1).n (p 1).c, .slice (p 2).a (p 2).n (p 2).c] 24)).alloc (.cells #[.slice (q 0).a (q 0).n (q 0).c, .slice (q 1).a (q 1).n (q 1).c, .slice (q 2).a (q 2).n (q 2).c] 24) = w8 at H7 ⊢
  refine (part_has H7.out (u := u) (f := f) (by simp) k hk _ _ (by omega)).mono ?_
  rintro e w9 ⟨r, t, rfl, h9⟩
  have h10 := h9.laid r
  clear H7
  clear c0 c1 c2 cl
  have hX : ∀ j, ¬ j = k → upd f k (f k ++ [a]) j = f j := fun j hj => upd_other _ _ hj
  have hP : ∀ j, ¬ j = k → upd f k ((f k).take ((f k).length - m)) j = f j := fun j hj => upd_other _ _ hj
  have hQ : ∀ j, ¬ j = k → upd g k (g k ++ ((f k).drop ((f k).length - m)).reverse) j = g j := fun j hj => upd_other _ _ hj
  have hR : ∀ j, ¬ j = k → upd f k (outOf a (wrap64 (a + (m : Int) % 1000)) (f k)) j = f j := fun j hj => upd_other _ _ hj
  generalize upd f k (f k ++ [a]) = X at h10 hX
  generalize upd f k ((f k).take ((f k).length - m)) = P at h10 hP
  generalize upd g k (g k ++ ((f k).drop ((f k).length - m)).reverse) = Q at h10 hQ
  generalize upd f k (outOf a (wrap64 (a + (m : Int) % 1000)) (f k)) = R at h10 hR
  generalize inOf a (wrap64 (a + (m : Int) % 1000)) (f k) = S at h10
  obtain ⟨BS, hBS⟩ : ∃ BS, BS = [(w9.heap.size, r), (w7.heap.size + 1, q), (w7.heap.size, p), (w5.heap.size, y), (w3.heap.size, x), (w.heap.size + 1, v), (w.heap.size, u)] := ⟨_, rfl⟩
  have HBS := Lib.hid hBS
  have H10 := Lib.hid h10
  have HEQ := Lib.hid (And.intro hX (And.intro hP (And.intro hQ hR)))
  clear h9 h10 hX hP hQ hR hBS
  go_wp2
  generalize w9.alloc (.cells #[.slice (r 0).a (r 0).n (r 0).c, .slice (r 1).a (r 1).n (r 1).c, .slice (r 2).a (r 2).n (r 2).c] 24) = w10 at H10 ⊢
  go_loopw [23, 24, 25] (fun i _ _ wr => ∃ c : Nat, c ≤ 3 ∧ i = .int .i64 c ∧ Hid (Has w wr [(w9.heap.size, r), (w7.heap.size + 1, q), (w7.heap.size, p), (w5.heap.size, y), (w3.heap.size, x), (w.heap.size + 1, v), (w.heap.size, u)] [(r, R), (p, P), (q, Q), (y, F), (x, X), (u, f), (v, g)] [(t, S)])) (fun i _ _ _ => 3 - (intOf i).toNat)
  case atStart => exact ⟨0, by omega, rfl, H10⟩
  case round =>
    obtain ⟨c, hc3, rfl, HH⟩ := hrel
    by_cases hlt : c < 3
    · by_cases hck : c = k
      · subst hck
        have hcc : decide ((c : Int) = c) = true := by simp
        go_wp2
        go_roundw
        case rel => exact ⟨c + 1, by omega, by go_num, HH⟩
        case measure => simp [intOf]; omega
      · have i4 : (c : Int) < 3 := by omega
        have i5 : (0 : Int) ≤ c := by omega
        have hne : decide ((c : Int) = k) = false := by simp; omega
        have r_X := (HH.out).at (b := w9.heap.size) (u := r) (by simp)
        have r_c := r_X.cell c hlt
        have r_l := r_X.lt
        clear r_X
        have q_X := (HH.out).at (b := (w7.heap.size+1)) (u := q) (by simp)
        have q_c := q_X.cell c hlt
        have q_l := q_X.lt
        clear q_X
        have p_X := (HH.out).at (b := w7.heap.size) (u := p) (by simp)
        have p_c := p_X.cell c hlt
        have p_l := p_X.lt
        clear p_X
        have y_X := (HH.out).at (b := w5.heap.size) (u := y) (by simp)
        have y_c := y_X.cell c hlt
        have y_l := y_X.lt
        clear y_X
        have x_X := (HH.out).at (b := w3.heap.size) (u := x) (by simp)
        have x_c := x_X.cell c hlt
        have x_l := x_X.lt
        clear x_X
        have v_X := (HH.out).at (b := (w.heap.size+1)) (u := v) (by simp)
        have v_c := v_X.cell c hlt
        have v_l := v_X.lt
        clear v_X
        have u_X := (HH.out).at (b := w.heap.size) (u := u) (by simp)
        have u_c := u_X.cell c hlt
        have u_l := u_X.lt
        clear u_X
        have F1 := Lib.hid (pair_has HH.out (u := x) (v := u) (f := X) (g := f) (by simp) (by simp) c hlt (HEQ.out.1 c hck) (by omega))
        have F2 := Lib.hid (pair_has HH.out (u := p) (v := u) (f := P) (g := f) (by simp) (by simp) c hlt (HEQ.out.2.1 c hck) (by omega))
        have F3 := Lib.hid (pair_has HH.out (u := q) (v := v) (f := Q) (g := g) (by simp) (by simp) c hlt (HEQ.out.2.2.1 c hck) (by omega))
        have F4 := Lib.hid (pair_has HH.out (u := r) (v := u) (f := R) (g := f) (by simp) (by simp) c hlt (HEQ.out.2.2.2 c hck) (by omega))
        have F5 := Lib.hid (fun h0 : 0 = 0 => pair_has HH.out (u := y) (v := u) (f := F) (g := f) (by simp) (by simp) c hlt (HF.out.2 (by first | trivial | exact absurd h0 (by decide)) c hck) (by omega))
        have G1 := Lib.hid (fun d => quiet_ints (c := (x c).c) (c' := (u c).c) F1.out.1 F1.out.2.1 F1.out.2.2 d)
        have G2 := Lib.hid (fun d e => quiet_ints2 (c := (p c).c) (c' := (u c).c) F2.out.1 F2.out.2.1 F2.out.2.2 d e)
        have G3 := Lib.hid (fun d e => quiet_ints2 (c := (q c).c) (c' := (v c).c) F3.out.1 F3.out.2.1 F3.out.2.2 d e)
        have G4 := Lib.hid (fun d e => quiet_ints2 (c := (r c).c) (c' := (u c).c) F4.out.1 F4.out.2.1 F4.out.2.2 d e)
        have G5 := Lib.hid (fun (h0 : 0 = 0) d => quiet_ints (c := (y c).c) (c' := (u c).c) (F5.out h0).1 (F5.out h0).2.1 (F5.out h0).2.2 d)
        clear F1 F2 F3 F4 F5
        go_wp2
        go_quiet ((go_at_call 20; first | with_reducible exact G1.out _ | with_reducible exact G5.out (by trivial) _))
        go_wp2
        go_quiet ((go_at_call 20; first | with_reducible exact G2.out _ _ | with_reducible exact G3.out _ _ | with_reducible exact G4.out _ _))
        have H9 := Lib.hid (HH.out.drewN nq)
        clear r_c r_l q_c q_l p_c p_l y_c y_l x_c x_l v_c v_l u_c u_l
        go_wp2
        go_roundw
        case rel => exact ⟨c + 1, by omega, by go_num, Lib.hid (HH.out.drewN _)⟩
        case measure => simp [intOf]; omega
    · obtain rfl : c = 3 := by omega
      have u_X := (HH.out).at (b := w.heap.size) (u := u) (by simp)
      have u_c := u_X.cell k hk
      have u_l := u_X.lt
      clear u_X
      have d5 := D5.out
      simp only [decide_true, show decide (3 = 0) = false from rfl, decide_eq_true_eq, decide_eq_false_iff_not] at d5
      have hub : (u k).n ≤ 200 := by have := (HH.out.of (u := u) (f := f) (by simp)).len k hk; have := cnt_ge f k hk; omega
      go_wp2
      go_ret
      refine ⟨?_, HH.out.bel⟩
      rfl
set_option maxRecDepth 100000 in
set_option maxHeartbeats 2000000 in
theorem main_3 (u v : Nat → Sl) (f g : Nat → List Int) (k m : Nat) (a : Int) (hk : k < 3) (hm : m ≤ 9223372036854775807) (w : World) (hl : L3 w w.heap.size u f) (hl' : L3 w w.heap.size v g) (hc : cnt3 f + cnt3 g ≤ 200)
    (hpop : ∀ W bs ls rs, Has w W bs ls rs → (u, f) ∈ ls → Calls Try.prog 14 #[(.agg #[.slice (u 0).a (u 0).n (u 0).c, .slice (u 1).a (u 1).n (u 1).c, .slice (u 2).a (u 2).n (u 2).c]), .int .i64 k] W fun e W' => ∃ p b F, e = .returned (.tuple #[(.agg #[.slice (p 0).a (p 0).n (p 0).c, .slice (p 1).a (p 1).n (p 1).c, .slice (p 2).a (p 2).n (p 2).c]), .int .i64 b, .int .i64 3]) ∧ Has w W' bs ((p, F) :: ls) rs ∧ cnt3 F ≤ 200 ∧ (3 = 0 → ∀ j, ¬ j = k → F j = f j))
    (d5 : decide (0 < (u k).n) = decide (3 = 0)) :
    Calls Try.prog 7 #[(.agg #[.slice (u 0).a (u 0).n (u 0).c, .slice (u 1).a (u 1).n (u 1).c, .slice (u 2).a (u 2).n (u 2).c]), (.agg #[.slice (v 0).a (v 0).n (v 0).c, .slice (v 1).a (v 1).n (v 1).c, .slice (v 2).a (v 2).n (v 2).c]), .int .i64 k, .int .i64 m, .int .i64 a] w (Tells w true) := by
  have H0 := Lib.hid ((((Has.start w).list hl').list hl).laid2 u v)
  have d1 : decide ((k : Int) < 0) = false := by simp
  have d2 : decide (2 < (k : Int)) = false := by simp; omega
  have d3 : decide ((m : Int) < 0) = false := by simp
  have i0 : (0 : Int) ≤ k := by omega
  have i3 : (k : Int) < 3 := by omega
  have D5 := Lib.hid d5
  have HPOP := Lib.hid hpop
  have cg := cnt_ge f k hk
  clear hl hl' d5 hpop
  go_enter Try.func7, Try.ntmps7
  go_wp2_with fail
  refine (awake_has H0.out).mono ?_
  rintro e w1 ⟨rfl, h1⟩
  have H1 := Lib.hid h1
  clear h1 H0
  have cX := (H1.out).at (b := w.heap.size) (u := u) (by simp)
  have c0 := cX.cell 0 (by decide)
  have c1 := cX.cell 1 (by decide)
  have c2 := cX.cell 2 (by decide)
  have cl := cX.lt
  clear cX
  have bX := (H1.out).at (b := (w.heap.size+1)) (u := v) (by simp)
  have b0 := bX.cell 0 (by decide)
  have b1 := bX.cell 1 (by decide)
  have b2 := bX.cell 2 (by decide)
  have bl := bX.lt
  clear bX
  go_wp2_with fail
  refine (all2 H1.out (u := u) (v := v) (f := f) (g := g) (by simp) (by simp) (by omega)).mono ?_
  rintro e w2 ⟨s, rfl, hs, _, h2, _⟩
  have H2 := Lib.hid h2
  have dn : decide (200 < (s.n : Int)) = false := by simp; omega
  have hs2 : s.n ≤ 4000000 := by omega
  clear h2 H1
  clear c0 c1 c2 cl
  clear b0 b1 b2 bl
  have cX := (H2.out).at (b := w.heap.size) (u := u) (by simp)
  have c0 := cX.cell 0 (by decide)
  have c1 := cX.cell 1 (by decide)
  have c2 := cX.cell 2 (by decide)
  have cl := cX.lt
  clear cX
  go_wp2_with fail
  refine (push_has (H2.out.alloc _) (u := u) (f := f) (by simp) k hk (ys := [a]) (by rw [World.size_alloc]; exact row_lit1 w2 a) (by omega) (by decide)).mono ?_
  rintro e w3 ⟨x, rfl, h3⟩
  have H3 := Lib.hid (h3.laid x)
  clear H2
  clear c0 c1 c2 cl
  have cX := (h3).at (b := w.heap.size) (u := u) (by simp)
  have c0 := cX.cell 0 (by decide)
  have c1 := cX.cell 1 (by decide)
  have c2 := cX.cell 2 (by decide)
  have cl := cX.lt
  clear cX
  clear h3
  go_wp2_with fail
  generalize w3.alloc (.cells #[.slice (x 0).a (x 0).n (x 0).c, .slice (x 1).a (x 1).n (x 1).c, .slice (x 2).a (x 2).n (x 2).c] 24) = w4 at H3 ⊢
  refine (HPOP.out _ _ _ _ H3.out (by simp)).mono ?_
  rintro e w5 ⟨y, b, F, rfl, h5, hF, hFj⟩
  have H5 := Lib.hid (h5.laid y)
  have HF := Lib.hid (And.intro hF hFj)
  clear H3 hF hFj
  clear c0 c1 c2 cl
  have cX := (h5).at (b := w.heap.size) (u := u) (by simp)
  have c0 := cX.cell 0 (by decide)
  have c1 := cX.cell 1 (by decide)
  have c2 := cX.cell 2 (by decide)
  have cl := cX.lt
  clear cX
  have bX := (h5).at (b := (w.heap.size+1)) (u := v) (by simp)
  have b0 := bX.cell 0 (by decide)
  have b1 := bX.cell 1 (by decide)
  have b2 := bX.cell 2 (by decide)
  have bl := bX.lt
  clear bX
  clear h5
  go_wp2_with fail
  generalize w5.alloc (.cells #[.slice (y 0).a (y 0).n (y 0).c, .slice (y 1).a (y 1).n (y 1).c, .slice (y 2).a (y 2).n (y 2).c] 24) = w6 at H5 ⊢
  refine (move_has H5.out (u := u) (v := v) (f := f) (g := g) (by simp) (by simp) k m hk hm (by omega) (by omega)).mono ?_
  rintro e w7 ⟨p, q, rfl, h7⟩
  have H7 := Lib.hid (h7.laid2 p q)
  clear H5
  clear c0 c1 c2 cl
  clear b0 b1 b2 bl
  have cX := (h7).at (b := w.heap.size) (u := u) (by simp)
  have c0 := cX.cell 0 (by decide)
  have c1 := cX.cell 1 (by decide)
  have c2 := cX.cell 2 (by decide)
  have cl := cX.lt
  clear cX
  clear h7
  go_wp2_with fail
  generalize (w7.alloc (.cells #[.slice (p 0).a (p 0).n (p 0).c, .slice (p 1).a (p 1).n (p 1).c, .slice (p 2).a (p 2).n (p 2).c] 24)).alloc (.cells #[.slice (q 0).a (q 0).n (q 0).c, .slice (q 1).a (q 1).n (q 1).c, .slice (q 2).a (q 2).n (q 2).c] 24) = w8 at H7 ⊢
  refine (part_has H7.out (u := u) (f := f) (by simp) k hk _ _ (by omega)).mono ?_
  rintro e w9 ⟨r, t, rfl, h9⟩
  have h10 := h9.laid r
  clear H7
  clear c0 c1 c2 cl
  have hX : ∀ j, ¬ j = k → upd f k (f k ++ [a]) j = f j := fun j hj => upd_other _ _ hj
  have hP : ∀ j, ¬ j = k → upd f k ((f k).take ((f k).length - m)) j = f j := fun j hj => upd_other _ _ hj
  have hQ : ∀ j, ¬ j = k → upd g k (g k ++ ((f k).drop ((f k).length - m)).reverse) j = g j := fun j hj => upd_other _ _ hj
  have hR : ∀ j, ¬ j = k → upd f k (outOf a (wrap64 (a + (m : Int) % 1000)) (f k)) j = f j := fun j hj => upd_other _ _ hj
  generalize upd f k (f k ++ [a]) = X at h10 hX
  generalize upd f k ((f k).take ((f k).length - m)) = P at h10 hP
  generalize upd g k (g k ++ ((f k).drop ((f k).length - m)).reverse) = Q at h10 hQ
  generalize upd f k (outOf a (wrap64 (a + (m : Int) % 1000)) (f k)) = R at h10 hR
  generalize inOf a (wrap64 (a + (m : Int) % 1000)) (f k) = S at h10
  obtain ⟨BS, hBS⟩ : ∃ BS, BS = [(w9.heap.size, r), (w7.heap.size + 1, q), (w7.heap.size, p), (w5.heap.size, y), (w3.heap.size, x), (w.heap.size + 1, v), (w.heap.size, u)] := ⟨_, rfl⟩
  have HBS := Lib.hid hBS
  have H10 := Lib.hid h10
  have HEQ := Lib.hid (And.intro hX (And.intro hP (And.intro hQ hR)))
  clear h9 h10 hX hP hQ hR hBS
  go_wp2
  generalize w9.alloc (.cells #[.slice (r 0).a (r 0).n (r 0).c, .slice (r 1).a (r 1).n (r 1).c, .slice (r 2).a (r 2).n (r 2).c] 24) = w10 at H10 ⊢
  go_loopw [23, 24, 25] (fun i _ _ wr => ∃ c : Nat, c ≤ 3 ∧ i = .int .i64 c ∧ Hid (Has w wr [(w9.heap.size, r), (w7.heap.size + 1, q), (w7.heap.size, p), (w5.heap.size, y), (w3.heap.size, x), (w.heap.size + 1, v), (w.heap.size, u)] [(r, R), (p, P), (q, Q), (y, F), (x, X), (u, f), (v, g)] [(t, S)])) (fun i _ _ _ => 3 - (intOf i).toNat)
  case atStart => exact ⟨0, by omega, rfl, H10⟩
  case round =>
    obtain ⟨c, hc3, rfl, HH⟩ := hrel
    by_cases hlt : c < 3
    · by_cases hck : c = k
      · subst hck
        have hcc : decide ((c : Int) = c) = true := by simp
        go_wp2
        go_roundw
        case rel => exact ⟨c + 1, by omega, by go_num, HH⟩
        case measure => simp [intOf]; omega
      · have i4 : (c : Int) < 3 := by omega
        have i5 : (0 : Int) ≤ c := by omega
        have hne : decide ((c : Int) = k) = false := by simp; omega
        have r_X := (HH.out).at (b := w9.heap.size) (u := r) (by simp)
        have r_c := r_X.cell c hlt
        have r_l := r_X.lt
        clear r_X
        have q_X := (HH.out).at (b := (w7.heap.size+1)) (u := q) (by simp)
        have q_c := q_X.cell c hlt
        have q_l := q_X.lt
        clear q_X
        have p_X := (HH.out).at (b := w7.heap.size) (u := p) (by simp)
        have p_c := p_X.cell c hlt
        have p_l := p_X.lt
        clear p_X
        have y_X := (HH.out).at (b := w5.heap.size) (u := y) (by simp)
        have y_c := y_X.cell c hlt
        have y_l := y_X.lt
        clear y_X
        have x_X := (HH.out).at (b := w3.heap.size) (u := x) (by simp)
        have x_c := x_X.cell c hlt
        have x_l := x_X.lt
        clear x_X
        have v_X := (HH.out).at (b := (w.heap.size+1)) (u := v) (by simp)
        have v_c := v_X.cell c hlt
        have v_l := v_X.lt
        clear v_X
        have u_X := (HH.out).at (b := w.heap.size) (u := u) (by simp)
        have u_c := u_X.cell c hlt
        have u_l := u_X.lt
        clear u_X
        have F1 := Lib.hid (pair_has HH.out (u := x) (v := u) (f := X) (g := f) (by simp) (by simp) c hlt (HEQ.out.1 c hck) (by omega))
        have F2 := Lib.hid (pair_has HH.out (u := p) (v := u) (f := P) (g := f) (by simp) (by simp) c hlt (HEQ.out.2.1 c hck) (by omega))
        have F3 := Lib.hid (pair_has HH.out (u := q) (v := v) (f := Q) (g := g) (by simp) (by simp) c hlt (HEQ.out.2.2.1 c hck) (by omega))
        have F4 := Lib.hid (pair_has HH.out (u := r) (v := u) (f := R) (g := f) (by simp) (by simp) c hlt (HEQ.out.2.2.2 c hck) (by omega))
        have F5 := Lib.hid (fun h0 : 3 = 0 => pair_has HH.out (u := y) (v := u) (f := F) (g := f) (by simp) (by simp) c hlt (HF.out.2 (by first | trivial | exact absurd h0 (by decide)) c hck) (by omega))
        have G1 := Lib.hid (fun d => quiet_ints (c := (x c).c) (c' := (u c).c) F1.out.1 F1.out.2.1 F1.out.2.2 d)
        have G2 := Lib.hid (fun d e => quiet_ints2 (c := (p c).c) (c' := (u c).c) F2.out.1 F2.out.2.1 F2.out.2.2 d e)
        have G3 := Lib.hid (fun d e => quiet_ints2 (c := (q c).c) (c' := (v c).c) F3.out.1 F3.out.2.1 F3.out.2.2 d e)
        have G4 := Lib.hid (fun d e => quiet_ints2 (c := (r c).c) (c' := (u c).c) F4.out.1 F4.out.2.1 F4.out.2.2 d e)
        have G5 := Lib.hid (fun (h0 : 3 = 0) d => quiet_ints (c := (y c).c) (c' := (u c).c) (F5.out h0).1 (F5.out h0).2.1 (F5.out h0).2.2 d)
        clear F1 F2 F3 F4 F5
        go_wp2
        go_quiet ((go_at_call 20; first | with_reducible exact G1.out _ | with_reducible exact G5.out (by trivial) _))
        go_wp2
        go_quiet ((go_at_call 20; first | with_reducible exact G2.out _ _ | with_reducible exact G3.out _ _ | with_reducible exact G4.out _ _))
        have H9 := Lib.hid (HH.out.drewN nq)
        clear r_c r_l q_c q_l p_c p_l y_c y_l x_c x_l v_c v_l u_c u_l
        go_wp2
        go_roundw
        case rel => exact ⟨c + 1, by omega, by go_num, Lib.hid (HH.out.drewN _)⟩
        case measure => simp [intOf]; omega
    · obtain rfl : c = 3 := by omega
      have u_X := (HH.out).at (b := w.heap.size) (u := u) (by simp)
      have u_c := u_X.cell k hk
      have u_l := u_X.lt
      clear u_X
      have d5 := D5.out
      simp only [decide_true, show decide (3 = 0) = false from rfl, decide_eq_true_eq, decide_eq_false_iff_not] at d5
      have hub : (u k).n ≤ 200 := by have := (HH.out.of (u := u) (f := f) (by simp)).len k hk; have := cnt_ge f k hk; omega
      go_wp2
      go_ret
      refine ⟨?_, HH.out.bel⟩
      rfl
theorem walk (u : Nat → Sl) (f : Nat → List Int) (v : Nat → Sl) (g : Nat → List Int) (cl n a : Int) (w : World) (hl : L3 w w.heap.size u f) (hl' : L3 w w.heap.size v g) (_ : (Lit.int .i64 cl).wf = true) (hw : (Lit.int .i64 n).wf = true) (_ : (Lit.int .i64 a).wf = true)
    (hb : (u 0).n + (u 1).n + (u 2).n + (v 0).n + (v 1).n + (v 2).n ≤ 1048576) :
    Calls Try.prog 7 #[(.agg #[.slice (u 0).a (u 0).n (u 0).c, .slice (u 1).a (u 1).n (u 1).c, .slice (u 2).a (u 2).n (u 2).c]), (.agg #[.slice (v 0).a (v 0).n (v 0).c, .slice (v 1).a (v 1).n (v 1).c, .slice (v 2).a (v 2).n (v 2).c]), .int .i64 cl, .int .i64 n, .int .i64 a] w (Tells w true) := by
  have hx : n ≤ 9223372036854775807 := by simp [Lit.wf, IntKind.min, IntKind.max, IntKind.signed, IntKind.bits] at hw; omega
  have hcb := cnt_bulk hl
  have hcb' := cnt_bulk hl'
  by_cases h1 : cl < 0 ∨ 2 < cl ∨ n < 0
  · exact bad u v cl n a w h1
  by_cases h2 : 200 < cnt3 f + cnt3 g
  · exact long u v f g cl n a w (by simp; omega) (by simp; omega) (by simp; omega) hl hl' h2 (by omega)
  obtain ⟨k, rfl⟩ := Int.eq_ofNat_of_zero_le (show 0 ≤ cl by omega)
  obtain ⟨m, rfl⟩ := Int.eq_ofNat_of_zero_le (show 0 ≤ n by omega)
  have hk : k < 3 := by omega
  by_cases h3 : (u k).n = 0
  · refine main_3 u v f g k m a hk (by omega) w hl hl' (by omega) (fun W bs ls rs h hm => ?_) (by rw [h3]; rfl)
    refine (popNone_has h k hk h3).mono ?_
    rintro e W' ⟨p, rfl, h'⟩
    exact ⟨p, 0, noLists, rfl, h', by decide, fun h0 => absurd h0 (by decide)⟩
  · obtain ⟨r, hr⟩ : ∃ r, (u k).n = r + 1 := ⟨(u k).n - 1, by omega⟩
    refine main_0 u v f g k m a hk (by omega) w hl hl' (by omega) (fun W bs ls rs h hm => ?_) (by rw [hr]; simp)
    refine (pop_has h hm k hk r hr (by omega)).mono ?_
    rintro e W' ⟨p, rfl, h'⟩
    refine ⟨p, _, _, rfl, h', ?_, fun _ j hj => upd_other _ _ hj⟩
    have := cnt_upd f k hk ((f k).take r)
    rw [List.length_take] at this
    omega
-- the frame (lsframe.py)
set_option maxRecDepth 100000 in
theorem lifted (os : Os) (started : os.Started) (H : Type) (enc : TypeId × Value → H) (F : Stop.Interp) :
    ReturnsInHanded {} Try.checked os 7 .any ((Rows.OpenSpec.upto Rows.listsOtherSpec).pre6 enc Try.prog Try.f7 Rows.listsOtherUptoRow.domain false) (((Rows.OpenSpec.upto Rows.listsOtherSpec).at F).post enc Try.prog Try.f7 false true false false) := by
  refine returnsInHanded_of_cond (C := Try.checked) (s := Rows.OpenSpec.upto Rows.listsOtherSpec) (k := Rows.uptoSmall) rfl own started (by kernel_rfl) Try.func7
    (OpenSpec.witness (enc := enc) (C := Try.checked) (s := Rows.OpenSpec.upto Rows.listsOtherSpec) (k := Rows.uptoSmall) rfl false ⟨#[], #[.agg #[.slice none 0 0, .slice none 0 0, .slice none 0 0], .agg #[.slice none 0 0, .slice none 0 0, .slice none 0 0], .int .i64 0, .int .i64 0, .int .i64 0], []⟩ 8 (by kernel_rfl) (by kernel_rfl) (by kernel_rfl)
      (x := ([.agg [.nil, .nil, .nil], .agg [.nil, .nil, .nil], .lit (.int .i64 0), .lit (.int .i64 0), .lit (.int .i64 0)], [], [])) (by kernel_rfl) rfl (by kernel_rfl)) ?_
  intro W base args ds gs before hval0 hW _ hk _
  have hval : ∀ (j : Nat) t v, Try.f7.params[j]? = some t → args[j]? = some v → Value.okWide Try.prog W .any base t v := hval0
  have hW' := hW
  obtain ⟨p, q, hA0, hV, rfl, hfz, hnd⟩ := hW
  have hA : DataW.TrodAll enc Try.prog W 0 (fun _ => true) true Try.f7.params.toList args.toList ds p := hA0
  rw [Try.params7] at hA hval
  obtain ⟨v0, vs0, d0, ds0, p0, q0, hargs, rfl, rfl, h0, r0⟩ := trodAll_cons hA
  obtain ⟨v1, vs1, d1, ds1, p1, q1, rfl, rfl, rfl, h1, r1⟩ := trodAll_cons r0
  obtain ⟨v2, vs2, d2, ds2, p2, q2, rfl, rfl, rfl, h2, r2⟩ := trodAll_cons r1
  obtain ⟨v3, vs3, d3, ds3, p3, q3, rfl, rfl, rfl, h3, r3⟩ := trodAll_cons r2
  obtain ⟨v4, vs4, d4, ds4, p4, q4, rfl, rfl, rfl, h4, r4⟩ := trodAll_cons r3
  obtain ⟨rfl, rfl, rfl⟩ := trodAll_nil r4
  obtain rfl : args = #[v0, v1, v2, v3, v4] := by cases args; simp_all
  obtain ⟨rfl, rfl⟩ := trodVars_none hV
  have k0 := h0
  have lt0 : ∀ x ∈ p0, x.block < W.heap.size := by obtain ⟨m, hm⟩ := k0; exact DataW.trod_lt m _ _ _ hm
  obtain ⟨u0, z0, rfl, w0, b0⟩ := lists_of (hval 0 24 v0 rfl rfl) h0
  have k1 := h1
  have lt1 : ∀ x ∈ p1, x.block < W.heap.size := by obtain ⟨m, hm⟩ := k1; exact DataW.trod_lt m _ _ _ hm
  obtain ⟨u1, z1, rfl, w1, b1⟩ := lists_of (hval 1 24 v1 rfl rfl) h1
  obtain ⟨a2, rfl, rfl, rfl, w2⟩ := open_int Try.underlying3 (hval 2 3 v2 rfl rfl) h2
  obtain ⟨a3, rfl, rfl, rfl, w3⟩ := open_int Try.underlying3 (hval 3 3 v3 rfl rfl) h3
  obtain ⟨a4, rfl, rfl, rfl, w4⟩ := open_int Try.underlying3 (hval 4 3 v4 rfl rfl) h4
  have hb : (u0 0).n + (u0 1).n + (u0 2).n + (u1 0).n + (u1 1).n + (u1 2).n ≤ 1048576 := by
    have h := of_decide_eq_true hk
    simp only [Rows.uptoBulkAll, List.cons_append, List.nil_append, List.append_nil] at h
    omega
  clear hA0 hval0
  refine (walk u0 z0 u1 z1 a2 a3 a4 W w0 w1 w2 w3 w4 hb).mono fun e W' ⟨he, bel⟩ => ?_
  subst he
  exact ⟨_, rfl, _, _, _, [], _, [], hW', trodAll_mk1 (shut_bool Try.underlying4 _), (trodAll_cons_mk (Below.trod laidOut (by kernel_rfl) (of_decide_eq_true (by kernel_rfl)) k0 bel lt0) (trodAll_cons_mk (Below.trod laidOut (by kernel_rfl) (of_decide_eq_true (by kernel_rfl)) k1 bel lt1) (trodAll_cons_mk (shut_int Try.underlying3 w2) (trodAll_cons_mk (shut_int Try.underlying3 w3) (trodAll_cons_mk (shut_int Try.underlying3 w4) trodAll_mk0))))), rfl, bel.frame _, fun h => by cases h⟩

theorem over : Rows.listsOtherUptoRow.holds Try.pinned (Rows.OpenSpec.upto Rows.listsOtherSpec) :=
  OpenClaim.holds_of_cond 7 Try.f7 rfl rfl rfl rfl rfl rfl rfl ⟨rfl, rfl, rfl, rfl, rfl⟩ rfl rfl rfl rfl rfl (by kernel_rfl) Try.func7 (by kernel_rfl)
    (of_decide_eq_true (by kernel_rfl)) (by unfold Func.isWrapper; first | (rw [if_pos (by decide +kernel)]; kernel_rfl) | (rw [if_neg (by decide +kernel)]; exact ⟨rfl, rfl⟩))
    (fun os started H enc _ F => lifted os started H enc F)

/-- The statement. -/
theorem proved : Rows.ListsOtherUptoSaid :=
  over
#print axioms proved
end Go.Proofs.Ytegggfghocicaaa.ListsOther
