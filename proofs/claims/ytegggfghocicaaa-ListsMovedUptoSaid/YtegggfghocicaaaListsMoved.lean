/-
  ListsMoved: what is moved there and back stands as it did; no more are moved than there are.
-/
import Derived.Test.YtegggfghocicaaaLsHas
namespace Go.Proofs.Ytegggfghocicaaa.ListsMoved
open Go.Proofs.Ytegggfghocicaaa
open Go.ChangeShapes Go.WideShapes Go.ChangeAt Go.RowKit
set_option linter.unusedSimpArgs false

theorem bad (u : Nat → Sl) (cl n : Int) (w : World) (h : cl < 0 ∨ 2 < cl ∨ n < 0) :
    Calls Try.prog 6 #[(.agg #[.slice (u 0).a (u 0).n (u 0).c, .slice (u 1).a (u 1).n (u 1).c, .slice (u 2).a (u 2).n (u 2).c]), .int .i64 cl, .int .i64 n] w (Tells w true) := by
  have H0 := Lib.hid ((Has.start w).laid u)
  by_cases h1 : cl < 0
  · have d1 : decide (cl < 0) = true := by simpa using h1
    clear h h1
    go_enter Try.func6, Try.ntmps6
    go_wp2_with fail
    refine (awake_any _).mono ?_
    rintro e w1 ⟨rfl, hb1⟩
    have H1 := Lib.hid (H0.out.next hb1)
    clear hb1 H0
    go_wp2
    go_ret
    exact ⟨rfl, H1.out.bel⟩
  have d1 : decide (cl < 0) = false := by simpa using h1
  by_cases h2 : 2 < cl
  · have d2 : decide (2 < cl) = true := by simpa using h2
    clear h h1 h2
    go_enter Try.func6, Try.ntmps6
    go_wp2_with fail
    refine (awake_any _).mono ?_
    rintro e w1 ⟨rfl, hb1⟩
    have H1 := Lib.hid (H0.out.next hb1)
    clear hb1 H0
    go_wp2
    go_ret
    exact ⟨rfl, H1.out.bel⟩
  have d2 : decide (2 < cl) = false := by simpa using h2
  have h3 : n < 0 := by omega
  have d3 : decide (n < 0) = true := by simpa using h3
  clear h h1 h2 h3
  go_enter Try.func6, Try.ntmps6
  go_wp2_with fail
  refine (awake_any _).mono ?_
  rintro e w1 ⟨rfl, hb1⟩
  have H1 := Lib.hid (H0.out.next hb1)
  clear hb1 H0
  go_wp2
  go_ret
  exact ⟨rfl, H1.out.bel⟩

theorem long (u : Nat → Sl) (f : Nat → List Int) (cl n : Int) (w : World) (d1 : decide (cl < 0) = false) (d2 : decide (2 < cl) = false) (d3 : decide (n < 0) = false) (hl : L3 w w.heap.size u f) (hc : 120 < cnt3 f) (hb : cnt3 f ≤ 1048576) :
    Calls Try.prog 6 #[(.agg #[.slice (u 0).a (u 0).n (u 0).c, .slice (u 1).a (u 1).n (u 1).c, .slice (u 2).a (u 2).n (u 2).c]), .int .i64 cl, .int .i64 n] w (Tells w true) := by
  have H0 := Lib.hid (((Has.start w).list hl).laid u)
  clear hl
  go_enter Try.func6, Try.ntmps6
  go_wp2_with fail
  refine (awake_any _).mono ?_
  rintro e w1 ⟨rfl, hb1⟩
  have H1 := Lib.hid (H0.out.next hb1)
  clear hb1 H0
  have X := H1.out.at (b := w.heap.size) (u := u) (by simp)
  have c0 := X.cell 0 (by decide)
  have c1 := X.cell 1 (by decide)
  have c2 := X.cell 2 (by decide)
  have xl := X.lt
  clear X
  go_wp2_with fail
  refine (all1 H1.out (u := u) (f := f) (by simp) (by omega)).mono ?_
  rintro e w2 ⟨s, rfl, hs, _, _, h2, _⟩
  have H2 := Lib.hid h2
  have dn : decide (120 < (s.n : Int)) = true := by simp; omega
  have hs2 : s.n ≤ 4000000 := by omega
  clear h2 H1 c0 c1 c2
  go_wp2
  go_ret
  exact ⟨rfl, H2.out.bel⟩

theorem plain_q {xs : List Int} {m : Nat} : (xs.drop (xs.length - m)).reverse.length - m = 0 := by simp; omega
theorem plain_d {xs : List Int} {m : Nat} : xs.take (xs.length - m) ++ ((xs.drop (xs.length - m)).reverse.drop ((xs.drop (xs.length - m)).reverse.length - m)).reverse = xs := by
  rw [plain_q, List.drop_zero, List.reverse_reverse, List.take_append_drop]
/-- Both moves' lists. -/
structure Twice (f : Nat → List Int) (k m : Nat) (P Q C D : Nat → List Int) : Prop where
  lp : (P k).length = (f k).length - m
  lq : (Q k).length + ((f k).length - m) = (f k).length
  cp : cnt3 P ≤ 120
  cq : cnt3 Q ≤ 120
  cc : cnt3 C ≤ 120
  cd : cnt3 D ≤ 120
  c : ∀ j, j < 3 → C j = noLists j
  d : ∀ j, j < 3 → D j = f j
theorem twice (f : Nat → List Int) (k m : Nat) (hk : k < 3) (hc : cnt3 f ≤ 120) :
    let P := upd f k ((f k).take ((f k).length - m))
    let Q := upd noLists k (noLists k ++ ((f k).drop ((f k).length - m)).reverse)
    Twice f k m P Q (upd Q k ((Q k).take ((Q k).length - m))) (upd P k (P k ++ ((Q k).drop ((Q k).length - m)).reverse)) := by
  intro P Q
  have eP : P k = (f k).take ((f k).length - m) := upd_same _ _ _
  have eQ : Q k = ((f k).drop ((f k).length - m)).reverse := by
    show upd noLists k _ k = _
    rw [upd_same]
    rfl
  have hD : ∀ j, j < 3 → upd P k (P k ++ ((Q k).drop ((Q k).length - m)).reverse) j = f j := fun j hj => by
    by_cases e : j = k
    · subst e
      rw [upd_same, eP, eQ]
      exact plain_d
    · rw [upd_other _ _ e]
      exact upd_other _ _ e
  have hC : ∀ j, j < 3 → upd Q k ((Q k).take ((Q k).length - m)) j = noLists j := fun j hj => by
    by_cases e : j = k
    · subst e
      rw [upd_same, eQ, plain_q]
      rfl
    · rw [upd_other _ _ e]
      exact upd_other _ _ e
  have c1 := cnt_upd f k hk ((f k).take ((f k).length - m))
  have c2 := cnt_upd noLists k hk (noLists k ++ ((f k).drop ((f k).length - m)).reverse)
  have c3 := cnt_ge f k hk
  have n0 : (noLists k).length = 0 := rfl
  have n3 : cnt3 noLists = 0 := rfl
  simp only [List.length_take, List.length_append, List.length_reverse, List.length_drop] at c1 c2
  refine ⟨by rw [eP]; simp, by rw [eQ]; simp, by show cnt3 (upd f k _) ≤ 120; omega, by show cnt3 (upd noLists k _) ≤ 120; omega, ?_, ?_, hC, hD⟩
  · unfold cnt3
    rw [hC 0 (by decide), hC 1 (by decide), hC 2 (by decide)]
    exact (by decide : cnt3 noLists ≤ 120)
  · have := hc
    unfold cnt3 at this ⊢
    rwa [hD 0 (by decide), hD 1 (by decide), hD 2 (by decide)]

set_option maxHeartbeats 1000000 in
theorem main_true (u : Nat → Sl) (f : Nat → List Int) (k m : Nat) (hk : k < 3) (hm : m ≤ 9223372036854775807) (w : World) (hl : L3 w w.heap.size u f) (hc : cnt3 f ≤ 120) (d5 : decide (((u k).n : Int) < m) = true) :
    Calls Try.prog 6 #[(.agg #[.slice (u 0).a (u 0).n (u 0).c, .slice (u 1).a (u 1).n (u 1).c, .slice (u 2).a (u 2).n (u 2).c]), .int .i64 k, .int .i64 m] w (Tells w true) := by
  have H0 := Lib.hid (((Has.start w).list hl).laid u)
  have d1 : decide ((k : Int) < 0) = false := by simp
  have d2 : decide (2 < (k : Int)) = false := by simp; omega
  have d3 : decide ((m : Int) < 0) = false := by simp
  have d4 : decide ((k : Int) < 3) = true := by simp; omega
  have hun : (u k).n = (f k).length := hl.len k hk
  have hun2 : (u k).n ≤ 120 := by have := cnt_ge f k hk; omega
  have HU := Lib.hid hun
  have D5 := Lib.hid d5
  clear hl d5 hun
  go_enter Try.func6, Try.ntmps6
  go_wp2_with fail
  refine (awake_has H0.out).mono ?_
  rintro e w1 ⟨rfl, h1⟩
  have H1 := Lib.hid h1
  clear h1 H0
  have X := H1.out.at (b := w.heap.size) (u := u) (by simp)
  have c0 := X.cell 0 (by decide)
  have c1 := X.cell 1 (by decide)
  have c2 := X.cell 2 (by decide)
  have xl := X.lt
  clear X
  go_wp2_with fail
  refine (all1 H1.out (u := u) (f := f) (by simp) (by omega)).mono ?_
  rintro e w2 ⟨s, rfl, hs, _, _, h2, _⟩
  have H2 := Lib.hid h2
  have dn : decide (120 < (s.n : Int)) = false := by simp; omega
  have hs2 : s.n ≤ 4000000 := by omega
  clear h2 H1 c0 c1 c2 xl
  have X := H2.out.at (b := w.heap.size) (u := u) (by simp)
  have c0 := X.cell 0 (by decide)
  have c1 := X.cell 1 (by decide)
  have c2 := X.cell 2 (by decide)
  have xl := X.lt
  clear X
  go_wp2_with fail
  have TW := twice f k m hk hc
  obtain ⟨P, hP⟩ : ∃ P, P = upd f k ((f k).take ((f k).length - m)) := ⟨_, rfl⟩
  obtain ⟨Q, hQ⟩ : ∃ Q, Q = upd noLists k (noLists k ++ ((f k).drop ((f k).length - m)).reverse) := ⟨_, rfl⟩
  simp only [← hP, ← hQ] at TW
  refine (move_has H2.out.zero (u := u) (v := noSl) (f := f) (g := noLists) (by simp) (by simp) k m hk hm (by omega) (by decide)).mono ?_
  rintro e w3 ⟨p, q, rfl, h3⟩
  simp only [← hP, ← hQ] at h3
  clear hP hQ H2 c0 c1 c2 xl
  have H4 := Lib.hid (h3.laid2 p q)
  clear h3
  go_wp2_with fail
  generalize (w3.alloc (.cells #[.slice (p 0).a (p 0).n (p 0).c, .slice (p 1).a (p 1).n (p 1).c, .slice (p 2).a (p 2).n (p 2).c] 24)).alloc (.cells #[.slice (q 0).a (q 0).n (q 0).c, .slice (q 1).a (q 1).n (q 1).c, .slice (q 2).a (q 2).n (q 2).c] 24) = w4 at H4 ⊢
  obtain ⟨C, hC⟩ : ∃ C, C = upd Q k ((Q k).take ((Q k).length - m)) := ⟨_, rfl⟩
  obtain ⟨D, hD⟩ : ∃ D, D = upd P k (P k ++ ((Q k).drop ((Q k).length - m)).reverse) := ⟨_, rfl⟩
  simp only [← hC, ← hD] at TW
  refine (move_has H4.out (u := q) (v := p) (f := Q) (g := P) (by simp) (by simp) k m hk hm (by have := TW.cq; omega) (by have := TW.cp; omega)).mono ?_
  rintro e w5 ⟨c, d, rfl, h5⟩
  simp only [← hC, ← hD] at h5
  clear hC hD H4
  have H5 := Lib.hid h5
  have H6 := Lib.hid (h5.laid2 c d)
  have TW' := Lib.hid TW
  clear h5 TW
  have X := H5.out.at (b := w.heap.size) (u := u) (by simp)
  have c0 := X.cell 0 (by decide)
  have c1 := X.cell 1 (by decide)
  have c2 := X.cell 2 (by decide)
  have ck := X.cell k hk
  have xl := X.lt
  have d5 := D5.out
  have d5n := D5.out
  simp only [decide_eq_true_eq, decide_eq_false_iff_not, Int.ofNat_lt] at d5n
  clear X
  go_wp2_with fail
  generalize (w5.alloc (.cells #[.slice (c 0).a (c 0).n (c 0).c, .slice (c 1).a (c 1).n (c 1).c, .slice (c 2).a (c 2).n (c 2).c] 24)).alloc (.cells #[.slice (d 0).a (d 0).n (d 0).c, .slice (d 1).a (d 1).n (d 1).c, .slice (d 2).a (d 2).n (d 2).c] 24) = w6 at H6 ⊢
  refine (sameYes_has H6.out (u := d) (v := u) (f := D) (g := f) (by simp) (by simp) (by have := TW'.out.cd; omega) (by omega) TW'.out.d).mono ?_
  rintro e w7 ⟨rfl, h7⟩
  have H7 := Lib.hid h7
  clear h7 c0 c1 c2 ck xl H5 H6
  have X := H7.out.at (b := w5.heap.size) (u := c) (by simp)
  have c0 := X.cell 0 (by decide)
  have c1 := X.cell 1 (by decide)
  have c2 := X.cell 2 (by decide)
  have xl := X.lt
  clear X
  go_wp2_with fail
  refine (sameYes_has H7.out.zero (u := c) (v := noSl) (f := C) (g := noLists) (by simp) (by simp) (by have := TW'.out.cc; omega) (by decide) TW'.out.c).mono ?_
  rintro e w8 ⟨rfl, h8⟩
  have lq := (h8.of (u := q) (f := Q) (by simp)).len k hk
  have lp := (h8.of (u := p) (f := P) (by simp)).len k hk
  have e1 := TW'.out.lp
  have e2 := TW'.out.lq
  rw [← lp, ← HU.out] at e1
  rw [← lq, ← HU.out] at e2
  have XQ := h8.at (b := w3.heap.size + 1) (u := q) (by simp)
  have XP := h8.at (b := w3.heap.size) (u := p) (by simp)
  have XU := h8.at (b := w.heap.size) (u := u) (by simp)
  have cq := XQ.cell k hk
  have cp := XP.cell k hk
  have cu := XU.cell k hk
  have xq := XQ.lt
  have xp := XP.lt
  have xu := XU.lt
  have H8 := Lib.hid h8
  obtain ⟨qn, hqn⟩ : ∃ x, x = (q k).n := ⟨_, rfl⟩
  obtain ⟨pn, hpn⟩ : ∃ x, x = (p k).n := ⟨_, rfl⟩
  rw [← hqn] at cq e2
  rw [← hpn] at cp e1
  have d6 : ((qn : Int) == if true then ((u k).n : Int) else m) = true := by simp at d5 ⊢; omega
  have d7 : ((pn : Int) == IntKind.i64.wrap (if true then 0 else ((u k).n : Int) - m)) = true := by
    rw [show (if true then 0 else ((u k).n : Int) - m) = (pn : Int) by simp at d5 ⊢; omega, beq_iff_eq]
    have hb : pn ≤ 120 := by omega
    simp [IntKind.wrap, IntKind.signed, IntKind.bits]
    omega
  simp only [if_true, if_false, Bool.false_eq_true] at d6 d7
  clear h8 XQ XP XU lq lp e1 e2 hqn hpn c0 c1 c2 xl H7 d5 d5n
  clear d4
  have i0 : (0 : Int) ≤ k := by omega
  have i3 : (k : Int) < 3 := by omega
  go_wp2
  go_quiet (fail)
  go_wp2
  go_ret
  exact ⟨rfl, (H8.out.drewN _).bel⟩
set_option maxHeartbeats 1000000 in
theorem main_false (u : Nat → Sl) (f : Nat → List Int) (k m : Nat) (hk : k < 3) (hm : m ≤ 9223372036854775807) (w : World) (hl : L3 w w.heap.size u f) (hc : cnt3 f ≤ 120) (d5 : decide (((u k).n : Int) < m) = false) :
    Calls Try.prog 6 #[(.agg #[.slice (u 0).a (u 0).n (u 0).c, .slice (u 1).a (u 1).n (u 1).c, .slice (u 2).a (u 2).n (u 2).c]), .int .i64 k, .int .i64 m] w (Tells w true) := by
  have H0 := Lib.hid (((Has.start w).list hl).laid u)
  have d1 : decide ((k : Int) < 0) = false := by simp
  have d2 : decide (2 < (k : Int)) = false := by simp; omega
  have d3 : decide ((m : Int) < 0) = false := by simp
  have d4 : decide ((k : Int) < 3) = true := by simp; omega
  have hun : (u k).n = (f k).length := hl.len k hk
  have hun2 : (u k).n ≤ 120 := by have := cnt_ge f k hk; omega
  have HU := Lib.hid hun
  have D5 := Lib.hid d5
  clear hl d5 hun
  go_enter Try.func6, Try.ntmps6
  go_wp2_with fail
  refine (awake_has H0.out).mono ?_
  rintro e w1 ⟨rfl, h1⟩
  have H1 := Lib.hid h1
  clear h1 H0
  have X := H1.out.at (b := w.heap.size) (u := u) (by simp)
  have c0 := X.cell 0 (by decide)
  have c1 := X.cell 1 (by decide)
  have c2 := X.cell 2 (by decide)
  have xl := X.lt
  clear X
  go_wp2_with fail
  refine (all1 H1.out (u := u) (f := f) (by simp) (by omega)).mono ?_
  rintro e w2 ⟨s, rfl, hs, _, _, h2, _⟩
  have H2 := Lib.hid h2
  have dn : decide (120 < (s.n : Int)) = false := by simp; omega
  have hs2 : s.n ≤ 4000000 := by omega
  clear h2 H1 c0 c1 c2 xl
  have X := H2.out.at (b := w.heap.size) (u := u) (by simp)
  have c0 := X.cell 0 (by decide)
  have c1 := X.cell 1 (by decide)
  have c2 := X.cell 2 (by decide)
  have xl := X.lt
  clear X
  go_wp2_with fail
  have TW := twice f k m hk hc
  obtain ⟨P, hP⟩ : ∃ P, P = upd f k ((f k).take ((f k).length - m)) := ⟨_, rfl⟩
  obtain ⟨Q, hQ⟩ : ∃ Q, Q = upd noLists k (noLists k ++ ((f k).drop ((f k).length - m)).reverse) := ⟨_, rfl⟩
  simp only [← hP, ← hQ] at TW
  refine (move_has H2.out.zero (u := u) (v := noSl) (f := f) (g := noLists) (by simp) (by simp) k m hk hm (by omega) (by decide)).mono ?_
  rintro e w3 ⟨p, q, rfl, h3⟩
  simp only [← hP, ← hQ] at h3
  clear hP hQ H2 c0 c1 c2 xl
  have H4 := Lib.hid (h3.laid2 p q)
  clear h3
  go_wp2_with fail
  generalize (w3.alloc (.cells #[.slice (p 0).a (p 0).n (p 0).c, .slice (p 1).a (p 1).n (p 1).c, .slice (p 2).a (p 2).n (p 2).c] 24)).alloc (.cells #[.slice (q 0).a (q 0).n (q 0).c, .slice (q 1).a (q 1).n (q 1).c, .slice (q 2).a (q 2).n (q 2).c] 24) = w4 at H4 ⊢
  obtain ⟨C, hC⟩ : ∃ C, C = upd Q k ((Q k).take ((Q k).length - m)) := ⟨_, rfl⟩
  obtain ⟨D, hD⟩ : ∃ D, D = upd P k (P k ++ ((Q k).drop ((Q k).length - m)).reverse) := ⟨_, rfl⟩
  simp only [← hC, ← hD] at TW
  refine (move_has H4.out (u := q) (v := p) (f := Q) (g := P) (by simp) (by simp) k m hk hm (by have := TW.cq; omega) (by have := TW.cp; omega)).mono ?_
  rintro e w5 ⟨c, d, rfl, h5⟩
  simp only [← hC, ← hD] at h5
  clear hC hD H4
  have H5 := Lib.hid h5
  have H6 := Lib.hid (h5.laid2 c d)
  have TW' := Lib.hid TW
  clear h5 TW
  have X := H5.out.at (b := w.heap.size) (u := u) (by simp)
  have c0 := X.cell 0 (by decide)
  have c1 := X.cell 1 (by decide)
  have c2 := X.cell 2 (by decide)
  have ck := X.cell k hk
  have xl := X.lt
  have d5 := D5.out
  have d5n := D5.out
  simp only [decide_eq_true_eq, decide_eq_false_iff_not, Int.ofNat_lt] at d5n
  clear X
  go_wp2_with fail
  generalize (w5.alloc (.cells #[.slice (c 0).a (c 0).n (c 0).c, .slice (c 1).a (c 1).n (c 1).c, .slice (c 2).a (c 2).n (c 2).c] 24)).alloc (.cells #[.slice (d 0).a (d 0).n (d 0).c, .slice (d 1).a (d 1).n (d 1).c, .slice (d 2).a (d 2).n (d 2).c] 24) = w6 at H6 ⊢
  refine (sameYes_has H6.out (u := d) (v := u) (f := D) (g := f) (by simp) (by simp) (by have := TW'.out.cd; omega) (by omega) TW'.out.d).mono ?_
  rintro e w7 ⟨rfl, h7⟩
  have H7 := Lib.hid h7
  clear h7 c0 c1 c2 ck xl H5 H6
  have X := H7.out.at (b := w5.heap.size) (u := c) (by simp)
  have c0 := X.cell 0 (by decide)
  have c1 := X.cell 1 (by decide)
  have c2 := X.cell 2 (by decide)
  have xl := X.lt
  clear X
  go_wp2_with fail
  refine (sameYes_has H7.out.zero (u := c) (v := noSl) (f := C) (g := noLists) (by simp) (by simp) (by have := TW'.out.cc; omega) (by decide) TW'.out.c).mono ?_
  rintro e w8 ⟨rfl, h8⟩
  have lq := (h8.of (u := q) (f := Q) (by simp)).len k hk
  have lp := (h8.of (u := p) (f := P) (by simp)).len k hk
  have e1 := TW'.out.lp
  have e2 := TW'.out.lq
  rw [← lp, ← HU.out] at e1
  rw [← lq, ← HU.out] at e2
  have XQ := h8.at (b := w3.heap.size + 1) (u := q) (by simp)
  have XP := h8.at (b := w3.heap.size) (u := p) (by simp)
  have XU := h8.at (b := w.heap.size) (u := u) (by simp)
  have cq := XQ.cell k hk
  have cp := XP.cell k hk
  have cu := XU.cell k hk
  have xq := XQ.lt
  have xp := XP.lt
  have xu := XU.lt
  have H8 := Lib.hid h8
  obtain ⟨qn, hqn⟩ : ∃ x, x = (q k).n := ⟨_, rfl⟩
  obtain ⟨pn, hpn⟩ : ∃ x, x = (p k).n := ⟨_, rfl⟩
  rw [← hqn] at cq e2
  rw [← hpn] at cp e1
  have d6 : ((qn : Int) == if false then ((u k).n : Int) else m) = true := by simp at d5 ⊢; omega
  have d7 : ((pn : Int) == IntKind.i64.wrap (if false then 0 else ((u k).n : Int) - m)) = true := by
    rw [show (if false then 0 else ((u k).n : Int) - m) = (pn : Int) by simp at d5 ⊢; omega, beq_iff_eq]
    have hb : pn ≤ 120 := by omega
    simp [IntKind.wrap, IntKind.signed, IntKind.bits]
    omega
  simp only [if_true, if_false, Bool.false_eq_true] at d6 d7
  clear h8 XQ XP XU lq lp e1 e2 hqn hpn c0 c1 c2 xl H7 d5 d5n
  clear d4
  have i0 : (0 : Int) ≤ k := by omega
  have i3 : (k : Int) < 3 := by omega
  go_wp2
  go_quiet (fail)
  go_wp2
  go_ret
  exact ⟨rfl, (H8.out.drewN _).bel⟩
theorem walk (u : Nat → Sl) (f : Nat → List Int) (cl n : Int) (w : World) (hl : L3 w w.heap.size u f) (_ : (Lit.int .i64 cl).wf = true) (hw : (Lit.int .i64 n).wf = true) (hb : (u 0).n + (u 1).n + (u 2).n ≤ 1048576) :
    Calls Try.prog 6 #[(.agg #[.slice (u 0).a (u 0).n (u 0).c, .slice (u 1).a (u 1).n (u 1).c, .slice (u 2).a (u 2).n (u 2).c]), .int .i64 cl, .int .i64 n] w (Tells w true) := by
  have hx : n ≤ 9223372036854775807 := by simp [Lit.wf, IntKind.min, IntKind.max, IntKind.signed, IntKind.bits] at hw; omega
  have hcb := cnt_bulk hl
  by_cases h1 : cl < 0 ∨ 2 < cl ∨ n < 0
  · exact bad u cl n w h1
  by_cases h2 : 120 < cnt3 f
  · exact long u f cl n w (by simp; omega) (by simp; omega) (by simp; omega) hl h2 (by omega)
  obtain ⟨k, rfl⟩ := Int.eq_ofNat_of_zero_le (show 0 ≤ cl by omega)
  obtain ⟨m, rfl⟩ := Int.eq_ofNat_of_zero_le (show 0 ≤ n by omega)
  by_cases h3 : (u k).n < m
  · exact main_true u f k m (by omega) (by omega) w hl (by omega) (by simp; omega)
  · exact main_false u f k m (by omega) (by omega) w hl (by omega) (by simp; omega)
-- the frame (lsframe.py)
set_option maxRecDepth 100000 in
theorem lifted (os : Os) (started : os.Started) (H : Type) (enc : TypeId × Value → H) (F : Stop.Interp) :
    ReturnsInHanded {} Try.checked os 6 .any ((Rows.OpenSpec.upto Rows.listsMovedSpec).pre6 enc Try.prog Try.f6 Rows.listsMovedUptoRow.domain false) (((Rows.OpenSpec.upto Rows.listsMovedSpec).at F).post enc Try.prog Try.f6 false true false false) := by
  refine returnsInHanded_of_cond (C := Try.checked) (s := Rows.OpenSpec.upto Rows.listsMovedSpec) (k := Rows.uptoSmall) rfl own started (by kernel_rfl) Try.func6
    (OpenSpec.witness (enc := enc) (C := Try.checked) (s := Rows.OpenSpec.upto Rows.listsMovedSpec) (k := Rows.uptoSmall) rfl false ⟨#[], #[.agg #[.slice none 0 0, .slice none 0 0, .slice none 0 0], .int .i64 0, .int .i64 0], []⟩ 8 (by kernel_rfl) (by kernel_rfl) (by kernel_rfl)
      (x := ([.agg [.nil, .nil, .nil], .lit (.int .i64 0), .lit (.int .i64 0)], [], [])) (by kernel_rfl) rfl (by kernel_rfl)) ?_
  intro W base args ds gs before hval0 hW _ hk _
  have hval : ∀ (j : Nat) t v, Try.f6.params[j]? = some t → args[j]? = some v → Value.okWide Try.prog W .any base t v := hval0
  have hW' := hW
  obtain ⟨p, q, hA0, hV, rfl, hfz, hnd⟩ := hW
  have hA : DataW.TrodAll enc Try.prog W 0 (fun _ => true) true Try.f6.params.toList args.toList ds p := hA0
  rw [Try.params6] at hA hval
  obtain ⟨v0, vs0, d0, ds0, p0, q0, hargs, rfl, rfl, h0, r0⟩ := trodAll_cons hA
  obtain ⟨v1, vs1, d1, ds1, p1, q1, rfl, rfl, rfl, h1, r1⟩ := trodAll_cons r0
  obtain ⟨v2, vs2, d2, ds2, p2, q2, rfl, rfl, rfl, h2, r2⟩ := trodAll_cons r1
  obtain ⟨rfl, rfl, rfl⟩ := trodAll_nil r2
  obtain rfl : args = #[v0, v1, v2] := by cases args; simp_all
  obtain ⟨rfl, rfl⟩ := trodVars_none hV
  have k0 := h0
  have lt0 : ∀ x ∈ p0, x.block < W.heap.size := by obtain ⟨m, hm⟩ := k0; exact DataW.trod_lt m _ _ _ hm
  obtain ⟨u0, z0, rfl, w0, b0⟩ := lists_of (hval 0 24 v0 rfl rfl) h0
  obtain ⟨a1, rfl, rfl, rfl, w1⟩ := open_int Try.underlying3 (hval 1 3 v1 rfl rfl) h1
  obtain ⟨a2, rfl, rfl, rfl, w2⟩ := open_int Try.underlying3 (hval 2 3 v2 rfl rfl) h2
  have hb : (u0 0).n + (u0 1).n + (u0 2).n ≤ 1048576 := by
    have h := of_decide_eq_true hk
    simp only [Rows.uptoBulkAll, List.cons_append, List.nil_append, List.append_nil] at h
    omega
  clear hA0 hval0
  refine (walk u0 z0 a1 a2 W w0 w1 w2 hb).mono fun e W' ⟨he, bel⟩ => ?_
  subst he
  exact ⟨_, rfl, _, _, _, [], _, [], hW', trodAll_mk1 (shut_bool Try.underlying4 _), (trodAll_cons_mk (Below.trod laidOut (by kernel_rfl) (of_decide_eq_true (by kernel_rfl)) k0 bel lt0) (trodAll_cons_mk (shut_int Try.underlying3 w1) (trodAll_cons_mk (shut_int Try.underlying3 w2) trodAll_mk0))), rfl, bel.frame _, fun h => by cases h⟩

theorem over : Rows.listsMovedUptoRow.holds Try.pinned (Rows.OpenSpec.upto Rows.listsMovedSpec) :=
  OpenClaim.holds_of_cond 6 Try.f6 rfl rfl rfl rfl rfl rfl rfl ⟨rfl, rfl, rfl, rfl, rfl⟩ rfl rfl rfl rfl rfl (by kernel_rfl) Try.func6 (by kernel_rfl)
    (of_decide_eq_true (by kernel_rfl)) (by unfold Func.isWrapper; first | (rw [if_pos (by decide +kernel)]; kernel_rfl) | (rw [if_neg (by decide +kernel)]; exact ⟨rfl, rfl⟩))
    (fun os started H enc _ F => lifted os started H enc F)

/-- The statement. -/
theorem proved : Rows.ListsMovedUptoSaid :=
  over
#print axioms proved
end Go.Proofs.Ytegggfghocicaaa.ListsMoved
