/-
  What a law's walk has at hand: the boxes that it laid, the lists that it came by; what stands, stands when others are called.
-/
import Derived.Test.YtegggfghocicaaaLsIns
namespace Go.Proofs.Ytegggfghocicaaa
open Go.RowKit

structure Has (w W : World) (bs : List (Nat × (Nat → Sl))) (ls : List ((Nat → Sl) × (Nat → List Int))) (rs : List (Sl × List Int)) : Prop where
  bel : Below w.heap.size w W
  box : ∀ p, p ∈ bs → Box3 W p.1 p.2
  lst : ∀ p, p ∈ ls → L3 W W.heap.size p.1 p.2
  row : ∀ p, p ∈ rs → Row W W.heap.size p.1.a p.1.n p.2
section
variable {w W W' : World} {bs : List (Nat × (Nat → Sl))} {ls : List ((Nat → Sl) × (Nat → List Int))} {rs : List (Sl × List Int)}
theorem Has.next (h : Has w W bs ls rs) (hb : Below W.heap.size W W') : Has w W' bs ls rs :=
  ⟨h.bel.trans (hb.mono h.bel.size), fun p hp => (h.box p hp).next hb, fun p hp => (h.lst p hp).next hb, fun p hp => ((h.row p hp).below hb).more hb.size⟩
theorem Has.start (w : World) : Has w w [] [] [] := ⟨Below.refl _ _, fun p hp => (by cases hp), fun p hp => (by cases hp), fun p hp => (by cases hp)⟩
theorem Has.alloc (h : Has w W bs ls rs) (o : Obj) : Has w (W.alloc o) bs ls rs := h.next ((Below.refl _ _).alloc (Nat.le_refl _) o)
theorem Has.laid (h : Has w W bs ls rs) (u : Nat → Sl) : Has w (W.alloc (.cells #[.slice (u 0).a (u 0).n (u 0).c, .slice (u 1).a (u 1).n (u 1).c, .slice (u 2).a (u 2).n (u 2).c] 24)) ((W.heap.size, u) :: bs) ls rs := by
  have := h.alloc (.cells #[.slice (u 0).a (u 0).n (u 0).c, .slice (u 1).a (u 1).n (u 1).c, .slice (u 2).a (u 2).n (u 2).c] 24)
  refine ⟨this.bel, fun p hp => ?_, this.lst, this.row⟩
  cases hp with
  | head => exact Box3.new W u 24
  | tail _ hp => exact this.box p hp
theorem Has.list (h : Has w W bs ls rs) {u : Nat → Sl} {f : Nat → List Int} (hl : L3 W W.heap.size u f) : Has w W bs ((u, f) :: ls) rs :=
  ⟨h.bel, h.box, fun p hp => (by cases hp with
    | head => exact hl
    | tail _ hp => exact h.lst p hp), h.row⟩
theorem Has.rowOf (h : Has w W bs ls rs) {s : Sl} {xs : List Int} (hl : Row W W.heap.size s.a s.n xs) : Has w W bs ls ((s, xs) :: rs) :=
  ⟨h.bel, h.box, h.lst, fun p hp => (by cases hp with
    | head => exact hl
    | tail _ hp => exact h.row p hp)⟩
theorem Has.drewN (h : Has w W bs ls rs) (d : Nat) : Has w (W.drewN d) bs ls rs := h.next (below_drewN (Below.refl _ _) _)
theorem Has.at (h : Has w W bs ls rs) {b : Nat} {u : Nat → Sl} (hm : (b, u) ∈ bs) : Box3 W b u := h.box (b, u) hm
theorem Has.of (h : Has w W bs ls rs) {u : Nat → Sl} {f : Nat → List Int} (hm : (u, f) ∈ ls) : L3 W W.heap.size u f := h.lst (u, f) hm
theorem Has.rw_ (h : Has w W bs ls rs) {s : Sl} {xs : List Int} (hm : (s, xs) ∈ rs) : Row W W.heap.size s.a s.n xs := h.row (s, xs) hm
end
/-- Two values of lists, in a slice of such. -/
theorem two_lrow {w : World} {B : Nat} {u v : Nat → Sl} {f g : Nat → List Int} (h : L3 w B u f) (h' : L3 w B v g) (hB : B ≤ w.heap.size) (t : TypeId) :
    LRow (w.alloc (.cells #[.slice (u 0).a (u 0).n (u 0).c, .slice (u 1).a (u 1).n (u 1).c, .slice (u 2).a (u 2).n (u 2).c, .slice (v 0).a (v 0).n (v 0).c, .slice (v 1).a (v 1).n (v 1).c, .slice (v 2).a (v 2).n (v 2).c] t)) (w.heap.size + 1) (some ⟨w.heap.size, 0, none⟩) 2
      (fun | 0 => u | _ => v) (fun | 0 => f | _ => g) := by
  refine fun _ => ⟨w.heap.size, 0, rfl, by omega, fun k hk => ?_⟩
  match k, hk with
  | 0, _ =>
    exact ⟨fun j hj => (by
      match j, hj with
      | 0, _ => simp [go_sem]
      | 1, _ => simp [go_sem]
      | 2, _ => simp [go_sem]), (h.below ((Below.refl _ _).alloc hB _)).more (by omega)⟩
  | 1, _ =>
    exact ⟨fun j hj => (by
      match j, hj with
      | 0, _ => simp [go_sem]
      | 1, _ => simp [go_sem]
      | 2, _ => simp [go_sem]), (h'.below ((Below.refl _ _).alloc hB _)).more (by omega)⟩
/-- How many there are in all. -/
def cnt3 (f : Nat → List Int) : Nat := (f 0).length + (f 1).length + (f 2).length
theorem upTo3 (f : Nat → List Int) : upTo f 3 = f 0 ++ f 1 ++ f 2 := by simp [upTo, List.range_succ]
theorem all_one (f : Nat → List Int) : allOf (fun _ => f) 1 = upTo f 3 := by simp [allOf]
theorem all_two (f g : Nat → List Int) : allOf (fun | 0 => f | _ => g) 2 = upTo f 3 ++ upTo g 3 := by simp [allOf, List.range_succ]
theorem cnt_one (f : Nat → List Int) : (allOf (fun _ => f) 1).length = cnt3 f := by rw [all_one, upTo3]; simp [cnt3]; omega
theorem cnt_two (f g : Nat → List Int) : (allOf (fun | 0 => f | _ => g) 2).length = cnt3 f + cnt3 g := by rw [all_two, upTo3, upTo3]; simp [cnt3]; omega
theorem cnt_ge (f : Nat → List Int) (j : Nat) (hj : j < 3) : (f j).length ≤ cnt3 f := by
  unfold cnt3
  match j, hj with
  | 0, _ => omega
  | 1, _ => omega
  | 2, _ => omega
theorem cnt_bulk {w : World} {B : Nat} {u : Nat → Sl} {f : Nat → List Int} (h : L3 w B u f) : cnt3 f = (u 0).n + (u 1).n + (u 2).n := by
  unfold cnt3
  rw [h.len 0 (by decide), h.len 1 (by decide), h.len 2 (by decide)]
/-- All of one value of lists, which the walk put in a slice. -/
theorem all1 {w W : World} {bs : List (Nat × (Nat → Sl))} {ls : List ((Nat → Sl) × (Nat → List Int))} {rs : List (Sl × List Int)} (h : Has w W bs ls rs) {u : Nat → Sl} {f : Nat → List Int} (hm : (u, f) ∈ ls) (hn : cnt3 f ≤ 2000000) :
    Calls Try.prog 21 #[.slice (some ⟨W.heap.size, 0, none⟩) 1 1] (W.alloc (.cells #[.slice (u 0).a (u 0).n (u 0).c, .slice (u 1).a (u 1).n (u 1).c, .slice (u 2).a (u 2).n (u 2).c] 24)) fun e w' => ∃ s : Sl, e = .returned (.slice s.a s.n s.c) ∧ s.n = cnt3 f ∧ Row w' w'.heap.size s.a s.n (upTo f 3) ∧ w'.ownsRow W.heap.size 3 1 (.slice s.a s.n s.c) s.n ((upTo f 3).map (Value.int .i64)) ∧ Has w w' bs ls rs ∧ Below W.heap.size W w' := by
  refine (all_any _ _ 1 1 _ _ _ (one_lrow (h.of hm) (Nat.le_refl _) 24) (by simp) (by decide) (by rw [cnt_one]; exact hn)).mono ?_
  rintro e w' ⟨s, rfl, ho, hb⟩
  have hl : s.n = cnt3 f := by rw [← cnt_one f]; simpa using ho.1.symm
  rw [all_one] at ho
  obtain ⟨a1, c1, e1, r1, _, _⟩ := owns_row ho
  simp only [Value.slice.injEq, true_and] at e1
  obtain ⟨rfl, rfl⟩ := e1
  have hb' : Below W.heap.size W w' := ((Below.refl _ _).alloc (Nat.le_refl _) _).trans (hb.mono (by simp))
  exact ⟨s, rfl, hl, r1, ⟨ho.1, ho.2.imp id (fun ⟨g, cap, cur, e, hg, r⟩ => ⟨g, cap, cur, e, Nat.le_trans (by simp) hg, r⟩)⟩, h.next hb', hb'⟩
theorem all2 {w W : World} {bs : List (Nat × (Nat → Sl))} {ls : List ((Nat → Sl) × (Nat → List Int))} {rs : List (Sl × List Int)} (h : Has w W bs ls rs) {u v : Nat → Sl} {f g : Nat → List Int} (hm : (u, f) ∈ ls) (hm' : (v, g) ∈ ls) (hn : cnt3 f + cnt3 g ≤ 2000000) :
    Calls Try.prog 21 #[.slice (some ⟨W.heap.size, 0, none⟩) 2 2] (W.alloc (.cells #[.slice (u 0).a (u 0).n (u 0).c, .slice (u 1).a (u 1).n (u 1).c, .slice (u 2).a (u 2).n (u 2).c, .slice (v 0).a (v 0).n (v 0).c, .slice (v 1).a (v 1).n (v 1).c, .slice (v 2).a (v 2).n (v 2).c] 24))
      fun e w' => ∃ s : Sl, e = .returned (.slice s.a s.n s.c) ∧ s.n = cnt3 f + cnt3 g ∧ Row w' w'.heap.size s.a s.n (upTo f 3 ++ upTo g 3) ∧ Has w w' bs ls rs ∧ Below W.heap.size W w' := by
  refine (all_any _ _ 2 2 _ _ _ (two_lrow (h.of hm) (h.of hm') (Nat.le_refl _) 24) (by simp) (by decide) (by rw [cnt_two]; exact hn)).mono ?_
  rintro e w' ⟨s, rfl, ho, hb⟩
  have hl : s.n = cnt3 f + cnt3 g := by rw [← cnt_two f g]; simpa using ho.1.symm
  rw [all_two] at ho
  obtain ⟨a1, c1, e1, r1, _, _⟩ := owns_row ho
  simp only [Value.slice.injEq, true_and] at e1
  obtain ⟨rfl, rfl⟩ := e1
  have hb' : Below W.heap.size W w' := ((Below.refl _ _).alloc (Nat.le_refl _) _).trans (hb.mono (by simp))
  exact ⟨s, rfl, hl, r1, h.next hb', hb'⟩
section
variable {w W : World} {bs : List (Nat × (Nat → Sl))} {ls : List ((Nat → Sl) × (Nat → List Int))} {rs : List (Sl × List Int)} {u v : Nat → Sl} {f g : Nat → List Int}
theorem Has.laid2 (h : Has w W bs ls rs) (u v : Nat → Sl) : Has w ((W.alloc (.cells #[.slice (u 0).a (u 0).n (u 0).c, .slice (u 1).a (u 1).n (u 1).c, .slice (u 2).a (u 2).n (u 2).c] 24)).alloc (.cells #[.slice (v 0).a (v 0).n (v 0).c, .slice (v 1).a (v 1).n (v 1).c, .slice (v 2).a (v 2).n (v 2).c] 24)) ((W.heap.size + 1, v) :: (W.heap.size, u) :: bs) ls rs := by
  have := (h.laid u).laid v
  rw [World.size_alloc] at this
  exact this
theorem Has.same (h : Has w W bs ls rs) : Has w W bs ls rs := h
theorem l3_len (h : L3 W W.heap.size u f) (hn : cnt3 f ≤ 2000000) : ∀ j, j < 3 → (u j).n ≤ 2000000 := fun j hj => by
  have h1 := h.len j hj
  have h2 := cnt_ge f j hj
  omega
theorem Has.zero (h : Has w W bs ls rs) : Has w W bs ((noSl, noLists) :: ls) rs := h.list (L3.none_ _ _)
theorem move_has (h : Has w W bs ls rs) (hu : (u, f) ∈ ls) (hv : (v, g) ∈ ls) (k m : Nat) (hk : k < 3) (hm : m ≤ 9223372036854775807) (hn : cnt3 f ≤ 2000000) (hn' : cnt3 g ≤ 2000000) :
    Calls Try.prog 16 #[(.agg #[.slice (u 0).a (u 0).n (u 0).c, .slice (u 1).a (u 1).n (u 1).c, .slice (u 2).a (u 2).n (u 2).c]), (.agg #[.slice (v 0).a (v 0).n (v 0).c, .slice (v 1).a (v 1).n (v 1).c, .slice (v 2).a (v 2).n (v 2).c]), .int .i64 k, .int .i64 m] W fun e W' => ∃ p q, e = .returned (.tuple #[(.agg #[.slice (p 0).a (p 0).n (p 0).c, .slice (p 1).a (p 1).n (p 1).c, .slice (p 2).a (p 2).n (p 2).c]), (.agg #[.slice (q 0).a (q 0).n (q 0).c, .slice (q 1).a (q 1).n (q 1).c, .slice (q 2).a (q 2).n (q 2).c]), .int .i64 0]) ∧
      Has w W' bs ((p, upd f k ((f k).take ((f k).length - m))) :: (q, upd g k (g k ++ ((f k).drop ((f k).length - m)).reverse)) :: ls) rs := by
  refine (move_ok W.heap.size u v f g k m hk W (h.of hu) (h.of hv) (Nat.le_refl _) (l3_len (h.of hu) hn) (l3_len (h.of hv) hn') hm).mono ?_
  rintro e W' ⟨p, q, rfl, hp, hq, hb⟩
  exact ⟨p, q, rfl, ((h.next hb).list hq).list hp⟩
theorem pop_has (h : Has w W bs ls rs) (hu : (u, f) ∈ ls) (k : Nat) (hk : k < 3) (m : Nat) (hm : (u k).n = m + 1) (hn : cnt3 f ≤ 2000000) :
    Calls Try.prog 14 #[(.agg #[.slice (u 0).a (u 0).n (u 0).c, .slice (u 1).a (u 1).n (u 1).c, .slice (u 2).a (u 2).n (u 2).c]), .int .i64 k] W fun e W' => ∃ p, e = .returned (.tuple #[(.agg #[.slice (p 0).a (p 0).n (p 0).c, .slice (p 1).a (p 1).n (p 1).c, .slice (p 2).a (p 2).n (p 2).c]), .int .i64 ((f k).getD m 0), .int .i64 0]) ∧ Has w W' bs ((p, upd f k ((f k).take m)) :: ls) rs := by
  refine (pop_ok W.heap.size u f k hk m W (h.of hu) (Nat.le_refl _) (l3_len (h.of hu) hn) hm).mono ?_
  rintro e W' ⟨p, rfl, hp, hb⟩
  exact ⟨p, rfl, (h.next hb).list hp⟩
theorem popNone_has (h : Has w W bs ls rs) (k : Nat) (hk : k < 3) (h0 : (u k).n = 0) :
    Calls Try.prog 14 #[(.agg #[.slice (u 0).a (u 0).n (u 0).c, .slice (u 1).a (u 1).n (u 1).c, .slice (u 2).a (u 2).n (u 2).c]), .int .i64 k] W fun e W' => ∃ p, e = .returned (.tuple #[(.agg #[.slice (p 0).a (p 0).n (p 0).c, .slice (p 1).a (p 1).n (p 1).c, .slice (p 2).a (p 2).n (p 2).c]), .int .i64 0, .int .i64 3]) ∧ Has w W' bs ((p, noLists) :: ls) rs := by
  refine (pop_none u k hk W h0).mono ?_
  rintro e W' ⟨p, rfl, hp, hb⟩
  exact ⟨p, rfl, (h.next hb).list hp⟩
theorem push_has (h : Has w W bs ls rs) (hu : (u, f) ∈ ls) (k : Nat) (hk : k < 3) {A : Option Addr} {n c : Nat} {ys : List Int} (hr : Row W W.heap.size A n ys) (hn : cnt3 f ≤ 2000000) (hn' : n ≤ 2000000) :
    Calls Try.prog 11 #[(.agg #[.slice (u 0).a (u 0).n (u 0).c, .slice (u 1).a (u 1).n (u 1).c, .slice (u 2).a (u 2).n (u 2).c]), .int .i64 k, .slice A n c] W fun e W' => ∃ p, e = .returned (.tuple #[(.agg #[.slice (p 0).a (p 0).n (p 0).c, .slice (p 1).a (p 1).n (p 1).c, .slice (p 2).a (p 2).n (p 2).c]), .int .i64 0]) ∧ Has w W' bs ((p, upd f k (f k ++ ys)) :: ls) rs := by
  refine (push_ok W.heap.size u f k hk A n c ys W (h.of hu) (Nat.le_refl _) (l3_len (h.of hu) hn) hr hn').mono ?_
  rintro e W' ⟨p, rfl, hp, hb⟩
  exact ⟨p, rfl, (h.next hb).list hp⟩
theorem part_has (h : Has w W bs ls rs) (hu : (u, f) ∈ ls) (k : Nat) (hk : k < 3) (low high : Int) (hn : cnt3 f ≤ 2000000) :
    Calls Try.prog 18 #[(.agg #[.slice (u 0).a (u 0).n (u 0).c, .slice (u 1).a (u 1).n (u 1).c, .slice (u 2).a (u 2).n (u 2).c]), .int .i64 k, .int .i64 low, .int .i64 high] W fun e W' => ∃ p s, e = .returned (.tuple #[(.agg #[.slice (p 0).a (p 0).n (p 0).c, .slice (p 1).a (p 1).n (p 1).c, .slice (p 2).a (p 2).n (p 2).c]), .slice (s : Sl).a s.n s.c, .int .i64 0]) ∧
      Has w W' bs ((p, upd f k (outOf low high (f k))) :: ls) ((s, inOf low high (f k)) :: rs) := by
  refine (part_ok W.heap.size u f k hk low high W (h.of hu) (Nat.le_refl _) (l3_len (h.of hu) hn)).mono ?_
  rintro e W' ⟨p, s, rfl, hp, hs, hb⟩
  exact ⟨p, s, rfl, ((h.next hb).list hp).rowOf hs.1⟩
theorem same_has (h : Has w W bs ls rs) (hu : (u, f) ∈ ls) (hv : (v, g) ∈ ls) (hn : cnt3 f ≤ 2000000) (hn' : cnt3 g ≤ 2000000) :
    Calls Try.prog 13 #[(.agg #[.slice (u 0).a (u 0).n (u 0).c, .slice (u 1).a (u 1).n (u 1).c, .slice (u 2).a (u 2).n (u 2).c]), (.agg #[.slice (v 0).a (v 0).n (v 0).c, .slice (v 1).a (v 1).n (v 1).c, .slice (v 2).a (v 2).n (v 2).c])] W fun e W' => e = .returned (.bool (decide (sameUp f g 3))) ∧ Has w W' bs ls rs := by
  refine (same_any W.heap.size W.heap.size u v f g W (h.of hu) (Nat.le_refl _) (h.of hv) (Nat.le_refl _) (fun j hj => Nat.le_trans (l3_len (h.of hu) hn j hj) (by omega)) (fun j hj => Nat.le_trans (l3_len (h.of hv) hn' j hj) (by omega))).mono ?_
  rintro e W' ⟨rfl, hb⟩
  exact ⟨rfl, h.next hb⟩
theorem sameYes_has (h : Has w W bs ls rs) (hu : (u, f) ∈ ls) (hv : (v, g) ∈ ls) (hn : cnt3 f ≤ 2000000) (hn' : cnt3 g ≤ 2000000) (hs : ∀ j, j < 3 → f j = g j) :
    Calls Try.prog 13 #[(.agg #[.slice (u 0).a (u 0).n (u 0).c, .slice (u 1).a (u 1).n (u 1).c, .slice (u 2).a (u 2).n (u 2).c]), (.agg #[.slice (v 0).a (v 0).n (v 0).c, .slice (v 1).a (v 1).n (v 1).c, .slice (v 2).a (v 2).n (v 2).c])] W fun e W' => e = .returned (.bool true) ∧ Has w W' bs ls rs := by
  have := same_has h hu hv hn hn'
  rwa [show decide (sameUp f g 3) = true from decide_eq_true hs] at this
theorem ints_has (h : Has w W bs ls rs) {A A' : Option Addr} {n n' c c' : Nat} {xs ys : List Int} (hr : Row W W.heap.size A n xs) (hr' : Row W W.heap.size A' n' ys) (hn : n ≤ 4000000) (hn' : n' ≤ 4000000) :
    Calls Try.prog 20 #[.slice A n c, .slice A' n' c'] W fun e W' => e = .returned (.bool (decide (xs = ys))) ∧ Has w W' bs ls rs := by
  refine (ints_tell W.heap.size W.heap.size A A' n n' c c' xs ys W hn hn' hr hr').mono ?_
  rintro e W' ⟨rfl, hb⟩
  exact ⟨rfl, h.next hb⟩
theorem awake_has (h : Has w W bs ls rs) : Calls Try.prog 9 #[] W fun e W' => e = .returned (.bool true) ∧ Has w W' bs ls rs := by
  refine (awake_any W).mono ?_
  rintro e W' ⟨rfl, hb⟩
  exact ⟨rfl, h.next hb⟩
end
theorem cnt_upd (f : Nat → List Int) (k : Nat) (hk : k < 3) (xs : List Int) : cnt3 (upd f k xs) + (f k).length = cnt3 f + xs.length := by
  unfold cnt3
  match k, hk with
  | 0, _ => simp [upd]; omega
  | 1, _ => simp [upd]; omega
  | 2, _ => simp [upd]; omega
end Go.Proofs.Ytegggfghocicaaa
