/-
  Package lists' Part: lists without those numbers of a class that are from low on, below high, and these.
-/
import Derived.Test.YtegggfghocicaaaLsPop
namespace Go.Proofs.Ytegggfghocicaaa
open Go.RowKit

def PartOut (w : World) (g : Nat → List Int) (ys : List Int) (er : Int) (e : Ending) (w' : World) : Prop :=
  ∃ u s, e = .returned (.tuple #[(.agg #[.slice (u 0).a (u 0).n (u 0).c, .slice (u 1).a (u 1).n (u 1).c, .slice (u 2).a (u 2).n (u 2).c]), .slice (s : Sl).a s.n s.c, .int .i64 er]) ∧ L3 w' w'.heap.size u g ∧ (Row w' w'.heap.size s.a s.n ys ∧ s.n ≤ s.c ∧ s.c ≤ maxLen) ∧ Below w.heap.size w w'
def isIn (low high a : Int) : Bool := decide (low ≤ a ∧ a < high)
def inOf (low high : Int) (xs : List Int) : List Int := xs.filter (isIn low high)
def outOf (low high : Int) (xs : List Int) : List Int := xs.filter (fun a => !isIn low high a)

theorem take_next {xs : List Int} {k n : Nat} (hl : xs.length = n) (hk : k < n) : xs.take (k + 1) = xs.take k ++ [xs.getD k 0] := by
  rw [List.take_add_one]
  simp [List.getD, List.getElem?_eq_getElem (show k < xs.length by omega)]

/-- While a slice's numbers are parted: two slices of the walk's own, apart, in memory from base on. -/
structure Parting (V wr : World) (base : Nat) (s p : Sl) (ys zs : List Int) : Prop where
  stay : wr.ownsRow base 3 1 (.slice s.a s.n s.c) s.n (ys.map (Value.int .i64))
  part : wr.ownsRow base 3 1 (.slice p.a p.n p.c) p.n (zs.map (Value.int .i64))
  apart : ∀ x y, s.a = some x → p.a = some y → ¬ x.block = y.block
  bel : Below base V wr
section
variable {V wr w2 : World} {base : Nat} {s p t : Sl} {ys zs : List Int} {o : Obj}
theorem Parting.size (h : Parting V wr base s p ys zs) (hV : base ≤ V.heap.size) : base ≤ wr.heap.size := Nat.le_trans hV h.bel.size
theorem Parting.below_cat {v : Value} {xs : List Int} (h : Parting V wr base s p ys zs) (hV : base ≤ V.heap.size) (hc : Catted (wr.alloc o) base v t xs w2) (ho : ∀ q, v.ownBlock = some q → base ≤ q) : Below base V w2 :=
  ((h.bel.alloc (h.size hV) o).grown hc.grown (by simp; have := h.size hV; omega) ho)
theorem Parting.yes {xs : List Int} (h : Parting V wr base s p ys zs) (hV : base ≤ V.heap.size) (hc : Catted (wr.alloc o) base (.slice p.a p.n p.c) t xs w2) : Parting V w2 base s t ys xs := by
  refine ⟨World.ownsRow.same h.stay (fun g hg hlt => ?_), hc.own, fun x y hx hy => ?_, h.below_cat hV hc (fun q hq => (h.part.lt q hq).1)⟩
  · refine (hc.grown.block g (by simp; omega) ?_).trans (Below.heap_alloc wr o g hlt)
    rw [ownBlock_slice] at hg ⊢
    cases hs : s.a with
    | none => rw [hs] at hg; cases hg
    | some x =>
      rw [hs] at hg
      cases hp : p.a with
      | none => simp
      | some y =>
        have := h.apart x y hs hp
        simp at hg
        subst hg
        simpa using this
  · have hl := own_block h.stay hx
    rcases hc.lies y hy with e | e
    · rw [ownBlock_slice] at e
      cases hp : p.a with
      | none => rw [hp] at e; cases e
      | some z =>
        rw [hp] at e
        simp at e
        rw [← e]
        exact h.apart x z hx hp
    · simp at e
      omega
theorem Parting.swap (h : Parting V wr base s p ys zs) : Parting V wr base p s zs ys := ⟨h.part, h.stay, fun x y hx hy e => h.apart y x hy hx e.symm, h.bel⟩
theorem Parting.no {xs : List Int} (h : Parting V wr base s p ys zs) (hV : base ≤ V.heap.size) (hc : Catted (wr.alloc o) base (.slice s.a s.n s.c) t xs w2) : Parting V w2 base t p xs zs := (h.swap.yes hV hc).swap
end
theorem row_lit1 (w : World) (a : Int) : Row (w.alloc (.cells #[.int .i64 a] 3)) (w.heap.size + 1) (some ⟨w.heap.size, 0, none⟩) 1 [a] := by
  refine ⟨rfl, fun _ => ⟨_, _, rfl, by omega, fun i hi => ?_⟩⟩
  match i, hi with
  | 0, _ => simp [go_sem]

theorem part_bad (u : Nat → Sl) (k low high : Int) (w : World) (hk : isCl k = false) :
    Calls Try.prog 18 #[(.agg #[.slice (u 0).a (u 0).n (u 0).c, .slice (u 1).a (u 1).n (u 1).c, .slice (u 2).a (u 2).n (u 2).c]), .int .i64 k, .int .i64 low, .int .i64 high] w (PartOut w noLists [] 1) := by
  have HK := Lib.hid hk
  clear hk
  go_enter Try.func18, Try.ntmps18
  go_wp2_with (go_at_call 26; refine (class_no _ _ HK.out).mono ?_; rintro e w' ⟨rfl, rfl⟩)
  refine bodyPost_ret (v := .tuple #[(.agg #[.slice (noSl 0).a (noSl 0).n (noSl 0).c, .slice (noSl 1).a (noSl 1).n (noSl 1).c, .slice (noSl 2).a (noSl 2).n (noSl 2).c]), .slice none 0 0, .int .i64 1]) ?_ rfl ?_
  rotate_left
  · exact ⟨noSl, ⟨none, 0, 0⟩, rfl, L3.none_ _ _, ⟨Row.none_ _ _, Nat.le_refl _, by show (0 : Nat) ≤ maxLen; unfold maxLen; omega⟩, two_below _ _ _⟩
  simp [results, Try.results18, go_sem, noSl]

/-- What stands at the head of Part's loop, k numbers on. -/
def PartAt (w1 wr : World) (v : Nat → Sl) (xs : List Int) (low high : Int) (k : Nat) (s p : Sl) : Prop :=
  Parting (w1.alloc (.cells #[.slice (v 0).a (v 0).n (v 0).c, .slice (v 1).a (v 1).n (v 1).c, .slice (v 2).a (v 2).n (v 2).c] 24)) wr (w1.heap.size + 1) s p (outOf low high (xs.take k)) (inOf low high (xs.take k))
section
variable {w w1 wr : World} {v : Nat → Sl} {f : Nat → List Int} {xs : List Int} {low high a : Int} {k n : Nat} {s p : Sl}
theorem PartAt.start : PartAt w1 (w1.alloc (.cells #[.slice (v 0).a (v 0).n (v 0).c, .slice (v 1).a (v 1).n (v 1).c, .slice (v 2).a (v 2).n (v 2).c] 24)) v xs low high 0 ⟨none, 0, 0⟩ ⟨none, 0, 0⟩ :=
  ⟨World.ownsRow_nil _ _ _ _, World.ownsRow_nil _ _ _ _, fun x y hx => by simp at hx, Below.refl _ _⟩
theorem PartAt.lens (h : PartAt w1 wr v xs low high k s p) : s.n ≤ k ∧ p.n ≤ k := by
  have h1 : (outOf low high (xs.take k)).length = s.n := by have := h.stay.1; simpa using this
  have h2 : (inOf low high (xs.take k)).length = p.n := by have := h.part.1; simpa using this
  have h3 := List.length_filter_le (fun a => !isIn low high a) (xs.take k)
  have h4 := List.length_filter_le (isIn low high) (xs.take k)
  have h5 : (xs.take k).length ≤ k := by simp; omega
  unfold outOf at h1
  unfold inOf at h2
  omega
theorem PartAt.yes {w2 : World} {t : Sl} {o : Obj} (h : PartAt w1 wr v xs low high k s p) (hl : xs.length = n) (hk : k < n) (ha : a = xs.getD k 0) (hi : isIn low high a = true)
    (hc : Catted (wr.alloc o) (w1.heap.size + 1) (.slice p.a p.n p.c) t (inOf low high (xs.take k) ++ [a]) w2) : PartAt w1 w2 v xs low high (k + 1) s t := by
  have := Parting.yes h (by simp) hc
  unfold PartAt
  rw [take_next hl hk, ← ha]
  have e1 : outOf low high (xs.take k ++ [a]) = outOf low high (xs.take k) := by simp [outOf, hi]
  have e2 : inOf low high (xs.take k ++ [a]) = inOf low high (xs.take k) ++ [a] := by simp [inOf, hi]
  rw [e1, e2]
  exact this
theorem PartAt.no {w2 : World} {t : Sl} {o : Obj} (h : PartAt w1 wr v xs low high k s p) (hl : xs.length = n) (hk : k < n) (ha : a = xs.getD k 0) (hi : isIn low high a = false)
    (hc : Catted (wr.alloc o) (w1.heap.size + 1) (.slice s.a s.n s.c) t (outOf low high (xs.take k) ++ [a]) w2) : PartAt w1 w2 v xs low high (k + 1) t p := by
  have := Parting.no h (by simp) hc
  unfold PartAt
  rw [take_next hl hk, ← ha]
  have e1 : outOf low high (xs.take k ++ [a]) = outOf low high (xs.take k) ++ [a] := by simp [outOf, hi]
  have e2 : inOf low high (xs.take k ++ [a]) = inOf low high (xs.take k) := by simp [inOf, hi]
  rw [e1, e2]
  exact this
theorem PartAt.box (h : PartAt w1 wr v xs low high k s p) : Box3 wr w1.heap.size v := (Box3.new w1 v 24).below h.bel (by omega)
theorem PartAt.res (h : PartAt w1 wr v xs low high k s p) {b : Nat} {z : Nat → Sl} (X : Box3 w1 b z) : Box3 wr b z := (X.alloc _).below h.bel (by have := X.lt; omega)
theorem PartAt.row (h : PartAt w1 wr v xs low high k s p) {B m : Nat} {A : Option Addr} {ys : List Int} (hr : Row w1 B A m ys) (hB : B ≤ w1.heap.size) : Row wr B A m ys := (hr.alloc _ hB).over h.bel (by omega)
theorem PartAt.done (h : PartAt w1 wr v xs low high k s p) (ho : Own3 w1 (w.heap.size + 2) v f) (hb : Below w.heap.size w w1) (X : Box3 w1 (w.heap.size + 1) noSl) {j : Nat} (x : Value) (z : Nat → Sl) :
    (let W := put3 (wr.setCell ⟨w1.heap.size, j, none⟩ x) (w.heap.size + 1) z
     L3 W W.heap.size (upd v j s) (upd f j (outOf low high (xs.take k))) ∧ (Row W W.heap.size p.a p.n (inOf low high (xs.take k)) ∧ p.n ≤ p.c ∧ p.c ≤ maxLen) ∧ Below w.heap.size w W) := by
  intro W
  have hX := X.lt
  have hV : wr.heap.size = W.heap.size := by show _ = (put3 _ _ _).heap.size; rw [put3_size]; simp [World.setCell]
  have keep : ∀ b, ¬ b = w1.heap.size → ¬ b = w.heap.size + 1 → W.heap[b]? = wr.heap[b]? := fun b h1 h2 => (put3_other _ _ h2).trans (Below.heap_setCell _ _ _ _ h1)
  have O1 : Own3 wr (w.heap.size + 2) v f := (ho.alloc (.cells #[.slice (v 0).a (v 0).n (v 0).c, .slice (v 1).a (v 1).n (v 1).c, .slice (v 2).a (v 2).n (v 2).c] 24)).same (fun j y hj hy => h.bel.block _ (by have := (ho.block j hj hy).2; omega))
  have O2 : Own3 W (w.heap.size + 2) v f := O1.same (fun j y hj hy => keep _ (by have := (ho.block j hj hy).2; omega) (by have := (ho.block j hj hy).1; omega))
  have S2 : W.ownsRow (w1.heap.size + 1) 3 1 (.slice s.a s.n s.c) s.n ((outOf low high (xs.take k)).map (Value.int .i64)) := World.ownsRow.same h.stay (fun g hg hlt => keep g (by have := (h.stay.lt g hg).1; omega) (by have := (h.stay.lt g hg).1; omega))
  have P2 : W.ownsRow (w1.heap.size + 1) 3 1 (.slice p.a p.n p.c) p.n ((inOf low high (xs.take k)).map (Value.int .i64)) := World.ownsRow.same h.part (fun g hg hlt => keep g (by have := (h.part.lt g hg).1; omega) (by have := (h.part.lt g hg).1; omega))
  obtain ⟨a1, c1, e1, r1, l1, m1⟩ := owns_row S2
  obtain ⟨a2, c2, e2, r2, l2, m2⟩ := owns_row P2
  simp only [Value.slice.injEq, true_and] at e1 e2
  obtain ⟨rfl, rfl⟩ := e1
  obtain ⟨rfl, rfl⟩ := e2
  refine ⟨O2.l3.set j s _ r1 l1 m1, ⟨r2, l2, m2⟩, below_put3 (((hb.alloc hb.size _).trans (h.bel.mono ?_)).setCell (p := ⟨w1.heap.size, j, none⟩) hb.size _) (by omega) _⟩
  have := hb.size
  omega
end

theorem part_ok0 (B : Nat) (u : Nat → Sl) (f : Nat → List Int) (low high : Int) (w : World) (h : L3 w B u f) (hB : B ≤ w.heap.size) (hn : ∀ j, j < 3 → (u j).n ≤ 2000000) :
    Calls Try.prog 18 #[(.agg #[.slice (u 0).a (u 0).n (u 0).c, .slice (u 1).a (u 1).n (u 1).c, .slice (u 2).a (u 2).n (u 2).c]), .int .i64 0, .int .i64 low, .int .i64 high] w (PartOut w (upd f 0 (outOf low high (f 0))) (inOf low high (f 0)) 0) := by
  have HL := Lib.hid h
  have HN := Lib.hid hn
  clear h hn
  go_enter Try.func18, Try.ntmps18
  go_wp2_with (go_at_call 26; refine (class_yes _ _ (by decide) (by decide)).mono ?_; rintro e w' ⟨rfl, rfl⟩)
  have b0 := two_below w (.cells #[.slice (u 0).a (u 0).n (u 0).c, .slice (u 1).a (u 1).n (u 1).c, .slice (u 2).a (u 2).n (u 2).c] 24) (.cells #[.slice none 0 0, .slice none 0 0, .slice none 0 0] 24)
  refine (copied_any B u f _ (HL.out.over b0 hB) (by simp; omega) HN.out).mono ?_
  rintro e w1 ⟨v, rfl, ho0, hb0⟩
  obtain ⟨X1, ho, hb⟩ := two_on ho0 hb0
  have OH := Lib.hid ho
  have BH := Lib.hid hb
  have hvn : (v 0).n ≤ 2000000 := by
    have h1 := ho.l3.len 0 (by decide)
    have h2 := HL.out.len 0 (by decide)
    have h3 := HN.out 0 (by decide)
    omega
  obtain ⟨A, hA⟩ : ∃ A, (v 0).a = A := ⟨_, rfl⟩
  have hr := (ho.l3 0 (by decide)).1
  rw [hA] at hr
  have HR := Lib.hid hr
  have H1 := Lib.hid hr.1
  clear ho hb b0 ho0 hb0 hr
  go_wp2
  have HA0 := Lib.hid hA
  clear hA
  go_loopw [12, 13, 26] (fun a b i wr => ∃ (s p : Sl) (k : Nat), k ≤ (v 0).n ∧ a = .slice s.a s.n s.c ∧ b = .slice p.a p.n p.c ∧ i = .int .i64 k ∧ Hid (PartAt w1 wr v (f 0) low high k s p)) (fun _ _ i _ => (v 0).n - (intOf i).toNat)
  case atStart =>
    refine ⟨⟨none, 0, 0⟩, ⟨none, 0, 0⟩, 0, Nat.zero_le _, rfl, rfl, rfl, ?_⟩
    rw [← HA0.out]
    exact PartAt.start
  case round =>
    obtain ⟨s, p, k, hk, rfl, rfl, rfl, HP⟩ := hrel
    by_cases hlt : k < (v 0).n
    · obtain ⟨b, off, rfl, hbl, hc⟩ := (HP.out.row HR.out (Nat.le_refl _)).2 (by omega)
      have hcell := hc k hlt
      obtain ⟨a, ha⟩ : ∃ a, a = (f 0).getD k 0 := ⟨_, rfl⟩
      rw [← ha] at hcell
      have HA := Lib.hid ha
      have hlens := HP.out.lens
      have hsz : w1.heap.size + 1 ≤ wr.heap.size := by have := HP.out.bel.size; simpa using this
      clear hc ha
      cases hi : isIn low high a
      · have hno : ¬ (low ≤ a ∧ a < high) := by simpa [isIn] using hi
        have HI := Lib.hid hi
        clear hi
        by_cases h1 : low ≤ a
        · have h2 : decide (a < high) = false := by simp; omega
          clear hno
          go_wp2_with (at_builtin; refine list_cat rfl (.tmp 42) (.tmp 44) rfl rfl rfl (HP.out.stay.alloc _) (row_lit1 wr a) (by simp; omega) (by omega) ?_)
          intro p' cp' w2 hcat
          have P2 := Lib.hid (HP.out.no H1.out hlt HA.out HI.out hcat)
          clear hcat
          go_wp2
          go_roundw
          case rel => exact ⟨⟨p', s.n + 1, cp'⟩, p, k + 1, by omega, rfl, rfl, by go_num, P2⟩
          case measure => simp [intOf]; omega
        · have h2 : decide (low ≤ a) = false := by simp; omega
          clear hno h1
          go_wp2_with (at_builtin; refine list_cat rfl (.tmp 42) (.tmp 44) rfl rfl rfl (HP.out.stay.alloc _) (row_lit1 wr a) (by simp; omega) (by omega) ?_)
          intro p' cp' w2 hcat
          have P2 := Lib.hid (HP.out.no H1.out hlt HA.out HI.out hcat)
          clear hcat
          go_wp2
          go_roundw
          case rel => exact ⟨⟨p', s.n + 1, cp'⟩, p, k + 1, by omega, rfl, rfl, by go_num, P2⟩
          case measure => simp [intOf]; omega
      · obtain ⟨h1, h2⟩ : low ≤ a ∧ a < high := by simpa [isIn] using hi
        have HI := Lib.hid hi
        clear hi
        go_wp2_with (at_builtin; refine list_cat rfl (.tmp 38) (.tmp 40) rfl rfl rfl (HP.out.part.alloc _) (row_lit1 wr a) (by simp; omega) (by omega) ?_)
        intro p' cp' w2 hcat
        have P2 := Lib.hid (HP.out.yes H1.out hlt HA.out HI.out hcat)
        clear hcat
        go_wp2
        go_roundw
        case rel => exact ⟨s, ⟨p', p.n + 1, cp'⟩, k + 1, by omega, rfl, rfl, by go_num, P2⟩
        case measure => simp [intOf]; omega
    · obtain rfl : k = (v 0).n := by omega
      have Y := HP.out.box
      have X := HP.out.res X1.out
      have c0 := Y.cell 0 (by decide)
      have c1 := Y.cell 1 (by decide)
      have c2 := Y.cell 2 (by decide)
      have cf := Y.free 0
      have cl := Y.lt
      have x0 := X.cell 0 (by decide)
      have x1 := X.cell 1 (by decide)
      have x2 := X.cell 2 (by decide)
      have y0 := X.free 0
      have y1 := X.free 1
      have y2 := X.free 2
      have xl := X.lt
      have D := HP.out.done OH.out BH.out X1.out (j := 0) (.slice s.a s.n s.c) (upd v 0 s)
      rw [List.take_of_length_le (by have := H1.out; omega)] at D
      have HD := Lib.hid D
      have hne' : ¬ w1.heap.size = w.heap.size + 1 := by have := X1.out.lt; omega
      clear X Y D
      go_wp2
      refine bodyPost_ret (v := .tuple #[(.agg #[.slice (upd v 0 s 0).a (upd v 0 s 0).n (upd v 0 s 0).c, .slice (upd v 0 s 1).a (upd v 0 s 1).n (upd v 0 s 1).c, .slice (upd v 0 s 2).a (upd v 0 s 2).n (upd v 0 s 2).c]), .slice p.a p.n p.c, .int .i64 0]) ?_ rfl ?_
      rotate_left
      · exact ⟨_, p, rfl, HD.out⟩
      simp [results, Try.results18, go_sem, upd, x0, x1, x2]
theorem part_ok1 (B : Nat) (u : Nat → Sl) (f : Nat → List Int) (low high : Int) (w : World) (h : L3 w B u f) (hB : B ≤ w.heap.size) (hn : ∀ j, j < 3 → (u j).n ≤ 2000000) :
    Calls Try.prog 18 #[(.agg #[.slice (u 0).a (u 0).n (u 0).c, .slice (u 1).a (u 1).n (u 1).c, .slice (u 2).a (u 2).n (u 2).c]), .int .i64 1, .int .i64 low, .int .i64 high] w (PartOut w (upd f 1 (outOf low high (f 1))) (inOf low high (f 1)) 0) := by
  have HL := Lib.hid h
  have HN := Lib.hid hn
  clear h hn
  go_enter Try.func18, Try.ntmps18
  go_wp2_with (go_at_call 26; refine (class_yes _ _ (by decide) (by decide)).mono ?_; rintro e w' ⟨rfl, rfl⟩)
  have b0 := two_below w (.cells #[.slice (u 0).a (u 0).n (u 0).c, .slice (u 1).a (u 1).n (u 1).c, .slice (u 2).a (u 2).n (u 2).c] 24) (.cells #[.slice none 0 0, .slice none 0 0, .slice none 0 0] 24)
  refine (copied_any B u f _ (HL.out.over b0 hB) (by simp; omega) HN.out).mono ?_
  rintro e w1 ⟨v, rfl, ho0, hb0⟩
  obtain ⟨X1, ho, hb⟩ := two_on ho0 hb0
  have OH := Lib.hid ho
  have BH := Lib.hid hb
  have hvn : (v 1).n ≤ 2000000 := by
    have h1 := ho.l3.len 1 (by decide)
    have h2 := HL.out.len 1 (by decide)
    have h3 := HN.out 1 (by decide)
    omega
  obtain ⟨A, hA⟩ : ∃ A, (v 1).a = A := ⟨_, rfl⟩
  have hr := (ho.l3 1 (by decide)).1
  rw [hA] at hr
  have HR := Lib.hid hr
  have H1 := Lib.hid hr.1
  clear ho hb b0 ho0 hb0 hr
  go_wp2
  have HA0 := Lib.hid hA
  clear hA
  go_loopw [12, 13, 26] (fun a b i wr => ∃ (s p : Sl) (k : Nat), k ≤ (v 1).n ∧ a = .slice s.a s.n s.c ∧ b = .slice p.a p.n p.c ∧ i = .int .i64 k ∧ Hid (PartAt w1 wr v (f 1) low high k s p)) (fun _ _ i _ => (v 1).n - (intOf i).toNat)
  case atStart =>
    refine ⟨⟨none, 0, 0⟩, ⟨none, 0, 0⟩, 0, Nat.zero_le _, rfl, rfl, rfl, ?_⟩
    rw [← HA0.out]
    exact PartAt.start
  case round =>
    obtain ⟨s, p, k, hk, rfl, rfl, rfl, HP⟩ := hrel
    by_cases hlt : k < (v 1).n
    · obtain ⟨b, off, rfl, hbl, hc⟩ := (HP.out.row HR.out (Nat.le_refl _)).2 (by omega)
      have hcell := hc k hlt
      obtain ⟨a, ha⟩ : ∃ a, a = (f 1).getD k 0 := ⟨_, rfl⟩
      rw [← ha] at hcell
      have HA := Lib.hid ha
      have hlens := HP.out.lens
      have hsz : w1.heap.size + 1 ≤ wr.heap.size := by have := HP.out.bel.size; simpa using this
      clear hc ha
      cases hi : isIn low high a
      · have hno : ¬ (low ≤ a ∧ a < high) := by simpa [isIn] using hi
        have HI := Lib.hid hi
        clear hi
        by_cases h1 : low ≤ a
        · have h2 : decide (a < high) = false := by simp; omega
          clear hno
          go_wp2_with (at_builtin; refine list_cat rfl (.tmp 42) (.tmp 44) rfl rfl rfl (HP.out.stay.alloc _) (row_lit1 wr a) (by simp; omega) (by omega) ?_)
          intro p' cp' w2 hcat
          have P2 := Lib.hid (HP.out.no H1.out hlt HA.out HI.out hcat)
          clear hcat
          go_wp2
          go_roundw
          case rel => exact ⟨⟨p', s.n + 1, cp'⟩, p, k + 1, by omega, rfl, rfl, by go_num, P2⟩
          case measure => simp [intOf]; omega
        · have h2 : decide (low ≤ a) = false := by simp; omega
          clear hno h1
          go_wp2_with (at_builtin; refine list_cat rfl (.tmp 42) (.tmp 44) rfl rfl rfl (HP.out.stay.alloc _) (row_lit1 wr a) (by simp; omega) (by omega) ?_)
          intro p' cp' w2 hcat
          have P2 := Lib.hid (HP.out.no H1.out hlt HA.out HI.out hcat)
          clear hcat
          go_wp2
          go_roundw
          case rel => exact ⟨⟨p', s.n + 1, cp'⟩, p, k + 1, by omega, rfl, rfl, by go_num, P2⟩
          case measure => simp [intOf]; omega
      · obtain ⟨h1, h2⟩ : low ≤ a ∧ a < high := by simpa [isIn] using hi
        have HI := Lib.hid hi
        clear hi
        go_wp2_with (at_builtin; refine list_cat rfl (.tmp 38) (.tmp 40) rfl rfl rfl (HP.out.part.alloc _) (row_lit1 wr a) (by simp; omega) (by omega) ?_)
        intro p' cp' w2 hcat
        have P2 := Lib.hid (HP.out.yes H1.out hlt HA.out HI.out hcat)
        clear hcat
        go_wp2
        go_roundw
        case rel => exact ⟨s, ⟨p', p.n + 1, cp'⟩, k + 1, by omega, rfl, rfl, by go_num, P2⟩
        case measure => simp [intOf]; omega
    · obtain rfl : k = (v 1).n := by omega
      have Y := HP.out.box
      have X := HP.out.res X1.out
      have c0 := Y.cell 0 (by decide)
      have c1 := Y.cell 1 (by decide)
      have c2 := Y.cell 2 (by decide)
      have cf := Y.free 1
      have cl := Y.lt
      have x0 := X.cell 0 (by decide)
      have x1 := X.cell 1 (by decide)
      have x2 := X.cell 2 (by decide)
      have y0 := X.free 0
      have y1 := X.free 1
      have y2 := X.free 2
      have xl := X.lt
      have D := HP.out.done OH.out BH.out X1.out (j := 1) (.slice s.a s.n s.c) (upd v 1 s)
      rw [List.take_of_length_le (by have := H1.out; omega)] at D
      have HD := Lib.hid D
      have hne' : ¬ w1.heap.size = w.heap.size + 1 := by have := X1.out.lt; omega
      clear X Y D
      go_wp2
      refine bodyPost_ret (v := .tuple #[(.agg #[.slice (upd v 1 s 0).a (upd v 1 s 0).n (upd v 1 s 0).c, .slice (upd v 1 s 1).a (upd v 1 s 1).n (upd v 1 s 1).c, .slice (upd v 1 s 2).a (upd v 1 s 2).n (upd v 1 s 2).c]), .slice p.a p.n p.c, .int .i64 0]) ?_ rfl ?_
      rotate_left
      · exact ⟨_, p, rfl, HD.out⟩
      simp [results, Try.results18, go_sem, upd, x0, x1, x2]
theorem part_ok2 (B : Nat) (u : Nat → Sl) (f : Nat → List Int) (low high : Int) (w : World) (h : L3 w B u f) (hB : B ≤ w.heap.size) (hn : ∀ j, j < 3 → (u j).n ≤ 2000000) :
    Calls Try.prog 18 #[(.agg #[.slice (u 0).a (u 0).n (u 0).c, .slice (u 1).a (u 1).n (u 1).c, .slice (u 2).a (u 2).n (u 2).c]), .int .i64 2, .int .i64 low, .int .i64 high] w (PartOut w (upd f 2 (outOf low high (f 2))) (inOf low high (f 2)) 0) := by
  have HL := Lib.hid h
  have HN := Lib.hid hn
  clear h hn
  go_enter Try.func18, Try.ntmps18
  go_wp2_with (go_at_call 26; refine (class_yes _ _ (by decide) (by decide)).mono ?_; rintro e w' ⟨rfl, rfl⟩)
  have b0 := two_below w (.cells #[.slice (u 0).a (u 0).n (u 0).c, .slice (u 1).a (u 1).n (u 1).c, .slice (u 2).a (u 2).n (u 2).c] 24) (.cells #[.slice none 0 0, .slice none 0 0, .slice none 0 0] 24)
  refine (copied_any B u f _ (HL.out.over b0 hB) (by simp; omega) HN.out).mono ?_
  rintro e w1 ⟨v, rfl, ho0, hb0⟩
  obtain ⟨X1, ho, hb⟩ := two_on ho0 hb0
  have OH := Lib.hid ho
  have BH := Lib.hid hb
  have hvn : (v 2).n ≤ 2000000 := by
    have h1 := ho.l3.len 2 (by decide)
    have h2 := HL.out.len 2 (by decide)
    have h3 := HN.out 2 (by decide)
    omega
  obtain ⟨A, hA⟩ : ∃ A, (v 2).a = A := ⟨_, rfl⟩
  have hr := (ho.l3 2 (by decide)).1
  rw [hA] at hr
  have HR := Lib.hid hr
  have H1 := Lib.hid hr.1
  clear ho hb b0 ho0 hb0 hr
  go_wp2
  have HA0 := Lib.hid hA
  clear hA
  go_loopw [12, 13, 26] (fun a b i wr => ∃ (s p : Sl) (k : Nat), k ≤ (v 2).n ∧ a = .slice s.a s.n s.c ∧ b = .slice p.a p.n p.c ∧ i = .int .i64 k ∧ Hid (PartAt w1 wr v (f 2) low high k s p)) (fun _ _ i _ => (v 2).n - (intOf i).toNat)
  case atStart =>
    refine ⟨⟨none, 0, 0⟩, ⟨none, 0, 0⟩, 0, Nat.zero_le _, rfl, rfl, rfl, ?_⟩
    rw [← HA0.out]
    exact PartAt.start
  case round =>
    obtain ⟨s, p, k, hk, rfl, rfl, rfl, HP⟩ := hrel
    by_cases hlt : k < (v 2).n
    · obtain ⟨b, off, rfl, hbl, hc⟩ := (HP.out.row HR.out (Nat.le_refl _)).2 (by omega)
      have hcell := hc k hlt
      obtain ⟨a, ha⟩ : ∃ a, a = (f 2).getD k 0 := ⟨_, rfl⟩
      rw [← ha] at hcell
      have HA := Lib.hid ha
      have hlens := HP.out.lens
      have hsz : w1.heap.size + 1 ≤ wr.heap.size := by have := HP.out.bel.size; simpa using this
      clear hc ha
      cases hi : isIn low high a
      · have hno : ¬ (low ≤ a ∧ a < high) := by simpa [isIn] using hi
        have HI := Lib.hid hi
        clear hi
        by_cases h1 : low ≤ a
        · have h2 : decide (a < high) = false := by simp; omega
          clear hno
          go_wp2_with (at_builtin; refine list_cat rfl (.tmp 42) (.tmp 44) rfl rfl rfl (HP.out.stay.alloc _) (row_lit1 wr a) (by simp; omega) (by omega) ?_)
          intro p' cp' w2 hcat
          have P2 := Lib.hid (HP.out.no H1.out hlt HA.out HI.out hcat)
          clear hcat
          go_wp2
          go_roundw
          case rel => exact ⟨⟨p', s.n + 1, cp'⟩, p, k + 1, by omega, rfl, rfl, by go_num, P2⟩
          case measure => simp [intOf]; omega
        · have h2 : decide (low ≤ a) = false := by simp; omega
          clear hno h1
          go_wp2_with (at_builtin; refine list_cat rfl (.tmp 42) (.tmp 44) rfl rfl rfl (HP.out.stay.alloc _) (row_lit1 wr a) (by simp; omega) (by omega) ?_)
          intro p' cp' w2 hcat
          have P2 := Lib.hid (HP.out.no H1.out hlt HA.out HI.out hcat)
          clear hcat
          go_wp2
          go_roundw
          case rel => exact ⟨⟨p', s.n + 1, cp'⟩, p, k + 1, by omega, rfl, rfl, by go_num, P2⟩
          case measure => simp [intOf]; omega
      · obtain ⟨h1, h2⟩ : low ≤ a ∧ a < high := by simpa [isIn] using hi
        have HI := Lib.hid hi
        clear hi
        go_wp2_with (at_builtin; refine list_cat rfl (.tmp 38) (.tmp 40) rfl rfl rfl (HP.out.part.alloc _) (row_lit1 wr a) (by simp; omega) (by omega) ?_)
        intro p' cp' w2 hcat
        have P2 := Lib.hid (HP.out.yes H1.out hlt HA.out HI.out hcat)
        clear hcat
        go_wp2
        go_roundw
        case rel => exact ⟨s, ⟨p', p.n + 1, cp'⟩, k + 1, by omega, rfl, rfl, by go_num, P2⟩
        case measure => simp [intOf]; omega
    · obtain rfl : k = (v 2).n := by omega
      have Y := HP.out.box
      have X := HP.out.res X1.out
      have c0 := Y.cell 0 (by decide)
      have c1 := Y.cell 1 (by decide)
      have c2 := Y.cell 2 (by decide)
      have cf := Y.free 2
      have cl := Y.lt
      have x0 := X.cell 0 (by decide)
      have x1 := X.cell 1 (by decide)
      have x2 := X.cell 2 (by decide)
      have y0 := X.free 0
      have y1 := X.free 1
      have y2 := X.free 2
      have xl := X.lt
      have D := HP.out.done OH.out BH.out X1.out (j := 2) (.slice s.a s.n s.c) (upd v 2 s)
      rw [List.take_of_length_le (by have := H1.out; omega)] at D
      have HD := Lib.hid D
      have hne' : ¬ w1.heap.size = w.heap.size + 1 := by have := X1.out.lt; omega
      clear X Y D
      go_wp2
      refine bodyPost_ret (v := .tuple #[(.agg #[.slice (upd v 2 s 0).a (upd v 2 s 0).n (upd v 2 s 0).c, .slice (upd v 2 s 1).a (upd v 2 s 1).n (upd v 2 s 1).c, .slice (upd v 2 s 2).a (upd v 2 s 2).n (upd v 2 s 2).c]), .slice p.a p.n p.c, .int .i64 0]) ?_ rfl ?_
      rotate_left
      · exact ⟨_, p, rfl, HD.out⟩
      simp [results, Try.results18, go_sem, upd, x0, x1, x2]
theorem part_ok (B : Nat) (u : Nat → Sl) (f : Nat → List Int) (k : Nat) (hk : k < 3) (low high : Int) (w : World) (h : L3 w B u f) (hB : B ≤ w.heap.size) (hn : ∀ j, j < 3 → (u j).n ≤ 2000000) :
    Calls Try.prog 18 #[(.agg #[.slice (u 0).a (u 0).n (u 0).c, .slice (u 1).a (u 1).n (u 1).c, .slice (u 2).a (u 2).n (u 2).c]), .int .i64 k, .int .i64 low, .int .i64 high] w (PartOut w (upd f k (outOf low high (f k))) (inOf low high (f k)) 0) := by
  rcases (show k = 0 ∨ k = 1 ∨ k = 2 by omega) with rfl | rfl | rfl
  · exact part_ok0 B u f low high w h hB hn
  · exact part_ok1 B u f low high w h hB hn
  · exact part_ok2 B u f low high w h hB hn
end Go.Proofs.Ytegggfghocicaaa
