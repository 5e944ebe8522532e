/-
  The reference's Move: one number after the other popped of the one and pushed to the other.
-/
import Derived.Test.YtegggfghocicaaaLsRPop
namespace Go.Proofs.Ytegggfghocicaaa
open Go.RowKit
attribute [local go_sem ↓] Go.wp_at_zero Go.wp_at_succ

/-- Rows that nobody appends to. -/
def tRows (U : Nat → Sl) (F : Nat → List Int) : Thing :=
  ⟨fun b => ∃ j x, j < 3 ∧ 0 < (U j).n ∧ (U j).a = some x ∧ x.block = b, fun w => L3 w w.heap.size U F, fun _ _ h hl hs j hj => ⟨⟨(h j hj).1.1, fun hn => by
    obtain ⟨b, off, e, hb, hc⟩ := (h j hj).1.2 hn
    exact ⟨b, off, e, Nat.lt_of_lt_of_le hb hl, fun i hi => (World.cell?_of_block (a := ⟨b, off + i, none⟩) (hs b ⟨j, _, hj, hn, e, rfl⟩)).trans (hc i hi)⟩⟩, (h j hj).2⟩⟩
theorem Res.rowed {base r : Nat} {W w w' : World} {R : Nat → Option Thing} {U : Nat → Sl} {F : Nat → List Int} (h : Res base W w R) (hw : base ≤ w.heap.size) (hl : L3 w' w'.heap.size U F) (hb : Below w.heap.size w w') (hn : ∀ j x, j < 3 → (U j).a = some x → w.heap.size ≤ x.block) : Res base W w' (upd R r (some (tRows U F))) :=
  h.add hw hb r _ hl (by
    rintro b ⟨j, x, hj, h0, hx, rfl⟩
    refine ⟨hn j x hj hx, ?_⟩
    obtain ⟨b, off, e, hlt, _⟩ := (hl j hj).1.2 h0
    rw [hx] at e
    cases e
    exact hlt)

/-- Between two rounds of Move. -/
structure MvR (w wr : World) (R : Nat → Option Thing) (d1 d2 : Nat) (U V : Nat → Sl) (F G : Nat → List Int) : Prop where
  lst : Lst w.heap.size w wr R d2 V G
  rows : R 3 = some (tRows U F)
  abox : R 4 = some (tBox d1 U)
  res8 : R 2 = some (tBox (w.heap.size + 1 + 1) noSl)
  res9 : R 5 = some (tBox (w.heap.size + 1 + 1 + 1) noSl)
section
variable {w wr w6 w9 : World} {R : Nat → Option Thing} {d1 d2 k : Nat} {U V p : Nat → Sl} {F G F' : Nat → List Int} {s : Sl} {xs : List Int} {o : Obj}
theorem MvR.l3 (h : MvR w wr R d1 d2 U V F G) : L3 wr wr.heap.size U F := (h.lst.res.ok 3 _ h.rows).1
theorem MvR.a (h : MvR w wr R d1 d2 U V F G) : Box3 wr d1 U := h.lst.res.box h.abox
theorem MvR.b8 (h : MvR w wr R d1 d2 U V F G) : Box3 wr (w.heap.size + 1 + 1) noSl := h.lst.res.box h.res8
theorem MvR.b9 (h : MvR w wr R d1 d2 U V F G) : Box3 wr (w.heap.size + 1 + 1 + 1) noSl := h.lst.res.box h.res9
theorem MvR.ne (h : MvR w wr R d1 d2 U V F G) : ¬ d2 = d1 := fun e => h.lst.res.apart 1 4 _ _ h.lst.box h.abox (by decide) d2 rfl e
theorem MvR.popped (h : MvR w wr R d1 d2 U V F G) (hl : L3 w6 w6.heap.size p F') (hb : Below wr.heap.size wr w6) (hn : ∀ j x, j < 3 → (p j).a = some x → wr.heap.size ≤ x.block) :
    ∃ R', MvR w ((put3 w6 d1 p).alloc (.cells #[.slice (p 0).a (p 0).n (p 0).c, .slice (p 1).a (p 1).n (p 1).c, .slice (p 2).a (p 2).n (p 2).c] 24)) R' d1 d2 p V F' G := by
  have hw : w.heap.size ≤ w6.heap.size := Nat.le_trans h.lst.big hb.size
  have R1 := h.lst.res.rowed (r := 3) h.lst.big hl hb hn
  have e4 : upd R 3 (some (tRows p F')) 4 = some (tBox d1 U) := by rw [upd_other _ _ (by decide)]; exact h.abox
  have R2 := (R1.put hw e4 p).next (by rw [put3_size]; exact hw) ((Below.refl _ _).alloc (Nat.le_refl _) (.cells #[.slice (p 0).a (p 0).n (p 0).c, .slice (p 1).a (p 1).n (p 1).c, .slice (p 2).a (p 2).n (p 2).c] 24))
  refine ⟨_, ⟨⟨R2, ?_, ?_, by rw [World.size_alloc, put3_size]; omega⟩, ?_, upd_same _ _ _, ?_, ?_⟩⟩
  · rw [upd_other _ _ (by decide), upd_other _ _ (by decide)]; exact h.lst.own
  · rw [upd_other _ _ (by decide), upd_other _ _ (by decide)]; exact h.lst.box
  · rw [upd_other _ _ (by decide), upd_same]
  · rw [upd_other _ _ (by decide), upd_other _ _ (by decide)]; exact h.res8
  · rw [upd_other _ _ (by decide), upd_other _ _ (by decide)]; exact h.res9
theorem MvR.cat (h : MvR w wr R d1 d2 U V F G) (hk : k < 3) (hc : Catted (wr.alloc o) w.heap.size (.slice (V k).a (V k).n (V k).c) s xs w9) :
    ∃ R', MvR w (w9.setCell ⟨d2, k, none⟩ (.slice s.a s.n s.c)) R' d1 d2 U (upd V k s) F (upd G k xs) := by
  obtain ⟨R', hL, hK⟩ := h.lst.cat hk hc
  exact ⟨R', hL, (hK 3 (by decide)).trans h.rows, (hK 4 (by decide)).trans h.abox, (hK 2 (by decide)).trans h.res8, (hK 5 (by decide)).trans h.res9⟩
theorem MvR.done (h : MvR w wr R d1 d2 U V F G) :
    L3 (put3 (put3 wr (w.heap.size + 1 + 1) U) (w.heap.size + 1 + 1 + 1) V) (put3 (put3 wr (w.heap.size + 1 + 1) U) (w.heap.size + 1 + 1 + 1) V).heap.size U F ∧
    L3 (put3 (put3 wr (w.heap.size + 1 + 1) U) (w.heap.size + 1 + 1 + 1) V) (put3 (put3 wr (w.heap.size + 1 + 1) U) (w.heap.size + 1 + 1 + 1) V).heap.size V G ∧ Below w.heap.size w (put3 (put3 wr (w.heap.size + 1 + 1) U) (w.heap.size + 1 + 1 + 1) V) := by
  have R1 := h.lst.res.put h.lst.big h.res8 U
  have e5 : upd R 2 (some (tBox (w.heap.size + 1 + 1) U)) 5 = some (tBox (w.heap.size + 1 + 1 + 1) noSl) := by rw [upd_other _ _ (by decide)]; exact h.res9
  have R2 := R1.put (by rw [put3_size]; exact h.lst.big) e5 V
  exact ⟨(R2.ok 3 (tRows U F) (by rw [upd_other _ _ (by decide), upd_other _ _ (by decide)]; exact h.rows)).1, (R2.own (r := 0) (by rw [upd_other _ _ (by decide), upd_other _ _ (by decide)]; exact h.lst.own)).l3, R2.bel⟩
end
/-- The four boxes that Move lays first. -/
theorem four_boxes (w : World) (u v : Nat → Sl) :
    (let W := (((w.alloc (.cells #[.slice (u 0).a (u 0).n (u 0).c, .slice (u 1).a (u 1).n (u 1).c, .slice (u 2).a (u 2).n (u 2).c] 24)).alloc (.cells #[.slice (v 0).a (v 0).n (v 0).c, .slice (v 1).a (v 1).n (v 1).c, .slice (v 2).a (v 2).n (v 2).c] 24)).alloc (.cells #[.slice none 0 0, .slice none 0 0, .slice none 0 0] 24)).alloc (.cells #[.slice none 0 0, .slice none 0 0, .slice none 0 0] 24)
     Below w.heap.size w W ∧ Box3 W (w.heap.size + 1) v ∧ w.heap.size + 4 = W.heap.size ∧
     ∃ R, Res w.heap.size w W R ∧ R 2 = some (tBox (w.heap.size + 1 + 1) noSl) ∧ R 5 = some (tBox (w.heap.size + 1 + 1 + 1) noSl) ∧ R 7 = some (tBox (w.heap.size + 1) v)) := by
  intro W
  have R1 := (Res.none_ w w.heap.size).boxed (Nat.le_refl _) u 6
  have R2 := R1.boxed (by simp) v 7
  have R3 := R2.boxed (by simp; omega) noSl 2
  have R4 := R3.boxed (by simp; omega) noSl 5
  have e7 : (upd (upd (upd (upd (fun _ => (none : Option Thing)) 6 (some (tBox w.heap.size u))) 7 (some (tBox (w.alloc (.cells #[.slice (u 0).a (u 0).n (u 0).c, .slice (u 1).a (u 1).n (u 1).c, .slice (u 2).a (u 2).n (u 2).c] 24)).heap.size v))) 2 (some (tBox ((w.alloc (.cells #[.slice (u 0).a (u 0).n (u 0).c, .slice (u 1).a (u 1).n (u 1).c, .slice (u 2).a (u 2).n (u 2).c] 24)).alloc (.cells #[.slice (v 0).a (v 0).n (v 0).c, .slice (v 1).a (v 1).n (v 1).c, .slice (v 2).a (v 2).n (v 2).c] 24)).heap.size noSl))) 5 (some (tBox (((w.alloc (.cells #[.slice (u 0).a (u 0).n (u 0).c, .slice (u 1).a (u 1).n (u 1).c, .slice (u 2).a (u 2).n (u 2).c] 24)).alloc (.cells #[.slice (v 0).a (v 0).n (v 0).c, .slice (v 1).a (v 1).n (v 1).c, .slice (v 2).a (v 2).n (v 2).c] 24)).alloc (.cells #[.slice (noSl 0).a (noSl 0).n (noSl 0).c, .slice (noSl 1).a (noSl 1).n (noSl 1).c, .slice (noSl 2).a (noSl 2).n (noSl 2).c] 24)).heap.size noSl))) 7 = some (tBox (w.heap.size + 1) v) := by
    rw [upd_other _ _ (by decide), upd_other _ _ (by decide), upd_same]
    simp
  refine ⟨R4.bel, R4.box e7, by simp [W], _, R4, ?_, ?_, e7⟩
  · rw [upd_other _ _ (by decide), upd_same]
    simp
  · rw [upd_same]
    simp
theorem moveOut_drew {w W : World} {U V : Nat → Sl} {F G : Nat → List Int} (h1 : L3 W W.heap.size U F) (h2 : L3 W W.heap.size V G) (h3 : Below w.heap.size w W) : MoveOut w F G 0 (.returned (.tuple #[(.agg #[.slice (U 0).a (U 0).n (U 0).c, .slice (U 1).a (U 1).n (U 1).c, .slice (U 2).a (U 2).n (U 2).c]), (.agg #[.slice (V 0).a (V 0).n (V 0).c, .slice (V 1).a (V 1).n (V 1).c, .slice (V 2).a (V 2).n (V 2).c]), .int .i64 0])) W.drew :=
  ⟨U, V, rfl, h1.drewN 1, h2.drewN 1, below_drawn h3 1⟩
theorem MvR.out {w wr : World} {R : Nat → Option Thing} {d1 d2 : Nat} {U V : Nat → Sl} {F G : Nat → List Int} (h : MvR w wr R d1 d2 U V F G) : ∀ W, W = (put3 (put3 wr (w.heap.size + 1 + 1) U) (w.heap.size + 1 + 1 + 1) V).drew → MoveOut w F G 0 (.returned (.tuple #[(.agg #[.slice (U 0).a (U 0).n (U 0).c, .slice (U 1).a (U 1).n (U 1).c, .slice (U 2).a (U 2).n (U 2).c]), (.agg #[.slice (V 0).a (V 0).n (V 0).c, .slice (V 1).a (V 1).n (V 1).c, .slice (V 2).a (V 2).n (V 2).c]), .int .i64 0])) W := by
  rintro W rfl
  exact moveOut_drew h.done.1 h.done.2.1 h.done.2.2
theorem mvr_start {w W w1 w3 : World} {R : Nat → Option Thing} {U0 V0 : Nat → Sl} {f g : Nat → List Int} (hR : Res w.heap.size w W R) (hW : w.heap.size ≤ W.heap.size) (h2 : R 2 = some (tBox (w.heap.size + 1 + 1) noSl)) (h5 : R 5 = some (tBox (w.heap.size + 1 + 1 + 1) noSl))
    (ho : Own3 w1 W.heap.size U0 f) (hb : Below W.heap.size W w1) (ho' : Own3 w3 (w1.alloc (.cells #[.slice (U0 0).a (U0 0).n (U0 0).c, .slice (U0 1).a (U0 1).n (U0 1).c, .slice (U0 2).a (U0 2).n (U0 2).c] 24)).heap.size V0 g) (hb' : Below (w1.alloc (.cells #[.slice (U0 0).a (U0 0).n (U0 0).c, .slice (U0 1).a (U0 1).n (U0 1).c, .slice (U0 2).a (U0 2).n (U0 2).c] 24)).heap.size (w1.alloc (.cells #[.slice (U0 0).a (U0 0).n (U0 0).c, .slice (U0 1).a (U0 1).n (U0 1).c, .slice (U0 2).a (U0 2).n (U0 2).c] 24)) w3) :
    ∃ R', MvR w (w3.alloc (.cells #[.slice (V0 0).a (V0 0).n (V0 0).c, .slice (V0 1).a (V0 1).n (V0 1).c, .slice (V0 2).a (V0 2).n (V0 2).c] 24)) R' w1.heap.size w3.heap.size U0 V0 f g := by
  have s1 := hb.size
  have s3 := hb'.size
  simp at s3
  have R1 := ((hR.rowed (r := 3) hW ho.l3 hb (fun j x hj hx => (ho.block j hj hx).1)).boxed (by omega) U0 4)
  have R2 := (R1.copied (by simp; omega) ho' hb' 0).boxed (by omega) V0 1
  refine ⟨_, ⟨⟨R2, ?_, upd_same _ _ _, by simp; omega⟩, ?_, ?_, ?_, ?_⟩⟩
  · rw [upd_other _ _ (by decide), upd_same]
  · rw [upd_other _ _ (by decide), upd_other _ _ (by decide), upd_other _ _ (by decide), upd_same]
  · rw [upd_other _ _ (by decide), upd_other _ _ (by decide), upd_same]
  · rw [upd_other _ _ (by decide), upd_other _ _ (by decide), upd_other _ _ (by decide), upd_other _ _ (by decide)]; exact h2
  · rw [upd_other _ _ (by decide), upd_other _ _ (by decide), upd_other _ _ (by decide), upd_other _ _ (by decide)]; exact h5
theorem mv_take {f : Nat → List Int} {k j L m' : Nat} (hj : L - j = m' + 1) : upd (upd f k ((f k).take (L - j))) k ((upd f k ((f k).take (L - j)) k).take m') = upd f k ((f k).take (L - (j + 1))) := by
  rw [upd_upd, upd_same, List.take_take]
  congr 2
  omega
theorem mv_drop {f g : Nat → List Int} {k j L m' : Nat} (hL : (f k).length = L) (hj : L - j = m' + 1) : upd (upd g k (g k ++ ((f k).drop (L - j)).reverse)) k (upd g k (g k ++ ((f k).drop (L - j)).reverse) k ++ [(upd f k ((f k).take (L - j)) k).getD m' 0]) = upd g k (g k ++ ((f k).drop (L - (j + 1))).reverse) := by
  rw [upd_upd, upd_same, upd_same]
  congr 1
  have e : (f k).drop (L - (j + 1)) = (f k).getD m' 0 :: (f k).drop (L - j) := by
    rw [show L - (j + 1) = m' by omega, show L - j = m' + 1 by omega, List.drop_eq_getElem_cons (by omega)]
    simp [List.getD, List.getElem?_eq_getElem (show m' < (f k).length by omega)]
  rw [e, List.reverse_cons, List.append_assoc]
  congr 2
  simp [List.getD, show m' < L - j by omega]

theorem mv_none {f : Nat → List Int} {k : Nat} : upd f k ((f k).take ((f k).length - 0)) = f := by
  funext i
  by_cases h : i = k
  · rw [h, upd_same]
    simp
  · exact upd_other _ _ h
theorem mv_none' {f g : Nat → List Int} {k : Nat} : upd g k (g k ++ ((f k).drop ((f k).length - 0)).reverse) = g := by
  funext i
  by_cases h : i = k
  · rw [h, upd_same]
    simp
  · exact upd_other _ _ h
/-- The boxes are apart. -/
theorem MvR.far {w wr : World} {R : Nat → Option Thing} {d1 d2 : Nat} {U V : Nat → Sl} {F G : Nat → List Int} (h : MvR w wr R d1 d2 U V F G) : ¬ d1 = w.heap.size + 1 + 1 ∧ ¬ d1 = w.heap.size + 1 + 1 + 1 ∧ ¬ d2 = w.heap.size + 1 + 1 ∧ ¬ d2 = w.heap.size + 1 + 1 + 1 :=
  ⟨fun e => h.lst.res.apart 4 2 _ _ h.abox h.res8 (by decide) d1 rfl e, fun e => h.lst.res.apart 4 5 _ _ h.abox h.res9 (by decide) d1 rfl e, fun e => h.lst.res.apart 1 2 _ _ h.lst.box h.res8 (by decide) d2 rfl e, fun e => h.lst.res.apart 1 5 _ _ h.lst.box h.res9 (by decide) d2 rfl e⟩

theorem row_lit8 (w : World) (d : Nat) (p : Nat → Sl) (x : Int) : Row (((put3 w d p).alloc (.cells #[.slice (p 0).a (p 0).n (p 0).c, .slice (p 1).a (p 1).n (p 1).c, .slice (p 2).a (p 2).n (p 2).c] 24)).alloc (.cells #[.int .i64 x] 3)) (w.heap.size + 1 + 1) (some ⟨w.heap.size + 1, 0, none⟩) 1 [x] := by
  have := row_lit1 ((put3 w d p).alloc (.cells #[.slice (p 0).a (p 0).n (p 0).c, .slice (p 1).a (p 1).n (p 1).c, .slice (p 2).a (p 2).n (p 2).c] 24)) x
  rwa [World.size_alloc, put3_size] at this
theorem rmove_bad (u v : Nat → Sl) (k m : Int) (w : World) (hk : isCl k = false) :
    Calls Try.prog 17 #[(.agg #[.slice (u 0).a (u 0).n (u 0).c, .slice (u 1).a (u 1).n (u 1).c, .slice (u 2).a (u 2).n (u 2).c]), (.agg #[.slice (v 0).a (v 0).n (v 0).c, .slice (v 1).a (v 1).n (v 1).c, .slice (v 2).a (v 2).n (v 2).c]), .int .i64 k, .int .i64 m] w (MoveOut w noLists noLists 1) := by
  rcases isCl_no hk with h | h
  · have d1 : decide (k < 0) = true := by simp; omega
    clear hk h
    go_enter Try.func17, Try.ntmps17
    go_wp2
    refine bodyPost_ret (v := .tuple #[(.agg #[.slice (noSl 0).a (noSl 0).n (noSl 0).c, .slice (noSl 1).a (noSl 1).n (noSl 1).c, .slice (noSl 2).a (noSl 2).n (noSl 2).c]), (.agg #[.slice (noSl 0).a (noSl 0).n (noSl 0).c, .slice (noSl 1).a (noSl 1).n (noSl 1).c, .slice (noSl 2).a (noSl 2).n (noSl 2).c]), .int .i64 1]) ?_ rfl ?_
    rotate_left
    · exact ⟨noSl, noSl, rfl, L3.none_ _ _, L3.none_ _ _, ((two_below w _ _).alloc (by simp; omega) _).alloc (by simp; omega) _⟩
    simp [results, Try.results17, go_sem, noSl]
  · have d1 : decide (k < 0) = false := by simp; omega
    have d2 : decide (2 < k) = true := by simp; omega
    clear hk h
    go_enter Try.func17, Try.ntmps17
    go_wp2
    refine bodyPost_ret (v := .tuple #[(.agg #[.slice (noSl 0).a (noSl 0).n (noSl 0).c, .slice (noSl 1).a (noSl 1).n (noSl 1).c, .slice (noSl 2).a (noSl 2).n (noSl 2).c]), (.agg #[.slice (noSl 0).a (noSl 0).n (noSl 0).c, .slice (noSl 1).a (noSl 1).n (noSl 1).c, .slice (noSl 2).a (noSl 2).n (noSl 2).c]), .int .i64 1]) ?_ rfl ?_
    rotate_left
    · exact ⟨noSl, noSl, rfl, L3.none_ _ _, L3.none_ _ _, ((two_below w _ _).alloc (by simp; omega) _).alloc (by simp; omega) _⟩
    simp [results, Try.results17, go_sem, noSl]
theorem rmove_neg (u v : Nat → Sl) (k m : Int) (w : World) (hk : isCl k = true) (hm : m < 0) :
    Calls Try.prog 17 #[(.agg #[.slice (u 0).a (u 0).n (u 0).c, .slice (u 1).a (u 1).n (u 1).c, .slice (u 2).a (u 2).n (u 2).c]), (.agg #[.slice (v 0).a (v 0).n (v 0).c, .slice (v 1).a (v 1).n (v 1).c, .slice (v 2).a (v 2).n (v 2).c]), .int .i64 k, .int .i64 m] w (MoveOut w noLists noLists 1) := by
  obtain ⟨h0, h1⟩ := isCl_iff.1 hk
  have d1 : decide (k < 0) = false := by simp; omega
  have d2 : decide (2 < k) = false := by simp; omega
  have d3 : decide (m < 0) = true := by simp; omega
  clear hk h0 h1 hm
  go_enter Try.func17, Try.ntmps17
  go_wp2
  refine bodyPost_ret (v := .tuple #[(.agg #[.slice (noSl 0).a (noSl 0).n (noSl 0).c, .slice (noSl 1).a (noSl 1).n (noSl 1).c, .slice (noSl 2).a (noSl 2).n (noSl 2).c]), (.agg #[.slice (noSl 0).a (noSl 0).n (noSl 0).c, .slice (noSl 1).a (noSl 1).n (noSl 1).c, .slice (noSl 2).a (noSl 2).n (noSl 2).c]), .int .i64 1]) ?_ rfl ?_
  rotate_left
  · exact ⟨noSl, noSl, rfl, L3.none_ _ _, L3.none_ _ _, ((two_below w _ _).alloc (by simp; omega) _).alloc (by simp; omega) _⟩
  simp [results, Try.results17, go_sem, noSl]
set_option maxHeartbeats 1000000 in
theorem rmove_ok0 (B : Nat) (u v : Nat → Sl) (f g : Nat → List Int) (m : Nat) (w : World) (h : L3 w B u f) (h' : L3 w B v g) (hB : B ≤ w.heap.size) (hn : ∀ j, j < 3 → (u j).n ≤ 1000000) (hn' : ∀ j, j < 3 → (v j).n ≤ 1000000) (hm : m ≤ 9223372036854775807) :
    Calls Try.prog 17 #[(.agg #[.slice (u 0).a (u 0).n (u 0).c, .slice (u 1).a (u 1).n (u 1).c, .slice (u 2).a (u 2).n (u 2).c]), (.agg #[.slice (v 0).a (v 0).n (v 0).c, .slice (v 1).a (v 1).n (v 1).c, .slice (v 2).a (v 2).n (v 2).c]), .int .i64 0, .int .i64 m] w (MoveOut w (upd f 0 ((f 0).take ((f 0).length - m))) (upd g 0 (g 0 ++ ((f 0).drop ((f 0).length - m)).reverse)) 0) := by
  have hm0 : decide ((m : Int) < 0) = false := by simp
  have HL := Lib.hid h
  have HL' := Lib.hid h'
  have hfl : (f 0).length ≤ 1000000 := by have := h.len 0 (by decide); have := hn 0 (by decide); omega
  have hgl : (g 0).length ≤ 1000000 := by have := h'.len 0 (by decide); have := hn' 0 (by decide); omega
  have HN := Lib.hid (fun j (hj : j < 3) => Nat.le_trans (hn j hj) (show 1000000 ≤ 2000000 by omega))
  have HN' := Lib.hid (fun j (hj : j < 3) => Nat.le_trans (hn' j hj) (show 1000000 ≤ 2000000 by omega))
  have HFL := Lib.hid h.len
  have HNN := Lib.hid hn
  clear h h' hn hn'
  go_enter Try.func17, Try.ntmps17
  go_wp2_with fail
  obtain ⟨b0, X7, s4, R0, hR0, h2, h5, h7⟩ := four_boxes w u v
  generalize (((w.alloc (.cells #[.slice (u 0).a (u 0).n (u 0).c, .slice (u 1).a (u 1).n (u 1).c, .slice (u 2).a (u 2).n (u 2).c] 24)).alloc (.cells #[.slice (v 0).a (v 0).n (v 0).c, .slice (v 1).a (v 1).n (v 1).c, .slice (v 2).a (v 2).n (v 2).c] 24)).alloc (.cells #[.slice none 0 0, .slice none 0 0, .slice none 0 0] 24)).alloc (.cells #[.slice none 0 0, .slice none 0 0, .slice none 0 0] 24) = W at b0 X7 s4 hR0 ⊢
  refine (rown_any B u f W (HL.out.over b0 hB) (by omega) HN.out).mono ?_
  rintro e w1 ⟨U0, rfl, ho, hb⟩
  have X71 := X7.next hb
  have c0 := X71.cell 0 (by decide)
  have c1 := X71.cell 1 (by decide)
  have c2 := X71.cell 2 (by decide)
  have cl := X71.lt
  have HB1 := Lib.hid (b0.trans (hb.mono (by omega)))
  have HRS := Lib.hid (And.intro hR0 (And.intro h2 h5))
  have HO := Lib.hid (And.intro ho hb)
  have hs4 : w.heap.size ≤ W.heap.size := by omega
  have hs1 : w.heap.size ≤ w1.heap.size := by have := hb.size; omega
  clear ho hb X71 X7 b0 hR0 h2 h5 h7 s4
  go_wp2_with fail
  refine (rown_any B v g _ (HL'.out.over (HB1.out.alloc hs1 (.cells #[.slice (U0 0).a (U0 0).n (U0 0).c, .slice (U0 1).a (U0 1).n (U0 1).c, .slice (U0 2).a (U0 2).n (U0 2).c] 24)) hB) (by simp; omega) HN'.out).mono ?_
  rintro e w3 ⟨V0, rfl, ho', hb'⟩
  obtain ⟨R1, hM⟩ := mvr_start HRS.out.1 hs4 HRS.out.2.1 HRS.out.2.2 HO.out.1 HO.out.2 ho' hb'
  have HM := Lib.hid hM
  clear c0 c1 c2 cl ho' hb' hM HO HRS HB1
  go_wp2
  generalize w3.alloc (.cells #[.slice (V0 0).a (V0 0).n (V0 0).c, .slice (V0 1).a (V0 1).n (V0 1).c, .slice (V0 2).a (V0 2).n (V0 2).c] 24) = w4 at HM ⊢
  generalize w3.heap.size = d2 at HM ⊢
  generalize w1.heap.size = d1 at HM ⊢
  go_loopw [3, 13, 14, 15] (fun x _ _ _ wr => ∃ (j r : Nat) (U V : Nat → Sl) (R : Nat → Option Thing), r + j = m ∧ j ≤ (f 0).length ∧ x = .int .i64 r ∧ Hid (MvR w wr R d1 d2 U V (upd f 0 ((f 0).take ((f 0).length - j))) (upd g 0 (g 0 ++ ((f 0).drop ((f 0).length - j)).reverse)))) (fun x _ _ _ _ => (intOf x).toNat)
  case atStart =>
    refine ⟨0, m, U0, V0, R1, rfl, Nat.zero_le _, rfl, ?_⟩
    rw [mv_none, mv_none']
    exact HM
  case round =>
    obtain ⟨j, r, U, V, R, hr, hj, rfl, HC⟩ := hrel
    have XA := HC.out.a
    have c0 := XA.cell 0 (by decide)
    have c1 := XA.cell 1 (by decide)
    have c2 := XA.cell 2 (by decide)
    have cl := XA.lt
    have hUn : (U 0).n = (f 0).length - j := by
      have := HC.out.l3.len 0 (by decide)
      rw [upd_same, List.length_take] at this
      omega
    by_cases h0 : r = 0
    · subst h0
      have hh := HC.out
      rw [show (f 0).length - j = (f 0).length - m by omega] at hh
      have E := Lib.hid hh.out
      have X2 := HC.out.lst.boxed
      have X8 := HC.out.b8
      have X9 := HC.out.b9
      obtain ⟨f1, f2, f3, f4⟩ := HC.out.far
      have b0 := X2.cell 0 (by decide)
      have b1 := X2.cell 1 (by decide)
      have b2 := X2.cell 2 (by decide)
      have bl := X2.lt
      have x0 := X8.cell 0 (by decide)
      have x1 := X8.cell 1 (by decide)
      have x2 := X8.cell 2 (by decide)
      have y0 := X8.free 0
      have y1 := X8.free 1
      have y2 := X8.free 2
      have xl := X8.lt
      have z0 := X9.cell 0 (by decide)
      have z1 := X9.cell 1 (by decide)
      have z2 := X9.cell 2 (by decide)
      have q0 := X9.free 0
      have q1 := X9.free 1
      have q2 := X9.free 2
      have zl := X9.lt
      clear hh X2 X8 X9 XA hUn
      go_wp2
      go_region_with (fail)
      all_goals go_wp2
      all_goals refine bodyPost_ret (v := .tuple #[(.agg #[.slice (U 0).a (U 0).n (U 0).c, .slice (U 1).a (U 1).n (U 1).c, .slice (U 2).a (U 2).n (U 2).c]), (.agg #[.slice (V 0).a (V 0).n (V 0).c, .slice (V 1).a (V 1).n (V 1).c, .slice (V 2).a (V 2).n (V 2).c]), .int .i64 0]) ?_ rfl ?_
      all_goals first
        | ((with_reducible refine E.out _ ?_); rfl)
        | simp [results, Try.results17, go_sem, x0, x1, x2, z0, z1, z2]
    · obtain ⟨r', rfl⟩ : ∃ r', r = r' + 1 := ⟨r - 1, by omega⟩
      have dr : decide ((0 : Int) < (r' : Int) + 1) = true := by simp <;> omega
      by_cases hz : (U 0).n = 0
      · have dz : decide (0 < (((U 0).n : Nat) : Int)) = false := by simp; omega
        have dz2 : decide (0 < (U 0).n) = false := by simp; omega
        have hh := HC.out
        rw [show (f 0).length - j = (f 0).length - m by omega] at hh
        have E := Lib.hid hh.out
        have X2 := HC.out.lst.boxed
        have X8 := HC.out.b8
        have X9 := HC.out.b9
        obtain ⟨f1, f2, f3, f4⟩ := HC.out.far
        have b0 := X2.cell 0 (by decide)
        have b1 := X2.cell 1 (by decide)
        have b2 := X2.cell 2 (by decide)
        have bl := X2.lt
        have x0 := X8.cell 0 (by decide)
        have x1 := X8.cell 1 (by decide)
        have x2 := X8.cell 2 (by decide)
        have y0 := X8.free 0
        have y1 := X8.free 1
        have y2 := X8.free 2
        have xl := X8.lt
        have z0 := X9.cell 0 (by decide)
        have z1 := X9.cell 1 (by decide)
        have z2 := X9.cell 2 (by decide)
        have q0 := X9.free 0
        have q1 := X9.free 1
        have q2 := X9.free 2
        have zl := X9.lt
        clear hh X2 X8 X9 XA hUn hz h0
        go_wp2
        go_region_with (fail)
        all_goals go_wp2
        all_goals refine bodyPost_ret (v := .tuple #[(.agg #[.slice (U 0).a (U 0).n (U 0).c, .slice (U 1).a (U 1).n (U 1).c, .slice (U 2).a (U 2).n (U 2).c]), (.agg #[.slice (V 0).a (V 0).n (V 0).c, .slice (V 1).a (V 1).n (V 1).c, .slice (V 2).a (V 2).n (V 2).c]), .int .i64 0]) ?_ rfl ?_
        all_goals first
          | ((with_reducible refine E.out _ ?_); rfl)
          | simp [results, Try.results17, go_sem, x0, x1, x2, z0, z1, z2]
      · obtain ⟨m', hm'⟩ : ∃ m', (U 0).n = m' + 1 := ⟨(U 0).n - 1, by omega⟩
        have dz : decide (0 < (((U 0).n : Nat) : Int)) = true := by simp; omega
        have dz2 : decide (0 < (U 0).n) = true := by simp; omega
        have hj' : (f 0).length - j = m' + 1 := by omega
        have hbd : ∀ i, i < 3 → (U i).n ≤ 2000000 := by
          intro i hi
          have h1 := HC.out.l3.len i hi
          by_cases e : i = 0
          · rw [e] at h1 ⊢
            omega
          · rw [upd_other _ _ e] at h1
            have h2 := HFL.out i hi
            have h3 := HNN.out i hi
            omega
        have hVn : (V 0).n + 1 ≤ 4000000 := by
          have := HC.out.lst.len (k := 0) (by decide)
          rw [upd_same, List.length_append, List.length_reverse, List.length_drop] at this
          omega
        have hbig := HC.out.lst.big
        have HJ := Lib.hid (And.intro hj' (And.intro hm' hbd))
        clear h0 hz hUn hj' hm' hbd
        go_wp2_with fail
        refine (rpop_ok wr.heap.size U _ 0 (by decide) m' wr HC.out.l3 (Nat.le_refl _) HJ.out.2.2 HJ.out.2.1).mono ?_
        rintro e w6 ⟨p, rfl, hp, hb6, hn6⟩
        rw [mv_take HJ.out.1] at hp
        obtain ⟨x, hx⟩ : ∃ x, x = (upd f 0 ((f 0).take ((f 0).length - j)) 0).getD m' 0 := ⟨_, rfl⟩
        rw [← hx]
        obtain ⟨R8, h8⟩ := HC.out.popped hp hb6 hn6
        have A6 := XA.next hb6
        have D6 := HC.out.lst.boxed.next hb6
        have hne := HC.out.ne
        have a0 := A6.cell 0 (by decide)
        have a1 := A6.cell 1 (by decide)
        have a2 := A6.cell 2 (by decide)
        have g0 := A6.free 0
        have g1 := A6.free 1
        have g2 := A6.free 2
        have al := A6.lt
        have b0 := D6.cell 0 (by decide)
        have bf := D6.free 0
        have bl := D6.lt
        have hw6 : w.heap.size ≤ w6.heap.size := Nat.le_trans hbig hb6.size
        have H8 := Lib.hid h8
        have HXX := Lib.hid hx
        clear c0 c1 c2 cl XA A6 D6 hp hb6 hn6 h8 hx dz dz2
        go_wp2_with (at_builtin; refine list_cat rfl (.tmp 52) (.tmp 54) rfl rfl rfl (H8.out.lst.row _ (by decide)) (row_lit8 w6 d1 p x) (by simp [World.setCell]; omega) (by omega) ?_)
        intro p' cp' w9 hc
        obtain ⟨R9, h9⟩ := H8.out.cat (k := 0) (by decide) hc
        obtain ⟨M9, _⟩ := H8.out.lst.mid (k := 0) (by decide) hc
        have k0 := M9.cell 0 (by decide)
        have kf := M9.free 0
        have kl := M9.lt
        have H9 := Lib.hid h9
        clear hc h9 M9 a0 a1 a2 g0 g1 g2 al b0 bf bl
        go_wp2
        go_roundw
        case rel =>
          have h9 := H9.out
          rw [HXX.out, mv_drop rfl HJ.out.1] at h9
          exact ⟨j + 1, r', p, _, R9, by omega, by have := HJ.out.1; omega, by go_num, Lib.hid h9⟩
        case measure => simp [intOf]
set_option maxHeartbeats 1000000 in
theorem rmove_ok1 (B : Nat) (u v : Nat → Sl) (f g : Nat → List Int) (m : Nat) (w : World) (h : L3 w B u f) (h' : L3 w B v g) (hB : B ≤ w.heap.size) (hn : ∀ j, j < 3 → (u j).n ≤ 1000000) (hn' : ∀ j, j < 3 → (v j).n ≤ 1000000) (hm : m ≤ 9223372036854775807) :
    Calls Try.prog 17 #[(.agg #[.slice (u 0).a (u 0).n (u 0).c, .slice (u 1).a (u 1).n (u 1).c, .slice (u 2).a (u 2).n (u 2).c]), (.agg #[.slice (v 0).a (v 0).n (v 0).c, .slice (v 1).a (v 1).n (v 1).c, .slice (v 2).a (v 2).n (v 2).c]), .int .i64 1, .int .i64 m] w (MoveOut w (upd f 1 ((f 1).take ((f 1).length - m))) (upd g 1 (g 1 ++ ((f 1).drop ((f 1).length - m)).reverse)) 0) := by
  have hm0 : decide ((m : Int) < 0) = false := by simp
  have HL := Lib.hid h
  have HL' := Lib.hid h'
  have hfl : (f 1).length ≤ 1000000 := by have := h.len 1 (by decide); have := hn 1 (by decide); omega
  have hgl : (g 1).length ≤ 1000000 := by have := h'.len 1 (by decide); have := hn' 1 (by decide); omega
  have HN := Lib.hid (fun j (hj : j < 3) => Nat.le_trans (hn j hj) (show 1000000 ≤ 2000000 by omega))
  have HN' := Lib.hid (fun j (hj : j < 3) => Nat.le_trans (hn' j hj) (show 1000000 ≤ 2000000 by omega))
  have HFL := Lib.hid h.len
  have HNN := Lib.hid hn
  clear h h' hn hn'
  go_enter Try.func17, Try.ntmps17
  go_wp2_with fail
  obtain ⟨b0, X7, s4, R0, hR0, h2, h5, h7⟩ := four_boxes w u v
  generalize (((w.alloc (.cells #[.slice (u 0).a (u 0).n (u 0).c, .slice (u 1).a (u 1).n (u 1).c, .slice (u 2).a (u 2).n (u 2).c] 24)).alloc (.cells #[.slice (v 0).a (v 0).n (v 0).c, .slice (v 1).a (v 1).n (v 1).c, .slice (v 2).a (v 2).n (v 2).c] 24)).alloc (.cells #[.slice none 0 0, .slice none 0 0, .slice none 0 0] 24)).alloc (.cells #[.slice none 0 0, .slice none 0 0, .slice none 0 0] 24) = W at b0 X7 s4 hR0 ⊢
  refine (rown_any B u f W (HL.out.over b0 hB) (by omega) HN.out).mono ?_
  rintro e w1 ⟨U0, rfl, ho, hb⟩
  have X71 := X7.next hb
  have c0 := X71.cell 0 (by decide)
  have c1 := X71.cell 1 (by decide)
  have c2 := X71.cell 2 (by decide)
  have cl := X71.lt
  have HB1 := Lib.hid (b0.trans (hb.mono (by omega)))
  have HRS := Lib.hid (And.intro hR0 (And.intro h2 h5))
  have HO := Lib.hid (And.intro ho hb)
  have hs4 : w.heap.size ≤ W.heap.size := by omega
  have hs1 : w.heap.size ≤ w1.heap.size := by have := hb.size; omega
  clear ho hb X71 X7 b0 hR0 h2 h5 h7 s4
  go_wp2_with fail
  refine (rown_any B v g _ (HL'.out.over (HB1.out.alloc hs1 (.cells #[.slice (U0 0).a (U0 0).n (U0 0).c, .slice (U0 1).a (U0 1).n (U0 1).c, .slice (U0 2).a (U0 2).n (U0 2).c] 24)) hB) (by simp; omega) HN'.out).mono ?_
  rintro e w3 ⟨V0, rfl, ho', hb'⟩
  obtain ⟨R1, hM⟩ := mvr_start HRS.out.1 hs4 HRS.out.2.1 HRS.out.2.2 HO.out.1 HO.out.2 ho' hb'
  have HM := Lib.hid hM
  clear c0 c1 c2 cl ho' hb' hM HO HRS HB1
  go_wp2
  generalize w3.alloc (.cells #[.slice (V0 0).a (V0 0).n (V0 0).c, .slice (V0 1).a (V0 1).n (V0 1).c, .slice (V0 2).a (V0 2).n (V0 2).c] 24) = w4 at HM ⊢
  generalize w3.heap.size = d2 at HM ⊢
  generalize w1.heap.size = d1 at HM ⊢
  go_loopw [3, 13, 14, 15] (fun x _ _ _ wr => ∃ (j r : Nat) (U V : Nat → Sl) (R : Nat → Option Thing), r + j = m ∧ j ≤ (f 1).length ∧ x = .int .i64 r ∧ Hid (MvR w wr R d1 d2 U V (upd f 1 ((f 1).take ((f 1).length - j))) (upd g 1 (g 1 ++ ((f 1).drop ((f 1).length - j)).reverse)))) (fun x _ _ _ _ => (intOf x).toNat)
  case atStart =>
    refine ⟨0, m, U0, V0, R1, rfl, Nat.zero_le _, rfl, ?_⟩
    rw [mv_none, mv_none']
    exact HM
  case round =>
    obtain ⟨j, r, U, V, R, hr, hj, rfl, HC⟩ := hrel
    have XA := HC.out.a
    have c0 := XA.cell 0 (by decide)
    have c1 := XA.cell 1 (by decide)
    have c2 := XA.cell 2 (by decide)
    have cl := XA.lt
    have hUn : (U 1).n = (f 1).length - j := by
      have := HC.out.l3.len 1 (by decide)
      rw [upd_same, List.length_take] at this
      omega
    by_cases h0 : r = 0
    · subst h0
      have hh := HC.out
      rw [show (f 1).length - j = (f 1).length - m by omega] at hh
      have E := Lib.hid hh.out
      have X2 := HC.out.lst.boxed
      have X8 := HC.out.b8
      have X9 := HC.out.b9
      obtain ⟨f1, f2, f3, f4⟩ := HC.out.far
      have b0 := X2.cell 0 (by decide)
      have b1 := X2.cell 1 (by decide)
      have b2 := X2.cell 2 (by decide)
      have bl := X2.lt
      have x0 := X8.cell 0 (by decide)
      have x1 := X8.cell 1 (by decide)
      have x2 := X8.cell 2 (by decide)
      have y0 := X8.free 0
      have y1 := X8.free 1
      have y2 := X8.free 2
      have xl := X8.lt
      have z0 := X9.cell 0 (by decide)
      have z1 := X9.cell 1 (by decide)
      have z2 := X9.cell 2 (by decide)
      have q0 := X9.free 0
      have q1 := X9.free 1
      have q2 := X9.free 2
      have zl := X9.lt
      clear hh X2 X8 X9 XA hUn
      go_wp2
      go_region_with (fail)
      all_goals go_wp2
      all_goals refine bodyPost_ret (v := .tuple #[(.agg #[.slice (U 0).a (U 0).n (U 0).c, .slice (U 1).a (U 1).n (U 1).c, .slice (U 2).a (U 2).n (U 2).c]), (.agg #[.slice (V 0).a (V 0).n (V 0).c, .slice (V 1).a (V 1).n (V 1).c, .slice (V 2).a (V 2).n (V 2).c]), .int .i64 0]) ?_ rfl ?_
      all_goals first
        | ((with_reducible refine E.out _ ?_); rfl)
        | simp [results, Try.results17, go_sem, x0, x1, x2, z0, z1, z2]
    · obtain ⟨r', rfl⟩ : ∃ r', r = r' + 1 := ⟨r - 1, by omega⟩
      have dr : decide ((0 : Int) < (r' : Int) + 1) = true := by simp <;> omega
      by_cases hz : (U 1).n = 0
      · have dz : decide (0 < (((U 1).n : Nat) : Int)) = false := by simp; omega
        have dz2 : decide (0 < (U 1).n) = false := by simp; omega
        have hh := HC.out
        rw [show (f 1).length - j = (f 1).length - m by omega] at hh
        have E := Lib.hid hh.out
        have X2 := HC.out.lst.boxed
        have X8 := HC.out.b8
        have X9 := HC.out.b9
        obtain ⟨f1, f2, f3, f4⟩ := HC.out.far
        have b0 := X2.cell 0 (by decide)
        have b1 := X2.cell 1 (by decide)
        have b2 := X2.cell 2 (by decide)
        have bl := X2.lt
        have x0 := X8.cell 0 (by decide)
        have x1 := X8.cell 1 (by decide)
        have x2 := X8.cell 2 (by decide)
        have y0 := X8.free 0
        have y1 := X8.free 1
        have y2 := X8.free 2
        have xl := X8.lt
        have z0 := X9.cell 0 (by decide)
        have z1 := X9.cell 1 (by decide)
        have z2 := X9.cell 2 (by decide)
        have q0 := X9.free 0
        have q1 := X9.free 1
        have q2 := X9.free 2
        have zl := X9.lt
        clear hh X2 X8 X9 XA hUn hz h0
        go_wp2
        go_region_with (fail)
        all_goals go_wp2
        all_goals refine bodyPost_ret (v := .tuple #[(.agg #[.slice (U 0).a (U 0).n (U 0).c, .slice (U 1).a (U 1).n (U 1).c, .slice (U 2).a (U 2).n (U 2).c]), (.agg #[.slice (V 0).a (V 0).n (V 0).c, .slice (V 1).a (V 1).n (V 1).c, .slice (V 2).a (V 2).n (V 2).c]), .int .i64 0]) ?_ rfl ?_
        all_goals first
          | ((with_reducible refine E.out _ ?_); rfl)
          | simp [results, Try.results17, go_sem, x0, x1, x2, z0, z1, z2]
      · obtain ⟨m', hm'⟩ : ∃ m', (U 1).n = m' + 1 := ⟨(U 1).n - 1, by omega⟩
        have dz : decide (0 < (((U 1).n : Nat) : Int)) = true := by simp; omega
        have dz2 : decide (0 < (U 1).n) = true := by simp; omega
        have hj' : (f 1).length - j = m' + 1 := by omega
        have hbd : ∀ i, i < 3 → (U i).n ≤ 2000000 := by
          intro i hi
          have h1 := HC.out.l3.len i hi
          by_cases e : i = 1
          · rw [e] at h1 ⊢
            omega
          · rw [upd_other _ _ e] at h1
            have h2 := HFL.out i hi
            have h3 := HNN.out i hi
            omega
        have hVn : (V 1).n + 1 ≤ 4000000 := by
          have := HC.out.lst.len (k := 1) (by decide)
          rw [upd_same, List.length_append, List.length_reverse, List.length_drop] at this
          omega
        have hbig := HC.out.lst.big
        have HJ := Lib.hid (And.intro hj' (And.intro hm' hbd))
        clear h0 hz hUn hj' hm' hbd
        go_wp2_with fail
        refine (rpop_ok wr.heap.size U _ 1 (by decide) m' wr HC.out.l3 (Nat.le_refl _) HJ.out.2.2 HJ.out.2.1).mono ?_
        rintro e w6 ⟨p, rfl, hp, hb6, hn6⟩
        rw [mv_take HJ.out.1] at hp
        obtain ⟨x, hx⟩ : ∃ x, x = (upd f 1 ((f 1).take ((f 1).length - j)) 1).getD m' 0 := ⟨_, rfl⟩
        rw [← hx]
        obtain ⟨R8, h8⟩ := HC.out.popped hp hb6 hn6
        have A6 := XA.next hb6
        have D6 := HC.out.lst.boxed.next hb6
        have hne := HC.out.ne
        have a0 := A6.cell 0 (by decide)
        have a1 := A6.cell 1 (by decide)
        have a2 := A6.cell 2 (by decide)
        have g0 := A6.free 0
        have g1 := A6.free 1
        have g2 := A6.free 2
        have al := A6.lt
        have b0 := D6.cell 1 (by decide)
        have bf := D6.free 1
        have bl := D6.lt
        have hw6 : w.heap.size ≤ w6.heap.size := Nat.le_trans hbig hb6.size
        have H8 := Lib.hid h8
        have HXX := Lib.hid hx
        clear c0 c1 c2 cl XA A6 D6 hp hb6 hn6 h8 hx dz dz2
        go_wp2_with (at_builtin; refine list_cat rfl (.tmp 52) (.tmp 54) rfl rfl rfl (H8.out.lst.row _ (by decide)) (row_lit8 w6 d1 p x) (by simp [World.setCell]; omega) (by omega) ?_)
        intro p' cp' w9 hc
        obtain ⟨R9, h9⟩ := H8.out.cat (k := 1) (by decide) hc
        obtain ⟨M9, _⟩ := H8.out.lst.mid (k := 1) (by decide) hc
        have k0 := M9.cell 1 (by decide)
        have kf := M9.free 1
        have kl := M9.lt
        have H9 := Lib.hid h9
        clear hc h9 M9 a0 a1 a2 g0 g1 g2 al b0 bf bl
        go_wp2
        go_roundw
        case rel =>
          have h9 := H9.out
          rw [HXX.out, mv_drop rfl HJ.out.1] at h9
          exact ⟨j + 1, r', p, _, R9, by omega, by have := HJ.out.1; omega, by go_num, Lib.hid h9⟩
        case measure => simp [intOf]
set_option maxHeartbeats 1000000 in
theorem rmove_ok2 (B : Nat) (u v : Nat → Sl) (f g : Nat → List Int) (m : Nat) (w : World) (h : L3 w B u f) (h' : L3 w B v g) (hB : B ≤ w.heap.size) (hn : ∀ j, j < 3 → (u j).n ≤ 1000000) (hn' : ∀ j, j < 3 → (v j).n ≤ 1000000) (hm : m ≤ 9223372036854775807) :
    Calls Try.prog 17 #[(.agg #[.slice (u 0).a (u 0).n (u 0).c, .slice (u 1).a (u 1).n (u 1).c, .slice (u 2).a (u 2).n (u 2).c]), (.agg #[.slice (v 0).a (v 0).n (v 0).c, .slice (v 1).a (v 1).n (v 1).c, .slice (v 2).a (v 2).n (v 2).c]), .int .i64 2, .int .i64 m] w (MoveOut w (upd f 2 ((f 2).take ((f 2).length - m))) (upd g 2 (g 2 ++ ((f 2).drop ((f 2).length - m)).reverse)) 0) := by
  have hm0 : decide ((m : Int) < 0) = false := by simp
  have HL := Lib.hid h
  have HL' := Lib.hid h'
  have hfl : (f 2).length ≤ 1000000 := by have := h.len 2 (by decide); have := hn 2 (by decide); omega
  have hgl : (g 2).length ≤ 1000000 := by have := h'.len 2 (by decide); have := hn' 2 (by decide); omega
  have HN := Lib.hid (fun j (hj : j < 3) => Nat.le_trans (hn j hj) (show 1000000 ≤ 2000000 by omega))
  have HN' := Lib.hid (fun j (hj : j < 3) => Nat.le_trans (hn' j hj) (show 1000000 ≤ 2000000 by omega))
  have HFL := Lib.hid h.len
  have HNN := Lib.hid hn
  clear h h' hn hn'
  go_enter Try.func17, Try.ntmps17
  go_wp2_with fail
  obtain ⟨b0, X7, s4, R0, hR0, h2, h5, h7⟩ := four_boxes w u v
  generalize (((w.alloc (.cells #[.slice (u 0).a (u 0).n (u 0).c, .slice (u 1).a (u 1).n (u 1).c, .slice (u 2).a (u 2).n (u 2).c] 24)).alloc (.cells #[.slice (v 0).a (v 0).n (v 0).c, .slice (v 1).a (v 1).n (v 1).c, .slice (v 2).a (v 2).n (v 2).c] 24)).alloc (.cells #[.slice none 0 0, .slice none 0 0, .slice none 0 0] 24)).alloc (.cells #[.slice none 0 0, .slice none 0 0, .slice none 0 0] 24) = W at b0 X7 s4 hR0 ⊢
  refine (rown_any B u f W (HL.out.over b0 hB) (by omega) HN.out).mono ?_
  rintro e w1 ⟨U0, rfl, ho, hb⟩
  have X71 := X7.next hb
  have c0 := X71.cell 0 (by decide)
  have c1 := X71.cell 1 (by decide)
  have c2 := X71.cell 2 (by decide)
  have cl := X71.lt
  have HB1 := Lib.hid (b0.trans (hb.mono (by omega)))
  have HRS := Lib.hid (And.intro hR0 (And.intro h2 h5))
  have HO := Lib.hid (And.intro ho hb)
  have hs4 : w.heap.size ≤ W.heap.size := by omega
  have hs1 : w.heap.size ≤ w1.heap.size := by have := hb.size; omega
  clear ho hb X71 X7 b0 hR0 h2 h5 h7 s4
  go_wp2_with fail
  refine (rown_any B v g _ (HL'.out.over (HB1.out.alloc hs1 (.cells #[.slice (U0 0).a (U0 0).n (U0 0).c, .slice (U0 1).a (U0 1).n (U0 1).c, .slice (U0 2).a (U0 2).n (U0 2).c] 24)) hB) (by simp; omega) HN'.out).mono ?_
  rintro e w3 ⟨V0, rfl, ho', hb'⟩
  obtain ⟨R1, hM⟩ := mvr_start HRS.out.1 hs4 HRS.out.2.1 HRS.out.2.2 HO.out.1 HO.out.2 ho' hb'
  have HM := Lib.hid hM
  clear c0 c1 c2 cl ho' hb' hM HO HRS HB1
  go_wp2
  generalize w3.alloc (.cells #[.slice (V0 0).a (V0 0).n (V0 0).c, .slice (V0 1).a (V0 1).n (V0 1).c, .slice (V0 2).a (V0 2).n (V0 2).c] 24) = w4 at HM ⊢
  generalize w3.heap.size = d2 at HM ⊢
  generalize w1.heap.size = d1 at HM ⊢
  go_loopw [3, 13, 14, 15] (fun x _ _ _ wr => ∃ (j r : Nat) (U V : Nat → Sl) (R : Nat → Option Thing), r + j = m ∧ j ≤ (f 2).length ∧ x = .int .i64 r ∧ Hid (MvR w wr R d1 d2 U V (upd f 2 ((f 2).take ((f 2).length - j))) (upd g 2 (g 2 ++ ((f 2).drop ((f 2).length - j)).reverse)))) (fun x _ _ _ _ => (intOf x).toNat)
  case atStart =>
    refine ⟨0, m, U0, V0, R1, rfl, Nat.zero_le _, rfl, ?_⟩
    rw [mv_none, mv_none']
    exact HM
  case round =>
    obtain ⟨j, r, U, V, R, hr, hj, rfl, HC⟩ := hrel
    have XA := HC.out.a
    have c0 := XA.cell 0 (by decide)
    have c1 := XA.cell 1 (by decide)
    have c2 := XA.cell 2 (by decide)
    have cl := XA.lt
    have hUn : (U 2).n = (f 2).length - j := by
      have := HC.out.l3.len 2 (by decide)
      rw [upd_same, List.length_take] at this
      omega
    by_cases h0 : r = 0
    · subst h0
      have hh := HC.out
      rw [show (f 2).length - j = (f 2).length - m by omega] at hh
      have E := Lib.hid hh.out
      have X2 := HC.out.lst.boxed
      have X8 := HC.out.b8
      have X9 := HC.out.b9
      obtain ⟨f1, f2, f3, f4⟩ := HC.out.far
      have b0 := X2.cell 0 (by decide)
      have b1 := X2.cell 1 (by decide)
      have b2 := X2.cell 2 (by decide)
      have bl := X2.lt
      have x0 := X8.cell 0 (by decide)
      have x1 := X8.cell 1 (by decide)
      have x2 := X8.cell 2 (by decide)
      have y0 := X8.free 0
      have y1 := X8.free 1
      have y2 := X8.free 2
      have xl := X8.lt
      have z0 := X9.cell 0 (by decide)
      have z1 := X9.cell 1 (by decide)
      have z2 := X9.cell 2 (by decide)
      have q0 := X9.free 0
      have q1 := X9.free 1
      have q2 := X9.free 2
      have zl := X9.lt
      clear hh X2 X8 X9 XA hUn
      go_wp2
      go_region_with (fail)
      all_goals go_wp2
      all_goals refine bodyPost_ret (v := .tuple #[(.agg #[.slice (U 0).a (U 0).n (U 0).c, .slice (U 1).a (U 1).n (U 1).c, .slice (U 2).a (U 2).n (U 2).c]), (.agg #[.slice (V 0).a (V 0).n (V 0).c, .slice (V 1).a (V 1).n (V 1).c, .slice (V 2).a (V 2).n (V 2).c]), .int .i64 0]) ?_ rfl ?_
      all_goals first
        | ((with_reducible refine E.out _ ?_); rfl)
        | simp [results, Try.results17, go_sem, x0, x1, x2, z0, z1, z2]
    · obtain ⟨r', rfl⟩ : ∃ r', r = r' + 1 := ⟨r - 1, by omega⟩
      have dr : decide ((0 : Int) < (r' : Int) + 1) = true := by simp <;> omega
      by_cases hz : (U 2).n = 0
      · have dz : decide (0 < (((U 2).n : Nat) : Int)) = false := by simp; omega
        have dz2 : decide (0 < (U 2).n) = false := by simp; omega
        have hh := HC.out
        rw [show (f 2).length - j = (f 2).length - m by omega] at hh
        have E := Lib.hid hh.out
        have X2 := HC.out.lst.boxed
        have X8 := HC.out.b8
        have X9 := HC.out.b9
        obtain ⟨f1, f2, f3, f4⟩ := HC.out.far
        have b0 := X2.cell 0 (by decide)
        have b1 := X2.cell 1 (by decide)
        have b2 := X2.cell 2 (by decide)
        have bl := X2.lt
        have x0 := X8.cell 0 (by decide)
        have x1 := X8.cell 1 (by decide)
        have x2 := X8.cell 2 (by decide)
        have y0 := X8.free 0
        have y1 := X8.free 1
        have y2 := X8.free 2
        have xl := X8.lt
        have z0 := X9.cell 0 (by decide)
        have z1 := X9.cell 1 (by decide)
        have z2 := X9.cell 2 (by decide)
        have q0 := X9.free 0
        have q1 := X9.free 1
        have q2 := X9.free 2
        have zl := X9.lt
        clear hh X2 X8 X9 XA hUn hz h0
        go_wp2
        go_region_with (fail)
        all_goals go_wp2
        all_goals refine bodyPost_ret (v := .tuple #[(.agg #[.slice (U 0).a (U 0).n (U 0).c, .slice (U 1).a (U 1).n (U 1).c, .slice (U 2).a (U 2).n (U 2).c]), (.agg #[.slice (V 0).a (V 0).n (V 0).c, .slice (V 1).a (V 1).n (V 1).c, .slice (V 2).a (V 2).n (V 2).c]), .int .i64 0]) ?_ rfl ?_
        all_goals first
          | ((with_reducible refine E.out _ ?_); rfl)
          | simp [results, Try.results17, go_sem, x0, x1, x2, z0, z1, z2]
      · obtain ⟨m', hm'⟩ : ∃ m', (U 2).n = m' + 1 := ⟨(U 2).n - 1, by omega⟩
        have dz : decide (0 < (((U 2).n : Nat) : Int)) = true := by simp; omega
        have dz2 : decide (0 < (U 2).n) = true := by simp; omega
        have hj' : (f 2).length - j = m' + 1 := by omega
        have hbd : ∀ i, i < 3 → (U i).n ≤ 2000000 := by
          intro i hi
          have h1 := HC.out.l3.len i hi
          by_cases e : i = 2
          · rw [e] at h1 ⊢
            omega
          · rw [upd_other _ _ e] at h1
            have h2 := HFL.out i hi
            have h3 := HNN.out i hi
            omega
        have hVn : (V 2).n + 1 ≤ 4000000 := by
          have := HC.out.lst.len (k := 2) (by decide)
          rw [upd_same, List.length_append, List.length_reverse, List.length_drop] at this
          omega
        have hbig := HC.out.lst.big
        have HJ := Lib.hid (And.intro hj' (And.intro hm' hbd))
        clear h0 hz hUn hj' hm' hbd
        go_wp2_with fail
        refine (rpop_ok wr.heap.size U _ 2 (by decide) m' wr HC.out.l3 (Nat.le_refl _) HJ.out.2.2 HJ.out.2.1).mono ?_
        rintro e w6 ⟨p, rfl, hp, hb6, hn6⟩
        rw [mv_take HJ.out.1] at hp
        obtain ⟨x, hx⟩ : ∃ x, x = (upd f 2 ((f 2).take ((f 2).length - j)) 2).getD m' 0 := ⟨_, rfl⟩
        rw [← hx]
        obtain ⟨R8, h8⟩ := HC.out.popped hp hb6 hn6
        have A6 := XA.next hb6
        have D6 := HC.out.lst.boxed.next hb6
        have hne := HC.out.ne
        have a0 := A6.cell 0 (by decide)
        have a1 := A6.cell 1 (by decide)
        have a2 := A6.cell 2 (by decide)
        have g0 := A6.free 0
        have g1 := A6.free 1
        have g2 := A6.free 2
        have al := A6.lt
        have b0 := D6.cell 2 (by decide)
        have bf := D6.free 2
        have bl := D6.lt
        have hw6 : w.heap.size ≤ w6.heap.size := Nat.le_trans hbig hb6.size
        have H8 := Lib.hid h8
        have HXX := Lib.hid hx
        clear c0 c1 c2 cl XA A6 D6 hp hb6 hn6 h8 hx dz dz2
        go_wp2_with (at_builtin; refine list_cat rfl (.tmp 52) (.tmp 54) rfl rfl rfl (H8.out.lst.row _ (by decide)) (row_lit8 w6 d1 p x) (by simp [World.setCell]; omega) (by omega) ?_)
        intro p' cp' w9 hc
        obtain ⟨R9, h9⟩ := H8.out.cat (k := 2) (by decide) hc
        obtain ⟨M9, _⟩ := H8.out.lst.mid (k := 2) (by decide) hc
        have k0 := M9.cell 2 (by decide)
        have kf := M9.free 2
        have kl := M9.lt
        have H9 := Lib.hid h9
        clear hc h9 M9 a0 a1 a2 g0 g1 g2 al b0 bf bl
        go_wp2
        go_roundw
        case rel =>
          have h9 := H9.out
          rw [HXX.out, mv_drop rfl HJ.out.1] at h9
          exact ⟨j + 1, r', p, _, R9, by omega, by have := HJ.out.1; omega, by go_num, Lib.hid h9⟩
        case measure => simp [intOf]
theorem rmove_ok (B : Nat) (u v : Nat → Sl) (f g : Nat → List Int) (k m : Nat) (hk : k < 3) (w : World) (h : L3 w B u f) (h' : L3 w B v g) (hB : B ≤ w.heap.size) (hn : ∀ j, j < 3 → (u j).n ≤ 1000000) (hn' : ∀ j, j < 3 → (v j).n ≤ 1000000) (hm : m ≤ 9223372036854775807) :
    Calls Try.prog 17 #[(.agg #[.slice (u 0).a (u 0).n (u 0).c, .slice (u 1).a (u 1).n (u 1).c, .slice (u 2).a (u 2).n (u 2).c]), (.agg #[.slice (v 0).a (v 0).n (v 0).c, .slice (v 1).a (v 1).n (v 1).c, .slice (v 2).a (v 2).n (v 2).c]), .int .i64 k, .int .i64 m] w (MoveOut w (upd f k ((f k).take ((f k).length - m))) (upd g k (g k ++ ((f k).drop ((f k).length - m)).reverse)) 0) := by
  rcases (show k = 0 ∨ k = 1 ∨ k = 2 by omega) with rfl | rfl | rfl
  · exact rmove_ok0 B u v f g m w h h' hB hn hn' hm
  · exact rmove_ok1 B u v f g m w h h' hB hn hn' hm
  · exact rmove_ok2 B u v f g m w h h' hB hn hn' hm
end Go.Proofs.Ytegggfghocicaaa
