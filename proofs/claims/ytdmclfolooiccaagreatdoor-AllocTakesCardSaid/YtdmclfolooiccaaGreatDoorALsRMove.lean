/-
  The reference's Move: one number after the other popped of the one and pushed to the other.
-/
import Derived.Test.YtdmclfolooiccaaGreatDoorHpAT
namespace Go.Proofs.YtdmclfolooiccaaGreatDoor.Ls
open Go.Proofs.YtdmclfolooiccaaGreatDoor
set_option maxRecDepth 100000
open Go.RowKit
attribute [local go_sem ↓] Go.wp_at_zero Go.wp_at_succ

/-- Rows that nobody appends to. -/
def tRows (U : Nat → Sl) (F : Nat → List Int) : Thing :=
  ⟨fun b => ∃ j x, j < 3 ∧ 0 < (U j).n ∧ (U j).a = some x ∧ x.block = b, fun w => L3 w w.heap.size U F, fun _ _ h hl hs j hj => ⟨⟨(h j hj).1.1, fun hn => by
    obtain ⟨b, off, e, hb, hc⟩ := (h j hj).1.2 hn
    exact ⟨b, off, e, Nat.lt_of_lt_of_le hb hl, fun i hi => (World.cell?_of_block (a := ⟨b, off + i, none⟩) (hs b ⟨j, _, hj, hn, e, rfl⟩)).trans (hc i hi)⟩⟩, (h j hj).2⟩⟩
theorem Res.rowed {base r : Nat} {W w w' : World} {R : Nat → Option Thing} {U : Nat → Sl} {F : Nat → List Int} (h : Res base W w R) (hw : base ≤ w.heap.size) (hl : L3 w' w'.heap.size U F) (hb : Below w.heap.size w w') (hn : ∀ j x, j < 3 → (U j).a = some x → w.heap.size ≤ x.block) : Res base W w' (upd R r (some (tRows U F))) :=
  h.add hw hb r _ hl (by
    rintro b ⟨j, x, hj, h0, hx, rfl⟩
    refine ⟨hn j x hj hx, ?_⟩
    obtain ⟨b, off, e, hlt, _⟩ := (hl j hj).1.2 h0
    rw [hx] at e
    cases e
    exact hlt)

/-- Between two rounds of Move. -/
structure MvR (w wr : World) (R : Nat → Option Thing) (d1 d2 : Nat) (U V : Nat → Sl) (F G : Nat → List Int) : Prop where
  lst : Lst w.heap.size w wr R d2 V G
  rows : R 3 = some (tRows U F)
  abox : R 4 = some (tBox d1 U)
  res8 : R 2 = some (tBox (w.heap.size + 1 + 1) noSl)
  res9 : R 5 = some (tBox (w.heap.size + 1 + 1 + 1) noSl)
section
variable {w wr w6 w9 : World} {R : Nat → Option Thing} {d1 d2 k : Nat} {U V p : Nat → Sl} {F G F' : Nat → List Int} {s : Sl} {xs : List Int} {o : Obj}
theorem MvR.l3 (h : MvR w wr R d1 d2 U V F G) : L3 wr wr.heap.size U F := (h.lst.res.ok 3 _ h.rows).1
theorem MvR.a (h : MvR w wr R d1 d2 U V F G) : Box3 wr d1 U := h.lst.res.box h.abox
theorem MvR.b8 (h : MvR w wr R d1 d2 U V F G) : Box3 wr (w.heap.size + 1 + 1) noSl := h.lst.res.box h.res8
theorem MvR.b9 (h : MvR w wr R d1 d2 U V F G) : Box3 wr (w.heap.size + 1 + 1 + 1) noSl := h.lst.res.box h.res9
theorem MvR.ne (h : MvR w wr R d1 d2 U V F G) : ¬ d2 = d1 := fun e => h.lst.res.apart 1 4 _ _ h.lst.box h.abox (by decide) d2 rfl e
theorem MvR.popped (h : MvR w wr R d1 d2 U V F G) (hl : L3 w6 w6.heap.size p F') (hb : Below wr.heap.size wr w6) (hn : ∀ j x, j < 3 → (p j).a = some x → wr.heap.size ≤ x.block) :
    ∃ R', MvR w ((put3 w6 d1 p).alloc (.cells #[.slice (p 0).a (p 0).n (p 0).c, .slice (p 1).a (p 1).n (p 1).c, .slice (p 2).a (p 2).n (p 2).c] 25)) R' d1 d2 p V F' G := by
  have hw : w.heap.size ≤ w6.heap.size := Nat.le_trans h.lst.big hb.size
  have R1 := h.lst.res.rowed (r := 3) h.lst.big hl hb hn
  have e4 : upd R 3 (some (tRows p F')) 4 = some (tBox d1 U) := by rw [upd_other _ _ (by decide)]; exact h.abox
  have R2 := (R1.put hw e4 p).next (by rw [put3_size]; exact hw) ((Below.refl _ _).alloc (Nat.le_refl _) (.cells #[.slice (p 0).a (p 0).n (p 0).c, .slice (p 1).a (p 1).n (p 1).c, .slice (p 2).a (p 2).n (p 2).c] 25))
  refine ⟨_, ⟨⟨R2, ?_, ?_, by rw [World.size_alloc, put3_size]; omega⟩, ?_, upd_same _ _ _, ?_, ?_⟩⟩
  · rw [upd_other _ _ (by decide), upd_other _ _ (by decide)]; exact h.lst.own
  · rw [upd_other _ _ (by decide), upd_other _ _ (by decide)]; exact h.lst.box
  · rw [upd_other _ _ (by decide), upd_same]
  · rw [upd_other _ _ (by decide), upd_other _ _ (by decide)]; exact h.res8
  · rw [upd_other _ _ (by decide), upd_other _ _ (by decide)]; exact h.res9
theorem MvR.cat (h : MvR w wr R d1 d2 U V F G) (hk : k < 3) (hc : Catted (wr.alloc o) w.heap.size (.slice (V k).a (V k).n (V k).c) s xs w9) :
    ∃ R', MvR w (w9.setCell ⟨d2, k, none⟩ (.slice s.a s.n s.c)) R' d1 d2 U (upd V k s) F (upd G k xs) := by
  obtain ⟨R', hL, hK⟩ := h.lst.cat hk hc
  exact ⟨R', hL, (hK 3 (by decide)).trans h.rows, (hK 4 (by decide)).trans h.abox, (hK 2 (by decide)).trans h.res8, (hK 5 (by decide)).trans h.res9⟩
theorem MvR.done (h : MvR w wr R d1 d2 U V F G) :
    L3 (put3 (put3 wr (w.heap.size + 1 + 1) U) (w.heap.size + 1 + 1 + 1) V) (put3 (put3 wr (w.heap.size + 1 + 1) U) (w.heap.size + 1 + 1 + 1) V).heap.size U F ∧
    L3 (put3 (put3 wr (w.heap.size + 1 + 1) U) (w.heap.size + 1 + 1 + 1) V) (put3 (put3 wr (w.heap.size + 1 + 1) U) (w.heap.size + 1 + 1 + 1) V).heap.size V G ∧ Below w.heap.size w (put3 (put3 wr (w.heap.size + 1 + 1) U) (w.heap.size + 1 + 1 + 1) V) := by
  have R1 := h.lst.res.put h.lst.big h.res8 U
  have e5 : upd R 2 (some (tBox (w.heap.size + 1 + 1) U)) 5 = some (tBox (w.heap.size + 1 + 1 + 1) noSl) := by rw [upd_other _ _ (by decide)]; exact h.res9
  have R2 := R1.put (by rw [put3_size]; exact h.lst.big) e5 V
  exact ⟨(R2.ok 3 (tRows U F) (by rw [upd_other _ _ (by decide), upd_other _ _ (by decide)]; exact h.rows)).1, (R2.own (r := 0) (by rw [upd_other _ _ (by decide), upd_other _ _ (by decide)]; exact h.lst.own)).l3, R2.bel⟩
end
/-- The four boxes that Move lays first. -/
theorem four_boxes (w : World) (u v : Nat → Sl) :
    (let W := (((w.alloc (.cells #[.slice (u 0).a (u 0).n (u 0).c, .slice (u 1).a (u 1).n (u 1).c, .slice (u 2).a (u 2).n (u 2).c] 25)).alloc (.cells #[.slice (v 0).a (v 0).n (v 0).c, .slice (v 1).a (v 1).n (v 1).c, .slice (v 2).a (v 2).n (v 2).c] 25)).alloc (.cells #[.slice none 0 0, .slice none 0 0, .slice none 0 0] 25)).alloc (.cells #[.slice none 0 0, .slice none 0 0, .slice none 0 0] 25)
     Below w.heap.size w W ∧ Box3 W (w.heap.size + 1) v ∧ w.heap.size + 4 = W.heap.size ∧
     ∃ R, Res w.heap.size w W R ∧ R 2 = some (tBox (w.heap.size + 1 + 1) noSl) ∧ R 5 = some (tBox (w.heap.size + 1 + 1 + 1) noSl) ∧ R 7 = some (tBox (w.heap.size + 1) v)) := by
  intro W
  have R1 := (Res.none_ w w.heap.size).boxed (Nat.le_refl _) u 6
  have R2 := R1.boxed (by simp) v 7
  have R3 := R2.boxed (by simp; omega) noSl 2
  have R4 := R3.boxed (by simp; omega) noSl 5
  have e7 : (upd (upd (upd (upd (fun _ => (none : Option Thing)) 6 (some (tBox w.heap.size u))) 7 (some (tBox (w.alloc (.cells #[.slice (u 0).a (u 0).n (u 0).c, .slice (u 1).a (u 1).n (u 1).c, .slice (u 2).a (u 2).n (u 2).c] 25)).heap.size v))) 2 (some (tBox ((w.alloc (.cells #[.slice (u 0).a (u 0).n (u 0).c, .slice (u 1).a (u 1).n (u 1).c, .slice (u 2).a (u 2).n (u 2).c] 25)).alloc (.cells #[.slice (v 0).a (v 0).n (v 0).c, .slice (v 1).a (v 1).n (v 1).c, .slice (v 2).a (v 2).n (v 2).c] 25)).heap.size noSl))) 5 (some (tBox (((w.alloc (.cells #[.slice (u 0).a (u 0).n (u 0).c, .slice (u 1).a (u 1).n (u 1).c, .slice (u 2).a (u 2).n (u 2).c] 25)).alloc (.cells #[.slice (v 0).a (v 0).n (v 0).c, .slice (v 1).a (v 1).n (v 1).c, .slice (v 2).a (v 2).n (v 2).c] 25)).alloc (.cells #[.slice (noSl 0).a (noSl 0).n (noSl 0).c, .slice (noSl 1).a (noSl 1).n (noSl 1).c, .slice (noSl 2).a (noSl 2).n (noSl 2).c] 25)).heap.size noSl))) 7 = some (tBox (w.heap.size + 1) v) := by
    rw [upd_other _ _ (by decide), upd_other _ _ (by decide), upd_same]
    simp
  refine ⟨R4.bel, R4.box e7, by simp [W], _, R4, ?_, ?_, e7⟩
  · rw [upd_other _ _ (by decide), upd_same]
    simp
  · rw [upd_same]
    simp
theorem moveOut_drew {w W : World} {U V : Nat → Sl} {F G : Nat → List Int} (h1 : L3 W W.heap.size U F) (h2 : L3 W W.heap.size V G) (h3 : Below w.heap.size w W) : MoveOut w F G 0 (.returned (.tuple #[(.agg #[.slice (U 0).a (U 0).n (U 0).c, .slice (U 1).a (U 1).n (U 1).c, .slice (U 2).a (U 2).n (U 2).c]), (.agg #[.slice (V 0).a (V 0).n (V 0).c, .slice (V 1).a (V 1).n (V 1).c, .slice (V 2).a (V 2).n (V 2).c]), .int .i64 0])) W.drew :=
  ⟨U, V, rfl, h1.drewN 1, h2.drewN 1, below_drawn h3 1⟩
theorem MvR.out {w wr : World} {R : Nat → Option Thing} {d1 d2 : Nat} {U V : Nat → Sl} {F G : Nat → List Int} (h : MvR w wr R d1 d2 U V F G) : ∀ W, W = (put3 (put3 wr (w.heap.size + 1 + 1) U) (w.heap.size + 1 + 1 + 1) V).drew → MoveOut w F G 0 (.returned (.tuple #[(.agg #[.slice (U 0).a (U 0).n (U 0).c, .slice (U 1).a (U 1).n (U 1).c, .slice (U 2).a (U 2).n (U 2).c]), (.agg #[.slice (V 0).a (V 0).n (V 0).c, .slice (V 1).a (V 1).n (V 1).c, .slice (V 2).a (V 2).n (V 2).c]), .int .i64 0])) W := by
  rintro W rfl
  exact moveOut_drew h.done.1 h.done.2.1 h.done.2.2
theorem mvr_start {w W w1 w3 : World} {R : Nat → Option Thing} {U0 V0 : Nat → Sl} {f g : Nat → List Int} (hR : Res w.heap.size w W R) (hW : w.heap.size ≤ W.heap.size) (h2 : R 2 = some (tBox (w.heap.size + 1 + 1) noSl)) (h5 : R 5 = some (tBox (w.heap.size + 1 + 1 + 1) noSl))
    (ho : Own3 w1 W.heap.size U0 f) (hb : Below W.heap.size W w1) (ho' : Own3 w3 (w1.alloc (.cells #[.slice (U0 0).a (U0 0).n (U0 0).c, .slice (U0 1).a (U0 1).n (U0 1).c, .slice (U0 2).a (U0 2).n (U0 2).c] 25)).heap.size V0 g) (hb' : Below (w1.alloc (.cells #[.slice (U0 0).a (U0 0).n (U0 0).c, .slice (U0 1).a (U0 1).n (U0 1).c, .slice (U0 2).a (U0 2).n (U0 2).c] 25)).heap.size (w1.alloc (.cells #[.slice (U0 0).a (U0 0).n (U0 0).c, .slice (U0 1).a (U0 1).n (U0 1).c, .slice (U0 2).a (U0 2).n (U0 2).c] 25)) w3) :
    ∃ R', MvR w (w3.alloc (.cells #[.slice (V0 0).a (V0 0).n (V0 0).c, .slice (V0 1).a (V0 1).n (V0 1).c, .slice (V0 2).a (V0 2).n (V0 2).c] 25)) R' w1.heap.size w3.heap.size U0 V0 f g := by
  have s1 := hb.size
  have s3 := hb'.size
  simp at s3
  have R1 := ((hR.rowed (r := 3) hW ho.l3 hb (fun j x hj hx => (ho.block j hj hx).1)).boxed (by omega) U0 4)
  have R2 := (R1.copied (by simp; omega) ho' hb' 0).boxed (by omega) V0 1
  refine ⟨_, ⟨⟨R2, ?_, upd_same _ _ _, by simp; omega⟩, ?_, ?_, ?_, ?_⟩⟩
  · rw [upd_other _ _ (by decide), upd_same]
  · rw [upd_other _ _ (by decide), upd_other _ _ (by decide), upd_other _ _ (by decide), upd_same]
  · rw [upd_other _ _ (by decide), upd_other _ _ (by decide), upd_same]
  · rw [upd_other _ _ (by decide), upd_other _ _ (by decide), upd_other _ _ (by decide), upd_other _ _ (by decide)]; exact h2
  · rw [upd_other _ _ (by decide), upd_other _ _ (by decide), upd_other _ _ (by decide), upd_other _ _ (by decide)]; exact h5
theorem mv_take {f : Nat → List Int} {k j L m' : Nat} (hj : L - j = m' + 1) : upd (upd f k ((f k).take (L - j))) k ((upd f k ((f k).take (L - j)) k).take m') = upd f k ((f k).take (L - (j + 1))) := by
  rw [upd_upd, upd_same, List.take_take]
  congr 2
  omega
theorem mv_drop {f g : Nat → List Int} {k j L m' : Nat} (hL : (f k).length = L) (hj : L - j = m' + 1) : upd (upd g k (g k ++ ((f k).drop (L - j)).reverse)) k (upd g k (g k ++ ((f k).drop (L - j)).reverse) k ++ [(upd f k ((f k).take (L - j)) k).getD m' 0]) = upd g k (g k ++ ((f k).drop (L - (j + 1))).reverse) := by
  rw [upd_upd, upd_same, upd_same]
  congr 1
  have e : (f k).drop (L - (j + 1)) = (f k).getD m' 0 :: (f k).drop (L - j) := by
    rw [show L - (j + 1) = m' by omega, show L - j = m' + 1 by omega, List.drop_eq_getElem_cons (by omega)]
    simp [List.getD, List.getElem?_eq_getElem (show m' < (f k).length by omega)]
  rw [e, List.reverse_cons, List.append_assoc]
  congr 2
  simp [List.getD, show m' < L - j by omega]

theorem mv_none {f : Nat → List Int} {k : Nat} : upd f k ((f k).take ((f k).length - 0)) = f := by
  funext i
  by_cases h : i = k
  · rw [h, upd_same]
    simp
  · exact upd_other _ _ h
theorem mv_none' {f g : Nat → List Int} {k : Nat} : upd g k (g k ++ ((f k).drop ((f k).length - 0)).reverse) = g := by
  funext i
  by_cases h : i = k
  · rw [h, upd_same]
    simp
  · exact upd_other _ _ h
/-- The boxes are apart. -/
theorem MvR.far {w wr : World} {R : Nat → Option Thing} {d1 d2 : Nat} {U V : Nat → Sl} {F G : Nat → List Int} (h : MvR w wr R d1 d2 U V F G) : ¬ d1 = w.heap.size + 1 + 1 ∧ ¬ d1 = w.heap.size + 1 + 1 + 1 ∧ ¬ d2 = w.heap.size + 1 + 1 ∧ ¬ d2 = w.heap.size + 1 + 1 + 1 :=
  ⟨fun e => h.lst.res.apart 4 2 _ _ h.abox h.res8 (by decide) d1 rfl e, fun e => h.lst.res.apart 4 5 _ _ h.abox h.res9 (by decide) d1 rfl e, fun e => h.lst.res.apart 1 2 _ _ h.lst.box h.res8 (by decide) d2 rfl e, fun e => h.lst.res.apart 1 5 _ _ h.lst.box h.res9 (by decide) d2 rfl e⟩

theorem row_lit8 (w : World) (d : Nat) (p : Nat → Sl) (x : Int) : Row (((put3 w d p).alloc (.cells #[.slice (p 0).a (p 0).n (p 0).c, .slice (p 1).a (p 1).n (p 1).c, .slice (p 2).a (p 2).n (p 2).c] 25)).alloc (.cells #[.int .i64 x] 3)) (w.heap.size + 1 + 1) (some ⟨w.heap.size + 1, 0, none⟩) 1 [x] := by
  have := row_lit1 ((put3 w d p).alloc (.cells #[.slice (p 0).a (p 0).n (p 0).c, .slice (p 1).a (p 1).n (p 1).c, .slice (p 2).a (p 2).n (p 2).c] 25)) x
  rwa [World.size_alloc, put3_size] at this
end Go.Proofs.YtdmclfolooiccaaGreatDoor.Ls
