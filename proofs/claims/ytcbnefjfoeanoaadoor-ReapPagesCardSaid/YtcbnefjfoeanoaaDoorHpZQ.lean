/-
  Merged texts: LsRPop, LsRMove, LsRPart.
-/
import Derived.Test.YtcbnefjfoeanoaaDoorHpZH
import Derived.Deep.DrawnRows
section
namespace Go.Proofs.YtcbnefjfoeanoaaDoor.Ls
open Go.Proofs.YtcbnefjfoeanoaaDoor
set_option maxRecDepth 100000
open Go.RowKit
attribute [local go_sem ↓] Go.wp_at_zero Go.wp_at_succ

def RPopOut (w : World) (g : Nat → List Int) (a er : Int) (e : Ending) (w' : World) : Prop := ∃ u, e = .returned (.tuple #[(.agg #[.slice (u 0).a (u 0).n (u 0).c, .slice (u 1).a (u 1).n (u 1).c, .slice (u 2).a (u 2).n (u 2).c]), .int .i64 a, .int .i64 er]) ∧ L3 w' w'.heap.size u g ∧ Below w.heap.size w w' ∧ ∀ j x, j < 3 → (u j).a = some x → w.heap.size ≤ x.block

/-- Where the cut lists lie. -/
theorem cut_lies {w1 : World} {B C k m c : Nat} {v : Nat → Sl} {f : Nat → List Int} {a : Option Addr} (ho : Own3 w1 B v f) (hB : C ≤ B) (hk : k < 3) (ha : (v k).a = a) : ∀ j x, j < 3 → (upd v k ⟨a, m, c⟩ j).a = some x → C ≤ x.block := by
  intro j x hj hx
  by_cases e : j = k
  · subst e
    rw [upd_same] at hx
    have := (ho.block j hj (ha.trans hx)).1
    omega
  · rw [upd_other _ _ e] at hx
    have := (ho.block j hj hx).1
    omega
theorem old_boxes {w w1 : World} {u : Nat → Sl} (hb : Below ((w.alloc (.cells #[.slice (u 0).a (u 0).n (u 0).c, .slice (u 1).a (u 1).n (u 1).c, .slice (u 2).a (u 2).n (u 2).c] 25)).alloc (.cells #[.slice none 0 0, .slice none 0 0, .slice none 0 0] 25)).heap.size ((w.alloc (.cells #[.slice (u 0).a (u 0).n (u 0).c, .slice (u 1).a (u 1).n (u 1).c, .slice (u 2).a (u 2).n (u 2).c] 25)).alloc (.cells #[.slice none 0 0, .slice none 0 0, .slice none 0 0] 25)) w1) :
    Box3 w1 w.heap.size u ∧ Box3 w1 (w.heap.size + 1) noSl ∧ Below w.heap.size w w1 :=
  ⟨((Box3.new w u 25).alloc _).next hb, (two_boxes w u).next hb, (two_below w _ _).trans (hb.mono (two_below w _ _).size)⟩
end Go.Proofs.YtcbnefjfoeanoaaDoor.Ls
end
section
namespace Go.Proofs.YtcbnefjfoeanoaaDoor.Ls
open Go.Proofs.YtcbnefjfoeanoaaDoor
set_option maxRecDepth 100000
open Go.RowKit
attribute [local go_sem ↓] Go.wp_at_zero Go.wp_at_succ

/-- Rows that nobody appends to. -/
def tRows (U : Nat → Sl) (F : Nat → List Int) : Thing :=
  ⟨fun b => ∃ j x, j < 3 ∧ 0 < (U j).n ∧ (U j).a = some x ∧ x.block = b, fun w => L3 w w.heap.size U F, fun _ _ h hl hs j hj => ⟨⟨(h j hj).1.1, fun hn => by
    obtain ⟨b, off, e, hb, hc⟩ := (h j hj).1.2 hn
    exact ⟨b, off, e, Nat.lt_of_lt_of_le hb hl, fun i hi => (World.cell?_of_block (a := ⟨b, off + i, none⟩) (hs b ⟨j, _, hj, hn, e, rfl⟩)).trans (hc i hi)⟩⟩, (h j hj).2⟩⟩
theorem Res.rowed {base r : Nat} {W w w' : World} {R : Nat → Option Thing} {U : Nat → Sl} {F : Nat → List Int} (h : Res base W w R) (hw : base ≤ w.heap.size) (hl : L3 w' w'.heap.size U F) (hb : Below w.heap.size w w') (hn : ∀ j x, j < 3 → (U j).a = some x → w.heap.size ≤ x.block) : Res base W w' (upd R r (some (tRows U F))) :=
  h.add hw hb r _ hl (by
    rintro b ⟨j, x, hj, h0, hx, rfl⟩
    refine ⟨hn j x hj hx, ?_⟩
    obtain ⟨b, off, e, hlt, _⟩ := (hl j hj).1.2 h0
    rw [hx] at e
    cases e
    exact hlt)

/-- Between two rounds of Move. -/
structure MvR (w wr : World) (R : Nat → Option Thing) (d1 d2 : Nat) (U V : Nat → Sl) (F G : Nat → List Int) : Prop where
  lst : Lst w.heap.size w wr R d2 V G
  rows : R 3 = some (tRows U F)
  abox : R 4 = some (tBox d1 U)
  res8 : R 2 = some (tBox (w.heap.size + 1 + 1) noSl)
  res9 : R 5 = some (tBox (w.heap.size + 1 + 1 + 1) noSl)
section
variable {w wr w6 w9 : World} {R : Nat → Option Thing} {d1 d2 k : Nat} {U V p : Nat → Sl} {F G F' : Nat → List Int} {s : Sl} {xs : List Int} {o : Obj}
theorem MvR.l3 (h : MvR w wr R d1 d2 U V F G) : L3 wr wr.heap.size U F := (h.lst.res.ok 3 _ h.rows).1
theorem MvR.a (h : MvR w wr R d1 d2 U V F G) : Box3 wr d1 U := h.lst.res.box h.abox
theorem MvR.b8 (h : MvR w wr R d1 d2 U V F G) : Box3 wr (w.heap.size + 1 + 1) noSl := h.lst.res.box h.res8
theorem MvR.b9 (h : MvR w wr R d1 d2 U V F G) : Box3 wr (w.heap.size + 1 + 1 + 1) noSl := h.lst.res.box h.res9
theorem MvR.ne (h : MvR w wr R d1 d2 U V F G) : ¬ d2 = d1 := fun e => h.lst.res.apart 1 4 _ _ h.lst.box h.abox (by decide) d2 rfl e
theorem MvR.popped (h : MvR w wr R d1 d2 U V F G) (hl : L3 w6 w6.heap.size p F') (hb : Below wr.heap.size wr w6) (hn : ∀ j x, j < 3 → (p j).a = some x → wr.heap.size ≤ x.block) :
    ∃ R', MvR w ((put3 w6 d1 p).alloc (.cells #[.slice (p 0).a (p 0).n (p 0).c, .slice (p 1).a (p 1).n (p 1).c, .slice (p 2).a (p 2).n (p 2).c] 25)) R' d1 d2 p V F' G := by
  have hw : w.heap.size ≤ w6.heap.size := Nat.le_trans h.lst.big hb.size
  have R1 := h.lst.res.rowed (r := 3) h.lst.big hl hb hn
  have e4 : upd R 3 (some (tRows p F')) 4 = some (tBox d1 U) := by rw [upd_other _ _ (by decide)]; exact h.abox
  have R2 := (R1.put hw e4 p).next (by rw [put3_size]; exact hw) ((Below.refl _ _).alloc (Nat.le_refl _) (.cells #[.slice (p 0).a (p 0).n (p 0).c, .slice (p 1).a (p 1).n (p 1).c, .slice (p 2).a (p 2).n (p 2).c] 25))
  refine ⟨_, ⟨⟨R2, ?_, ?_, by rw [World.size_alloc, put3_size]; omega⟩, ?_, upd_same _ _ _, ?_, ?_⟩⟩
  · rw [upd_other _ _ (by decide), upd_other _ _ (by decide)]; exact h.lst.own
  · rw [upd_other _ _ (by decide), upd_other _ _ (by decide)]; exact h.lst.box
  · rw [upd_other _ _ (by decide), upd_same]
  · rw [upd_other _ _ (by decide), upd_other _ _ (by decide)]; exact h.res8
  · rw [upd_other _ _ (by decide), upd_other _ _ (by decide)]; exact h.res9
theorem MvR.cat (h : MvR w wr R d1 d2 U V F G) (hk : k < 3) (hc : Catted (wr.alloc o) w.heap.size (.slice (V k).a (V k).n (V k).c) s xs w9) :
    ∃ R', MvR w (w9.setCell ⟨d2, k, none⟩ (.slice s.a s.n s.c)) R' d1 d2 U (upd V k s) F (upd G k xs) := by
  obtain ⟨R', hL, hK⟩ := h.lst.cat hk hc
  exact ⟨R', hL, (hK 3 (by decide)).trans h.rows, (hK 4 (by decide)).trans h.abox, (hK 2 (by decide)).trans h.res8, (hK 5 (by decide)).trans h.res9⟩
theorem MvR.done (h : MvR w wr R d1 d2 U V F G) :
    L3 (put3 (put3 wr (w.heap.size + 1 + 1) U) (w.heap.size + 1 + 1 + 1) V) (put3 (put3 wr (w.heap.size + 1 + 1) U) (w.heap.size + 1 + 1 + 1) V).heap.size U F ∧
    L3 (put3 (put3 wr (w.heap.size + 1 + 1) U) (w.heap.size + 1 + 1 + 1) V) (put3 (put3 wr (w.heap.size + 1 + 1) U) (w.heap.size + 1 + 1 + 1) V).heap.size V G ∧ Below w.heap.size w (put3 (put3 wr (w.heap.size + 1 + 1) U) (w.heap.size + 1 + 1 + 1) V) := by
  have R1 := h.lst.res.put h.lst.big h.res8 U
  have e5 : upd R 2 (some (tBox (w.heap.size + 1 + 1) U)) 5 = some (tBox (w.heap.size + 1 + 1 + 1) noSl) := by rw [upd_other _ _ (by decide)]; exact h.res9
  have R2 := R1.put (by rw [put3_size]; exact h.lst.big) e5 V
  exact ⟨(R2.ok 3 (tRows U F) (by rw [upd_other _ _ (by decide), upd_other _ _ (by decide)]; exact h.rows)).1, (R2.own (r := 0) (by rw [upd_other _ _ (by decide), upd_other _ _ (by decide)]; exact h.lst.own)).l3, R2.bel⟩
end
/-- The four boxes that Move lays first. -/
theorem four_boxes (w : World) (u v : Nat → Sl) :
    (let W := (((w.alloc (.cells #[.slice (u 0).a (u 0).n (u 0).c, .slice (u 1).a (u 1).n (u 1).c, .slice (u 2).a (u 2).n (u 2).c] 25)).alloc (.cells #[.slice (v 0).a (v 0).n (v 0).c, .slice (v 1).a (v 1).n (v 1).c, .slice (v 2).a (v 2).n (v 2).c] 25)).alloc (.cells #[.slice none 0 0, .slice none 0 0, .slice none 0 0] 25)).alloc (.cells #[.slice none 0 0, .slice none 0 0, .slice none 0 0] 25)
     Below w.heap.size w W ∧ Box3 W (w.heap.size + 1) v ∧ w.heap.size + 4 = W.heap.size ∧
     ∃ R, Res w.heap.size w W R ∧ R 2 = some (tBox (w.heap.size + 1 + 1) noSl) ∧ R 5 = some (tBox (w.heap.size + 1 + 1 + 1) noSl) ∧ R 7 = some (tBox (w.heap.size + 1) v)) := by
  intro W
  have R1 := (Res.none_ w w.heap.size).boxed (Nat.le_refl _) u 6
  have R2 := R1.boxed (by simp) v 7
  have R3 := R2.boxed (by simp; omega) noSl 2
  have R4 := R3.boxed (by simp; omega) noSl 5
  have e7 : (upd (upd (upd (upd (fun _ => (none : Option Thing)) 6 (some (tBox w.heap.size u))) 7 (some (tBox (w.alloc (.cells #[.slice (u 0).a (u 0).n (u 0).c, .slice (u 1).a (u 1).n (u 1).c, .slice (u 2).a (u 2).n (u 2).c] 25)).heap.size v))) 2 (some (tBox ((w.alloc (.cells #[.slice (u 0).a (u 0).n (u 0).c, .slice (u 1).a (u 1).n (u 1).c, .slice (u 2).a (u 2).n (u 2).c] 25)).alloc (.cells #[.slice (v 0).a (v 0).n (v 0).c, .slice (v 1).a (v 1).n (v 1).c, .slice (v 2).a (v 2).n (v 2).c] 25)).heap.size noSl))) 5 (some (tBox (((w.alloc (.cells #[.slice (u 0).a (u 0).n (u 0).c, .slice (u 1).a (u 1).n (u 1).c, .slice (u 2).a (u 2).n (u 2).c] 25)).alloc (.cells #[.slice (v 0).a (v 0).n (v 0).c, .slice (v 1).a (v 1).n (v 1).c, .slice (v 2).a (v 2).n (v 2).c] 25)).alloc (.cells #[.slice (noSl 0).a (noSl 0).n (noSl 0).c, .slice (noSl 1).a (noSl 1).n (noSl 1).c, .slice (noSl 2).a (noSl 2).n (noSl 2).c] 25)).heap.size noSl))) 7 = some (tBox (w.heap.size + 1) v) := by
    rw [upd_other _ _ (by decide), upd_other _ _ (by decide), upd_same]
    simp
  refine ⟨R4.bel, R4.box e7, by simp [W], _, R4, ?_, ?_, e7⟩
  · rw [upd_other _ _ (by decide), upd_same]
    simp
  · rw [upd_same]
    simp
theorem moveOut_drew {w W : World} {U V : Nat → Sl} {F G : Nat → List Int} (h1 : L3 W W.heap.size U F) (h2 : L3 W W.heap.size V G) (h3 : Below w.heap.size w W) : MoveOut w F G 0 (.returned (.tuple #[(.agg #[.slice (U 0).a (U 0).n (U 0).c, .slice (U 1).a (U 1).n (U 1).c, .slice (U 2).a (U 2).n (U 2).c]), (.agg #[.slice (V 0).a (V 0).n (V 0).c, .slice (V 1).a (V 1).n (V 1).c, .slice (V 2).a (V 2).n (V 2).c]), .int .i64 0])) W.drew :=
  ⟨U, V, rfl, h1.drewN 1, h2.drewN 1, below_drawn h3 1⟩
theorem MvR.out {w wr : World} {R : Nat → Option Thing} {d1 d2 : Nat} {U V : Nat → Sl} {F G : Nat → List Int} (h : MvR w wr R d1 d2 U V F G) : ∀ W, W = (put3 (put3 wr (w.heap.size + 1 + 1) U) (w.heap.size + 1 + 1 + 1) V).drew → MoveOut w F G 0 (.returned (.tuple #[(.agg #[.slice (U 0).a (U 0).n (U 0).c, .slice (U 1).a (U 1).n (U 1).c, .slice (U 2).a (U 2).n (U 2).c]), (.agg #[.slice (V 0).a (V 0).n (V 0).c, .slice (V 1).a (V 1).n (V 1).c, .slice (V 2).a (V 2).n (V 2).c]), .int .i64 0])) W := by
  rintro W rfl
  exact moveOut_drew h.done.1 h.done.2.1 h.done.2.2
theorem mvr_start {w W w1 w3 : World} {R : Nat → Option Thing} {U0 V0 : Nat → Sl} {f g : Nat → List Int} (hR : Res w.heap.size w W R) (hW : w.heap.size ≤ W.heap.size) (h2 : R 2 = some (tBox (w.heap.size + 1 + 1) noSl)) (h5 : R 5 = some (tBox (w.heap.size + 1 + 1 + 1) noSl))
    (ho : Own3 w1 W.heap.size U0 f) (hb : Below W.heap.size W w1) (ho' : Own3 w3 (w1.alloc (.cells #[.slice (U0 0).a (U0 0).n (U0 0).c, .slice (U0 1).a (U0 1).n (U0 1).c, .slice (U0 2).a (U0 2).n (U0 2).c] 25)).heap.size V0 g) (hb' : Below (w1.alloc (.cells #[.slice (U0 0).a (U0 0).n (U0 0).c, .slice (U0 1).a (U0 1).n (U0 1).c, .slice (U0 2).a (U0 2).n (U0 2).c] 25)).heap.size (w1.alloc (.cells #[.slice (U0 0).a (U0 0).n (U0 0).c, .slice (U0 1).a (U0 1).n (U0 1).c, .slice (U0 2).a (U0 2).n (U0 2).c] 25)) w3) :
    ∃ R', MvR w (w3.alloc (.cells #[.slice (V0 0).a (V0 0).n (V0 0).c, .slice (V0 1).a (V0 1).n (V0 1).c, .slice (V0 2).a (V0 2).n (V0 2).c] 25)) R' w1.heap.size w3.heap.size U0 V0 f g := by
  have s1 := hb.size
  have s3 := hb'.size
  simp at s3
  have R1 := ((hR.rowed (r := 3) hW ho.l3 hb (fun j x hj hx => (ho.block j hj hx).1)).boxed (by omega) U0 4)
  have R2 := (R1.copied (by simp; omega) ho' hb' 0).boxed (by omega) V0 1
  refine ⟨_, ⟨⟨R2, ?_, upd_same _ _ _, by simp; omega⟩, ?_, ?_, ?_, ?_⟩⟩
  · rw [upd_other _ _ (by decide), upd_same]
  · rw [upd_other _ _ (by decide), upd_other _ _ (by decide), upd_other _ _ (by decide), upd_same]
  · rw [upd_other _ _ (by decide), upd_other _ _ (by decide), upd_same]
  · rw [upd_other _ _ (by decide), upd_other _ _ (by decide), upd_other _ _ (by decide), upd_other _ _ (by decide)]; exact h2
  · rw [upd_other _ _ (by decide), upd_other _ _ (by decide), upd_other _ _ (by decide), upd_other _ _ (by decide)]; exact h5
theorem mv_take {f : Nat → List Int} {k j L m' : Nat} (hj : L - j = m' + 1) : upd (upd f k ((f k).take (L - j))) k ((upd f k ((f k).take (L - j)) k).take m') = upd f k ((f k).take (L - (j + 1))) := by
  rw [upd_upd, upd_same, List.take_take]
  congr 2
  omega
theorem mv_drop {f g : Nat → List Int} {k j L m' : Nat} (hL : (f k).length = L) (hj : L - j = m' + 1) : upd (upd g k (g k ++ ((f k).drop (L - j)).reverse)) k (upd g k (g k ++ ((f k).drop (L - j)).reverse) k ++ [(upd f k ((f k).take (L - j)) k).getD m' 0]) = upd g k (g k ++ ((f k).drop (L - (j + 1))).reverse) := by
  rw [upd_upd, upd_same, upd_same]
  congr 1
  have e : (f k).drop (L - (j + 1)) = (f k).getD m' 0 :: (f k).drop (L - j) := by
    rw [show L - (j + 1) = m' by omega, show L - j = m' + 1 by omega, List.drop_eq_getElem_cons (by omega)]
    simp [List.getD, List.getElem?_eq_getElem (show m' < (f k).length by omega)]
  rw [e, List.reverse_cons, List.append_assoc]
  congr 2
  simp [List.getD, show m' < L - j by omega]

theorem mv_none {f : Nat → List Int} {k : Nat} : upd f k ((f k).take ((f k).length - 0)) = f := by
  funext i
  by_cases h : i = k
  · rw [h, upd_same]
    simp
  · exact upd_other _ _ h
theorem mv_none' {f g : Nat → List Int} {k : Nat} : upd g k (g k ++ ((f k).drop ((f k).length - 0)).reverse) = g := by
  funext i
  by_cases h : i = k
  · rw [h, upd_same]
    simp
  · exact upd_other _ _ h
/-- The boxes are apart. -/
theorem MvR.far {w wr : World} {R : Nat → Option Thing} {d1 d2 : Nat} {U V : Nat → Sl} {F G : Nat → List Int} (h : MvR w wr R d1 d2 U V F G) : ¬ d1 = w.heap.size + 1 + 1 ∧ ¬ d1 = w.heap.size + 1 + 1 + 1 ∧ ¬ d2 = w.heap.size + 1 + 1 ∧ ¬ d2 = w.heap.size + 1 + 1 + 1 :=
  ⟨fun e => h.lst.res.apart 4 2 _ _ h.abox h.res8 (by decide) d1 rfl e, fun e => h.lst.res.apart 4 5 _ _ h.abox h.res9 (by decide) d1 rfl e, fun e => h.lst.res.apart 1 2 _ _ h.lst.box h.res8 (by decide) d2 rfl e, fun e => h.lst.res.apart 1 5 _ _ h.lst.box h.res9 (by decide) d2 rfl e⟩

theorem row_lit8 (w : World) (d : Nat) (p : Nat → Sl) (x : Int) : Row (((put3 w d p).alloc (.cells #[.slice (p 0).a (p 0).n (p 0).c, .slice (p 1).a (p 1).n (p 1).c, .slice (p 2).a (p 2).n (p 2).c] 25)).alloc (.cells #[.int .i64 x] 3)) (w.heap.size + 1 + 1) (some ⟨w.heap.size + 1, 0, none⟩) 1 [x] := by
  have := row_lit1 ((put3 w d p).alloc (.cells #[.slice (p 0).a (p 0).n (p 0).c, .slice (p 1).a (p 1).n (p 1).c, .slice (p 2).a (p 2).n (p 2).c] 25)) x
  rwa [World.size_alloc, put3_size] at this
end Go.Proofs.YtcbnefjfoeanoaaDoor.Ls
end
section
namespace Go.Proofs.YtcbnefjfoeanoaaDoor.Ls
open Go.Proofs.YtcbnefjfoeanoaaDoor
set_option maxRecDepth 100000
open Go.RowKit

/-- A slice of one's own. -/
def tOne (base : Nat) (p : Sl) (zs : List Int) : Thing :=
  ⟨fun b => ∃ x, p.a = some x ∧ x.block = b, fun w => w.ownsRow base 3 1 (.slice p.a p.n p.c) p.n (zs.map (Value.int .i64)), fun _ _ h _ hs => World.ownsRow.same h (fun g hg _ => hs g (by
    rw [ownBlock_slice] at hg
    cases hx : p.a with
    | none => rw [hx] at hg; cases hg
    | some x =>
      rw [hx] at hg
      simp at hg
      exact ⟨x, rfl, hg⟩))⟩
structure PtR (w wr : World) (R : Nat → Option Thing) (d : Nat) (u V : Nat → Sl) (G : Nat → List Int) (p : Sl) (zs : List Int) : Prop where
  lst : Lst w.heap.size w wr R d V G
  part : R 4 = some (tOne w.heap.size p zs)
  ubox : R 3 = some (tBox w.heap.size u)
  res8 : R 2 = some (tBox (w.heap.size + 1) noSl)
section
variable {w wr w2 : World} {R : Nat → Option Thing} {d k : Nat} {u V : Nat → Sl} {G : Nat → List Int} {p s : Sl} {zs xs : List Int} {o : Obj}
theorem PtR.own (h : PtR w wr R d u V G p zs) : wr.ownsRow w.heap.size 3 1 (.slice p.a p.n p.c) p.n (zs.map (Value.int .i64)) := (h.lst.res.ok 4 _ h.part).1
theorem PtR.ub (h : PtR w wr R d u V G p zs) : Box3 wr w.heap.size u := h.lst.res.box h.ubox
theorem PtR.b8 (h : PtR w wr R d u V G p zs) : Box3 wr (w.heap.size + 1) noSl := h.lst.res.box h.res8
theorem PtR.len (h : PtR w wr R d u V G p zs) : p.n = zs.length := by have := h.own.1; simpa using this.symm
theorem PtR.row (h : PtR w wr R d u V G p zs) (o : Obj) : (wr.alloc o).ownsRow w.heap.size 3 1 (.slice p.a p.n p.c) p.n (zs.map (Value.int .i64)) :=
  World.ownsRow.same h.own (fun _ _ hlt => Below.heap_alloc _ _ _ hlt)
/-- Not in: appended to the class. -/
theorem PtR.no (h : PtR w wr R d u V G p zs) (hk : k < 3) (hc : Catted (wr.alloc o) w.heap.size (.slice (V k).a (V k).n (V k).c) s xs w2) :
    ∃ R', PtR w (w2.setCell ⟨d, k, none⟩ (.slice s.a s.n s.c)) R' d u (upd V k s) (upd G k xs) p zs := by
  obtain ⟨R', hL, hK⟩ := h.lst.cat hk hc
  exact ⟨R', hL, (hK 4 (by decide)).trans h.part, (hK 3 (by decide)).trans h.ubox, (hK 2 (by decide)).trans h.res8⟩
/-- In: appended to those that are parted. -/
theorem PtR.yes (h : PtR w wr R d u V G p zs) (hc : Catted (wr.alloc o) w.heap.size (.slice p.a p.n p.c) s xs w2) : ∃ R', PtR w w2 R' d u V G s xs := by
  have hs : (wr.alloc o).heap.size = wr.heap.size + 1 := by simp
  have R1 := h.lst.res.change (w' := w2) h.lst.big h.part (hc.grown.os.trans rfl) (hc.grown.tape.trans rfl) (hc.grown.output.trans rfl) (by have := hc.grown.size; omega) (fun b hb hbk => by
    refine (hc.grown.block b (by omega) (fun e => hbk ?_)).trans (Below.heap_alloc _ _ _ hb)
    rw [ownBlock_slice] at e
    cases hx : p.a with
    | none => rw [hx] at e; cases e
    | some x =>
      rw [hx] at e
      simp at e
      exact ⟨x, hx, e.symm⟩) (tOne w.heap.size s xs) hc.own (fun b ⟨x, hx, e⟩ => by
    subst e
    refine ⟨?_, (own_block hc.own hx).2⟩
    rcases hc.lies x hx with e | e
    · left
      rw [ownBlock_slice] at e
      cases hy : p.a with
      | none => rw [hy] at e; cases e
      | some y =>
        rw [hy] at e
        simp at e
        exact ⟨y, hy, e⟩
    · right
      omega)
  refine ⟨_, ⟨R1, ?_, ?_, by have := h.lst.big; have := hc.grown.size; omega⟩, upd_same _ _ _, ?_, ?_⟩
  · rw [upd_other _ _ (by decide)]; exact h.lst.own
  · rw [upd_other _ _ (by decide)]; exact h.lst.box
  · rw [upd_other _ _ (by decide)]; exact h.ubox
  · rw [upd_other _ _ (by decide)]; exact h.res8
theorem PtR.out (h : PtR w wr R d u V G p zs) : ∀ W, W = put3 wr (w.heap.size + 1) V → PartOut w G zs 0 (.returned (.tuple #[(.agg #[.slice (V 0).a (V 0).n (V 0).c, .slice (V 1).a (V 1).n (V 1).c, .slice (V 2).a (V 2).n (V 2).c]), .slice p.a p.n p.c, .int .i64 0])) W := by
  rintro W rfl
  have R1 := h.lst.res.put h.lst.big h.res8 V
  have O := R1.own (r := 0) (by rw [upd_other _ _ (by decide)]; exact h.lst.own)
  have P := (R1.ok 4 (tOne w.heap.size p zs) (by rw [upd_other _ _ (by decide)]; exact h.part)).1
  obtain ⟨a1, c1, e1, r1, l1, m1⟩ := owns_row P
  simp only [Value.slice.injEq, true_and] at e1
  obtain ⟨rfl, rfl⟩ := e1
  exact ⟨V, p, rfl, O.l3, ⟨r1, l1, m1⟩, R1.bel⟩
end
/-- The class's slice is set to none; nothing is parted yet. -/
theorem ptr_start {w w1 : World} {u v : Nat → Sl} {f : Nat → List Int} {k : Nat} (hk : k < 3) (ho : Own3 w1 ((w.alloc (.cells #[.slice (u 0).a (u 0).n (u 0).c, .slice (u 1).a (u 1).n (u 1).c, .slice (u 2).a (u 2).n (u 2).c] 25)).alloc (.cells #[.slice none 0 0, .slice none 0 0, .slice none 0 0] 25)).heap.size v f)
    (hb : Below ((w.alloc (.cells #[.slice (u 0).a (u 0).n (u 0).c, .slice (u 1).a (u 1).n (u 1).c, .slice (u 2).a (u 2).n (u 2).c] 25)).alloc (.cells #[.slice none 0 0, .slice none 0 0, .slice none 0 0] 25)).heap.size ((w.alloc (.cells #[.slice (u 0).a (u 0).n (u 0).c, .slice (u 1).a (u 1).n (u 1).c, .slice (u 2).a (u 2).n (u 2).c] 25)).alloc (.cells #[.slice none 0 0, .slice none 0 0, .slice none 0 0] 25)) w1) :
    ∃ R, PtR w (w1.alloc (.cells #[.slice (upd v k ⟨none, 0, 0⟩ 0).a (upd v k ⟨none, 0, 0⟩ 0).n (upd v k ⟨none, 0, 0⟩ 0).c, .slice (upd v k ⟨none, 0, 0⟩ 1).a (upd v k ⟨none, 0, 0⟩ 1).n (upd v k ⟨none, 0, 0⟩ 1).c, .slice (upd v k ⟨none, 0, 0⟩ 2).a (upd v k ⟨none, 0, 0⟩ 2).n (upd v k ⟨none, 0, 0⟩ 2).c] 25)) R w1.heap.size u (upd v k ⟨none, 0, 0⟩) (upd f k []) ⟨none, 0, 0⟩ [] := by
  have hs : w.heap.size ≤ w1.heap.size := by have := hb.size; simp at this; omega
  have R1 := (Res.none_ w w.heap.size).boxed (Nat.le_refl _) u 3
  have R2 := R1.boxed (by simp) noSl 2
  have R3 := (R2.next (by simp; omega) hb)
  have ho' : Own3 w1 w.heap.size (upd v k ⟨none, 0, 0⟩) (upd f k []) := by
    refine ⟨fun j hj => ?_, fun i j hi hj hij x y hx hy => ?_⟩
    · by_cases e : j = k
      · subst e
        rw [upd_same, upd_same]
        exact World.ownsRow_nil _ _ _ _
      · rw [upd_other _ _ e, upd_other _ _ e]
        exact (ho.less (by simp; omega)).own j hj
    · by_cases e : i = k
      · subst e
        rw [upd_same] at hx
        cases hx
      · by_cases e' : j = k
        · subst e'
          rw [upd_same] at hy
          cases hy
        · rw [upd_other _ _ e] at hx
          rw [upd_other _ _ e'] at hy
          exact ho.apart i j hi hj hij x y hx hy
  have R4 := ((R2.add (by simp; omega) hb 0 (tOwn w.heap.size (upd v k ⟨none, 0, 0⟩) (upd f k [])) ho' (by
    rintro b ⟨j, x, hj, hx, rfl⟩
    by_cases e : j = k
    · subst e
      rw [upd_same] at hx
      cases hx
    · rw [upd_other _ _ e] at hx
      exact ho.block j hj hx)).boxed hs (upd v k ⟨none, 0, 0⟩) 1).add (w' := w1.alloc (.cells #[.slice (upd v k ⟨none, 0, 0⟩ 0).a (upd v k ⟨none, 0, 0⟩ 0).n (upd v k ⟨none, 0, 0⟩ 0).c, .slice (upd v k ⟨none, 0, 0⟩ 1).a (upd v k ⟨none, 0, 0⟩ 1).n (upd v k ⟨none, 0, 0⟩ 1).c, .slice (upd v k ⟨none, 0, 0⟩ 2).a (upd v k ⟨none, 0, 0⟩ 2).n (upd v k ⟨none, 0, 0⟩ 2).c] 25)) (by simp; omega) (Below.refl _ _) 4 (tOne w.heap.size ⟨none, 0, 0⟩ []) (World.ownsRow_nil _ _ _ _) (by rintro b ⟨x, hx, _⟩; cases hx)
  refine ⟨_, ⟨R4, ?_, ?_, by simp; omega⟩, upd_same _ _ _, ?_, ?_⟩
  · rw [upd_other _ _ (by decide), upd_other _ _ (by decide), upd_same]
  · rw [upd_other _ _ (by decide), upd_same]
  · rw [upd_other _ _ (by decide), upd_other _ _ (by decide), upd_other _ _ (by decide), upd_other _ _ (by decide), upd_same]
  · rw [upd_other _ _ (by decide), upd_other _ _ (by decide), upd_other _ _ (by decide), upd_same]
    simp
theorem out_next {low high a : Int} {xs : List Int} {k n : Nat} (hl : xs.length = n) (hk : k < n) (ha : a = xs.getD k 0) (hi : isIn low high a = false) : outOf low high (xs.take (k + 1)) = outOf low high (xs.take k) ++ [a] ∧ inOf low high (xs.take (k + 1)) = inOf low high (xs.take k) := by
  rw [take_next hl hk, ← ha]
  exact ⟨by simp [outOf, hi], by simp [inOf, hi]⟩
theorem in_next {low high a : Int} {xs : List Int} {k n : Nat} (hl : xs.length = n) (hk : k < n) (ha : a = xs.getD k 0) (hi : isIn low high a = true) : inOf low high (xs.take (k + 1)) = inOf low high (xs.take k) ++ [a] ∧ outOf low high (xs.take (k + 1)) = outOf low high (xs.take k) := by
  rw [take_next hl hk, ← ha]
  exact ⟨by simp [inOf, hi], by simp [outOf, hi]⟩
theorem in_len {low high : Int} {xs : List Int} {k : Nat} : (inOf low high (xs.take k)).length ≤ k ∧ (outOf low high (xs.take k)).length ≤ k := by
  have h3 := List.length_filter_le (fun a => !isIn low high a) (xs.take k)
  have h4 := List.length_filter_le (isIn low high) (xs.take k)
  have h5 : (xs.take k).length ≤ k := by simp; omega
  unfold inOf outOf
  omega

theorem rpart_bad (u : Nat → Sl) (k low high : Int) (w : World) (hk : isCl k = false) :
    Calls Tryd.prog 15 #[(.agg #[.slice (u 0).a (u 0).n (u 0).c, .slice (u 1).a (u 1).n (u 1).c, .slice (u 2).a (u 2).n (u 2).c]), .int .i64 k, .int .i64 low, .int .i64 high] w (PartOut w noLists [] 1) := by
  have hnone : (0 : Nat) ≤ maxLen := by unfold maxLen; omega
  rcases isCl_no hk with h | h
  · have d1 : decide (k < 0) = true := by simp; omega
    clear hk h
    go_enter Tryd.func15, Tryd.ntmps15
    go_wp2
    refine bodyPost_ret (v := .tuple #[(.agg #[.slice (noSl 0).a (noSl 0).n (noSl 0).c, .slice (noSl 1).a (noSl 1).n (noSl 1).c, .slice (noSl 2).a (noSl 2).n (noSl 2).c]), .slice none 0 0, .int .i64 1]) ?_ rfl ?_
    rotate_left
    · exact ⟨noSl, ⟨none, 0, 0⟩, rfl, L3.none_ _ _, ⟨Row.none_ _ _, Nat.le_refl _, hnone⟩, two_below _ _ _⟩
    simp [results, Tryd.results15, go_sem, noSl]
  · have d1 : decide (k < 0) = false := by simp; omega
    have d2 : decide (2 < k) = true := by simp; omega
    clear hk h
    go_enter Tryd.func15, Tryd.ntmps15
    go_wp2
    refine bodyPost_ret (v := .tuple #[(.agg #[.slice (noSl 0).a (noSl 0).n (noSl 0).c, .slice (noSl 1).a (noSl 1).n (noSl 1).c, .slice (noSl 2).a (noSl 2).n (noSl 2).c]), .slice none 0 0, .int .i64 1]) ?_ rfl ?_
    rotate_left
    · exact ⟨noSl, ⟨none, 0, 0⟩, rfl, L3.none_ _ _, ⟨Row.none_ _ _, Nat.le_refl _, hnone⟩, two_below _ _ _⟩
    simp [results, Tryd.results15, go_sem, noSl]
set_option maxHeartbeats 1000000 in
theorem rpart_ok0 (B : Nat) (u : Nat → Sl) (f : Nat → List Int) (low high : Int) (w : World) (h : L3 w B u f) (hB : B ≤ w.heap.size) (hn : ∀ j, j < 3 → (u j).n ≤ 2000000) :
    Calls Tryd.prog 15 #[(.agg #[.slice (u 0).a (u 0).n (u 0).c, .slice (u 1).a (u 1).n (u 1).c, .slice (u 2).a (u 2).n (u 2).c]), .int .i64 0, .int .i64 low, .int .i64 high] w (PartOut w (upd f 0 (outOf low high (f 0))) (inOf low high (f 0)) 0) := by
  have HL := Lib.hid h
  have HN := Lib.hid hn
  have hun := hn 0 (by decide)
  have HUL := Lib.hid (h.len 0 (by decide))
  clear h hn
  go_enter Tryd.func15, Tryd.ntmps15
  go_wp2_with fail
  have b0 := two_below w (.cells #[.slice (u 0).a (u 0).n (u 0).c, .slice (u 1).a (u 1).n (u 1).c, .slice (u 2).a (u 2).n (u 2).c] 25) (.cells #[.slice none 0 0, .slice none 0 0, .slice none 0 0] 25)
  refine (rown_any B u f _ (HL.out.over b0 hB) (by simp; omega) HN.out).mono ?_
  rintro e w1 ⟨v, rfl, ho, hb⟩
  obtain ⟨R0, hM⟩ := ptr_start (k := 0) (by decide) ho hb
  have HM := Lib.hid hM
  clear b0 ho hb hM
  go_wp2
  obtain ⟨A, hA0⟩ : ∃ A, (u 0).a = A := ⟨_, rfl⟩
  rw [hA0]
  have HA0 := Lib.hid hA0
  clear hA0
  go_loopw [12, 13, 14] (fun x y _ wr => ∃ (q : Nat) (V : Nat → Sl) (p : Sl) (R : Nat → Option Thing), q ≤ (u 0).n ∧ x = .slice p.a p.n p.c ∧ y = .int .i64 q ∧ Hid (PtR w wr R w1.heap.size u V (upd f 0 (outOf low high ((f 0).take q))) p (inOf low high ((f 0).take q)))) (fun _ y _ _ => (u 0).n - (intOf y).toNat)
  case atStart => exact ⟨0, _, ⟨none, 0, 0⟩, R0, Nat.zero_le _, rfl, rfl, HM⟩
  case round =>
    obtain ⟨q, V, p, R, hq, rfl, rfl, HC⟩ := hrel
    have XU := HC.out.ub
    have c0 := XU.cell 0 (by decide)
    rw [HA0.out] at c0
    have cl := XU.lt
    have XD := HC.out.lst.boxed
    have HFL := Lib.hid HUL.out.symm
    by_cases hlt : q < (u 0).n
    · have hrow := HC.out.lst.arg (HL.out 0 (by decide)).1 hB
      rw [HA0.out] at hrow
      obtain ⟨b, off, rfl, hb, hcell⟩ := hrow.2 (by omega)
      have hq1 := hcell q hlt
      obtain ⟨a, ha⟩ : ∃ a, a = (f 0).getD q 0 := ⟨_, rfl⟩
      rw [← ha] at hq1
      have HAA := Lib.hid ha
      have hbw : b < wr.heap.size := by have := HC.out.lst.big; omega
      have hbig := HC.out.lst.big
      have hlen := in_len (low := low) (high := high) (xs := f 0) (k := q)
      have hpn : p.n + 1 ≤ 4000000 := by have := HC.out.len; omega
      have hVn : (V 0).n + 1 ≤ 4000000 := by
        have := HC.out.lst.len (k := 0) (by decide)
        rw [upd_same] at this
        omega
      have e0 := XD.cell 0 (by decide)
      have ef := XD.free 0
      have el := XD.lt
      clear hcell ha XU XD hlen hrow
      cases hi : isIn low high a
      · have hno : ¬ (low ≤ a ∧ a < high) := by simpa [isIn] using hi
        have HI := Lib.hid hi
        clear hi
        by_cases h1 : a < low
        · have g1 : decide (a < low) = true := by simp; omega
          clear hno h1
          go_wp2_with (at_builtin; refine list_cat rfl (.tmp 51) (.tmp 53) rfl rfl rfl (HC.out.lst.row (k := 0) _ (by decide)) (row_lit1 wr a) (by simp; omega) (by omega) ?_)
          intro p' cp' w2 hc
          obtain ⟨R2, h2⟩ := HC.out.no (k := 0) (by decide) hc
          obtain ⟨M2, _⟩ := HC.out.lst.mid (k := 0) (by decide) hc
          have k0 := M2.cell 0 (by decide)
          have kf := M2.free 0
          have kl := M2.lt
          have H2 := Lib.hid h2
          clear hc h2 M2 e0 ef el c0
          go_wp2
          go_roundw
          case rel =>
            have h2 := H2.out
            obtain ⟨e1, e2⟩ := out_next HFL.out hlt HAA.out HI.out
            rw [upd_same, upd_upd, ← e1, ← e2] at h2
            exact ⟨q + 1, _, p, R2, by omega, rfl, by go_num, Lib.hid h2⟩
          case measure => simp [intOf]; omega
        · have g1 : decide (a < low) = false := by simp; omega
          have g2 : decide (high ≤ a) = true := by simp; omega
          clear hno h1
          go_wp2_with (at_builtin; refine list_cat rfl (.tmp 51) (.tmp 53) rfl rfl rfl (HC.out.lst.row (k := 0) _ (by decide)) (row_lit1 wr a) (by simp; omega) (by omega) ?_)
          intro p' cp' w2 hc
          obtain ⟨R2, h2⟩ := HC.out.no (k := 0) (by decide) hc
          obtain ⟨M2, _⟩ := HC.out.lst.mid (k := 0) (by decide) hc
          have k0 := M2.cell 0 (by decide)
          have kf := M2.free 0
          have kl := M2.lt
          have H2 := Lib.hid h2
          clear hc h2 M2 e0 ef el c0
          go_wp2
          go_roundw
          case rel =>
            have h2 := H2.out
            obtain ⟨e1, e2⟩ := out_next HFL.out hlt HAA.out HI.out
            rw [upd_same, upd_upd, ← e1, ← e2] at h2
            exact ⟨q + 1, _, p, R2, by omega, rfl, by go_num, Lib.hid h2⟩
          case measure => simp [intOf]; omega
      · obtain ⟨h1, h2⟩ : low ≤ a ∧ a < high := by simpa [isIn] using hi
        have g1 : decide (a < low) = false := by simp; omega
        have g2 : decide (high ≤ a) = false := by simp; omega
        have HI := Lib.hid hi
        clear hi h1 h2
        go_wp2_with (at_builtin; refine list_cat rfl (.tmp 56) (.tmp 58) rfl rfl rfl (HC.out.row _) (row_lit1 wr a) (by simp; omega) (by omega) ?_)
        intro p' cp' w2 hc
        obtain ⟨R2, h2⟩ := HC.out.yes hc
        have H2 := Lib.hid h2
        clear hc h2 e0 ef el c0
        go_wp2
        go_roundw
        case rel =>
          have h2 := H2.out
          obtain ⟨e1, e2⟩ := in_next HFL.out hlt HAA.out HI.out
          rw [← e1, ← e2] at h2
          exact ⟨q + 1, V, ⟨p', p.n + 1, cp'⟩, R2, by omega, rfl, by go_num, Lib.hid h2⟩
        case measure => simp [intOf]; omega
    · obtain rfl : q = (u 0).n := by omega
      have hh := HC.out
      rw [List.take_of_length_le (by have := HFL.out; omega)] at hh
      have E := Lib.hid hh.out
      have X8 := HC.out.b8
      have b0 := XD.cell 0 (by decide)
      have b1 := XD.cell 1 (by decide)
      have b2 := XD.cell 2 (by decide)
      have bl := XD.lt
      have x0 := X8.cell 0 (by decide)
      have x1 := X8.cell 1 (by decide)
      have x2 := X8.cell 2 (by decide)
      have y0 := X8.free 0
      have y1 := X8.free 1
      have y2 := X8.free 2
      have xl := X8.lt
      clear hh X8 XD XU
      go_wp2
      refine bodyPost_ret (v := .tuple #[(.agg #[.slice (V 0).a (V 0).n (V 0).c, .slice (V 1).a (V 1).n (V 1).c, .slice (V 2).a (V 2).n (V 2).c]), .slice p.a p.n p.c, .int .i64 0]) ?_ rfl ?_
      rotate_left
      · exact E.out _ rfl
      simp [results, Tryd.results15, go_sem, x0, x1, x2]
set_option maxHeartbeats 1000000 in
theorem rpart_ok1 (B : Nat) (u : Nat → Sl) (f : Nat → List Int) (low high : Int) (w : World) (h : L3 w B u f) (hB : B ≤ w.heap.size) (hn : ∀ j, j < 3 → (u j).n ≤ 2000000) :
    Calls Tryd.prog 15 #[(.agg #[.slice (u 0).a (u 0).n (u 0).c, .slice (u 1).a (u 1).n (u 1).c, .slice (u 2).a (u 2).n (u 2).c]), .int .i64 1, .int .i64 low, .int .i64 high] w (PartOut w (upd f 1 (outOf low high (f 1))) (inOf low high (f 1)) 0) := by
  have HL := Lib.hid h
  have HN := Lib.hid hn
  have hun := hn 1 (by decide)
  have HUL := Lib.hid (h.len 1 (by decide))
  clear h hn
  go_enter Tryd.func15, Tryd.ntmps15
  go_wp2_with fail
  have b0 := two_below w (.cells #[.slice (u 0).a (u 0).n (u 0).c, .slice (u 1).a (u 1).n (u 1).c, .slice (u 2).a (u 2).n (u 2).c] 25) (.cells #[.slice none 0 0, .slice none 0 0, .slice none 0 0] 25)
  refine (rown_any B u f _ (HL.out.over b0 hB) (by simp; omega) HN.out).mono ?_
  rintro e w1 ⟨v, rfl, ho, hb⟩
  obtain ⟨R0, hM⟩ := ptr_start (k := 1) (by decide) ho hb
  have HM := Lib.hid hM
  clear b0 ho hb hM
  go_wp2
  obtain ⟨A, hA0⟩ : ∃ A, (u 1).a = A := ⟨_, rfl⟩
  rw [hA0]
  have HA0 := Lib.hid hA0
  clear hA0
  go_loopw [12, 13, 14] (fun x y _ wr => ∃ (q : Nat) (V : Nat → Sl) (p : Sl) (R : Nat → Option Thing), q ≤ (u 1).n ∧ x = .slice p.a p.n p.c ∧ y = .int .i64 q ∧ Hid (PtR w wr R w1.heap.size u V (upd f 1 (outOf low high ((f 1).take q))) p (inOf low high ((f 1).take q)))) (fun _ y _ _ => (u 1).n - (intOf y).toNat)
  case atStart => exact ⟨0, _, ⟨none, 0, 0⟩, R0, Nat.zero_le _, rfl, rfl, HM⟩
  case round =>
    obtain ⟨q, V, p, R, hq, rfl, rfl, HC⟩ := hrel
    have XU := HC.out.ub
    have c0 := XU.cell 1 (by decide)
    rw [HA0.out] at c0
    have cl := XU.lt
    have XD := HC.out.lst.boxed
    have HFL := Lib.hid HUL.out.symm
    by_cases hlt : q < (u 1).n
    · have hrow := HC.out.lst.arg (HL.out 1 (by decide)).1 hB
      rw [HA0.out] at hrow
      obtain ⟨b, off, rfl, hb, hcell⟩ := hrow.2 (by omega)
      have hq1 := hcell q hlt
      obtain ⟨a, ha⟩ : ∃ a, a = (f 1).getD q 0 := ⟨_, rfl⟩
      rw [← ha] at hq1
      have HAA := Lib.hid ha
      have hbw : b < wr.heap.size := by have := HC.out.lst.big; omega
      have hbig := HC.out.lst.big
      have hlen := in_len (low := low) (high := high) (xs := f 1) (k := q)
      have hpn : p.n + 1 ≤ 4000000 := by have := HC.out.len; omega
      have hVn : (V 1).n + 1 ≤ 4000000 := by
        have := HC.out.lst.len (k := 1) (by decide)
        rw [upd_same] at this
        omega
      have e0 := XD.cell 1 (by decide)
      have ef := XD.free 1
      have el := XD.lt
      clear hcell ha XU XD hlen hrow
      cases hi : isIn low high a
      · have hno : ¬ (low ≤ a ∧ a < high) := by simpa [isIn] using hi
        have HI := Lib.hid hi
        clear hi
        by_cases h1 : a < low
        · have g1 : decide (a < low) = true := by simp; omega
          clear hno h1
          go_wp2_with (at_builtin; refine list_cat rfl (.tmp 51) (.tmp 53) rfl rfl rfl (HC.out.lst.row (k := 1) _ (by decide)) (row_lit1 wr a) (by simp; omega) (by omega) ?_)
          intro p' cp' w2 hc
          obtain ⟨R2, h2⟩ := HC.out.no (k := 1) (by decide) hc
          obtain ⟨M2, _⟩ := HC.out.lst.mid (k := 1) (by decide) hc
          have k0 := M2.cell 1 (by decide)
          have kf := M2.free 1
          have kl := M2.lt
          have H2 := Lib.hid h2
          clear hc h2 M2 e0 ef el c0
          go_wp2
          go_roundw
          case rel =>
            have h2 := H2.out
            obtain ⟨e1, e2⟩ := out_next HFL.out hlt HAA.out HI.out
            rw [upd_same, upd_upd, ← e1, ← e2] at h2
            exact ⟨q + 1, _, p, R2, by omega, rfl, by go_num, Lib.hid h2⟩
          case measure => simp [intOf]; omega
        · have g1 : decide (a < low) = false := by simp; omega
          have g2 : decide (high ≤ a) = true := by simp; omega
          clear hno h1
          go_wp2_with (at_builtin; refine list_cat rfl (.tmp 51) (.tmp 53) rfl rfl rfl (HC.out.lst.row (k := 1) _ (by decide)) (row_lit1 wr a) (by simp; omega) (by omega) ?_)
          intro p' cp' w2 hc
          obtain ⟨R2, h2⟩ := HC.out.no (k := 1) (by decide) hc
          obtain ⟨M2, _⟩ := HC.out.lst.mid (k := 1) (by decide) hc
          have k0 := M2.cell 1 (by decide)
          have kf := M2.free 1
          have kl := M2.lt
          have H2 := Lib.hid h2
          clear hc h2 M2 e0 ef el c0
          go_wp2
          go_roundw
          case rel =>
            have h2 := H2.out
            obtain ⟨e1, e2⟩ := out_next HFL.out hlt HAA.out HI.out
            rw [upd_same, upd_upd, ← e1, ← e2] at h2
            exact ⟨q + 1, _, p, R2, by omega, rfl, by go_num, Lib.hid h2⟩
          case measure => simp [intOf]; omega
      · obtain ⟨h1, h2⟩ : low ≤ a ∧ a < high := by simpa [isIn] using hi
        have g1 : decide (a < low) = false := by simp; omega
        have g2 : decide (high ≤ a) = false := by simp; omega
        have HI := Lib.hid hi
        clear hi h1 h2
        go_wp2_with (at_builtin; refine list_cat rfl (.tmp 56) (.tmp 58) rfl rfl rfl (HC.out.row _) (row_lit1 wr a) (by simp; omega) (by omega) ?_)
        intro p' cp' w2 hc
        obtain ⟨R2, h2⟩ := HC.out.yes hc
        have H2 := Lib.hid h2
        clear hc h2 e0 ef el c0
        go_wp2
        go_roundw
        case rel =>
          have h2 := H2.out
          obtain ⟨e1, e2⟩ := in_next HFL.out hlt HAA.out HI.out
          rw [← e1, ← e2] at h2
          exact ⟨q + 1, V, ⟨p', p.n + 1, cp'⟩, R2, by omega, rfl, by go_num, Lib.hid h2⟩
        case measure => simp [intOf]; omega
    · obtain rfl : q = (u 1).n := by omega
      have hh := HC.out
      rw [List.take_of_length_le (by have := HFL.out; omega)] at hh
      have E := Lib.hid hh.out
      have X8 := HC.out.b8
      have b0 := XD.cell 0 (by decide)
      have b1 := XD.cell 1 (by decide)
      have b2 := XD.cell 2 (by decide)
      have bl := XD.lt
      have x0 := X8.cell 0 (by decide)
      have x1 := X8.cell 1 (by decide)
      have x2 := X8.cell 2 (by decide)
      have y0 := X8.free 0
      have y1 := X8.free 1
      have y2 := X8.free 2
      have xl := X8.lt
      clear hh X8 XD XU
      go_wp2
      refine bodyPost_ret (v := .tuple #[(.agg #[.slice (V 0).a (V 0).n (V 0).c, .slice (V 1).a (V 1).n (V 1).c, .slice (V 2).a (V 2).n (V 2).c]), .slice p.a p.n p.c, .int .i64 0]) ?_ rfl ?_
      rotate_left
      · exact E.out _ rfl
      simp [results, Tryd.results15, go_sem, x0, x1, x2]
set_option maxHeartbeats 1000000 in
theorem rpart_ok2 (B : Nat) (u : Nat → Sl) (f : Nat → List Int) (low high : Int) (w : World) (h : L3 w B u f) (hB : B ≤ w.heap.size) (hn : ∀ j, j < 3 → (u j).n ≤ 2000000) :
    Calls Tryd.prog 15 #[(.agg #[.slice (u 0).a (u 0).n (u 0).c, .slice (u 1).a (u 1).n (u 1).c, .slice (u 2).a (u 2).n (u 2).c]), .int .i64 2, .int .i64 low, .int .i64 high] w (PartOut w (upd f 2 (outOf low high (f 2))) (inOf low high (f 2)) 0) := by
  have HL := Lib.hid h
  have HN := Lib.hid hn
  have hun := hn 2 (by decide)
  have HUL := Lib.hid (h.len 2 (by decide))
  clear h hn
  go_enter Tryd.func15, Tryd.ntmps15
  go_wp2_with fail
  have b0 := two_below w (.cells #[.slice (u 0).a (u 0).n (u 0).c, .slice (u 1).a (u 1).n (u 1).c, .slice (u 2).a (u 2).n (u 2).c] 25) (.cells #[.slice none 0 0, .slice none 0 0, .slice none 0 0] 25)
  refine (rown_any B u f _ (HL.out.over b0 hB) (by simp; omega) HN.out).mono ?_
  rintro e w1 ⟨v, rfl, ho, hb⟩
  obtain ⟨R0, hM⟩ := ptr_start (k := 2) (by decide) ho hb
  have HM := Lib.hid hM
  clear b0 ho hb hM
  go_wp2
  obtain ⟨A, hA0⟩ : ∃ A, (u 2).a = A := ⟨_, rfl⟩
  rw [hA0]
  have HA0 := Lib.hid hA0
  clear hA0
  go_loopw [12, 13, 14] (fun x y _ wr => ∃ (q : Nat) (V : Nat → Sl) (p : Sl) (R : Nat → Option Thing), q ≤ (u 2).n ∧ x = .slice p.a p.n p.c ∧ y = .int .i64 q ∧ Hid (PtR w wr R w1.heap.size u V (upd f 2 (outOf low high ((f 2).take q))) p (inOf low high ((f 2).take q)))) (fun _ y _ _ => (u 2).n - (intOf y).toNat)
  case atStart => exact ⟨0, _, ⟨none, 0, 0⟩, R0, Nat.zero_le _, rfl, rfl, HM⟩
  case round =>
    obtain ⟨q, V, p, R, hq, rfl, rfl, HC⟩ := hrel
    have XU := HC.out.ub
    have c0 := XU.cell 2 (by decide)
    rw [HA0.out] at c0
    have cl := XU.lt
    have XD := HC.out.lst.boxed
    have HFL := Lib.hid HUL.out.symm
    by_cases hlt : q < (u 2).n
    · have hrow := HC.out.lst.arg (HL.out 2 (by decide)).1 hB
      rw [HA0.out] at hrow
      obtain ⟨b, off, rfl, hb, hcell⟩ := hrow.2 (by omega)
      have hq1 := hcell q hlt
      obtain ⟨a, ha⟩ : ∃ a, a = (f 2).getD q 0 := ⟨_, rfl⟩
      rw [← ha] at hq1
      have HAA := Lib.hid ha
      have hbw : b < wr.heap.size := by have := HC.out.lst.big; omega
      have hbig := HC.out.lst.big
      have hlen := in_len (low := low) (high := high) (xs := f 2) (k := q)
      have hpn : p.n + 1 ≤ 4000000 := by have := HC.out.len; omega
      have hVn : (V 2).n + 1 ≤ 4000000 := by
        have := HC.out.lst.len (k := 2) (by decide)
        rw [upd_same] at this
        omega
      have e0 := XD.cell 2 (by decide)
      have ef := XD.free 2
      have el := XD.lt
      clear hcell ha XU XD hlen hrow
      cases hi : isIn low high a
      · have hno : ¬ (low ≤ a ∧ a < high) := by simpa [isIn] using hi
        have HI := Lib.hid hi
        clear hi
        by_cases h1 : a < low
        · have g1 : decide (a < low) = true := by simp; omega
          clear hno h1
          go_wp2_with (at_builtin; refine list_cat rfl (.tmp 51) (.tmp 53) rfl rfl rfl (HC.out.lst.row (k := 2) _ (by decide)) (row_lit1 wr a) (by simp; omega) (by omega) ?_)
          intro p' cp' w2 hc
          obtain ⟨R2, h2⟩ := HC.out.no (k := 2) (by decide) hc
          obtain ⟨M2, _⟩ := HC.out.lst.mid (k := 2) (by decide) hc
          have k0 := M2.cell 2 (by decide)
          have kf := M2.free 2
          have kl := M2.lt
          have H2 := Lib.hid h2
          clear hc h2 M2 e0 ef el c0
          go_wp2
          go_roundw
          case rel =>
            have h2 := H2.out
            obtain ⟨e1, e2⟩ := out_next HFL.out hlt HAA.out HI.out
            rw [upd_same, upd_upd, ← e1, ← e2] at h2
            exact ⟨q + 1, _, p, R2, by omega, rfl, by go_num, Lib.hid h2⟩
          case measure => simp [intOf]; omega
        · have g1 : decide (a < low) = false := by simp; omega
          have g2 : decide (high ≤ a) = true := by simp; omega
          clear hno h1
          go_wp2_with (at_builtin; refine list_cat rfl (.tmp 51) (.tmp 53) rfl rfl rfl (HC.out.lst.row (k := 2) _ (by decide)) (row_lit1 wr a) (by simp; omega) (by omega) ?_)
          intro p' cp' w2 hc
          obtain ⟨R2, h2⟩ := HC.out.no (k := 2) (by decide) hc
          obtain ⟨M2, _⟩ := HC.out.lst.mid (k := 2) (by decide) hc
          have k0 := M2.cell 2 (by decide)
          have kf := M2.free 2
          have kl := M2.lt
          have H2 := Lib.hid h2
          clear hc h2 M2 e0 ef el c0
          go_wp2
          go_roundw
          case rel =>
            have h2 := H2.out
            obtain ⟨e1, e2⟩ := out_next HFL.out hlt HAA.out HI.out
            rw [upd_same, upd_upd, ← e1, ← e2] at h2
            exact ⟨q + 1, _, p, R2, by omega, rfl, by go_num, Lib.hid h2⟩
          case measure => simp [intOf]; omega
      · obtain ⟨h1, h2⟩ : low ≤ a ∧ a < high := by simpa [isIn] using hi
        have g1 : decide (a < low) = false := by simp; omega
        have g2 : decide (high ≤ a) = false := by simp; omega
        have HI := Lib.hid hi
        clear hi h1 h2
        go_wp2_with (at_builtin; refine list_cat rfl (.tmp 56) (.tmp 58) rfl rfl rfl (HC.out.row _) (row_lit1 wr a) (by simp; omega) (by omega) ?_)
        intro p' cp' w2 hc
        obtain ⟨R2, h2⟩ := HC.out.yes hc
        have H2 := Lib.hid h2
        clear hc h2 e0 ef el c0
        go_wp2
        go_roundw
        case rel =>
          have h2 := H2.out
          obtain ⟨e1, e2⟩ := in_next HFL.out hlt HAA.out HI.out
          rw [← e1, ← e2] at h2
          exact ⟨q + 1, V, ⟨p', p.n + 1, cp'⟩, R2, by omega, rfl, by go_num, Lib.hid h2⟩
        case measure => simp [intOf]; omega
    · obtain rfl : q = (u 2).n := by omega
      have hh := HC.out
      rw [List.take_of_length_le (by have := HFL.out; omega)] at hh
      have E := Lib.hid hh.out
      have X8 := HC.out.b8
      have b0 := XD.cell 0 (by decide)
      have b1 := XD.cell 1 (by decide)
      have b2 := XD.cell 2 (by decide)
      have bl := XD.lt
      have x0 := X8.cell 0 (by decide)
      have x1 := X8.cell 1 (by decide)
      have x2 := X8.cell 2 (by decide)
      have y0 := X8.free 0
      have y1 := X8.free 1
      have y2 := X8.free 2
      have xl := X8.lt
      clear hh X8 XD XU
      go_wp2
      refine bodyPost_ret (v := .tuple #[(.agg #[.slice (V 0).a (V 0).n (V 0).c, .slice (V 1).a (V 1).n (V 1).c, .slice (V 2).a (V 2).n (V 2).c]), .slice p.a p.n p.c, .int .i64 0]) ?_ rfl ?_
      rotate_left
      · exact E.out _ rfl
      simp [results, Tryd.results15, go_sem, x0, x1, x2]
theorem rpart_ok (B : Nat) (u : Nat → Sl) (f : Nat → List Int) (k : Nat) (hk : k < 3) (low high : Int) (w : World) (h : L3 w B u f) (hB : B ≤ w.heap.size) (hn : ∀ j, j < 3 → (u j).n ≤ 2000000) :
    Calls Tryd.prog 15 #[(.agg #[.slice (u 0).a (u 0).n (u 0).c, .slice (u 1).a (u 1).n (u 1).c, .slice (u 2).a (u 2).n (u 2).c]), .int .i64 k, .int .i64 low, .int .i64 high] w (PartOut w (upd f k (outOf low high (f k))) (inOf low high (f k)) 0) := by
  rcases (show k = 0 ∨ k = 1 ∨ k = 2 by omega) with rfl | rfl | rfl
  · exact rpart_ok0 B u f low high w h hB hn
  · exact rpart_ok1 B u f low high w h hB hn
  · exact rpart_ok2 B u f low high w h hB hn
end Go.Proofs.YtcbnefjfoeanoaaDoor.Ls
end
