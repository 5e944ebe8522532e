/-
  Merged texts: HpCp, HpApp, HpSlab, HpOwn7, HpSmall, LsRPush.
-/
import Derived.Test.YtdmclfolooiccaaGreatDoorHpAJ
import Derived.Test.YtdmclfolooiccaaGreatDoorHpAA
import Derived.Test.YtdmclfolooiccaaGreatDoorHpAI
section
namespace Go.Proofs.YtdmclfolooiccaaGreatDoor
open Go.RowKit
set_option maxRecDepth 100000

/-- A box of six cells that are not frozen. -/
structure Box6 (W : World) (b : Nat) (t : Hs) : Prop where
  box : HBox W b t
  free : ∀ j, W.frozen? ⟨b, j, none⟩ = false
/-- Of such a heap's slices none lies in the two boxes. -/
def Off (b : Nat) (v : Ls.Sl) : Prop := 0 < v.n → ∀ x, v.a = some x → ¬ x.block = b ∧ ¬ x.block = b + 1
/-- A slice in new memory. -/
def New (b : Nat) (v : Ls.Sl) : Prop := 0 < v.n → ∀ x, v.a = some x → b ≤ x.block
/-- A heap that is being copied: what the box holds so far. -/
structure Cp (w W : World) (t : Hs) (d : Hd_) : Prop where
  bel : Below w.heap.size w W
  hp : Hp W W.heap.size t d
  ow : Off w.heap.size t.w
  op : Off w.heap.size t.p
  ou : ∀ j, j < 3 → Off w.heap.size (t.u j)
  oc : Off w.heap.size t.c
  box : Box6 W w.heap.size t
  res : Box6 W (w.heap.size + 1) noHs
theorem Box6.next {W W' : World} {b : Nat} {t : Hs} (h : Box6 W b t) (hb : Below W.heap.size W W') : Box6 W' b t := ⟨h.box.next hb, fun j => (hb.frozen (p := ⟨b, j, none⟩) h.box.lt).trans (h.free j)⟩
theorem Box6.same {W W' : World} {b : Nat} {t : Hs} (h : Box6 W b t) (hs : W'.heap[b]? = W.heap[b]?) (hl : W.heap.size ≤ W'.heap.size) : Box6 W' b t :=
  ⟨⟨(World.cell?_of_block (a := ⟨b, 0, none⟩) hs).trans h.box.c0, (World.cell?_of_block (a := ⟨b, 1, none⟩) hs).trans h.box.c1, (World.cell?_of_block (a := ⟨b, 2, none⟩) hs).trans h.box.c2, (World.cell?_of_block (a := ⟨b, 3, none⟩) hs).trans h.box.c3, (World.cell?_of_block (a := ⟨b, 4, none⟩) hs).trans h.box.c4, (World.cell?_of_block (a := ⟨b, 5, none⟩) hs).trans h.box.c5, Nat.lt_of_lt_of_le h.box.lt hl⟩,
   fun j => (World.frozen?_of_block (a := ⟨b, j, none⟩) hs).trans (h.free j)⟩
theorem Cp.next {w W W' : World} {t : Hs} {d : Hd_} (h : Cp w W t d) (hb : Below W.heap.size W W') : Cp w W' t d :=
  ⟨h.bel.trans (hb.mono h.bel.size), h.hp.next hb, h.ow, h.op, h.ou, h.oc, h.box.next hb, h.res.next hb⟩
/-- All slices stand where only the first box is turned. -/
theorem hp_off {W W' : World} {b : Nat} {t : Hs} {d : Hd_} (h : Hp W W.heap.size t d) (ow : Off b t.w) (op : Off b t.p) (ou : ∀ j, j < 3 → Off b (t.u j)) (oc : Off b t.c) (hs : ∀ k, ¬ k = b → ¬ k = b + 1 → W'.heap[k]? = W.heap[k]?) (hl : W.heap.size = W'.heap.size) : Hp W' W'.heap.size t d := by
  rw [← hl]
  refine ⟨row_same h.words fun hn x hx => hs _ (ow hn x hx).1 (ow hn x hx).2, fun hn => ?_, fun j hj => ⟨row_same (h.free j hj).1 fun hn x hx => hs _ (ou j hj hn x hx).1 (ou j hj hn x hx).2, (h.free j hj).2⟩, fun hn => ?_⟩
  · obtain ⟨b', off, e, hlt, hc⟩ := h.pages hn
    refine ⟨b', off, e, hlt, fun i hi => ?_⟩
    have hb' := hs b' (op hn _ e).1 (op hn _ e).2
    exact ⟨(World.cell?_of_block (a := ⟨b', off + i * 2, none⟩) hb').trans (hc i hi).1, (World.cell?_of_block (a := ⟨b', off + i * 2 + 1, none⟩) hb').trans (hc i hi).2⟩
  · obtain ⟨b', off, e, hlt, hc⟩ := h.cards hn
    refine ⟨b', off, e, hlt, fun i hi => ?_⟩
    exact (World.cell?_of_block (a := ⟨b', off + i, none⟩) (hs b' (oc hn _ e).1 (oc hn _ e).2)).trans (hc i hi)
theorem frozen_set {W : World} {b k : Nat} {v : Value} (h : ∀ j, W.frozen? ⟨b, j, none⟩ = false) : ∀ j, (W.setCell ⟨b, k, none⟩ v).frozen? ⟨b, j, none⟩ = false := fun j => by rw [World.frozen?_setCell]; exact h j
theorem cell_set {W : World} {b k j : Nat} {v x y : Value} (h : W.cell? ⟨b, j, none⟩ = some x) (hy : y = if j = k then v else x) : (W.setCell ⟨b, k, none⟩ v).cell? ⟨b, j, none⟩ = some y := by
  subst hy
  by_cases e : j = k
  · subst e
    rw [if_pos rfl]
    exact World.cell?_setCell_same' _ _ _ (by rw [h]; rfl)
  · rw [if_neg e, World.cell?_setCell_other _ _ _ _ (by intro hh; simp only [Addr.mk.injEq, true_and, and_true] at hh; omega)]
    exact h
/-- One cell of the box is turned: the heap with that slice in the place of the old one. -/
theorem Cp.set {w W : World} {t t' : Hs} {d : Hd_} (h : Cp w W t d) (k : Nat) (v : Value) (hp : Hp W W.heap.size t' d) (ow : Off w.heap.size t'.w) (op : Off w.heap.size t'.p) (ou : ∀ j, j < 3 → Off w.heap.size (t'.u j)) (oc : Off w.heap.size t'.c)
    (e0 : Value.slice t'.w.a t'.w.n t'.w.c = if 0 = k then v else .slice t.w.a t.w.n t.w.c) (e1 : Value.slice t'.p.a t'.p.n t'.p.c = if 1 = k then v else .slice t.p.a t.p.n t.p.c)
    (e2 : Value.slice (t'.u 0).a (t'.u 0).n (t'.u 0).c = if 2 = k then v else .slice (t.u 0).a (t.u 0).n (t.u 0).c) (e3 : Value.slice (t'.u 1).a (t'.u 1).n (t'.u 1).c = if 3 = k then v else .slice (t.u 1).a (t.u 1).n (t.u 1).c)
    (e4 : Value.slice (t'.u 2).a (t'.u 2).n (t'.u 2).c = if 4 = k then v else .slice (t.u 2).a (t.u 2).n (t.u 2).c) (e5 : Value.slice t'.c.a t'.c.n t'.c.c = if 5 = k then v else .slice t.c.a t.c.n t.c.c) :
    Cp w (W.setCell ⟨w.heap.size, k, none⟩ v) t' d := by
  have hsz : W.heap.size = (W.setCell ⟨w.heap.size, k, none⟩ v).heap.size := by simp [World.setCell]
  have hoth : ∀ j, ¬ j = w.heap.size → (W.setCell ⟨w.heap.size, k, none⟩ v).heap[j]? = W.heap[j]? := fun j hj => Below.heap_setCell _ _ _ _ hj
  exact ⟨h.bel.setCell (Nat.le_refl _) _, hp_off hp ow op ou oc (fun j hj _ => hoth j hj) hsz, ow, op, ou, oc,
    ⟨⟨cell_set h.box.box.c0 e0, cell_set h.box.box.c1 e1, cell_set h.box.box.c2 e2, cell_set h.box.box.c3 e3, cell_set h.box.box.c4 e4, cell_set h.box.box.c5 e5, by rw [← hsz]; exact h.box.box.lt⟩, frozen_set h.box.free⟩,
    h.res.same (hoth _ (by omega)) (Nat.le_of_eq hsz)⟩
theorem Cp.drew {w W : World} {t : Hs} {d : Hd_} (h : Cp w W t d) : Cp w W.drew t d := h.next (below_drawn' (Below.refl _ _) 1)
theorem off_old {w : World} {b : Nat} {v : Ls.Sl} {xs : List Int} (h : Row w b v.a v.n xs) : Off b v := fun hn x hx => by
  obtain ⟨b', off, e, hlt, _⟩ := h.2 hn
  rw [hx] at e
  cases e
  exact ⟨by show ¬ b' = b; omega, by show ¬ b' = b + 1; omega⟩
/-- A slice that a call made, as a row, and apart from the boxes. -/
theorem own_off {b base : Nat} {W : World} {v : Ls.Sl} {xs : List Int} (ho : W.ownsRow base 3 1 (.slice v.a v.n v.c) v.n (xs.map (Value.int .i64))) (hb : b + 2 ≤ base) : Row W W.heap.size v.a v.n xs ∧ v.n ≤ v.c ∧ v.c ≤ maxLen ∧ Off b v ∧ New b v := by
  obtain ⟨a, c, e, hr, h1, h2⟩ := Ls.owns_row ho
  simp only [Value.slice.injEq, true_and] at e
  obtain ⟨rfl, rfl⟩ := e
  refine ⟨hr, h1, h2, fun _ x hx => ?_, fun _ x hx => ?_⟩
  · have := (ho.lt x.block (by rw [Ls.ownBlock_slice, hx]; rfl)).1
    exact ⟨by omega, by omega⟩
  · have := (ho.lt x.block (by rw [Ls.ownBlock_slice, hx]; rfl)).1
    omega
/-- What copied leaves: the same heap, in memory of its own. -/
structure News (b : Nat) (t : Hs) : Prop where
  w : New b t.w
  p : New b t.p
  u : ∀ j, j < 3 → New b (t.u j)
  c : New b t.c
/-- A heap in new memory stands where nothing of that is turned. -/
theorem News.kept {b : Nat} {t : Hs} {d : Hd_} {W W' : World} (hn : News b t) (h : Hp W W.heap.size t d) (hs : ∀ k, b ≤ k → k < W.heap.size → W'.heap[k]? = W.heap[k]?) (hl : W.heap.size ≤ W'.heap.size) : Hp W' W'.heap.size t d := by
  refine Hp.more ?_ hl
  refine ⟨row_same h.words fun h0 x hx => ?_, fun h0 => ?_, fun j hj => ⟨row_same (h.free j hj).1 fun h0 x hx => ?_, (h.free j hj).2⟩, fun h0 => ?_⟩
  · obtain ⟨b', off, e, hlt, _⟩ := h.words.2 h0
    rw [hx] at e
    cases e
    exact hs _ (hn.w h0 _ hx) hlt
  · obtain ⟨b', off, e, hlt, hc⟩ := h.pages h0
    have hb' := hs b' (hn.p h0 _ e) hlt
    exact ⟨b', off, e, hlt, fun i hi => ⟨(World.cell?_of_block (a := ⟨b', off + i * 2, none⟩) hb').trans (hc i hi).1, (World.cell?_of_block (a := ⟨b', off + i * 2 + 1, none⟩) hb').trans (hc i hi).2⟩⟩
  · obtain ⟨b', off, e, hlt, _⟩ := (h.free j hj).1.2 h0
    rw [hx] at e
    cases e
    exact hs _ (hn.u j hj h0 _ hx) hlt
  · obtain ⟨b', off, e, hlt, hc⟩ := h.cards h0
    exact ⟨b', off, e, hlt, fun i hi => (World.cell?_of_block (a := ⟨b', off + i, none⟩) (hs b' (hn.c h0 _ e) hlt)).trans (hc i hi)⟩
/-- Words, pages and cards are turned at once. -/
theorem Cp.three {w W : World} {s t : Hs} {d : Hd_} (h : Cp w W s d) (hp : Hp W W.heap.size t d) (ow : Off w.heap.size t.w) (op : Off w.heap.size t.p) (oc : Off w.heap.size t.c) (eu : t.u = s.u) :
    Cp w (((W.setCell ⟨w.heap.size, 0, none⟩ (.slice t.w.a t.w.n t.w.c)).setCell ⟨w.heap.size, 1, none⟩ (.slice t.p.a t.p.n t.p.c)).setCell ⟨w.heap.size, 5, none⟩ (.slice t.c.a t.c.n t.c.c)) t d := by
  have hsz : W.heap.size = (((W.setCell ⟨w.heap.size, 0, none⟩ (.slice t.w.a t.w.n t.w.c)).setCell ⟨w.heap.size, 1, none⟩ (.slice t.p.a t.p.n t.p.c)).setCell ⟨w.heap.size, 5, none⟩ (.slice t.c.a t.c.n t.c.c)).heap.size := by simp [World.setCell]
  have hoth : ∀ j, ¬ j = w.heap.size → (((W.setCell ⟨w.heap.size, 0, none⟩ (.slice t.w.a t.w.n t.w.c)).setCell ⟨w.heap.size, 1, none⟩ (.slice t.p.a t.p.n t.p.c)).setCell ⟨w.heap.size, 5, none⟩ (.slice t.c.a t.c.n t.c.c)).heap[j]? = W.heap[j]? := fun j hj => (Below.heap_setCell _ _ _ _ hj).trans ((Below.heap_setCell _ _ _ _ hj).trans (Below.heap_setCell _ _ _ _ hj))
  have ou : ∀ j, j < 3 → Off w.heap.size (t.u j) := by rw [eu]; exact h.ou
  refine ⟨((h.bel.setCell (p := ⟨w.heap.size, 0, none⟩) (Nat.le_refl _) _).setCell (p := ⟨w.heap.size, 1, none⟩) (Nat.le_refl _) _).setCell (p := ⟨w.heap.size, 5, none⟩) (Nat.le_refl _) _, hp_off hp ow op ou oc (fun j hj _ => hoth j hj) hsz, ow, op, ou, oc,
    ⟨⟨?_, ?_, ?_, ?_, ?_, ?_, by rw [← hsz]; exact h.box.box.lt⟩, frozen_set (frozen_set (frozen_set h.box.free))⟩, h.res.same (hoth _ (by omega)) (Nat.le_of_eq hsz)⟩
  · exact cell_set (cell_set (cell_set h.box.box.c0 rfl) rfl) rfl
  · exact cell_set (cell_set (cell_set h.box.box.c1 rfl) rfl) rfl
  · rw [eu]; exact cell_set (cell_set (cell_set h.box.box.c2 rfl) rfl) rfl
  · rw [eu]; exact cell_set (cell_set (cell_set h.box.box.c3 rfl) rfl) rfl
  · rw [eu]; exact cell_set (cell_set (cell_set h.box.box.c4 rfl) rfl) rfl
  · exact cell_set (cell_set (cell_set h.box.box.c5 rfl) rfl) rfl
/-- One of the lists is turned. -/
theorem Cp.list {w W : World} {t : Hs} {d : Hd_} (h : Cp w W t d) {k : Nat} (hk : k < 3) (v : Ls.Sl) (hr : Row W W.heap.size v.a v.n (d.F k)) (h1 : v.n ≤ v.c) (h2 : v.c ≤ maxLen) (ho : Off w.heap.size v) :
    Cp w (W.setCell ⟨w.heap.size, 2 + k, none⟩ (.slice v.a v.n v.c)) ⟨t.w, t.p, Ls.upd t.u k v, t.c⟩ d := by
  have hp : Hp W W.heap.size ⟨t.w, t.p, Ls.upd t.u k v, t.c⟩ d := ⟨h.hp.words, h.hp.pages, by
    have := h.hp.free.set k v (d.F k) hr h1 h2
    rwa [show Ls.upd d.F k (d.F k) = d.F by funext j; by_cases e : j = k <;> simp [Ls.upd, e]] at this, h.hp.cards⟩
  have ou : ∀ j, j < 3 → Off w.heap.size (Ls.upd t.u k v j) := fun j hj => by
    by_cases e : j = k
    · subst e; rw [Ls.upd_same]; exact ho
    · rw [Ls.upd_other _ _ e]; exact h.ou j hj
  refine h.set (2 + k) _ hp h.ow h.op ou h.oc ?_ ?_ ?_ ?_ ?_ ?_
  · rw [if_neg (by omega)]
  · rw [if_neg (by omega)]
  · by_cases e : k = 0
    · subst e; rfl
    · rw [if_neg (by omega)]
      dsimp only
      rw [Ls.upd_other _ _ (by omega)]
  · by_cases e : k = 1
    · subst e; rfl
    · rw [if_neg (by omega)]
      dsimp only
      rw [Ls.upd_other _ _ (by omega)]
  · by_cases e : k = 2
    · subst e; rfl
    · rw [if_neg (by omega)]
      dsimp only
      rw [Ls.upd_other _ _ (by omega)]
  · rw [if_neg (by omega)]
theorem prow_more {w : World} {B C n : Nat} {a : Option Addr} {f : Nat → Int × Int} (h : Cl.PRow w B a n f) (hB : B ≤ C) : Cl.PRow w C a n f := fun hn => by
  obtain ⟨b, off, e, hlt, hc⟩ := h hn
  exact ⟨b, off, e, Nat.lt_of_lt_of_le hlt hB, hc⟩
def Lens (s t : Hs) : Prop := t.w.n = s.w.n ∧ t.p.n = s.p.n ∧ (∀ j, j < 3 → (t.u j).n = (s.u j).n) ∧ t.c.n = s.c.n
theorem cp_start {w W0 : World} {s : Hs} {d : Hd_} (hp : Hp w w.heap.size s d) (h : W0 = (w.alloc (.cells #[.slice s.w.a s.w.n s.w.c, .slice s.p.a s.p.n s.p.c, .slice (s.u 0).a (s.u 0).n (s.u 0).c, .slice (s.u 1).a (s.u 1).n (s.u 1).c, .slice (s.u 2).a (s.u 2).n (s.u 2).c, .slice s.c.a s.c.n s.c.c] 28)).alloc (.cells #[.slice none 0 0, .slice none 0 0, .slice none 0 0, .slice none 0 0, .slice none 0 0, .slice none 0 0] 28)) : Cp w W0 s d := by
  have hb : Below w.heap.size w W0 := by rw [h]; exact ((Below.refl _ _).alloc (Nat.le_refl _) _).alloc (by simp) _
  have b1 := HBox.new w s 28
  have bb : Below (w.alloc (.cells #[.slice s.w.a s.w.n s.w.c, .slice s.p.a s.p.n s.p.c, .slice (s.u 0).a (s.u 0).n (s.u 0).c, .slice (s.u 1).a (s.u 1).n (s.u 1).c, .slice (s.u 2).a (s.u 2).n (s.u 2).c, .slice s.c.a s.c.n s.c.c] 28)).heap.size (w.alloc (.cells #[.slice s.w.a s.w.n s.w.c, .slice s.p.a s.p.n s.p.c, .slice (s.u 0).a (s.u 0).n (s.u 0).c, .slice (s.u 1).a (s.u 1).n (s.u 1).c, .slice (s.u 2).a (s.u 2).n (s.u 2).c, .slice s.c.a s.c.n s.c.c] 28)) W0 := by rw [h]; exact (Below.refl _ _).alloc (Nat.le_refl _) _
  refine ⟨hb, hp.next hb, off_old hp.words, fun hn x hx => ?_, fun j hj => off_old (hp.free j hj).1, fun hn x hx => ?_, Box6.next ⟨b1, fun j => by simp [go_sem]⟩ bb, ?_⟩
  · obtain ⟨b', off, e, hlt, _⟩ := hp.pages hn
    rw [hx] at e
    cases e
    exact ⟨by show ¬ b' = _; omega, by show ¬ b' = _; omega⟩
  · obtain ⟨b', off, e, hlt, _⟩ := hp.cards hn
    rw [hx] at e
    cases e
    exact ⟨by show ¬ b' = _; omega, by show ¬ b' = _; omega⟩
  · have b2 := HBox.new (w.alloc (.cells #[.slice s.w.a s.w.n s.w.c, .slice s.p.a s.p.n s.p.c, .slice (s.u 0).a (s.u 0).n (s.u 0).c, .slice (s.u 1).a (s.u 1).n (s.u 1).c, .slice (s.u 2).a (s.u 2).n (s.u 2).c, .slice s.c.a s.c.n s.c.c] 28)) noHs 28
    rw [World.size_alloc] at b2
    rw [h]
    exact ⟨b2, fun j => by simp [go_sem]⟩
theorem put6_at {W : World} {b : Nat} {t : Hs} (h : Box6 W b t) (v0 v1 v2 v3 v4 v5 : Value) :
    (put6 W b v0 v1 v2 v3 v4 v5).cell? ⟨b, 0, none⟩ = some v0 ∧ (put6 W b v0 v1 v2 v3 v4 v5).cell? ⟨b, 1, none⟩ = some v1 ∧ (put6 W b v0 v1 v2 v3 v4 v5).cell? ⟨b, 2, none⟩ = some v2 ∧
    (put6 W b v0 v1 v2 v3 v4 v5).cell? ⟨b, 3, none⟩ = some v3 ∧ (put6 W b v0 v1 v2 v3 v4 v5).cell? ⟨b, 4, none⟩ = some v4 ∧ (put6 W b v0 v1 v2 v3 v4 v5).cell? ⟨b, 5, none⟩ = some v5 := by
  have h0 := h.box.c0
  have h1 := h.box.c1
  have h2 := h.box.c2
  have h3 := h.box.c3
  have h4 := h.box.c4
  have h5 := h.box.c5
  refine ⟨?_, ?_, ?_, ?_, ?_, ?_⟩ <;> simp [put6, go_sem, h0, h1, h2, h3, h4, h5]
end Go.Proofs.YtdmclfolooiccaaGreatDoor
end
section
namespace Go.Proofs.YtdmclfolooiccaaGreatDoor
open Go.RowKit
set_option maxRecDepth 100000

/-- What an append to nothing leaves. -/
structure PNew (w : World) (n : Nat) (f : Nat → Int × Int) (p : Option Addr) (w' : World) : Prop where
  row : Cl.PRow w' w'.heap.size p n f
  bel : Below w.heap.size w w'
  lies : ∀ x, p = some x → w.heap.size ≤ x.block
  high : ∀ x, p = some x → x.block < w'.heap.size
structure BNew (w : World) (n : Nat) (f : Nat → Bool) (p : Option Addr) (w' : World) : Prop where
  row : BRow w' w'.heap.size p n f
  bel : Below w.heap.size w w'
  lies : ∀ x, p = some x → w.heap.size ≤ x.block
  free : ∀ x, p = some x → x = ⟨x.block, 0, none⟩ ∧ (∀ i, w'.frozen? ⟨x.block, i, none⟩ = false) ∧ x.block < w'.heap.size
theorem run_pnew {w : World} {B n c : Nat} {A : Option Addr} {f : Nat → Int × Int} (ty : TypeId) (hr : Cl.PRow w B A n f) (hn : n ≤ 1000) :
    ∃ p cp w', (Builtin.append_ #[23, 23] ty #[.slice none 0 0, .slice A n c]).run Tryz.prog w = .ok (.slice p n cp) w' ∧ PNew w n f p w' := by
  obtain ⟨i0, hi, hz0, hz1, hz2⟩ := info_parts Cl.info_page
  by_cases h0 : n = 0
  · subst h0
    have hsrc : Src Tryz.prog i0.size 23 (.slice A 0 c) 0 [] w := by
      rw [hz1]
      cases A with
      | none => exact Src.ofNil _ Tryz.underlying23 c
      | some a => exact Src.ofSlice _ Tryz.underlying23 a 0 c [] rfl (by simp) (by simp)
    exact ⟨none, 0, w, run_append_nothing w 23 23 ty 74 i0 Tryz.underlying23 hi none 0 0 (Nat.le_refl _) _ hsrc, ⟨fun h => absurd h (by omega), Below.refl _ _, (fun x hx => by cases hx), fun x hx => by cases hx⟩⟩
  · obtain ⟨b, off, rfl, _, hc⟩ := hr (by omega)
    obtain ⟨g, cap, w', hrun, r1, r2, r3, r4⟩ := run_append_lies (P := Tryz.prog) w 23 ty w.heap.size 74 i0 (.agg #[.int .i64 0, .int .i64 0]) 2 16 Tryz.underlying23 hi hz0 hz1 hz2 rfl (by decide) _ _ _ (World.ownsRow_nil w w.heap.size 74 2) ⟨b, off, none⟩ n c (Cl.pcells f n) (Cl.pcells_length f n) (by
      intro j u hj
      rw [Addr.add_lit]
      exact Cl.pcells_of hc j u hj) Cl.pcells_one (by omega) (by unfold maxLen; omega) (by omega) (Nat.le_refl _) w.heap.size rfl
    have hown : w'.ownsRow w.heap.size 74 2 (.slice (some ⟨g, 0, none⟩) n cap) n (Cl.pcells f n) := by simpa using r1
    obtain ⟨g', c', e, hm⟩ := Cl.pmine_of hown (by omega)
    simp only [Value.slice.injEq, Option.some.injEq, Addr.mk.injEq, and_true, true_and] at e
    obtain ⟨rfl, rfl⟩ := e
    refine ⟨some ⟨g, 0, none⟩, cap, w', by simpa using hrun, ⟨hm.row, (Below.refl _ _).grown r2 (Nat.le_refl _) (by intro j hj; cases hj), fun x hx => ?_, fun x hx => ?_⟩⟩
    · cases hx
      exact hm.2.1
    · cases hx
      exact hm.2.2.1
theorem run_bnew {w : World} {B n c : Nat} {A : Option Addr} {f : Nat → Bool} (ty : TypeId) (hr : BRow w B A n f) (hn : n ≤ 1000000) :
    ∃ p cp w', (Builtin.append_ #[26, 26] ty #[.slice none 0 0, .slice A n c]).run Tryz.prog w = .ok (.slice p n cp) w' ∧ BNew w n f p w' := by
  obtain ⟨i0, hi, hz0, hz1, hz2⟩ := info_parts info_boolC
  by_cases h0 : n = 0
  · subst h0
    have hsrc : Src Tryz.prog i0.size 26 (.slice A 0 c) 0 [] w := by
      rw [hz1]
      cases A with
      | none => exact Src.ofNil _ Tryz.underlying26 c
      | some a => exact Src.ofSlice _ Tryz.underlying26 a 0 c [] rfl (by simp) (by simp)
    exact ⟨none, 0, w, run_append_nothing w 26 26 ty 4 i0 Tryz.underlying26 hi none 0 0 (Nat.le_refl _) _ hsrc, ⟨fun h => absurd h (by omega), Below.refl _ _, (fun x hx => by cases hx), fun x hx => by cases hx⟩⟩
  · obtain ⟨b, off, rfl, _, hc⟩ := hr (by omega)
    obtain ⟨g, cap, w', hrun, r1, r2, r3, r4⟩ := run_append_lies (P := Tryz.prog) w 26 ty w.heap.size 4 i0 (.bool false) 1 1 Tryz.underlying26 hi hz0 hz1 hz2 rfl (by decide) _ _ _ (World.ownsRow_nil w w.heap.size 4 1) ⟨b, off, none⟩ n c (bcells f n) (by simp [bcells]) (by
      intro j u hj
      rw [Addr.add_lit]
      have hjn : j < n := by
        have := (List.getElem?_eq_some_iff.1 hj).1
        simpa [bcells] using this
      rw [bcells_at f n j hjn] at hj
      rw [← hj]
      exact hc j hjn) (by
      intro u hu
      obtain ⟨x, _, rfl⟩ := List.mem_map.1 hu
      rfl) (by omega) (by unfold maxLen; omega) (by omega) (Nat.le_refl _) w.heap.size rfl
    have hown : w'.ownsRow w.heap.size 4 1 (.slice (some ⟨g, 0, none⟩) n cap) n (bcells f n) := by simpa using r1
    obtain ⟨g', c', e, hm, hb, hl⟩ := bmade_of hown (by omega)
    simp only [Value.slice.injEq, Option.some.injEq, Addr.mk.injEq, and_true, true_and] at e
    obtain ⟨rfl, rfl⟩ := e
    refine ⟨some ⟨g, 0, none⟩, cap, w', by simpa using hrun, ⟨fun _ => ⟨g, 0, rfl, hl, fun i hi => by rw [Nat.zero_add]; exact hm i hi⟩, (Below.refl _ _).grown r2 (Nat.le_refl _) (by intro j hj; cases hj), fun x hx => ?_, fun x hx => ?_⟩⟩
    · cases hx
      exact hb
    · cases hx
      exact ⟨rfl, fun i => hown.frozenAt i, hl⟩
theorem list_pnew {w : World} {ops : Array Oper} {rest : List Oper} {o : Oper} {a : Act} {Q : Exit → Act → World → Prop} (hgd : o.guard = none) (s x : Operand)
    (ho : o.op = .call { callee := .builtin .append, args := #[s, x], argTypes := #[23, 23] }) {B n c : Nat} {A : Option Addr} {f : Nat → Int × Int}
    (hs : a.eval s = .slice none 0 0) (hx : a.eval x = .slice A n c) (hr : Cl.PRow w B A n f) (hn : n ≤ 1000)
    (hK : ∀ p cp w', PNew w n f p w' → wpList Tryz.prog ops Q rest (a.put o.dst (.slice p n cp)) w') : wpList Tryz.prog ops Q (o :: rest) a w :=
  wpList_plain hgd fun _ hK' => by
    obtain ⟨p, cp, w', hrun, h1⟩ := run_pnew (c := c) o.type hr hn
    unfold Oper.wp execOp
    simp only [ho, resolve, invoke, builtin, Sem.run_bind, Sem.run_pure, Result.andThen_ok, List.map_toArray, List.map_cons, List.map_nil, hs, hx, hrun]
    exact hK' _ _ (hK p cp w' h1)
theorem list_bnew {w : World} {ops : Array Oper} {rest : List Oper} {o : Oper} {a : Act} {Q : Exit → Act → World → Prop} (hgd : o.guard = none) (s x : Operand)
    (ho : o.op = .call { callee := .builtin .append, args := #[s, x], argTypes := #[26, 26] }) {B n c : Nat} {A : Option Addr} {f : Nat → Bool}
    (hs : a.eval s = .slice none 0 0) (hx : a.eval x = .slice A n c) (hr : BRow w B A n f) (hn : n ≤ 1000000)
    (hK : ∀ p cp w', BNew w n f p w' → wpList Tryz.prog ops Q rest (a.put o.dst (.slice p n cp)) w') : wpList Tryz.prog ops Q (o :: rest) a w :=
  wpList_plain hgd fun _ hK' => by
    obtain ⟨p, cp, w', hrun, h1⟩ := run_bnew (c := c) o.type hr hn
    unfold Oper.wp execOp
    simp only [ho, resolve, invoke, builtin, Sem.run_bind, Sem.run_pure, Result.andThen_ok, List.map_toArray, List.map_cons, List.map_nil, hs, hx, hrun]
    exact hK' _ _ (hK p cp w' h1)
/-- Two blocks alone are turned, of those that were there. -/
def Stp (x y : Nat) (w w' : World) : Prop := w.heap.size ≤ w'.heap.size ∧ ∀ k, k < w.heap.size → ¬ k = x → ¬ k = y → w'.heap[k]? = w.heap[k]?
section
variable {x y : Nat} {w w' w'' : World}
theorem Stp.trans (h : Stp x y w w') (h' : Stp x y w' w'') : Stp x y w w'' := ⟨Nat.le_trans h.1 h'.1, fun k hk h1 h2 => (h'.2 k (Nat.lt_of_lt_of_le hk h.1) h1 h2).trans (h.2 k hk h1 h2)⟩
theorem Stp.of_below (h : Below w.heap.size w w') : Stp x y w w' := ⟨h.size, fun k hk _ _ => h.block k hk⟩
theorem Stp.set (j : Nat) (v : Value) : Stp x y w (w.setCell ⟨x, j, none⟩ v) := ⟨by simp [World.setCell], fun _ _ h1 _ => Below.heap_setCell _ _ _ _ h1⟩
theorem Stp.put (v0 v1 v2 v3 v4 v5 : Value) : Stp x y w (put6 w y v0 v1 v2 v3 v4 v5) := ⟨by rw [put6_size]; exact Nat.le_refl _, fun _ _ _ h2 => put6_other _ _ _ _ _ _ _ _ h2⟩
/-- A slice lies in neither. -/
def Out2 (x y : Nat) (v : Ls.Sl) : Prop := 0 < v.n → ∀ z, v.a = some z → ¬ z.block = x ∧ ¬ z.block = y
theorem row_stp {v : Ls.Sl} {xs : List Int} (h : Row w w.heap.size v.a v.n xs) (ho : Out2 x y v) (hs : Stp x y w w') : Row w' w'.heap.size v.a v.n xs := by
  refine (row_same h fun hn z hz => ?_).more hs.1
  obtain ⟨b, off, e, hlt, _⟩ := h.2 hn
  rw [hz] at e
  cases e
  exact hs.2 _ hlt (ho hn _ hz).1 (ho hn _ hz).2
theorem prow_stp {v : Ls.Sl} {f : Nat → Int × Int} (h : Cl.PRow w w.heap.size v.a v.n f) (ho : Out2 x y v) (hs : Stp x y w w') : Cl.PRow w' w'.heap.size v.a v.n f := fun hn => by
  obtain ⟨b, off, e, hlt, hc⟩ := h hn
  have hb := hs.2 b hlt (ho hn _ e).1 (ho hn _ e).2
  exact ⟨b, off, e, Nat.lt_of_lt_of_le hlt hs.1, fun i hi => ⟨(World.cell?_of_block (a := ⟨b, off + i * 2, none⟩) hb).trans (hc i hi).1, (World.cell?_of_block (a := ⟨b, off + i * 2 + 1, none⟩) hb).trans (hc i hi).2⟩⟩
theorem brow_stp {v : Ls.Sl} {f : Nat → Bool} (h : BRow w w.heap.size v.a v.n f) (ho : Out2 x y v) (hs : Stp x y w w') : BRow w' w'.heap.size v.a v.n f := fun hn => by
  obtain ⟨b, off, e, hlt, hc⟩ := h hn
  have hb := hs.2 b hlt (ho hn _ e).1 (ho hn _ e).2
  exact ⟨b, off, e, Nat.lt_of_lt_of_le hlt hs.1, fun i hi => (World.cell?_of_block (a := ⟨b, off + i, none⟩) hb).trans (hc i hi)⟩
end
end Go.Proofs.YtdmclfolooiccaaGreatDoor
end
section
namespace Go.Proofs.YtdmclfolooiccaaGreatDoor
open Go.RowKit
set_option maxRecDepth 100000

theorem hbox_same {W W' : World} {b : Nat} {t : Hs} (h : HBox W b t) (hs : W'.heap[b]? = W.heap[b]?) (hl : W.heap.size ≤ W'.heap.size) : HBox W' b t :=
  ⟨(World.cell?_of_block (a := ⟨b, 0, none⟩) hs).trans h.c0, (World.cell?_of_block (a := ⟨b, 1, none⟩) hs).trans h.c1, (World.cell?_of_block (a := ⟨b, 2, none⟩) hs).trans h.c2, (World.cell?_of_block (a := ⟨b, 3, none⟩) hs).trans h.c3, (World.cell?_of_block (a := ⟨b, 4, none⟩) hs).trans h.c4, (World.cell?_of_block (a := ⟨b, 5, none⟩) hs).trans h.c5, Nat.lt_of_lt_of_le h.lt hl⟩
/-- All cells of a block hold slices. -/
def Slices (W : World) (b : Nat) : Prop := ∀ j v, W.cell? ⟨b, j, none⟩ = some v → ∃ a n c, v = .slice a n c
theorem Slices.row {W : World} {b B n : Nat} {a : Option Addr} {xs : List Int} (h : Slices W b) (hr : Row W B a n xs) : 0 < n → ∀ x, a = some x → ¬ x.block = b := fun hn x hx e => by
  obtain ⟨b', off, e', _, hc⟩ := hr.2 hn
  rw [hx] at e'
  cases e'
  subst e
  obtain ⟨_, _, _, hv⟩ := h _ _ (hc 0 hn)
  cases hv
theorem Slices.prow {W : World} {b B n : Nat} {a : Option Addr} {f : Nat → Int × Int} (h : Slices W b) (hr : Cl.PRow W B a n f) : 0 < n → ∀ x, a = some x → ¬ x.block = b := fun hn x hx e => by
  obtain ⟨b', off, e', _, hc⟩ := hr hn
  rw [hx] at e'
  cases e'
  subst e
  obtain ⟨_, _, _, hv⟩ := h _ _ (hc 0 hn).1
  cases hv
theorem Slices.brow {W : World} {b B n : Nat} {a : Option Addr} {f : Nat → Bool} (h : Slices W b) (hr : BRow W B a n f) : 0 < n → ∀ x, a = some x → ¬ x.block = b := fun hn x hx e => by
  obtain ⟨b', off, e', _, hc⟩ := hr hn
  rw [hx] at e'
  cases e'
  subst e
  obtain ⟨_, _, _, hv⟩ := h _ _ (hc 0 hn)
  cases hv
theorem Slices.same {W W' : World} {b : Nat} (h : Slices W b) (hs : W'.heap[b]? = W.heap[b]?) : Slices W' b := fun j v hv => h j v ((World.cell?_of_block (a := ⟨b, j, none⟩) hs).symm.trans hv)
theorem cell_set_none {W : World} {b j : Nat} {v : Value} (h : W.cell? ⟨b, j, none⟩ = none) : (W.setCell ⟨b, j, none⟩ v).cell? ⟨b, j, none⟩ = none := by
  unfold World.cell? at h ⊢
  unfold World.setCell
  simp only [Array.getElem?_modify, if_true]
  cases hb : W.heap[b]? with
  | none => rfl
  | some o =>
    cases o with
    | cells c e f =>
      rw [hb] at h
      simp at h
      simp [h]
    | _ => rfl
theorem Slices.set {W : World} {b k : Nat} {a : Option Addr} {n c : Nat} (h : Slices W b) : Slices (W.setCell ⟨b, k, none⟩ (.slice a n c)) b := fun j v hv => by
  by_cases e : j = k
  · subst e
    cases hc : W.cell? ⟨b, j, none⟩ with
    | none => rw [cell_set_none hc] at hv; cases hv
    | some x =>
      rw [World.cell?_setCell_same' _ _ _ (by rw [hc]; rfl)] at hv
      cases hv
      exact ⟨a, n, c, rfl⟩
  · rw [World.cell?_setCell_other _ _ _ _ (by intro hh; simp only [Addr.mk.injEq, true_and, and_true] at hh; omega)] at hv
    exact h j v hv
/-- Rows stand where another block alone is turned. -/
theorem l3_turn {W W' : World} {b : Nat} {u : Nat → Ls.Sl} {F : Nat → List Int} (hS : Slices W b) (h : Ls.L3 W W.heap.size u F) (hs : ∀ i, ¬ i = b → W'.heap[i]? = W.heap[i]?) (hl : W.heap.size = W'.heap.size) : Ls.L3 W' W'.heap.size u F := fun j hj => by
  rw [← hl]
  exact ⟨row_same (h j hj).1 fun hn x hx => hs _ (hS.row (h j hj).1 hn x hx), (h j hj).2⟩
theorem hp_turn {W W' : World} {b : Nat} {t : Hs} {d : Hd_} (hS : Slices W b) (h : Hp W W.heap.size t d) (hs : ∀ i, ¬ i = b → W'.heap[i]? = W.heap[i]?) (hl : W.heap.size = W'.heap.size) : Hp W' W'.heap.size t d := by
  refine ⟨?_, fun hn => ?_, l3_turn hS h.free hs hl, fun hn => ?_⟩
  · rw [← hl]
    exact row_same h.words fun hn x hx => hs _ (hS.row h.words hn x hx)
  · obtain ⟨b', off, e, hlt, hc⟩ := h.pages hn
    rw [← hl]
    refine ⟨b', off, e, hlt, fun i hi => ?_⟩
    have hb' := hs b' (hS.prow h.pages hn _ e)
    exact ⟨(World.cell?_of_block (a := ⟨b', off + i * 2, none⟩) hb').trans (hc i hi).1, (World.cell?_of_block (a := ⟨b', off + i * 2 + 1, none⟩) hb').trans (hc i hi).2⟩
  · obtain ⟨b', off, e, hlt, hc⟩ := h.cards hn
    rw [← hl]
    refine ⟨b', off, e, hlt, fun i hi => ?_⟩
    exact (World.cell?_of_block (a := ⟨b', off + i, none⟩) (hs b' (hS.brow h.cards hn _ e))).trans (hc i hi)
theorem set_others {W : World} {b k : Nat} {v : Value} : ∀ i, ¬ i = b → (W.setCell ⟨b, k, none⟩ v).heap[i]? = W.heap[i]? := fun _ hi => Below.heap_setCell _ _ _ _ hi
theorem set3_others {W : World} {b k0 k1 k2 : Nat} {v0 v1 v2 : Value} : ∀ i, ¬ i = b → (((W.setCell ⟨b, k0, none⟩ v0).setCell ⟨b, k1, none⟩ v1).setCell ⟨b, k2, none⟩ v2).heap[i]? = W.heap[i]? := fun i hi => ((set_others i hi).trans (set_others i hi)).trans (set_others i hi)
theorem set_size {W : World} {p : Addr} {v : Value} : (W.setCell p v).heap.size = W.heap.size := by simp [World.setCell]
theorem slices6 (w : World) (t : Hs) (ty : TypeId) : Slices (w.alloc (.cells #[.slice t.w.a t.w.n t.w.c, .slice t.p.a t.p.n t.p.c, .slice (t.u 0).a (t.u 0).n (t.u 0).c, .slice (t.u 1).a (t.u 1).n (t.u 1).c, .slice (t.u 2).a (t.u 2).n (t.u 2).c, .slice t.c.a t.c.n t.c.c] ty)) w.heap.size := fun j v hv => by
  rcases j with _ | _ | _ | _ | _ | _ | j
  · simp [go_sem] at hv; exact ⟨_, _, _, hv.symm⟩
  · simp [go_sem] at hv; exact ⟨_, _, _, hv.symm⟩
  · simp [go_sem] at hv; exact ⟨_, _, _, hv.symm⟩
  · simp [go_sem] at hv; exact ⟨_, _, _, hv.symm⟩
  · simp [go_sem] at hv; exact ⟨_, _, _, hv.symm⟩
  · simp [go_sem] at hv; exact ⟨_, _, _, hv.symm⟩
  · simp [go_sem] at hv
/-- A box of a heap, or of what is made of one. -/
structure Rm (W : World) (b : Nat) (t : Hs) : Prop where
  box : Box6 W b t
  sl : Slices W b
section
variable {w W W' : World} {b : Nat} {t t' : Hs} {d d' : Hd_}
theorem Rm.same (h : Rm W b t) (hs : W'.heap[b]? = W.heap[b]?) (hl : W.heap.size ≤ W'.heap.size) : Rm W' b t := ⟨h.box.same hs hl, h.sl.same hs⟩
theorem Rm.next (h : Rm W b t) (hb : Below W.heap.size W W') : Rm W' b t := h.same (hb.block b h.box.box.lt) hb.size
theorem Rm.new (w : World) (t : Hs) (ty : TypeId) : Rm (w.alloc (.cells #[.slice t.w.a t.w.n t.w.c, .slice t.p.a t.p.n t.p.c, .slice (t.u 0).a (t.u 0).n (t.u 0).c, .slice (t.u 1).a (t.u 1).n (t.u 1).c, .slice (t.u 2).a (t.u 2).n (t.u 2).c, .slice t.c.a t.c.n t.c.c] ty)) w.heap.size t :=
  ⟨⟨HBox.new w t ty, fun j => by simp [go_sem]⟩, slices6 w t ty⟩
theorem Rm.set (h : Rm W b t) (k : Nat) (a : Option Addr) (n c : Nat)
    (e0 : Value.slice t'.w.a t'.w.n t'.w.c = if 0 = k then .slice a n c else .slice t.w.a t.w.n t.w.c) (e1 : Value.slice t'.p.a t'.p.n t'.p.c = if 1 = k then .slice a n c else .slice t.p.a t.p.n t.p.c)
    (e2 : Value.slice (t'.u 0).a (t'.u 0).n (t'.u 0).c = if 2 = k then .slice a n c else .slice (t.u 0).a (t.u 0).n (t.u 0).c) (e3 : Value.slice (t'.u 1).a (t'.u 1).n (t'.u 1).c = if 3 = k then .slice a n c else .slice (t.u 1).a (t.u 1).n (t.u 1).c)
    (e4 : Value.slice (t'.u 2).a (t'.u 2).n (t'.u 2).c = if 4 = k then .slice a n c else .slice (t.u 2).a (t.u 2).n (t.u 2).c) (e5 : Value.slice t'.c.a t'.c.n t'.c.c = if 5 = k then .slice a n c else .slice t.c.a t.c.n t.c.c) : Rm (W.setCell ⟨b, k, none⟩ (.slice a n c)) b t' :=
  ⟨⟨⟨cell_set h.box.box.c0 e0, cell_set h.box.box.c1 e1, cell_set h.box.box.c2 e2, cell_set h.box.box.c3 e3, cell_set h.box.box.c4 e4, cell_set h.box.box.c5 e5, by simpa [World.setCell] using h.box.box.lt⟩, frozen_set h.box.free⟩, h.sl.set⟩
/-- A box, and the heap that it holds, in the midst of a call. -/
structure Ro (w W : World) (b : Nat) (t : Hs) (d : Hd_) : Prop where
  bel : Below w.heap.size w W
  hi : w.heap.size ≤ b
  rm : Rm W b t
  hp : Hp W W.heap.size t d
theorem Ro.next (h : Ro w W b t d) (hb : Below W.heap.size W W') : Ro w W' b t d := ⟨h.bel.trans (hb.mono h.bel.size), h.hi, h.rm.next hb, h.hp.next hb⟩
theorem Ro.drew (h : Ro w W b t d) : Ro w W.drew b t d := h.next (below_drawn' (Below.refl _ _) 1)
/-- The box is turned, to what lies in memory already. -/
theorem Ro.turn (h : Ro w W b t d) (hr : Rm W' b t') (hb : Below w.heap.size w W') (hs : ∀ i, ¬ i = b → W'.heap[i]? = W.heap[i]?) (hl : W.heap.size = W'.heap.size) (hp : Hp W W.heap.size t' d') : Ro w W' b t' d' :=
  ⟨hb, h.hi, hr, hp_turn h.rm.sl hp hs hl⟩
theorem Ro.words (h : Ro w W b t d) (v : Ls.Sl) (ws : List Int) (hr : Row W W.heap.size v.a v.n ws) : Ro w (W.setCell ⟨b, 0, none⟩ (.slice v.a v.n v.c)) b ⟨v, t.p, t.u, t.c⟩ ⟨ws, d.f, d.F, d.cs⟩ :=
  h.turn (h.rm.set 0 _ _ _ rfl rfl rfl rfl rfl rfl) (h.bel.setCell (p := ⟨b, 0, none⟩) h.hi _) set_others set_size.symm ⟨hr, h.hp.pages, h.hp.free, h.hp.cards⟩
theorem Ro.pages (h : Ro w W b t d) (v : Ls.Sl) (f : Nat → Int × Int) (hr : Cl.PRow W W.heap.size v.a v.n f) : Ro w (W.setCell ⟨b, 1, none⟩ (.slice v.a v.n v.c)) b ⟨t.w, v, t.u, t.c⟩ ⟨d.ws, f, d.F, d.cs⟩ :=
  h.turn (h.rm.set 1 _ _ _ rfl rfl rfl rfl rfl rfl) (h.bel.setCell (p := ⟨b, 1, none⟩) h.hi _) set_others set_size.symm ⟨h.hp.words, hr, h.hp.free, h.hp.cards⟩
theorem Ro.cards (h : Ro w W b t d) (v : Ls.Sl) (cs : Nat → Bool) (hr : BRow W W.heap.size v.a v.n cs) : Ro w (W.setCell ⟨b, 5, none⟩ (.slice v.a v.n v.c)) b ⟨t.w, t.p, t.u, v⟩ ⟨d.ws, d.f, d.F, cs⟩ :=
  h.turn (h.rm.set 5 _ _ _ rfl rfl rfl rfl rfl rfl) (h.bel.setCell (p := ⟨b, 5, none⟩) h.hi _) set_others set_size.symm ⟨h.hp.words, h.hp.pages, h.hp.free, hr⟩
def triS (a b c : Ls.Sl) : Nat → Ls.Sl := fun | 0 => a | 1 => b | _ => c
theorem Rm.free3 (h : Rm W b t) (v : Nat → Ls.Sl) : Rm (((W.setCell ⟨b, 2, none⟩ (.slice (v 0).a (v 0).n (v 0).c)).setCell ⟨b, 3, none⟩ (.slice (v 1).a (v 1).n (v 1).c)).setCell ⟨b, 4, none⟩ (.slice (v 2).a (v 2).n (v 2).c)) b ⟨t.w, t.p, v, t.c⟩ := by
  have h1 := h.set (t' := ⟨t.w, t.p, triS (v 0) (t.u 1) (t.u 2), t.c⟩) 2 (v 0).a (v 0).n (v 0).c rfl rfl rfl rfl rfl rfl
  have h2 := h1.set (t' := ⟨t.w, t.p, triS (v 0) (v 1) (t.u 2), t.c⟩) 3 (v 1).a (v 1).n (v 1).c rfl rfl rfl rfl rfl rfl
  exact h2.set (t' := ⟨t.w, t.p, v, t.c⟩) 4 (v 2).a (v 2).n (v 2).c rfl rfl rfl rfl rfl rfl
theorem Ro.free3 (h : Ro w W b t d) (v : Nat → Ls.Sl) (F : Nat → List Int) (hl : Ls.L3 W W.heap.size v F) : Ro w (((W.setCell ⟨b, 2, none⟩ (.slice (v 0).a (v 0).n (v 0).c)).setCell ⟨b, 3, none⟩ (.slice (v 1).a (v 1).n (v 1).c)).setCell ⟨b, 4, none⟩ (.slice (v 2).a (v 2).n (v 2).c)) b ⟨t.w, t.p, v, t.c⟩ ⟨d.ws, d.f, F, d.cs⟩ :=
  h.turn (h.rm.free3 v) (((h.bel.setCell (p := ⟨b, 2, none⟩) h.hi _).setCell (p := ⟨b, 3, none⟩) h.hi _).setCell (p := ⟨b, 4, none⟩) h.hi _) set3_others (by simp) ⟨h.hp.words, h.hp.pages, hl, h.hp.cards⟩
/-- A whole heap is stored into the box. -/
theorem Rm.put (h : Rm W b t) (t' : Hs) : Rm (put6 W b (.slice t'.w.a t'.w.n t'.w.c) (.slice t'.p.a t'.p.n t'.p.c) (.slice (t'.u 0).a (t'.u 0).n (t'.u 0).c) (.slice (t'.u 1).a (t'.u 1).n (t'.u 1).c) (.slice (t'.u 2).a (t'.u 2).n (t'.u 2).c) (.slice t'.c.a t'.c.n t'.c.c)) b t' := by
  have h1 := h.set (t' := ⟨t'.w, t.p, t.u, t.c⟩) 0 t'.w.a t'.w.n t'.w.c rfl rfl rfl rfl rfl rfl
  have h2 := h1.set (t' := ⟨t'.w, t'.p, t.u, t.c⟩) 1 t'.p.a t'.p.n t'.p.c rfl rfl rfl rfl rfl rfl
  have h3 := h2.free3 t'.u
  exact h3.set (t' := t') 5 t'.c.a t'.c.n t'.c.c rfl rfl rfl rfl rfl rfl
theorem Ro.put (h : Ro w W b t d) (hp : Hp W W.heap.size t' d') : Ro w (put6 W b (.slice t'.w.a t'.w.n t'.w.c) (.slice t'.p.a t'.p.n t'.p.c) (.slice (t'.u 0).a (t'.u 0).n (t'.u 0).c) (.slice (t'.u 1).a (t'.u 1).n (t'.u 1).c) (.slice (t'.u 2).a (t'.u 2).n (t'.u 2).c) (.slice t'.c.a t'.c.n t'.c.c)) b t' d' :=
  h.turn (h.rm.put t') (below_put6 h.bel h.hi _ _ _ _ _ _) (fun _ hi => put6_other _ _ _ _ _ _ _ _ hi) (put6_size _ _ _ _ _ _ _ _).symm hp
/-- The result's cell is turned: all else stands. -/
theorem Ro.res {rb : Nat} {t0 : Hs} (h : Ro w W b t d) (hr : Rm W rb t0) (hi : w.heap.size ≤ rb) (t' : Hs) : Hp (put6 W rb (.slice t'.w.a t'.w.n t'.w.c) (.slice t'.p.a t'.p.n t'.p.c) (.slice (t'.u 0).a (t'.u 0).n (t'.u 0).c) (.slice (t'.u 1).a (t'.u 1).n (t'.u 1).c) (.slice (t'.u 2).a (t'.u 2).n (t'.u 2).c) (.slice t'.c.a t'.c.n t'.c.c)) (put6 W rb (.slice t'.w.a t'.w.n t'.w.c) (.slice t'.p.a t'.p.n t'.p.c) (.slice (t'.u 0).a (t'.u 0).n (t'.u 0).c) (.slice (t'.u 1).a (t'.u 1).n (t'.u 1).c) (.slice (t'.u 2).a (t'.u 2).n (t'.u 2).c) (.slice t'.c.a t'.c.n t'.c.c)).heap.size t d ∧
    Below w.heap.size w (put6 W rb (.slice t'.w.a t'.w.n t'.w.c) (.slice t'.p.a t'.p.n t'.p.c) (.slice (t'.u 0).a (t'.u 0).n (t'.u 0).c) (.slice (t'.u 1).a (t'.u 1).n (t'.u 1).c) (.slice (t'.u 2).a (t'.u 2).n (t'.u 2).c) (.slice t'.c.a t'.c.n t'.c.c)) :=
  ⟨hp_turn hr.sl h.hp (fun _ hi => put6_other _ _ _ _ _ _ _ _ hi) (put6_size _ _ _ _ _ _ _ _).symm, below_put6 h.bel hi _ _ _ _ _ _⟩
end
end Go.Proofs.YtdmclfolooiccaaGreatDoor
end
section
namespace Go.Proofs.YtdmclfolooiccaaGreatDoor
open Go.RowKit
set_option maxRecDepth 100000

/-- What a walk through Own has in memory. -/
structure Ow (w W : World) (bo : Nat) (s t : Hs) : Prop where
  bel : Below w.heap.size w W
  hb : HBox W w.heap.size s
  rb : Box6 W (w.heap.size + 1) noHs
  ob : Box6 W bo t
  lo : w.heap.size + 2 ≤ bo
theorem Ow.next {w W W' : World} {bo : Nat} {s t : Hs} (h : Ow w W bo s t) (hb : Below W.heap.size W W') : Ow w W' bo s t := ⟨h.bel.trans (hb.mono h.bel.size), h.hb.next hb, h.rb.next hb, h.ob.next hb, h.lo⟩
theorem Ow.set {w W : World} {bo : Nat} {s t t' : Hs} (h : Ow w W bo s t) (k : Nat) (x : Value)
    (e0 : Value.slice t'.w.a t'.w.n t'.w.c = if 0 = k then x else .slice t.w.a t.w.n t.w.c) (e1 : Value.slice t'.p.a t'.p.n t'.p.c = if 1 = k then x else .slice t.p.a t.p.n t.p.c)
    (e2 : Value.slice (t'.u 0).a (t'.u 0).n (t'.u 0).c = if 2 = k then x else .slice (t.u 0).a (t.u 0).n (t.u 0).c) (e3 : Value.slice (t'.u 1).a (t'.u 1).n (t'.u 1).c = if 3 = k then x else .slice (t.u 1).a (t.u 1).n (t.u 1).c)
    (e4 : Value.slice (t'.u 2).a (t'.u 2).n (t'.u 2).c = if 4 = k then x else .slice (t.u 2).a (t.u 2).n (t.u 2).c) (e5 : Value.slice t'.c.a t'.c.n t'.c.c = if 5 = k then x else .slice t.c.a t.c.n t.c.c) : Ow w (W.setCell ⟨bo, k, none⟩ x) bo s t' := by
  have hsz : W.heap.size = (W.setCell ⟨bo, k, none⟩ x).heap.size := by simp [World.setCell]
  have hoth : ∀ j, ¬ j = bo → (W.setCell ⟨bo, k, none⟩ x).heap[j]? = W.heap[j]? := fun j hj => Below.heap_setCell _ _ _ _ hj
  have hlo := h.lo
  have hB : Box6 W bo t := h.ob
  exact ⟨h.bel.setCell (p := ⟨bo, k, none⟩) (by show w.heap.size ≤ bo; omega) _, hbox_same h.hb (hoth _ (by omega)) (Nat.le_of_eq hsz), h.rb.same (hoth _ (by omega)) (Nat.le_of_eq hsz),
    ⟨⟨cell_set hB.box.c0 e0, cell_set hB.box.c1 e1, cell_set hB.box.c2 e2, cell_set hB.box.c3 e3, cell_set hB.box.c4 e4, cell_set hB.box.c5 e5, by rw [← hsz]; exact hB.box.lt⟩, frozen_set hB.free⟩, hlo⟩
theorem res_own {W : World} {b : Nat} {tm : Array Value} {v0 v1 v2 v3 v4 v5 : Value} (ht : tm[2]? = some (.pointer (some ⟨b, 0, none⟩))) (k0 : W.cell? ⟨b, 0, none⟩ = some v0) (k1 : W.cell? ⟨b, 1, none⟩ = some v1) (k2 : W.cell? ⟨b, 2, none⟩ = some v2) (k3 : W.cell? ⟨b, 3, none⟩ = some v3) (k4 : W.cell? ⟨b, 4, none⟩ = some v4) (k5 : W.cell? ⟨b, 5, none⟩ = some v5) :
    (results Tryz.f6 tm).run Tryz.prog W = .ok (.agg #[v0, v1, v2, v3, v4, v5]) W := by
  simp [results, Tryz.results6, go_sem, ht, k0, k1, k2, k3, k4, k5]
end Go.Proofs.YtdmclfolooiccaaGreatDoor
end
section
namespace Go.Proofs.YtdmclfolooiccaaGreatDoor
open Go.RowKit
set_option maxRecDepth 100000

theorem rbool {a b : Bool} (h : a = b) : Ending.returned (.bool a) = .returned (.bool b) := by rw [h]
/-- Is a page for objects with just so many fields? -/
def fillsB (n : Int) (p : Int × Int) : Bool := if p.1 = 2 then (Cl.runErr n == 0) && (Cl.runOf n == p.2) else (Cl.classErr n == 0) && (Cl.classOf n == p.2)
theorem fills_any (n : Int) (p : Int × Int) (w : World) (hz : Cl.Sz w) : Calls Tryz.prog 46 #[.int .i64 n, .agg #[.int .i64 p.1, .int .i64 p.2]] w fun e w' => e = .returned (.bool (fillsB n p)) ∧ Below w.heap.size w w' := by
  have HZ := Lib.hid (hz.alloc (.cells #[.int .i64 p.1, .int .i64 p.2] 74))
  clear hz
  by_cases hk : p.1 = 2
  · have k1 : (p.1 == 2) = true := by simp [hk]
    cases hr : (Cl.runErr n == 0)
    · have R : fillsB n p = false := by simp [fillsB, hk, hr]
      rw [R]
      clear R hk
      go_enter Tryz.func46, Tryz.ntmps46
      go_wp2_with fail
      refine (Cl.of_of n _ HZ.out).mono ?_
      rintro r w2 ⟨rfl, rfl⟩
      go_wp2_with fail
      refine (Cl.run_of n _ HZ.out).mono ?_
      rintro r w2 ⟨rfl, rfl⟩
      go_wp2
      go_ret
      exact ⟨rfl, (Below.refl _ _).alloc (Nat.le_refl _) _⟩
    · have R : fillsB n p = (Cl.runOf n == p.2) := by simp [fillsB, hk, hr]
      rw [R]
      clear R hk
      go_enter Tryz.func46, Tryz.ntmps46
      go_wp2_with fail
      refine (Cl.of_of n _ HZ.out).mono ?_
      rintro r w2 ⟨rfl, rfl⟩
      go_wp2_with fail
      refine (Cl.run_of n _ HZ.out).mono ?_
      rintro r w2 ⟨rfl, rfl⟩
      go_wp2
      go_ret
      exact ⟨rfl, (Below.refl _ _).alloc (Nat.le_refl _) _⟩
  · have k1 : (p.1 == 2) = false := by simp [hk]
    cases hr : (Cl.classErr n == 0)
    · have R : fillsB n p = false := by simp [fillsB, hk, hr]
      rw [R]
      clear R hk
      go_enter Tryz.func46, Tryz.ntmps46
      go_wp2_with fail
      refine (Cl.of_of n _ HZ.out).mono ?_
      rintro r w2 ⟨rfl, rfl⟩
      go_wp2
      go_ret
      exact ⟨rfl, (Below.refl _ _).alloc (Nat.le_refl _) _⟩
    · have R : fillsB n p = (Cl.classOf n == p.2) := by simp [fillsB, hk, hr]
      rw [R]
      clear R hk
      go_enter Tryz.func46, Tryz.ntmps46
      go_wp2_with fail
      refine (Cl.of_of n _ HZ.out).mono ?_
      rintro r w2 ⟨rfl, rfl⟩
      go_wp2
      go_ret
      exact ⟨rfl, (Below.refl _ _).alloc (Nat.le_refl _) _⟩
theorem words_may (A : Option Addr) (n c : Nat) (w : World) (hn : n ≤ 9223372036854775807) : Calls Tryz.prog 76 #[.slice A n c] w fun e w' => e = .returned (.bool (wordsB n)) ∧ w = w' := by
  cases h : wordsB n
  · exact Ar.may_no A n c w hn h
  · exact Ar.may_yes A n c w h
theorem sized_any (s : Hs) (d : Hd_) (w : World) (hp : Hp w w.heap.size s d) (hwn : s.w.n ≤ 4000) (hpn : s.p.n ≤ 1000) (hcn : s.c.n ≤ 100000) :
    Calls Tryz.prog 44 #[(.agg #[.slice s.w.a s.w.n s.w.c, .slice s.p.a s.p.n s.p.c, .slice (s.u 0).a (s.u 0).n (s.u 0).c, .slice (s.u 1).a (s.u 1).n (s.u 1).c, .slice (s.u 2).a (s.u 2).n (s.u 2).c, .slice s.c.a s.c.n s.c.c])] w fun e w' => e = .returned (.bool (firstB s d)) ∧ Below w.heap.size w w' := by
  have HP := Lib.hid hp
  have key : ∀ (b1 b2 b3 b4 : Bool), wordsB s.w.n = b1 → Cl.mayB d.f s.p.n = b2 → ((s.w.n : Int) == 16 * (s.p.n : Int)) = b3 → ((s.w.n : Int) == 8 * (s.c.n : Int)) = b4 → 
      Calls Tryz.prog 44 #[(.agg #[.slice s.w.a s.w.n s.w.c, .slice s.p.a s.p.n s.p.c, .slice (s.u 0).a (s.u 0).n (s.u 0).c, .slice (s.u 1).a (s.u 1).n (s.u 1).c, .slice (s.u 2).a (s.u 2).n (s.u 2).c, .slice s.c.a s.c.n s.c.c])] w fun e w' => e = .returned (.bool (b1 && (b2 && (b3 && b4)))) ∧ Below w.heap.size w w' := by
    intro b1 b2 b3 b4 e1 e2 e3 e4
    have E1 := Lib.hid e1
    have E2 := Lib.hid e2
    clear e1 e2 hp
    cases b1
    · rw [show (false && (b2 && (b3 && b4))) = false from rfl]
      go_enter Tryz.func44, Tryz.ntmps44
      go_wp2_with fail
      refine (words_may _ _ _ _ (by omega)).mono ?_
      rw [E1.out]
      rintro r w1 ⟨rfl, rfl⟩
      go_wp2
      go_ret
      exact ⟨rfl, (Below.refl _ _).alloc (Nat.le_refl _) _⟩
    · cases b2
      · rw [show (true && (false && (b3 && b4))) = false from rfl]
        go_enter Tryz.func44, Tryz.ntmps44
        go_wp2_with fail
        refine (words_may _ _ _ _ (by omega)).mono ?_
        rw [E1.out]
        rintro r w1 ⟨rfl, rfl⟩
        go_wp2_with fail
        have hb0 := (Below.refl w.heap.size w).alloc (Nat.le_refl _) (.cells #[.slice s.w.a s.w.n s.w.c, .slice s.p.a s.p.n s.p.c, .slice (s.u 0).a (s.u 0).n (s.u 0).c, .slice (s.u 1).a (s.u 1).n (s.u 1).c, .slice (s.u 2).a (s.u 2).n (s.u 2).c, .slice s.c.a s.c.n s.c.c] 28)
        refine (Cl.may_any w.heap.size s.p.a s.p.n s.p.c d.f _ hpn (HP.out.pages.below hb0) (by simp)).mono ?_
        rw [E2.out]
        rintro r w1 ⟨rfl, hb1⟩
        have BW := Lib.hid (hb0.trans (hb1.mono (by simp)))
        clear hb1 hb0
        go_wp2
        go_ret
        exact ⟨rfl, BW.out⟩
      · rw [show (true && (true && (b3 && b4))) = (b3 && b4) from rfl]
        cases b3
        · rw [show (false && b4) = false from rfl]
          go_enter Tryz.func44, Tryz.ntmps44
          go_wp2_with fail
          refine (words_may _ _ _ _ (by omega)).mono ?_
          rw [E1.out]
          rintro r w1 ⟨rfl, rfl⟩
          go_wp2_with fail
          have hb0 := (Below.refl w.heap.size w).alloc (Nat.le_refl _) (.cells #[.slice s.w.a s.w.n s.w.c, .slice s.p.a s.p.n s.p.c, .slice (s.u 0).a (s.u 0).n (s.u 0).c, .slice (s.u 1).a (s.u 1).n (s.u 1).c, .slice (s.u 2).a (s.u 2).n (s.u 2).c, .slice s.c.a s.c.n s.c.c] 28)
          refine (Cl.may_any w.heap.size s.p.a s.p.n s.p.c d.f _ hpn (HP.out.pages.below hb0) (by simp)).mono ?_
          rw [E2.out]
          rintro r w1 ⟨rfl, hb1⟩
          have HB1 := (HBox.new w s 28).next hb1
          have q0 := HB1.c0
          have q1 := HB1.c1
          have q5 := HB1.c5
          have ql := HB1.lt
          have BW := Lib.hid (hb0.trans (hb1.mono (by simp)))
          clear hb1 hb0 HB1
          go_wp2
          go_ret
          exact ⟨rfl, BW.out⟩
        · rw [show (true && b4) = b4 from rfl]
          go_enter Tryz.func44, Tryz.ntmps44
          go_wp2_with fail
          refine (words_may _ _ _ _ (by omega)).mono ?_
          rw [E1.out]
          rintro r w1 ⟨rfl, rfl⟩
          go_wp2_with fail
          have hb0 := (Below.refl w.heap.size w).alloc (Nat.le_refl _) (.cells #[.slice s.w.a s.w.n s.w.c, .slice s.p.a s.p.n s.p.c, .slice (s.u 0).a (s.u 0).n (s.u 0).c, .slice (s.u 1).a (s.u 1).n (s.u 1).c, .slice (s.u 2).a (s.u 2).n (s.u 2).c, .slice s.c.a s.c.n s.c.c] 28)
          refine (Cl.may_any w.heap.size s.p.a s.p.n s.p.c d.f _ hpn (HP.out.pages.below hb0) (by simp)).mono ?_
          rw [E2.out]
          rintro r w1 ⟨rfl, hb1⟩
          have HB1 := (HBox.new w s 28).next hb1
          have q0 := HB1.c0
          have q1 := HB1.c1
          have q5 := HB1.c5
          have ql := HB1.lt
          have BW := Lib.hid (hb0.trans (hb1.mono (by simp)))
          clear hb1 hb0 HB1
          go_wp2
          go_ret
          exact ⟨rfl, BW.out⟩
  have h := key _ _ _ _ rfl rfl rfl rfl
  have e : (wordsB s.w.n && (Cl.mayB d.f s.p.n && (((s.w.n : Int) == 16 * (s.p.n : Int)) && ((s.w.n : Int) == 8 * (s.c.n : Int))))) = firstB s d := by
    unfold firstB
    rw [Bool.eq_iff_iff]
    simp only [Bool.and_eq_true, beq_iff_eq, decide_eq_true_eq]
    constructor
    · rintro ⟨h1, h2, h3, h4⟩
      exact ⟨h1, h2, by omega, by omega⟩
    · rintro ⟨h1, h2, h3, h4⟩
      exact ⟨h1, h2, by omega, by omega⟩
  rwa [e] at h
/-- Of what rises: is it among them? -/
theorem has_any (B : Nat) (A : Option Addr) (n c : Nat) (xs : List Int) (x : Int) (w : World) (hn : n ≤ 100000000) (hr : Row w B A n xs) (hs : xs.Pairwise (· ≤ ·)) :
    Calls Tryz.prog 43 #[.slice A n c, .int .i64 x] w fun e w' => e = .returned (.bool (decide (x ∈ xs))) ∧ ∃ q, w' = w.drewN q := by
  by_cases h0 : n = 0
  · subst h0
    obtain rfl := hr.zero
    clear hr hs hn
    go_enter Tryz.func43, Tryz.ntmps43
    go_wp2_with fail
    refine (Tryz.slices_BinarySearch_int_empty A c x _).mono ?_
    rintro e w1 ⟨rfl, rfl⟩
    go_wp2
    go_ret
    exact ⟨rbool (by simp), 0, rfl⟩
  · obtain ⟨b, off, rfl, _, hc⟩ := hr.2 (by omega)
    have hl := hr.1
    have HB := Lib.hid (fun W (hW : W = w) => by
      have := Tryz.slices_BinarySearch_int b off n c xs x W (by omega) (by omega) (fun j hj => by rw [hW]; exact hc j (by omega)) (by rw [List.take_of_length_le (by omega)]; exact hs)
      rw [List.take_of_length_le (by omega), List.contains_eq_mem] at this
      exact this)
    clear hc hr hs h0 hl
    go_enter Tryz.func43, Tryz.ntmps43
    go_wp2_with fail
    refine (HB.out _ rfl).mono ?_
    rintro e w1 ⟨rfl, q, rfl⟩
    go_wp2
    go_ret
    exact ⟨rfl, q, rfl⟩
end Go.Proofs.YtdmclfolooiccaaGreatDoor
end
section
namespace Go.Proofs.YtdmclfolooiccaaGreatDoor.Ls
open Go.Proofs.YtdmclfolooiccaaGreatDoor
set_option maxRecDepth 100000
open Go.RowKit

/-- Lists of one's own and their box, beside other things. -/
structure Lst (base : Nat) (W wr : World) (R : Nat → Option Thing) (d : Nat) (V : Nat → Sl) (G : Nat → List Int) : Prop where
  res : Res base W wr R
  own : R 0 = some (tOwn base V G)
  box : R 1 = some (tBox d V)
  big : base ≤ wr.heap.size
section
variable {base d k : Nat} {W wr w2 : World} {R : Nat → Option Thing} {V : Nat → Sl} {G : Nat → List Int} {s : Sl} {xs : List Int} {o : Obj}
theorem Lst.drew (h : Lst base W wr R d V G) : Lst base W wr.drew R d V G := ⟨h.res.drewN 1, h.own, h.box, h.big⟩
theorem Lst.boxed (h : Lst base W wr R d V G) : Box3 wr d V := h.res.box h.box
theorem Lst.owns (h : Lst base W wr R d V G) : Own3 wr base V G := h.res.own h.own
theorem Lst.row (h : Lst base W wr R d V G) (o : Obj) (hk : k < 3) : (wr.alloc o).ownsRow base 3 1 (.slice (V k).a (V k).n (V k).c) (V k).n ((G k).map (Value.int .i64)) := (h.owns.alloc o).own k hk
theorem Lst.len (h : Lst base W wr R d V G) (hk : k < 3) : (V k).n = (G k).length := h.owns.l3.len k hk
theorem Lst.mid (h : Lst base W wr R d V G) (hk : k < 3) (hc : Catted (wr.alloc o) base (.slice (V k).a (V k).n (V k).c) s xs w2) : Box3 w2 d V ∧ wr.heap.size + 1 ≤ w2.heap.size :=
  ⟨(h.res.catted (b0 := base) h.big h.own hk hc hc.own).box (r := 1) (by rw [upd_other _ _ (by decide)]; exact h.box), by have := hc.grown.size; simpa using this⟩
theorem Lst.cat (h : Lst base W wr R d V G) (hk : k < 3) (hc : Catted (wr.alloc o) base (.slice (V k).a (V k).n (V k).c) s xs w2) :
    ∃ R', Lst base W (w2.setCell ⟨d, k, none⟩ (.slice s.a s.n s.c)) R' d (upd V k s) (upd G k xs) ∧ ∀ r, 2 ≤ r → R' r = R r := by
  have hw : base ≤ w2.heap.size := by have := (h.mid hk hc).2; have := h.big; omega
  have R1 := h.res.catted (b0 := base) h.big h.own hk hc hc.own
  have R2 := R1.set hw (r := 1) (d := d) (k := k) (z := V) (by rw [upd_other _ _ (by decide)]; exact h.box) hk s
  refine ⟨_, ⟨R2, ?_, upd_same _ _ _, by simpa [World.setCell] using hw⟩, fun r hr => ?_⟩
  · rw [upd_other _ _ (by decide), upd_same]
  · rw [upd_other _ _ (by omega), upd_other _ _ (by omega)]
/-- The box is stored to the result's box. -/
theorem Lst.done (h : Lst base W wr R d V G) {r : Nat} (hr : 2 ≤ r) {b : Nat} {z : Nat → Sl} (hb : R r = some (tBox b z)) : L3 (put3 wr b V) (put3 wr b V).heap.size V G ∧ Below base W (put3 wr b V) := by
  have R1 := h.res.put h.big hb V
  exact ⟨(R1.own (r := 0) (by rw [upd_other _ _ (by omega)]; exact h.own)).l3, R1.bel⟩
end
end Go.Proofs.YtdmclfolooiccaaGreatDoor.Ls
end
