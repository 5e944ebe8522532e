/-
  Merged texts: HpCp, HpSmall, LsRPush.
-/
import Derived.Test.YtccjelpfmkbmiaaGreatDoorHpXE
section
namespace Go.Proofs.YtccjelpfmkbmiaaGreatDoor
open Go.RowKit
set_option maxRecDepth 100000

/-- A box of six cells that are not frozen. -/
structure Box6 (W : World) (b : Nat) (t : Hs) : Prop where
  box : HBox W b t
  free : ∀ j, W.frozen? ⟨b, j, none⟩ = false
/-- Of such a heap's slices none lies in the two boxes. -/
def Off (b : Nat) (v : Ls.Sl) : Prop := 0 < v.n → ∀ x, v.a = some x → ¬ x.block = b ∧ ¬ x.block = b + 1
/-- A slice in new memory. -/
def New (b : Nat) (v : Ls.Sl) : Prop := 0 < v.n → ∀ x, v.a = some x → b ≤ x.block
/-- A heap that is being copied: what the box holds so far. -/
structure Cp (w W : World) (t : Hs) (d : Hd_) : Prop where
  bel : Below w.heap.size w W
  hp : Hp W W.heap.size t d
  ow : Off w.heap.size t.w
  op : Off w.heap.size t.p
  ou : ∀ j, j < 3 → Off w.heap.size (t.u j)
  oc : Off w.heap.size t.c
  box : Box6 W w.heap.size t
  res : Box6 W (w.heap.size + 1) noHs
theorem Box6.next {W W' : World} {b : Nat} {t : Hs} (h : Box6 W b t) (hb : Below W.heap.size W W') : Box6 W' b t := ⟨h.box.next hb, fun j => (hb.frozen (p := ⟨b, j, none⟩) h.box.lt).trans (h.free j)⟩
theorem Box6.same {W W' : World} {b : Nat} {t : Hs} (h : Box6 W b t) (hs : W'.heap[b]? = W.heap[b]?) (hl : W.heap.size ≤ W'.heap.size) : Box6 W' b t :=
  ⟨⟨(World.cell?_of_block (a := ⟨b, 0, none⟩) hs).trans h.box.c0, (World.cell?_of_block (a := ⟨b, 1, none⟩) hs).trans h.box.c1, (World.cell?_of_block (a := ⟨b, 2, none⟩) hs).trans h.box.c2, (World.cell?_of_block (a := ⟨b, 3, none⟩) hs).trans h.box.c3, (World.cell?_of_block (a := ⟨b, 4, none⟩) hs).trans h.box.c4, (World.cell?_of_block (a := ⟨b, 5, none⟩) hs).trans h.box.c5, Nat.lt_of_lt_of_le h.box.lt hl⟩,
   fun j => (World.frozen?_of_block (a := ⟨b, j, none⟩) hs).trans (h.free j)⟩
theorem Cp.next {w W W' : World} {t : Hs} {d : Hd_} (h : Cp w W t d) (hb : Below W.heap.size W W') : Cp w W' t d :=
  ⟨h.bel.trans (hb.mono h.bel.size), h.hp.next hb, h.ow, h.op, h.ou, h.oc, h.box.next hb, h.res.next hb⟩
/-- All slices stand where only the first box is turned. -/
theorem hp_off {W W' : World} {b : Nat} {t : Hs} {d : Hd_} (h : Hp W W.heap.size t d) (ow : Off b t.w) (op : Off b t.p) (ou : ∀ j, j < 3 → Off b (t.u j)) (oc : Off b t.c) (hs : ∀ k, ¬ k = b → ¬ k = b + 1 → W'.heap[k]? = W.heap[k]?) (hl : W.heap.size = W'.heap.size) : Hp W' W'.heap.size t d := by
  rw [← hl]
  refine ⟨row_same h.words fun hn x hx => hs _ (ow hn x hx).1 (ow hn x hx).2, fun hn => ?_, fun j hj => ⟨row_same (h.free j hj).1 fun hn x hx => hs _ (ou j hj hn x hx).1 (ou j hj hn x hx).2, (h.free j hj).2⟩, fun hn => ?_⟩
  · obtain ⟨b', off, e, hlt, hc⟩ := h.pages hn
    refine ⟨b', off, e, hlt, fun i hi => ?_⟩
    have hb' := hs b' (op hn _ e).1 (op hn _ e).2
    exact ⟨(World.cell?_of_block (a := ⟨b', off + i * 2, none⟩) hb').trans (hc i hi).1, (World.cell?_of_block (a := ⟨b', off + i * 2 + 1, none⟩) hb').trans (hc i hi).2⟩
  · obtain ⟨b', off, e, hlt, hc⟩ := h.cards hn
    refine ⟨b', off, e, hlt, fun i hi => ?_⟩
    exact (World.cell?_of_block (a := ⟨b', off + i, none⟩) (hs b' (oc hn _ e).1 (oc hn _ e).2)).trans (hc i hi)
theorem frozen_set {W : World} {b k : Nat} {v : Value} (h : ∀ j, W.frozen? ⟨b, j, none⟩ = false) : ∀ j, (W.setCell ⟨b, k, none⟩ v).frozen? ⟨b, j, none⟩ = false := fun j => by rw [World.frozen?_setCell]; exact h j
theorem cell_set {W : World} {b k j : Nat} {v x y : Value} (h : W.cell? ⟨b, j, none⟩ = some x) (hy : y = if j = k then v else x) : (W.setCell ⟨b, k, none⟩ v).cell? ⟨b, j, none⟩ = some y := by
  subst hy
  by_cases e : j = k
  · subst e
    rw [if_pos rfl]
    exact World.cell?_setCell_same' _ _ _ (by rw [h]; rfl)
  · rw [if_neg e, World.cell?_setCell_other _ _ _ _ (by intro hh; simp only [Addr.mk.injEq, true_and, and_true] at hh; omega)]
    exact h
/-- One cell of the box is turned: the heap with that slice in the place of the old one. -/
theorem Cp.set {w W : World} {t t' : Hs} {d : Hd_} (h : Cp w W t d) (k : Nat) (v : Value) (hp : Hp W W.heap.size t' d) (ow : Off w.heap.size t'.w) (op : Off w.heap.size t'.p) (ou : ∀ j, j < 3 → Off w.heap.size (t'.u j)) (oc : Off w.heap.size t'.c)
    (e0 : Value.slice t'.w.a t'.w.n t'.w.c = if 0 = k then v else .slice t.w.a t.w.n t.w.c) (e1 : Value.slice t'.p.a t'.p.n t'.p.c = if 1 = k then v else .slice t.p.a t.p.n t.p.c)
    (e2 : Value.slice (t'.u 0).a (t'.u 0).n (t'.u 0).c = if 2 = k then v else .slice (t.u 0).a (t.u 0).n (t.u 0).c) (e3 : Value.slice (t'.u 1).a (t'.u 1).n (t'.u 1).c = if 3 = k then v else .slice (t.u 1).a (t.u 1).n (t.u 1).c)
    (e4 : Value.slice (t'.u 2).a (t'.u 2).n (t'.u 2).c = if 4 = k then v else .slice (t.u 2).a (t.u 2).n (t.u 2).c) (e5 : Value.slice t'.c.a t'.c.n t'.c.c = if 5 = k then v else .slice t.c.a t.c.n t.c.c) :
    Cp w (W.setCell ⟨w.heap.size, k, none⟩ v) t' d := by
  have hsz : W.heap.size = (W.setCell ⟨w.heap.size, k, none⟩ v).heap.size := by simp [World.setCell]
  have hoth : ∀ j, ¬ j = w.heap.size → (W.setCell ⟨w.heap.size, k, none⟩ v).heap[j]? = W.heap[j]? := fun j hj => Below.heap_setCell _ _ _ _ hj
  exact ⟨h.bel.setCell (Nat.le_refl _) _, hp_off hp ow op ou oc (fun j hj _ => hoth j hj) hsz, ow, op, ou, oc,
    ⟨⟨cell_set h.box.box.c0 e0, cell_set h.box.box.c1 e1, cell_set h.box.box.c2 e2, cell_set h.box.box.c3 e3, cell_set h.box.box.c4 e4, cell_set h.box.box.c5 e5, by rw [← hsz]; exact h.box.box.lt⟩, frozen_set h.box.free⟩,
    h.res.same (hoth _ (by omega)) (Nat.le_of_eq hsz)⟩
theorem Cp.drew {w W : World} {t : Hs} {d : Hd_} (h : Cp w W t d) : Cp w W.drew t d := h.next (below_drawn' (Below.refl _ _) 1)
theorem off_old {w : World} {b : Nat} {v : Ls.Sl} {xs : List Int} (h : Row w b v.a v.n xs) : Off b v := fun hn x hx => by
  obtain ⟨b', off, e, hlt, _⟩ := h.2 hn
  rw [hx] at e
  cases e
  exact ⟨by show ¬ b' = b; omega, by show ¬ b' = b + 1; omega⟩
/-- A slice that a call made, as a row, and apart from the boxes. -/
theorem own_off {b base : Nat} {W : World} {v : Ls.Sl} {xs : List Int} (ho : W.ownsRow base 3 1 (.slice v.a v.n v.c) v.n (xs.map (Value.int .i64))) (hb : b + 2 ≤ base) : Row W W.heap.size v.a v.n xs ∧ v.n ≤ v.c ∧ v.c ≤ maxLen ∧ Off b v ∧ New b v := by
  obtain ⟨a, c, e, hr, h1, h2⟩ := Ls.owns_row ho
  simp only [Value.slice.injEq, true_and] at e
  obtain ⟨rfl, rfl⟩ := e
  refine ⟨hr, h1, h2, fun _ x hx => ?_, fun _ x hx => ?_⟩
  · have := (ho.lt x.block (by rw [Ls.ownBlock_slice, hx]; rfl)).1
    exact ⟨by omega, by omega⟩
  · have := (ho.lt x.block (by rw [Ls.ownBlock_slice, hx]; rfl)).1
    omega
/-- What copied leaves: the same heap, in memory of its own. -/
structure News (b : Nat) (t : Hs) : Prop where
  w : New b t.w
  p : New b t.p
  u : ∀ j, j < 3 → New b (t.u j)
  c : New b t.c
/-- A heap in new memory stands where nothing of that is turned. -/
theorem News.kept {b : Nat} {t : Hs} {d : Hd_} {W W' : World} (hn : News b t) (h : Hp W W.heap.size t d) (hs : ∀ k, b ≤ k → k < W.heap.size → W'.heap[k]? = W.heap[k]?) (hl : W.heap.size ≤ W'.heap.size) : Hp W' W'.heap.size t d := by
  refine Hp.more ?_ hl
  refine ⟨row_same h.words fun h0 x hx => ?_, fun h0 => ?_, fun j hj => ⟨row_same (h.free j hj).1 fun h0 x hx => ?_, (h.free j hj).2⟩, fun h0 => ?_⟩
  · obtain ⟨b', off, e, hlt, _⟩ := h.words.2 h0
    rw [hx] at e
    cases e
    exact hs _ (hn.w h0 _ hx) hlt
  · obtain ⟨b', off, e, hlt, hc⟩ := h.pages h0
    have hb' := hs b' (hn.p h0 _ e) hlt
    exact ⟨b', off, e, hlt, fun i hi => ⟨(World.cell?_of_block (a := ⟨b', off + i * 2, none⟩) hb').trans (hc i hi).1, (World.cell?_of_block (a := ⟨b', off + i * 2 + 1, none⟩) hb').trans (hc i hi).2⟩⟩
  · obtain ⟨b', off, e, hlt, _⟩ := (h.free j hj).1.2 h0
    rw [hx] at e
    cases e
    exact hs _ (hn.u j hj h0 _ hx) hlt
  · obtain ⟨b', off, e, hlt, hc⟩ := h.cards h0
    exact ⟨b', off, e, hlt, fun i hi => (World.cell?_of_block (a := ⟨b', off + i, none⟩) (hs b' (hn.c h0 _ e) hlt)).trans (hc i hi)⟩
def CopyOut (w : World) (s : Hs) (d : Hd_) (e : Ending) (w' : World) : Prop :=
  ∃ t : Hs, e = .returned (.agg #[.slice t.w.a t.w.n t.w.c, .slice t.p.a t.p.n t.p.c, .slice (t.u 0).a (t.u 0).n (t.u 0).c, .slice (t.u 1).a (t.u 1).n (t.u 1).c, .slice (t.u 2).a (t.u 2).n (t.u 2).c, .slice t.c.a t.c.n t.c.c]) ∧ Hp w' w'.heap.size t d ∧ (t.w.n = s.w.n ∧ t.p.n = s.p.n ∧ (∀ j, j < 3 → (t.u j).n = (s.u j).n) ∧ t.c.n = s.c.n) ∧ News w.heap.size t ∧ Below w.heap.size w w'
/-- Words, pages and cards are turned at once. -/
theorem Cp.three {w W : World} {s t : Hs} {d : Hd_} (h : Cp w W s d) (hp : Hp W W.heap.size t d) (ow : Off w.heap.size t.w) (op : Off w.heap.size t.p) (oc : Off w.heap.size t.c) (eu : t.u = s.u) :
    Cp w (((W.setCell ⟨w.heap.size, 0, none⟩ (.slice t.w.a t.w.n t.w.c)).setCell ⟨w.heap.size, 1, none⟩ (.slice t.p.a t.p.n t.p.c)).setCell ⟨w.heap.size, 5, none⟩ (.slice t.c.a t.c.n t.c.c)) t d := by
  have hsz : W.heap.size = (((W.setCell ⟨w.heap.size, 0, none⟩ (.slice t.w.a t.w.n t.w.c)).setCell ⟨w.heap.size, 1, none⟩ (.slice t.p.a t.p.n t.p.c)).setCell ⟨w.heap.size, 5, none⟩ (.slice t.c.a t.c.n t.c.c)).heap.size := by simp [World.setCell]
  have hoth : ∀ j, ¬ j = w.heap.size → (((W.setCell ⟨w.heap.size, 0, none⟩ (.slice t.w.a t.w.n t.w.c)).setCell ⟨w.heap.size, 1, none⟩ (.slice t.p.a t.p.n t.p.c)).setCell ⟨w.heap.size, 5, none⟩ (.slice t.c.a t.c.n t.c.c)).heap[j]? = W.heap[j]? := fun j hj => (Below.heap_setCell _ _ _ _ hj).trans ((Below.heap_setCell _ _ _ _ hj).trans (Below.heap_setCell _ _ _ _ hj))
  have ou : ∀ j, j < 3 → Off w.heap.size (t.u j) := by rw [eu]; exact h.ou
  refine ⟨((h.bel.setCell (p := ⟨w.heap.size, 0, none⟩) (Nat.le_refl _) _).setCell (p := ⟨w.heap.size, 1, none⟩) (Nat.le_refl _) _).setCell (p := ⟨w.heap.size, 5, none⟩) (Nat.le_refl _) _, hp_off hp ow op ou oc (fun j hj _ => hoth j hj) hsz, ow, op, ou, oc,
    ⟨⟨?_, ?_, ?_, ?_, ?_, ?_, by rw [← hsz]; exact h.box.box.lt⟩, frozen_set (frozen_set (frozen_set h.box.free))⟩, h.res.same (hoth _ (by omega)) (Nat.le_of_eq hsz)⟩
  · exact cell_set (cell_set (cell_set h.box.box.c0 rfl) rfl) rfl
  · exact cell_set (cell_set (cell_set h.box.box.c1 rfl) rfl) rfl
  · rw [eu]; exact cell_set (cell_set (cell_set h.box.box.c2 rfl) rfl) rfl
  · rw [eu]; exact cell_set (cell_set (cell_set h.box.box.c3 rfl) rfl) rfl
  · rw [eu]; exact cell_set (cell_set (cell_set h.box.box.c4 rfl) rfl) rfl
  · exact cell_set (cell_set (cell_set h.box.box.c5 rfl) rfl) rfl
/-- One of the lists is turned. -/
theorem Cp.list {w W : World} {t : Hs} {d : Hd_} (h : Cp w W t d) {k : Nat} (hk : k < 3) (v : Ls.Sl) (hr : Row W W.heap.size v.a v.n (d.F k)) (h1 : v.n ≤ v.c) (h2 : v.c ≤ maxLen) (ho : Off w.heap.size v) :
    Cp w (W.setCell ⟨w.heap.size, 2 + k, none⟩ (.slice v.a v.n v.c)) ⟨t.w, t.p, Ls.upd t.u k v, t.c⟩ d := by
  have hp : Hp W W.heap.size ⟨t.w, t.p, Ls.upd t.u k v, t.c⟩ d := ⟨h.hp.words, h.hp.pages, by
    have := h.hp.free.set k v (d.F k) hr h1 h2
    rwa [show Ls.upd d.F k (d.F k) = d.F by funext j; by_cases e : j = k <;> simp [Ls.upd, e]] at this, h.hp.cards⟩
  have ou : ∀ j, j < 3 → Off w.heap.size (Ls.upd t.u k v j) := fun j hj => by
    by_cases e : j = k
    · subst e; rw [Ls.upd_same]; exact ho
    · rw [Ls.upd_other _ _ e]; exact h.ou j hj
  refine h.set (2 + k) _ hp h.ow h.op ou h.oc ?_ ?_ ?_ ?_ ?_ ?_
  · rw [if_neg (by omega)]
  · rw [if_neg (by omega)]
  · by_cases e : k = 0
    · subst e; rfl
    · rw [if_neg (by omega)]
      dsimp only
      rw [Ls.upd_other _ _ (by omega)]
  · by_cases e : k = 1
    · subst e; rfl
    · rw [if_neg (by omega)]
      dsimp only
      rw [Ls.upd_other _ _ (by omega)]
  · by_cases e : k = 2
    · subst e; rfl
    · rw [if_neg (by omega)]
      dsimp only
      rw [Ls.upd_other _ _ (by omega)]
  · rw [if_neg (by omega)]
theorem prow_more {w : World} {B C n : Nat} {a : Option Addr} {f : Nat → Int × Int} (h : Cl.PRow w B a n f) (hB : B ≤ C) : Cl.PRow w C a n f := fun hn => by
  obtain ⟨b, off, e, hlt, hc⟩ := h hn
  exact ⟨b, off, e, Nat.lt_of_lt_of_le hlt hB, hc⟩
def Lens (s t : Hs) : Prop := t.w.n = s.w.n ∧ t.p.n = s.p.n ∧ (∀ j, j < 3 → (t.u j).n = (s.u j).n) ∧ t.c.n = s.c.n
theorem put6_at {W : World} {b : Nat} {t : Hs} (h : Box6 W b t) (v0 v1 v2 v3 v4 v5 : Value) :
    (put6 W b v0 v1 v2 v3 v4 v5).cell? ⟨b, 0, none⟩ = some v0 ∧ (put6 W b v0 v1 v2 v3 v4 v5).cell? ⟨b, 1, none⟩ = some v1 ∧ (put6 W b v0 v1 v2 v3 v4 v5).cell? ⟨b, 2, none⟩ = some v2 ∧
    (put6 W b v0 v1 v2 v3 v4 v5).cell? ⟨b, 3, none⟩ = some v3 ∧ (put6 W b v0 v1 v2 v3 v4 v5).cell? ⟨b, 4, none⟩ = some v4 ∧ (put6 W b v0 v1 v2 v3 v4 v5).cell? ⟨b, 5, none⟩ = some v5 := by
  have h0 := h.box.c0
  have h1 := h.box.c1
  have h2 := h.box.c2
  have h3 := h.box.c3
  have h4 := h.box.c4
  have h5 := h.box.c5
  refine ⟨?_, ?_, ?_, ?_, ?_, ?_⟩ <;> simp [put6, go_sem, h0, h1, h2, h3, h4, h5]
end Go.Proofs.YtccjelpfmkbmiaaGreatDoor
end
section
namespace Go.Proofs.YtccjelpfmkbmiaaGreatDoor
open Go.RowKit
set_option maxRecDepth 100000

theorem rbool {a b : Bool} (h : a = b) : Ending.returned (.bool a) = .returned (.bool b) := by rw [h]
/-- Is a page for objects with just so many fields? -/
def fillsB (n : Int) (p : Int × Int) : Bool := if p.1 = 2 then (Cl.runErr n == 0) && (Cl.runOf n == p.2) else (Cl.classErr n == 0) && (Cl.classOf n == p.2)
theorem fills_any (n : Int) (p : Int × Int) (w : World) (hz : Cl.Sz w) : Calls Tryz.prog 64 #[.int .i64 n, .agg #[.int .i64 p.1, .int .i64 p.2]] w fun e w' => e = .returned (.bool (fillsB n p)) ∧ Below w.heap.size w w' := by
  have HZ := Lib.hid (hz.alloc (.cells #[.int .i64 p.1, .int .i64 p.2] 81))
  clear hz
  by_cases hk : p.1 = 2
  · have k1 : (p.1 == 2) = true := by simp [hk]
    cases hr : (Cl.runErr n == 0)
    · have R : fillsB n p = false := by simp [fillsB, hk, hr]
      rw [R]
      clear R hk
      go_enter Tryz.func64, Tryz.ntmps64
      go_wp2_with fail
      refine (Cl.of_of n _ HZ.out).mono ?_
      rintro r w2 ⟨rfl, rfl⟩
      go_wp2_with fail
      refine (Cl.run_of n _ HZ.out).mono ?_
      rintro r w2 ⟨rfl, rfl⟩
      go_wp2
      go_ret
      exact ⟨rfl, (Below.refl _ _).alloc (Nat.le_refl _) _⟩
    · have R : fillsB n p = (Cl.runOf n == p.2) := by simp [fillsB, hk, hr]
      rw [R]
      clear R hk
      go_enter Tryz.func64, Tryz.ntmps64
      go_wp2_with fail
      refine (Cl.of_of n _ HZ.out).mono ?_
      rintro r w2 ⟨rfl, rfl⟩
      go_wp2_with fail
      refine (Cl.run_of n _ HZ.out).mono ?_
      rintro r w2 ⟨rfl, rfl⟩
      go_wp2
      go_ret
      exact ⟨rfl, (Below.refl _ _).alloc (Nat.le_refl _) _⟩
  · have k1 : (p.1 == 2) = false := by simp [hk]
    cases hr : (Cl.classErr n == 0)
    · have R : fillsB n p = false := by simp [fillsB, hk, hr]
      rw [R]
      clear R hk
      go_enter Tryz.func64, Tryz.ntmps64
      go_wp2_with fail
      refine (Cl.of_of n _ HZ.out).mono ?_
      rintro r w2 ⟨rfl, rfl⟩
      go_wp2
      go_ret
      exact ⟨rfl, (Below.refl _ _).alloc (Nat.le_refl _) _⟩
    · have R : fillsB n p = (Cl.classOf n == p.2) := by simp [fillsB, hk, hr]
      rw [R]
      clear R hk
      go_enter Tryz.func64, Tryz.ntmps64
      go_wp2_with fail
      refine (Cl.of_of n _ HZ.out).mono ?_
      rintro r w2 ⟨rfl, rfl⟩
      go_wp2
      go_ret
      exact ⟨rfl, (Below.refl _ _).alloc (Nat.le_refl _) _⟩
theorem words_may (A : Option Addr) (n c : Nat) (w : World) (hn : n ≤ 9223372036854775807) : Calls Tryz.prog 95 #[.slice A n c] w fun e w' => e = .returned (.bool (wordsB n)) ∧ w = w' := by
  cases h : wordsB n
  · exact Ar.may_no A n c w hn h
  · exact Ar.may_yes A n c w h
theorem sized_any (s : Hs) (d : Hd_) (w : World) (hp : Hp w w.heap.size s d) (hwn : s.w.n ≤ 4000) (hpn : s.p.n ≤ 1000) (hcn : s.c.n ≤ 100000) :
    Calls Tryz.prog 61 #[(.agg #[.slice s.w.a s.w.n s.w.c, .slice s.p.a s.p.n s.p.c, .slice (s.u 0).a (s.u 0).n (s.u 0).c, .slice (s.u 1).a (s.u 1).n (s.u 1).c, .slice (s.u 2).a (s.u 2).n (s.u 2).c, .slice s.c.a s.c.n s.c.c])] w fun e w' => e = .returned (.bool (firstB s d)) ∧ Below w.heap.size w w' := by
  have HP := Lib.hid hp
  have key : ∀ (b1 b2 b3 b4 : Bool), wordsB s.w.n = b1 → Cl.mayB d.f s.p.n = b2 → ((s.w.n : Int) == 16 * (s.p.n : Int)) = b3 → ((s.w.n : Int) == 8 * (s.c.n : Int)) = b4 → 
      Calls Tryz.prog 61 #[(.agg #[.slice s.w.a s.w.n s.w.c, .slice s.p.a s.p.n s.p.c, .slice (s.u 0).a (s.u 0).n (s.u 0).c, .slice (s.u 1).a (s.u 1).n (s.u 1).c, .slice (s.u 2).a (s.u 2).n (s.u 2).c, .slice s.c.a s.c.n s.c.c])] w fun e w' => e = .returned (.bool (b1 && (b2 && (b3 && b4)))) ∧ Below w.heap.size w w' := by
    intro b1 b2 b3 b4 e1 e2 e3 e4
    have E1 := Lib.hid e1
    have E2 := Lib.hid e2
    clear e1 e2 hp
    cases b1
    · rw [show (false && (b2 && (b3 && b4))) = false from rfl]
      go_enter Tryz.func61, Tryz.ntmps61
      go_wp2_with fail
      refine (words_may _ _ _ _ (by omega)).mono ?_
      rw [E1.out]
      rintro r w1 ⟨rfl, rfl⟩
      go_wp2
      go_ret
      exact ⟨rfl, (Below.refl _ _).alloc (Nat.le_refl _) _⟩
    · cases b2
      · rw [show (true && (false && (b3 && b4))) = false from rfl]
        go_enter Tryz.func61, Tryz.ntmps61
        go_wp2_with fail
        refine (words_may _ _ _ _ (by omega)).mono ?_
        rw [E1.out]
        rintro r w1 ⟨rfl, rfl⟩
        go_wp2_with fail
        have hb0 := (Below.refl w.heap.size w).alloc (Nat.le_refl _) (.cells #[.slice s.w.a s.w.n s.w.c, .slice s.p.a s.p.n s.p.c, .slice (s.u 0).a (s.u 0).n (s.u 0).c, .slice (s.u 1).a (s.u 1).n (s.u 1).c, .slice (s.u 2).a (s.u 2).n (s.u 2).c, .slice s.c.a s.c.n s.c.c] 28)
        refine (Cl.may_any w.heap.size s.p.a s.p.n s.p.c d.f _ hpn (HP.out.pages.below hb0) (by simp)).mono ?_
        rw [E2.out]
        rintro r w1 ⟨rfl, hb1⟩
        have BW := Lib.hid (hb0.trans (hb1.mono (by simp)))
        clear hb1 hb0
        go_wp2
        go_ret
        exact ⟨rfl, BW.out⟩
      · rw [show (true && (true && (b3 && b4))) = (b3 && b4) from rfl]
        cases b3
        · rw [show (false && b4) = false from rfl]
          go_enter Tryz.func61, Tryz.ntmps61
          go_wp2_with fail
          refine (words_may _ _ _ _ (by omega)).mono ?_
          rw [E1.out]
          rintro r w1 ⟨rfl, rfl⟩
          go_wp2_with fail
          have hb0 := (Below.refl w.heap.size w).alloc (Nat.le_refl _) (.cells #[.slice s.w.a s.w.n s.w.c, .slice s.p.a s.p.n s.p.c, .slice (s.u 0).a (s.u 0).n (s.u 0).c, .slice (s.u 1).a (s.u 1).n (s.u 1).c, .slice (s.u 2).a (s.u 2).n (s.u 2).c, .slice s.c.a s.c.n s.c.c] 28)
          refine (Cl.may_any w.heap.size s.p.a s.p.n s.p.c d.f _ hpn (HP.out.pages.below hb0) (by simp)).mono ?_
          rw [E2.out]
          rintro r w1 ⟨rfl, hb1⟩
          have HB1 := (HBox.new w s 28).next hb1
          have q0 := HB1.c0
          have q1 := HB1.c1
          have q5 := HB1.c5
          have ql := HB1.lt
          have BW := Lib.hid (hb0.trans (hb1.mono (by simp)))
          clear hb1 hb0 HB1
          go_wp2
          go_ret
          exact ⟨rfl, BW.out⟩
        · rw [show (true && b4) = b4 from rfl]
          go_enter Tryz.func61, Tryz.ntmps61
          go_wp2_with fail
          refine (words_may _ _ _ _ (by omega)).mono ?_
          rw [E1.out]
          rintro r w1 ⟨rfl, rfl⟩
          go_wp2_with fail
          have hb0 := (Below.refl w.heap.size w).alloc (Nat.le_refl _) (.cells #[.slice s.w.a s.w.n s.w.c, .slice s.p.a s.p.n s.p.c, .slice (s.u 0).a (s.u 0).n (s.u 0).c, .slice (s.u 1).a (s.u 1).n (s.u 1).c, .slice (s.u 2).a (s.u 2).n (s.u 2).c, .slice s.c.a s.c.n s.c.c] 28)
          refine (Cl.may_any w.heap.size s.p.a s.p.n s.p.c d.f _ hpn (HP.out.pages.below hb0) (by simp)).mono ?_
          rw [E2.out]
          rintro r w1 ⟨rfl, hb1⟩
          have HB1 := (HBox.new w s 28).next hb1
          have q0 := HB1.c0
          have q1 := HB1.c1
          have q5 := HB1.c5
          have ql := HB1.lt
          have BW := Lib.hid (hb0.trans (hb1.mono (by simp)))
          clear hb1 hb0 HB1
          go_wp2
          go_ret
          exact ⟨rfl, BW.out⟩
  have h := key _ _ _ _ rfl rfl rfl rfl
  have e : (wordsB s.w.n && (Cl.mayB d.f s.p.n && (((s.w.n : Int) == 16 * (s.p.n : Int)) && ((s.w.n : Int) == 8 * (s.c.n : Int))))) = firstB s d := by
    unfold firstB
    rw [Bool.eq_iff_iff]
    simp only [Bool.and_eq_true, beq_iff_eq, decide_eq_true_eq]
    constructor
    · rintro ⟨h1, h2, h3, h4⟩
      exact ⟨h1, h2, by omega, by omega⟩
    · rintro ⟨h1, h2, h3, h4⟩
      exact ⟨h1, h2, by omega, by omega⟩
  rwa [e] at h
/-- Of what rises: is it among them? -/
theorem has_any (B : Nat) (A : Option Addr) (n c : Nat) (xs : List Int) (x : Int) (w : World) (hn : n ≤ 100000000) (hr : Row w B A n xs) (hs : xs.Pairwise (· ≤ ·)) :
    Calls Tryz.prog 104 #[.slice A n c, .int .i64 x] w fun e w' => e = .returned (.bool (decide (x ∈ xs))) ∧ ∃ q, w' = w.drewN q := by
  by_cases h0 : n = 0
  · subst h0
    obtain rfl := hr.zero
    clear hr hs hn
    go_enter Tryz.func104, Tryz.ntmps104
    go_wp2_with fail
    refine (Tryz.slices_BinarySearch_int_empty A c x _).mono ?_
    rintro e w1 ⟨rfl, rfl⟩
    go_wp2
    go_ret
    exact ⟨rbool (by simp), 0, rfl⟩
  · obtain ⟨b, off, rfl, _, hc⟩ := hr.2 (by omega)
    have hl := hr.1
    have HB := Lib.hid (fun W (hW : W = w) => by
      have := Tryz.slices_BinarySearch_int b off n c xs x W (by omega) (by omega) (fun j hj => by rw [hW]; exact hc j (by omega)) (by rw [List.take_of_length_le (by omega)]; exact hs)
      rw [List.take_of_length_le (by omega), List.contains_eq_mem] at this
      exact this)
    clear hc hr hs h0 hl
    go_enter Tryz.func104, Tryz.ntmps104
    go_wp2_with fail
    refine (HB.out _ rfl).mono ?_
    rintro e w1 ⟨rfl, q, rfl⟩
    go_wp2
    go_ret
    exact ⟨rfl, q, rfl⟩
end Go.Proofs.YtccjelpfmkbmiaaGreatDoor
end
section
namespace Go.Proofs.YtccjelpfmkbmiaaGreatDoor.Ls
open Go.Proofs.YtccjelpfmkbmiaaGreatDoor
set_option maxRecDepth 100000
open Go.RowKit

/-- Lists of one's own and their box, beside other things. -/
structure Lst (base : Nat) (W wr : World) (R : Nat → Option Thing) (d : Nat) (V : Nat → Sl) (G : Nat → List Int) : Prop where
  res : Res base W wr R
  own : R 0 = some (tOwn base V G)
  box : R 1 = some (tBox d V)
  big : base ≤ wr.heap.size
section
variable {base d k : Nat} {W wr w2 : World} {R : Nat → Option Thing} {V : Nat → Sl} {G : Nat → List Int} {s : Sl} {xs : List Int} {o : Obj}
theorem Lst.drew (h : Lst base W wr R d V G) : Lst base W wr.drew R d V G := ⟨h.res.drewN 1, h.own, h.box, h.big⟩
theorem Lst.boxed (h : Lst base W wr R d V G) : Box3 wr d V := h.res.box h.box
theorem Lst.owns (h : Lst base W wr R d V G) : Own3 wr base V G := h.res.own h.own
theorem Lst.row (h : Lst base W wr R d V G) (o : Obj) (hk : k < 3) : (wr.alloc o).ownsRow base 3 1 (.slice (V k).a (V k).n (V k).c) (V k).n ((G k).map (Value.int .i64)) := (h.owns.alloc o).own k hk
theorem Lst.len (h : Lst base W wr R d V G) (hk : k < 3) : (V k).n = (G k).length := h.owns.l3.len k hk
theorem Lst.mid (h : Lst base W wr R d V G) (hk : k < 3) (hc : Catted (wr.alloc o) base (.slice (V k).a (V k).n (V k).c) s xs w2) : Box3 w2 d V ∧ wr.heap.size + 1 ≤ w2.heap.size :=
  ⟨(h.res.catted (b0 := base) h.big h.own hk hc hc.own).box (r := 1) (by rw [upd_other _ _ (by decide)]; exact h.box), by have := hc.grown.size; simpa using this⟩
theorem Lst.cat (h : Lst base W wr R d V G) (hk : k < 3) (hc : Catted (wr.alloc o) base (.slice (V k).a (V k).n (V k).c) s xs w2) :
    ∃ R', Lst base W (w2.setCell ⟨d, k, none⟩ (.slice s.a s.n s.c)) R' d (upd V k s) (upd G k xs) ∧ ∀ r, 2 ≤ r → R' r = R r := by
  have hw : base ≤ w2.heap.size := by have := (h.mid hk hc).2; have := h.big; omega
  have R1 := h.res.catted (b0 := base) h.big h.own hk hc hc.own
  have R2 := R1.set hw (r := 1) (d := d) (k := k) (z := V) (by rw [upd_other _ _ (by decide)]; exact h.box) hk s
  refine ⟨_, ⟨R2, ?_, upd_same _ _ _, by simpa [World.setCell] using hw⟩, fun r hr => ?_⟩
  · rw [upd_other _ _ (by decide), upd_same]
  · rw [upd_other _ _ (by omega), upd_other _ _ (by omega)]
/-- The box is stored to the result's box. -/
theorem Lst.done (h : Lst base W wr R d V G) {r : Nat} (hr : 2 ≤ r) {b : Nat} {z : Nat → Sl} (hb : R r = some (tBox b z)) : L3 (put3 wr b V) (put3 wr b V).heap.size V G ∧ Below base W (put3 wr b V) := by
  have R1 := h.res.put h.big hb V
  exact ⟨(R1.own (r := 0) (by rw [upd_other _ _ (by omega)]; exact h.own)).l3, R1.bel⟩
end
end Go.Proofs.YtccjelpfmkbmiaaGreatDoor.Ls
end
