/-
  Merged texts: Row, LsRow, LsCopied, LsCat, LsOwn, LsPush, LsPop, LsPart, LsInv, LsRes, LsSep, LsBack, LsMoveR, LsMove, LsAll, PgRow, HpRow, Bits, Word.
-/
import Derived.Below
import Derived.Laws.OwnMore
import Derived.Deep.Draws
import Derived.WalkKit
import Derived.Lib.Hide
import Derived.Test.YtccjelpfmkbmiaaGreatDoorRows
import Derived.Laws.CopyOwn
import Derived.Deep.AppendLies
import Derived.Deep.Upon
import Derived.WalkSmall
import Derived.RegionTactic
import Derived.ChangeAlike
import Derived.Deep.QuietTactic
import Derived.BigQuiet
import Derived.Deep.RegionLaw
import Derived.OrdersIn
import Derived.RangeFuncNested
import Derived.RangeFuncBound
import Derived.RangeFuncCalls
import Derived.RangeFuncLeaves
import Derived.Shelf.Abstract
import Derived.OwnWalkIn
import Derived.TacticsInMore
import Derived.LoopNIn
import Derived.LoopIn
import Derived.Deep.CutRange
import Derived.Sort.CutIn
import Derived.Deep.LoopGhost
section
namespace Go.Proofs.YtccjelpfmkbmiaaGreatDoor
open Go.RowKit

/-- The slice (address a, n elements) holds the numbers xs, in a block below B. -/
def Row (w : World) (B : Nat) (a : Option Addr) (n : Nat) (xs : List Int) : Prop :=
  xs.length = n ∧ (0 < n → ∃ b off, a = some ⟨b, off, none⟩ ∧ b < B ∧ ∀ i, i < n → w.cell? ⟨b, off + i, none⟩ = some (.int .i64 (xs.getD i 0)))

section
variable {w w' : World} {B B' n : Nat} {a : Option Addr} {xs : List Int}
theorem Row.len (h : Row w B a n xs) : xs.length = n := h.1
theorem Row.at_ (h : Row w B a n xs) (hn : 0 < n) : ∃ b off, a = some ⟨b, off, none⟩ ∧ b < B ∧ ∀ i, i < n → w.cell? ⟨b, off + i, none⟩ = some (.int .i64 (xs.getD i 0)) := h.2 hn
theorem Row.more (h : Row w B a n xs) (hB : B ≤ B') : Row w B' a n xs :=
  ⟨h.1, fun hn => by
    obtain ⟨b, off, e, hb, hc⟩ := h.2 hn
    exact ⟨b, off, e, by omega, hc⟩⟩
theorem Row.below (h : Row w B a n xs) (hb : Below B w w') : Row w' B a n xs :=
  ⟨h.1, fun hn => by
    obtain ⟨b, off, e, hlt, hc⟩ := h.2 hn
    exact ⟨b, off, e, hlt, fun i hi => (hb.cell (p := ⟨b, off + i, none⟩) hlt).trans (hc i hi)⟩⟩
/-- .. over a call that left what was below C, the blocks of the row among it. -/
theorem Row.over (h : Row w B a n xs) {C : Nat} (hb : Below C w w') (hB : B ≤ C) : Row w' B a n xs := h.below (hb.mono hB)
theorem Row.alloc (h : Row w B a n xs) (o : Obj) (hB : B ≤ w.heap.size) : Row (w.alloc o) B a n xs := h.below ((Below.refl _ _).alloc hB o)
theorem Row.drewN (h : Row w B a n xs) (k : Nat) : Row (w.drewN k) B a n xs := h
theorem Row.none_ (w : World) (B : Nat) : Row w B none 0 [] := ⟨rfl, fun h => absurd h (by omega)⟩
theorem Row.zero (h : Row w B a 0 xs) : xs = [] := List.eq_nil_of_length_eq_zero h.1
theorem Row.empty (w : World) (B : Nat) (a : Option Addr) : Row w B a 0 [] := ⟨rfl, fun h => absurd h (by omega)⟩

/-- What the call itself made: a row at the head of a block of its own, not frozen, with room for c. -/
def Mine (w : World) (base e g n c : Nat) (xs : List Int) : Prop :=
  w.ownsRow base e 1 (.slice (some ⟨g, 0, none⟩) n c) n (xs.map (Value.int .i64)) ∧ base ≤ g ∧ g < w.heap.size ∧ n ≤ c ∧ c ≤ maxLen

theorem Mine.row {base e g c : Nat} (h : Mine w base e g n c xs) : Row w w.heap.size (some ⟨g, 0, none⟩) n xs := by
  have hl : xs.length = n := by simpa using h.1.1
  refine ⟨hl, fun hn => ⟨g, 0, rfl, h.2.2.1, fun i hi => ?_⟩⟩
  have := h.1.cellAt i (by omega)
  rw [Nat.zero_add, this]
  simp [List.getElem?_map, List.getElem?_eq_getElem (show i < xs.length by omega), List.getD]
theorem Mine.free {base e g c : Nat} (h : Mine w base e g n c xs) (j : Nat) : w.frozen? ⟨g, j, none⟩ = false := h.1.frozenAt j
theorem Mine.cell {base e g c : Nat} (h : Mine w base e g n c xs) (i : Nat) (hi : i < n) : w.cell? ⟨g, i, none⟩ = some (.int .i64 (xs.getD i 0)) := by
  have := h.row.2 (by omega)
  obtain ⟨b, off, e1, _, hc⟩ := this
  simp at e1
  obtain ⟨rfl, rfl⟩ := e1
  simpa using hc i hi
theorem Mine.stored {base e g c : Nat} (h : Mine w base e g n c xs) (j : Nat) (v : Int) : Mine (w.setCell ⟨g, j, none⟩ (.int .i64 v)) base e g n c (xs.set j v) := by
  refine ⟨?_, h.2.1, by simpa [World.setCell] using h.2.2.1, h.2.2.2.1, h.2.2.2.2⟩
  have := (h.1.stored j (.int .i64 v)).1
  rw [List.map_set]
  exact this
end

/-- What a law on append or make leaves is such a row. -/
theorem mine_of {w : World} {base e n : Nat} {v : Value} {xs : List Int} (h : w.ownsRow base e 1 v n (xs.map (Value.int .i64))) (hn : 0 < n) :
    ∃ g c, v = .slice (some ⟨g, 0, none⟩) n c ∧ Mine w base e g n c xs := by
  rcases h.2 with ⟨_, h0⟩ | ⟨g, c, cur, rfl, hb, hh, hnc, hcm, _⟩
  · omega
  · refine ⟨g, c, rfl, h, hb, ?_, hnc, hcm⟩
    rcases Nat.lt_or_ge g w.heap.size with hlt | hge
    · exact hlt
    · rw [Array.getElem?_eq_none hge] at hh
      cases hh
end Go.Proofs.YtccjelpfmkbmiaaGreatDoor
end
section
namespace Go.Proofs.YtccjelpfmkbmiaaGreatDoor.Ls
open Go.Proofs.YtccjelpfmkbmiaaGreatDoor
set_option maxRecDepth 100000
open Go.RowKit

theorem info_int1 : (Tryz.prog.info? 3).map (fun i => (i.zero, i.size, i.bytes)) = some (some (.int .i64 0), 1, 8) := by kernel_rfl
/-- A block that was there holds what it held. -/
theorem old_cell {a z : World} (h : Below a.heap.size a z) : ∀ i k, i < a.heap.size → z.cell? ⟨i, k, none⟩ = a.cell? ⟨i, k, none⟩ := fun i k hi => h.cell (p := ⟨i, k, none⟩) hi
theorem old_mark {a z : World} (h : Below a.heap.size a z) : ∀ i k, i < a.heap.size → z.frozen? ⟨i, k, none⟩ = a.frozen? ⟨i, k, none⟩ := fun i k hi => h.frozen (p := ⟨i, k, none⟩) hi
theorem below_drawn {B : Nat} {a w : World} (h : Below B a w) (n : Nat) : Below B a (w.drewN n) := ⟨h.os, h.tape, h.output, h.size, h.block⟩

theorem ownBlock_slice (a : Option Addr) (n c : Nat) : (Value.slice a n c).ownBlock = a.map (·.block) := by cases a <;> rfl
theorem owns_row {w : World} {base e n : Nat} {v : Value} {xs : List Int} (h : w.ownsRow base e 1 v n (xs.map (Value.int .i64))) :
    ∃ a c, v = .slice a n c ∧ Row w w.heap.size a n xs ∧ n ≤ c ∧ c ≤ maxLen := by
  have hl : xs.length = n := by simpa using h.1
  rcases h.2 with ⟨rfl, h0⟩ | ⟨g, c, cur, rfl, hb, hh, hnc, hcm, _⟩
  · subst h0
    obtain rfl : xs = [] := List.eq_nil_of_length_eq_zero (by omega)
    exact ⟨none, 0, rfl, Row.none_ _ _, Nat.le_refl _, by unfold maxLen; omega⟩
  · have hg := (Array.getElem?_eq_some_iff.1 hh).1
    have hm : Mine w base e g n c xs := ⟨h, hb, hg, hnc, hcm⟩
    exact ⟨_, c, rfl, hm.row, hnc, hcm⟩
theorem World.ownsRow.same {w w' : World} {base e size n : Nat} {v : Value} {xs : List Value} (h : w.ownsRow base e size v n xs) (hs : ∀ g, v.ownBlock = some g → g < w.heap.size → w'.heap[g]? = w.heap[g]?) : w'.ownsRow base e size v n xs := by
  refine ⟨h.1, ?_⟩
  rcases h.2 with h2 | ⟨g, cap, cur, rfl, hb, hh, hr⟩
  · exact .inl h2
  · exact .inr ⟨g, cap, cur, rfl, hb, (hs g rfl (Array.getElem?_eq_some_iff.1 hh).1).trans hh, hr⟩

theorem _root_.Go.Proofs.YtccjelpfmkbmiaaGreatDoor.Row.grown {w w' : World} {B n : Nat} {a : Option Addr} {xs : List Int} {row : Option Nat} (h : Row w B a n xs) (hg : w.grownBy w' row) (hne : ∀ x, a = some x → some x.block ≠ row) : Row w' B a n xs :=
  ⟨h.1, fun hn => by
    obtain ⟨b, off, rfl, hlt, hc⟩ := h.2 hn
    exact ⟨b, off, rfl, hlt, fun i hi => hg.cell (hc i hi) (hne ⟨b, off, none⟩ rfl)⟩⟩

/-- A slice: where it lies, its length, its capacity. -/
structure Sl where
  a : Option Addr
  n : Nat
  c : Nat
/-- .. of a list of such, with another one at a place. -/
def upd {α : Type} (u : Nat → α) (k : Nat) (s : α) : Nat → α := fun j => if j = k then s else u j
theorem upd_same {α : Type} (u : Nat → α) (k : Nat) (s : α) : upd u k s k = s := if_pos rfl
theorem upd_other {α : Type} (u : Nat → α) {k j : Nat} (s : α) (h : ¬ j = k) : upd u k s j = u j := if_neg h

/-- The three slices of a value of lists are rows below B. -/
def L3 (w : World) (B : Nat) (u : Nat → Sl) (f : Nat → List Int) : Prop := ∀ j, j < 3 → Row w B (u j).a (u j).n (f j) ∧ (u j).n ≤ (u j).c ∧ (u j).c ≤ maxLen
section
variable {w w' : World} {B B' base : Nat} {u : Nat → Sl} {f : Nat → List Int}
theorem L3.more (h : L3 w B u f) (hB : B ≤ B') : L3 w B' u f := fun j hj => ⟨(h j hj).1.more hB, (h j hj).2⟩
theorem L3.below (h : L3 w B u f) (hb : Below B w w') : L3 w' B u f := fun j hj => ⟨(h j hj).1.below hb, (h j hj).2⟩
theorem L3.over (h : L3 w B u f) {C : Nat} (hb : Below C w w') (hB : B ≤ C) : L3 w' B u f := h.below (hb.mono hB)
theorem L3.next (h : L3 w w.heap.size u f) (hb : Below w.heap.size w w') : L3 w' w'.heap.size u f := (h.below hb).more hb.size
theorem L3.len (h : L3 w B u f) (j : Nat) (hj : j < 3) : (u j).n = (f j).length := (h j hj).1.1.symm
theorem L3.drewN (h : L3 w B u f) (k : Nat) : L3 (w.drewN k) B u f := h
theorem L3.grown {row : Option Nat} (h : L3 w B u f) (hg : w.grownBy w' row) (hne : ∀ j x, j < 3 → (u j).a = some x → some x.block ≠ row) : L3 w' B u f :=
  fun j hj => ⟨(h j hj).1.grown hg (fun x hx => hne j x hj hx), (h j hj).2⟩
def noSl : Nat → Sl := fun _ => ⟨none, 0, 0⟩
def noLists : Nat → List Int := fun _ => []
theorem L3.none_ (w : World) (B : Nat) : L3 w B noSl noLists := fun _ _ => ⟨Row.none_ _ _, Nat.le_refl _, by show (0 : Nat) ≤ maxLen; unfold maxLen; omega⟩
theorem L3.set (h : L3 w B u f) (k : Nat) (s : Sl) (xs : List Int) (hs : Row w B s.a s.n xs) (h1 : s.n ≤ s.c) (h2 : s.c ≤ maxLen) : L3 w B (upd u k s) (upd f k xs) := fun j hj => by
  by_cases e : j = k
  · subst e
    rw [upd_same, upd_same]
    exact ⟨hs, h1, h2⟩
  · rw [upd_other _ _ e, upd_other _ _ e]
    exact h j hj

/-- .. each is the walk's own, in a block of its own. -/
structure Own3 (w : World) (base : Nat) (u : Nat → Sl) (f : Nat → List Int) : Prop where
  own : ∀ j, j < 3 → w.ownsRow base 3 1 (.slice (u j).a (u j).n (u j).c) (u j).n ((f j).map (Value.int .i64))
  apart : ∀ i j, i < 3 → j < 3 → ¬ i = j → ∀ x y, (u i).a = some x → (u j).a = some y → ¬ x.block = y.block
theorem Own3.l3 (h : Own3 w base u f) : L3 w w.heap.size u f := fun j hj => by
  obtain ⟨a, c, e, hr, h1, h2⟩ := owns_row (h.own j hj)
  simp only [Value.slice.injEq, true_and] at e
  obtain ⟨rfl, rfl⟩ := e
  exact ⟨hr, h1, h2⟩
theorem Own3.block (h : Own3 w base u f) (j : Nat) (hj : j < 3) {x : Addr} (hx : (u j).a = some x) : base ≤ x.block ∧ x.block < w.heap.size :=
  (h.own j hj).lt x.block (by rw [ownBlock_slice, hx]; rfl)
theorem Own3.same (h : Own3 w base u f) (hs : ∀ j x, j < 3 → (u j).a = some x → w'.heap[x.block]? = w.heap[x.block]?) : Own3 w' base u f :=
  ⟨fun j hj => World.ownsRow.same (h.own j hj) (fun g hg _ => by
    rw [ownBlock_slice] at hg
    cases hx : (u j).a with
    | none => rw [hx] at hg; cases hg
    | some x =>
      rw [hx] at hg
      simp at hg
      subst hg
      exact hs j x hj hx), h.apart⟩
theorem Own3.next (h : Own3 w base u f) (hb : Below w.heap.size w w') : Own3 w' base u f := h.same (fun j _ hj hx => hb.block _ (h.block j hj hx).2)
theorem Own3.alloc (h : Own3 w base u f) (o : Obj) : Own3 (w.alloc o) base u f := h.next ((Below.refl _ _).alloc (Nat.le_refl _) o)
theorem Own3.drewN (h : Own3 w base u f) (k : Nat) : Own3 (w.drewN k) base u f := ⟨h.own, h.apart⟩
theorem Own3.setAbove (h : Own3 w base u f) {p : Addr} (hp : ∀ j x, j < 3 → (u j).a = some x → ¬ x.block = p.block) (x : Value) : Own3 (w.setCell p x) base u f :=
  h.same (fun j _ hj hx => Below.heap_setCell _ _ _ _ (hp j _ hj hx))
/-- One of them is turned by append: it lies where it lay, or in a new block. -/
theorem Own3.appended (h : Own3 w base u f) {k : Nat} (hk : k < 3) (s : Sl) {xs : List Int} (ho : w'.ownsRow base 3 1 (.slice s.a s.n s.c) s.n (xs.map (Value.int .i64)))
    (hg : w.grownBy w' (Value.slice (u k).a (u k).n (u k).c).ownBlock) (hat : ∀ x, s.a = some x → (Value.slice (u k).a (u k).n (u k).c).ownBlock = some x.block ∨ w.heap.size ≤ x.block) : Own3 w' base (upd u k s) (upd f k xs) := by
  have far : ∀ j x, j < 3 → ¬ j = k → (u j).a = some x → some x.block ≠ (Value.slice (u k).a (u k).n (u k).c).ownBlock ∧ ∀ y, s.a = some y → ¬ x.block = y.block := by
    intro j x hj hne hx
    have h1 : some x.block ≠ (Value.slice (u k).a (u k).n (u k).c).ownBlock := by
      rw [ownBlock_slice]
      cases hy : (u k).a with
      | none => simp
      | some y =>
        have := h.apart j k hj hk hne x y hx hy
        simpa using this
    refine ⟨h1, fun y hy => ?_⟩
    rcases hat y hy with e | e
    · intro e'
      rw [e'] at h1
      exact h1 e.symm
    · have := (h.block j hj hx).2
      omega
  refine ⟨fun j hj => ?_, fun i j hi hj hij x y hx hy => ?_⟩
  · by_cases e : j = k
    · subst e
      rw [upd_same, upd_same]
      exact ho
    · rw [upd_other _ _ e, upd_other _ _ e]
      refine (h.own j hj).kept hg ?_
      rw [ownBlock_slice]
      cases hx : (u j).a with
      | none => exact .inl rfl
      | some x => exact .inr ((far j x hj e hx).1)
  · by_cases ei : i = k
    · subst ei
      rw [upd_same] at hx
      rw [upd_other _ _ (fun e => hij e.symm)] at hy
      exact fun e => (far j y hj (fun e => hij e.symm) hy).2 x hx e.symm
    · rw [upd_other _ _ ei] at hx
      by_cases ej : j = k
      · subst ej
        rw [upd_same] at hy
        exact (far i x hi ei hx).2 y hy
      · rw [upd_other _ _ ej] at hy
        exact h.apart i j hi hj hij x y hx hy

/-- The box of a value of lists: three cells that are not frozen. -/
structure Box3 (w : World) (b : Nat) (u : Nat → Sl) : Prop where
  cell : ∀ j, j < 3 → w.cell? ⟨b, j, none⟩ = some (.slice (u j).a (u j).n (u j).c)
  free : ∀ j, w.frozen? ⟨b, j, none⟩ = false
  lt : b < w.heap.size
theorem Box3.same {b : Nat} (h : Box3 w b u) (hs : w'.heap[b]? = w.heap[b]?) (hl : w.heap.size ≤ w'.heap.size) : Box3 w' b u :=
  ⟨fun j hj => (World.cell?_of_block (a := ⟨b, j, none⟩) hs).trans (h.cell j hj), fun j => (World.frozen?_of_block (a := ⟨b, j, none⟩) hs).trans (h.free j), Nat.lt_of_lt_of_le h.lt hl⟩
theorem Box3.below {b : Nat} (h : Box3 w b u) (hb : Below B w w') (hB : b < B) : Box3 w' b u := h.same (hb.block b hB) hb.size
theorem Box3.next {b : Nat} (h : Box3 w b u) (hb : Below w.heap.size w w') : Box3 w' b u := h.below hb h.lt
theorem Box3.alloc {b : Nat} (h : Box3 w b u) (o : Obj) : Box3 (w.alloc o) b u := h.next ((Below.refl _ _).alloc (Nat.le_refl _) o)
theorem Box3.grown {b : Nat} {row : Option Nat} (h : Box3 w b u) (hg : w.grownBy w' row) (hne : some b ≠ row) : Box3 w' b u := h.same (hg.block b h.lt hne) hg.size
theorem Box3.other {b : Nat} (h : Box3 w b u) {p : Addr} (hp : ¬ p.block = b) (x : Value) : Box3 (w.setCell p x) b u := h.same (Below.heap_setCell _ _ _ _ (fun e => hp e.symm)) (by simp [World.setCell])
theorem Box3.drewN {b : Nat} (h : Box3 w b u) (k : Nat) : Box3 (w.drewN k) b u := ⟨h.cell, h.free, h.lt⟩
theorem Box3.set {b : Nat} (h : Box3 w b u) {k : Nat} (hk : k < 3) (s : Sl) : Box3 (w.setCell ⟨b, k, none⟩ (.slice s.a s.n s.c)) b (upd u k s) := by
  refine ⟨fun j hj => ?_, fun j => by rw [World.frozen?_setCell]; exact h.free j, by simpa [World.setCell] using h.lt⟩
  by_cases e : j = k
  · subst e
    rw [upd_same]
    exact World.cell?_setCell_same' _ _ _ (by rw [h.cell j hj]; rfl)
  · rw [upd_other _ _ e]
    rw [World.cell?_setCell_other _ _ _ _ (by intro hh; simp only [Addr.mk.injEq, true_and, and_true] at hh; omega)]
    exact h.cell j hj
theorem Box3.congr {b : Nat} {v : Nat → Sl} (h : Box3 w b u) (e : ∀ j, j < 3 → u j = v j) : Box3 w b v := ⟨fun j hj => by rw [← e j hj]; exact h.cell j hj, h.free, h.lt⟩
/-- A whole value is stored into its box. -/
def put3 (w : World) (b : Nat) (v : Nat → Sl) : World :=
  ((w.setCell ⟨b, 0, none⟩ (.slice (v 0).a (v 0).n (v 0).c)).setCell ⟨b, 1, none⟩ (.slice (v 1).a (v 1).n (v 1).c)).setCell ⟨b, 2, none⟩ (.slice (v 2).a (v 2).n (v 2).c)
theorem Box3.put {b : Nat} (h : Box3 w b u) (v : Nat → Sl) : Box3 (put3 w b v) b v :=
  (((h.set (by decide) (v 0)).set (by decide) (v 1)).set (by decide) (v 2)).congr (fun j hj => by
    match j, hj with
    | 0, _ => rfl
    | 1, _ => rfl
    | 2, _ => rfl)
theorem put3_other (w : World) {b k : Nat} (v : Nat → Sl) (h : ¬ k = b) : (put3 w b v).heap[k]? = w.heap[k]? :=
  ((Below.heap_setCell _ _ _ _ h).trans (Below.heap_setCell _ _ _ _ h)).trans (Below.heap_setCell _ _ _ _ h)
theorem put3_size (w : World) (b : Nat) (v : Nat → Sl) : (put3 w b v).heap.size = w.heap.size := by simp [put3, World.setCell]
theorem below_put3 {a : World} (h : Below B a w) {b : Nat} (hb : B ≤ b) (v : Nat → Sl) : Below B a (put3 w b v) := ((h.setCell (p := ⟨b, 0, none⟩) hb _).setCell (p := ⟨b, 1, none⟩) hb _).setCell (p := ⟨b, 2, none⟩) hb _
theorem Own3.put (h : Own3 w base u f) {b : Nat} (hb : ∀ j x, j < 3 → (u j).a = some x → ¬ x.block = b) (v : Nat → Sl) : Own3 (put3 w b v) base u f := h.same (fun j x hj hx => put3_other _ _ (hb j x hj hx))
theorem Box3.putOther {b d : Nat} (h : Box3 w b u) (hb : ¬ b = d) (v : Nat → Sl) : Box3 (put3 w d v) b u := h.same (put3_other _ _ hb) (by rw [put3_size]; exact Nat.le_refl _)
theorem L3.put (h : L3 w B u f) {b : Nat} (hb : B ≤ b) (v : Nat → Sl) : L3 (put3 w b v) B u f := h.below (below_put3 (Below.refl _ _) hb v)
end
theorem Box3.new (w : World) (u : Nat → Sl) (t : TypeId) : Box3 (w.alloc (.cells #[.slice (u 0).a (u 0).n (u 0).c, .slice (u 1).a (u 1).n (u 1).c, .slice (u 2).a (u 2).n (u 2).c] t)) w.heap.size u := by
  refine ⟨fun j hj => ?_, fun j => ?_, by simp⟩
  · match j, hj with
    | 0, _ => simp [go_sem]
    | 1, _ => simp [go_sem]
    | 2, _ => simp [go_sem]
  · simp [go_sem]

end Go.Proofs.YtccjelpfmkbmiaaGreatDoor.Ls
end
section
namespace Go.Proofs.YtccjelpfmkbmiaaGreatDoor.Ls
open Go.Proofs.YtccjelpfmkbmiaaGreatDoor
set_option maxRecDepth 100000
open Go.RowKit

/-- Lists of the call's own were returned. -/
def COut (w : World) (f : Nat → List Int) (e : Ending) (w' : World) : Prop := ∃ u, e = .returned (.agg #[.slice (u 0).a (u 0).n (u 0).c, .slice (u 1).a (u 1).n (u 1).c, .slice (u 2).a (u 2).n (u 2).c]) ∧ Own3 w' w.heap.size u f ∧ Below w.heap.size w w'

structure Copying (w wr : World) (u : Nat → Sl) (f : Nat → List Int) (k : Nat) (v : Nat → Sl) (g : Nat → Nat) : Prop where
  box : Box3 wr w.heap.size v
  res : Box3 wr (w.heap.size + 1) noSl
  is : ∀ j, j < k → v j = ⟨some ⟨g j, 0, none⟩, (u j).n, (u j).n⟩
  own : ∀ j, j < k → wr.ownsRow (w.heap.size + 2) 3 1 (.slice (some ⟨g j, 0, none⟩) (u j).n (u j).n) (u j).n ((f j).map (Value.int .i64))
  up : ∀ i j, i < j → j < k → g i < g j
  bel : Below w.heap.size w wr
theorem Copying.size {w wr : World} {u v : Nat → Sl} {f : Nat → List Int} {k : Nat} {g : Nat → Nat} (h : Copying w wr u f k v g) : w.heap.size + 2 ≤ wr.heap.size := by have := h.res.lt; omega

theorem Copying.step {w wr w1 w2 w3 : World} {u v : Nat → Sl} {f : Nat → List Int} {k : Nat} {g : Nat → Nat} (h : Copying w wr u f k v g) (hk : k < 3)
    (g1 : wr.grownBy w1 none) (e2 : w2 = w1.setCell ⟨w.heap.size, k, none⟩ (.slice (some ⟨wr.heap.size, 0, none⟩) (u k).n (u k).n))
    (ho : w3.ownsRow (w.heap.size + 2) 3 1 (.slice (some ⟨wr.heap.size, 0, none⟩) (u k).n (u k).n) (u k).n ((f k).map (Value.int .i64))) (g3 : w2.grownBy w3 (some wr.heap.size)) :
    Copying w w3 u f (k + 1) (upd v k ⟨some ⟨wr.heap.size, 0, none⟩, (u k).n, (u k).n⟩) (upd g k wr.heap.size) := by
  have hs := h.size
  have b2 : Below w.heap.size w w2 := by
    rw [e2]
    exact (h.bel.grown g1 (by omega) (by intro j hj; cases hj)).setCell (Nat.le_refl _) _
  have x2 : ∀ j, j < wr.heap.size → ¬ j = w.heap.size → w2.heap[j]? = wr.heap[j]? := fun j hj hn => by
    rw [e2]
    exact (Below.heap_setCell _ _ _ _ (by exact hn)).trans (g1.block j hj (by simp))
  have hs2 : wr.heap.size ≤ w2.heap.size := by
    rw [e2]
    simpa [World.setCell] using g1.size
  have x3 : ∀ j, j < wr.heap.size → ¬ j = w.heap.size → w3.heap[j]? = wr.heap[j]? := fun j hj hn => (g3.block j (by omega) (by simp; omega)).trans (x2 j hj hn)
  refine ⟨?_, ?_, fun j hj => ?_, fun j hj => ?_, fun i j hij hj => ?_, ?_⟩
  · have := (h.box.grown g1 (by simp)).set hk ⟨some ⟨wr.heap.size, 0, none⟩, (u k).n, (u k).n⟩
    rw [← e2] at this
    exact this.grown g3 (by simp; omega)
  · exact h.res.same (x3 _ h.res.lt (by omega)) (Nat.le_trans hs2 g3.size)
  · by_cases e : j = k
    · subst e; rw [upd_same, upd_same]
    · rw [upd_other _ _ e, upd_other _ _ e]; exact h.is j (by omega)
  · by_cases e : j = k
    · subst e; rw [upd_same]; exact ho
    · rw [upd_other _ _ e]
      have ho' := h.own j (by omega)
      have hl := ho'.lt (g j) rfl
      exact World.ownsRow.same ho' (fun q hq hlt => by
        have : q = g j := by simpa [Value.ownBlock] using hq.symm
        subst this
        exact x3 _ hlt (by omega))
  · by_cases e : j = k
    · subst e
      rw [upd_same, upd_other _ _ (by omega)]
      exact ((h.own i (by omega)).lt (g i) rfl).2
    · rw [upd_other _ _ e, upd_other _ _ (by omega)]
      exact h.up i j hij (by omega)
  · exact b2.grown g3 (by omega) (by intro j hj; cases hj; omega)

theorem Copying.own3 {w wr : World} {u v : Nat → Sl} {f : Nat → List Int} {g : Nat → Nat} (h : Copying w wr u f 3 v g) : Own3 wr (w.heap.size + 2) v f :=
  ⟨fun j hj => by rw [h.is j hj]; exact h.own j hj, fun i j hi hj hij x y hx hy => by
    rw [h.is i hi] at hx
    rw [h.is j hj] at hy
    simp only [Option.some.injEq] at hx hy
    subst hx hy
    rcases Nat.lt_or_gt_of_ne hij with hlt | hlt
    · have := h.up i j hlt hj
      show ¬ g i = g j
      omega
    · have := h.up j i hlt hi
      show ¬ g i = g j
      omega⟩
theorem Own3.less {w : World} {base base' : Nat} {u : Nat → Sl} {f : Nat → List Int} (h : Own3 w base u f) (hb : base' ≤ base) : Own3 w base' u f :=
  ⟨fun j hj => ⟨(h.own j hj).1, (h.own j hj).2.imp id (fun ⟨g, cap, cur, e, hg, r⟩ => ⟨g, cap, cur, e, Nat.le_trans hb hg, r⟩)⟩, h.apart⟩

theorem index_of (u : Nat → Sl) (k : Nat) (hk : k < 3) (w : World) : (Instr.index 25 (.agg #[.slice (u 0).a (u 0).n (u 0).c, .slice (u 1).a (u 1).n (u 1).c, .slice (u 2).a (u 2).n (u 2).c]) (.int .i64 k)).run Tryz.prog w = .ok (.slice (u k).a (u k).n (u k).c) w := by
  rcases (show k = 0 ∨ k = 1 ∨ k = 2 by omega) with rfl | rfl | rfl
  · rfl
  · rfl
  · rfl

end Go.Proofs.YtccjelpfmkbmiaaGreatDoor.Ls
end
section
namespace Go.Proofs.YtccjelpfmkbmiaaGreatDoor.Ls
open Go.Proofs.YtccjelpfmkbmiaaGreatDoor
set_option maxRecDepth 100000
open Go.RowKit

theorem src_none {w : World} (A : Option Addr) (c : Nat) : Src Tryz.prog 1 22 (.slice A 0 c) 0 [] w := by
  cases A with
  | none => exact Src.ofNil w Tryz.underlying22 c
  | some a => exact Src.ofSlice w Tryz.underlying22 a 0 c [] rfl (by simp) (by simp)
theorem run_cat {w : World} {base B m cp n c : Nat} {p A : Option Addr} {xs ys : List Int} (ty : TypeId) (h : w.ownsRow base 3 1 (.slice p m cp) m (xs.map (Value.int .i64))) (hr : Row w B A n ys) (hb : base ≤ w.heap.size) (hlen : m + n ≤ 4000000) :
    ∃ p' cp' w', (Builtin.append_ #[22, 22] ty #[.slice p m cp, .slice A n c]).run Tryz.prog w = .ok (.slice p' (m + n) cp') w' ∧ w'.ownsRow base 3 1 (.slice p' (m + n) cp') (m + n) ((xs ++ ys).map (Value.int .i64)) ∧
      w.grownBy w' (Value.slice p m cp).ownBlock ∧ ∀ x, p' = some x → (Value.slice p m cp).ownBlock = some x.block ∨ w.heap.size ≤ x.block := by
  obtain ⟨i0, hi, hz0, hz1, hz2⟩ := info_parts info_int1
  have hl := hr.1
  by_cases hn : n = 0
  · subst hn
    obtain rfl := hr.zero
    obtain ⟨a, c', e, _, hle, _⟩ := owns_row h
    simp only [Value.slice.injEq, true_and] at e
    obtain ⟨rfl, rfl⟩ := e
    refine ⟨p, cp, w, run_append_nothing w 22 22 ty 3 i0 Tryz.underlying22 hi p m cp hle _ (by rw [hz1]; exact src_none A c), ?_, ⟨rfl, rfl, rfl, Nat.le_refl _, fun _ _ _ => rfl⟩, fun x hx => .inl ?_⟩
    · rw [List.append_nil]
      exact h
    · rw [ownBlock_slice, hx]
      rfl
  · obtain ⟨b, off, rfl, _, hc⟩ := hr.2 (by omega)
    obtain ⟨g, cap, w', hrun, r1, r2, r3, r4⟩ := run_append_lies (P := Tryz.prog) w 22 ty base 3 i0 (.int .i64 0) 1 8 Tryz.underlying22 hi hz0 hz1 hz2 rfl (by decide) _ _ _ h ⟨b, off, none⟩ n c (ys.map (Value.int .i64)) (by simp [hl]) (by
      intro j u hj
      have hjn : j < ys.length := by
        have := (List.getElem?_eq_some_iff.1 hj).1
        simpa using this
      rw [Addr.add_lit, hc j (by omega)]
      rw [← hj]
      simp [List.getD, hjn]) (by
      intro u hu
      obtain ⟨x, _, rfl⟩ := List.mem_map.1 hu
      rfl) (by omega) (by unfold maxLen; omega) (by omega) hb w.heap.size rfl
    refine ⟨some ⟨g, 0, none⟩, cap, w', hrun, ?_, r2, fun x hx => ?_⟩
    · rw [List.map_append]
      exact r1
    · simp only [Option.some.injEq] at hx
      subst hx
      exact r3.imp id (fun e => Nat.le_of_eq e.symm)

/-- What an append leaves: a slice of the walk's own, in the block of the old one or in new memory; all else is as it was. -/
structure Catted (w : World) (base : Nat) (v : Value) (s : Sl) (xs : List Int) (w' : World) : Prop where
  own : w'.ownsRow base 3 1 (.slice s.a s.n s.c) s.n (xs.map (Value.int .i64))
  grown : w.grownBy w' v.ownBlock
  lies : ∀ x, s.a = some x → v.ownBlock = some x.block ∨ w.heap.size ≤ x.block
theorem wp_cat {w : World} {o : Oper} {a : Act} {K : Act → World → Prop} {Q : Exit → Act → World → Prop} (s x : Operand)
    (ho : o.op = .call { callee := .builtin .append, args := #[s, x], argTypes := #[22, 22] }) {base B m cp n c : Nat} {p A : Option Addr} {xs ys : List Int}
    (hs : a.eval s = .slice p m cp) (hx : a.eval x = .slice A n c) (h : w.ownsRow base 3 1 (.slice p m cp) m (xs.map (Value.int .i64))) (hr : Row w B A n ys) (hb : base ≤ w.heap.size) (hlen : m + n ≤ 4000000)
    (hK : ∀ p' cp' w', Catted w base (.slice p m cp) ⟨p', m + n, cp'⟩ (xs ++ ys) w' →
      K (a.put o.dst (.slice p' (m + n) cp')) w') : o.wp Tryz.prog a w K Q := by
  obtain ⟨p', cp', w', hrun, h1, h2, h3⟩ := run_cat (c := c) o.type h hr hb hlen
  unfold Oper.wp execOp
  simp only [ho, resolve, invoke, builtin, Sem.run_bind, Sem.run_pure, Result.andThen_ok, List.map_toArray, List.map_cons, List.map_nil, hs, hx, hrun]
  exact hK p' cp' w' ⟨h1, h2, h3⟩
theorem list_cat {w : World} {ops : Array Oper} {rest : List Oper} {o : Oper} {a : Act} {Q : Exit → Act → World → Prop} (hgd : o.guard = none) (s x : Operand)
    (ho : o.op = .call { callee := .builtin .append, args := #[s, x], argTypes := #[22, 22] }) {base B m cp n c : Nat} {p A : Option Addr} {xs ys : List Int}
    (hs : a.eval s = .slice p m cp) (hx : a.eval x = .slice A n c) (h : w.ownsRow base 3 1 (.slice p m cp) m (xs.map (Value.int .i64))) (hr : Row w B A n ys) (hb : base ≤ w.heap.size) (hlen : m + n ≤ 4000000)
    (hK : ∀ p' cp' w', Catted w base (.slice p m cp) ⟨p', m + n, cp'⟩ (xs ++ ys) w' →
      wpList Tryz.prog ops Q rest (a.put o.dst (.slice p' (m + n) cp')) w') : wpList Tryz.prog ops Q (o :: rest) a w :=
  wpList_plain hgd fun _ hK' => wp_cat s x ho hs hx h hr hb hlen fun p' cp' w' h1 => hK' _ _ (hK p' cp' w' h1)
theorem step_cat {w : World} {ops : Array Oper} {o : Oper} {a : Act} {K : Act → World → Prop} {Q : Exit → Act → World → Prop} {E : Prop} (hgd : o.guard = none) (s x : Operand)
    (ho : o.op = .call { callee := .builtin .append, args := #[s, x], argTypes := #[22, 22] }) {base B m cp n c : Nat} {p A : Option Addr} {xs ys : List Int}
    (hs : a.eval s = .slice p m cp) (hx : a.eval x = .slice A n c) (h : w.ownsRow base 3 1 (.slice p m cp) m (xs.map (Value.int .i64))) (hr : Row w B A n ys) (hb : base ≤ w.heap.size) (hlen : m + n ≤ 4000000)
    (hK : ∀ p' cp' w', Catted w base (.slice p m cp) ⟨p', m + n, cp'⟩ (xs ++ ys) w' →
      K (a.put o.dst (.slice p' (m + n) cp')) w') : if Region.wanted o (yielded ops a.tmps) = true then Oper.wp Tryz.prog o a w K Q else E := by
  have hw : Region.wanted o (yielded ops a.tmps) = true := by simp [Region.wanted, hgd]
  rw [if_pos hw]
  exact wp_cat s x ho hs hx h hr hb hlen hK

/-- The first k of three slices are a walk's own. -/
structure OwnTo (w : World) (base k : Nat) (v : Nat → Sl) (f : Nat → List Int) : Prop where
  own : ∀ j, j < k → w.ownsRow base 3 1 (.slice (v j).a (v j).n (v j).c) (v j).n ((f j).map (Value.int .i64))
  apart : ∀ i j, i < k → j < k → ¬ i = j → ∀ x y, (v i).a = some x → (v j).a = some y → ¬ x.block = y.block
theorem OwnTo.start (w : World) (base : Nat) (v : Nat → Sl) (f : Nat → List Int) : OwnTo w base 0 v f := ⟨fun j h => absurd h (by omega), fun i _ h => absurd h (by omega)⟩
theorem OwnTo.own3 {w : World} {base : Nat} {v : Nat → Sl} {f : Nat → List Int} (h : OwnTo w base 3 v f) : Own3 w base v f := ⟨h.own, h.apart⟩
theorem own_block {w : World} {base n : Nat} {s : Sl} {xs : List Value} (h : w.ownsRow base 3 1 (.slice s.a s.n s.c) n xs) {x : Addr} (hx : s.a = some x) : base ≤ x.block ∧ x.block < w.heap.size :=
  h.lt x.block (by rw [ownBlock_slice, hx]; rfl)
theorem OwnTo.step {w w' : World} {base k : Nat} {v : Nat → Sl} {f : Nat → List Int} (h : OwnTo w base k v f) (hb : base ≤ w.heap.size) (s : Sl)
    (ho : w'.ownsRow w.heap.size 3 1 (.slice s.a s.n s.c) s.n ((f k).map (Value.int .i64))) (hs : ∀ j, base ≤ j → j < w.heap.size → w'.heap[j]? = w.heap[j]?) : OwnTo w' base (k + 1) (upd v k s) f := by
  have old : ∀ j x, j < k → (v j).a = some x → base ≤ x.block ∧ x.block < w.heap.size := fun j x hj hx => own_block (h.own j hj) hx
  refine ⟨fun j hj => ?_, fun i j hi hj hij x y hx hy => ?_⟩
  · by_cases e : j = k
    · subst e
      rw [upd_same]
      exact ⟨ho.1, ho.2.imp id (fun ⟨g, cap, cur, e, hg, r⟩ => ⟨g, cap, cur, e, Nat.le_trans hb hg, r⟩)⟩
    · rw [upd_other _ _ e]
      have hj' : j < k := by omega
      refine World.ownsRow.same (h.own j hj') (fun g hg hlt => hs g ?_ hlt)
      rw [ownBlock_slice] at hg
      cases hx : (v j).a with
      | none => rw [hx] at hg; cases hg
      | some x =>
        rw [hx] at hg
        simp at hg
        have := (old j x hj' hx).1
        omega
  · by_cases ei : i = k
    · subst ei
      rw [upd_same] at hx
      rw [upd_other _ _ (fun e => hij e.symm)] at hy
      have h1 := (own_block ho hx).1
      have h2 := (old j y (by omega) hy).2
      omega
    · rw [upd_other _ _ ei] at hx
      by_cases ej : j = k
      · subst ej
        rw [upd_same] at hy
        have h1 := (own_block ho hy).1
        have h2 := (old i x (by omega) hx).2
        omega
      · rw [upd_other _ _ ej] at hy
        exact h.apart i j (by omega) (by omega) hij x y hx hy
end Go.Proofs.YtccjelpfmkbmiaaGreatDoor.Ls
end
section
namespace Go.Proofs.YtccjelpfmkbmiaaGreatDoor.Ls
open Go.Proofs.YtccjelpfmkbmiaaGreatDoor
set_option maxRecDepth 100000
open Go.RowKit

structure Owning (w wr : World) (u : Nat → Sl) (f : Nat → List Int) (k : Nat) (v : Nat → Sl) : Prop where
  src : Box3 wr w.heap.size u
  res : Box3 wr (w.heap.size + 1) noSl
  box : Box3 wr (w.heap.size + 2) v
  own : OwnTo wr (w.heap.size + 3) k v f
  bel : Below w.heap.size w wr
theorem Owning.size {w wr : World} {u v : Nat → Sl} {f : Nat → List Int} {k : Nat} (h : Owning w wr u f k v) : w.heap.size + 3 ≤ wr.heap.size := by have := h.box.lt; omega
theorem Owning.step {w wr w1 w2 : World} {u v : Nat → Sl} {f : Nat → List Int} {k : Nat} (h : Owning w wr u f k v) (hk : k < 3) (s : Sl)
    (ho : w1.ownsRow wr.heap.size 3 1 (.slice s.a s.n s.c) s.n ((f k).map (Value.int .i64))) (hg : wr.grownBy w1 none) (e2 : w2 = w1.setCell ⟨w.heap.size + 2, k, none⟩ (.slice s.a s.n s.c)) : Owning w w2 u f (k + 1) (upd v k s) := by
  have hs := h.size
  have b1 : Below wr.heap.size wr w1 := (Below.refl _ _).grown hg (Nat.le_refl _) (by intro j hj; cases hj)
  subst e2
  refine ⟨(h.src.next b1).other (by simp) _, (h.res.next b1).other (by simp) _, (h.box.next b1).set hk s, ?_, (h.bel.trans (b1.mono h.bel.size)).setCell (p := ⟨w.heap.size + 2, k, none⟩) (by simp) _⟩
  refine h.own.step hs s (World.ownsRow.same ho (fun g hg' _ => Below.heap_setCell _ _ _ _ ?_)) (fun j hj hlt => (Below.heap_setCell _ _ _ _ (by show ¬ j = w.heap.size + 2; omega)).trans (b1.block j hlt))
  have := (ho.lt g hg').1
  show ¬ g = w.heap.size + 2
  omega

end Go.Proofs.YtccjelpfmkbmiaaGreatDoor.Ls
end
section
namespace Go.Proofs.YtccjelpfmkbmiaaGreatDoor.Ls
open Go.Proofs.YtccjelpfmkbmiaaGreatDoor
set_option maxRecDepth 100000
open Go.RowKit

/-- Behind an append to a class: the box of the lists, the result's box; and what is returned. -/
theorem turned {w w1 w2 : World} {v : Nat → Sl} {f : Nat → List Int} {k : Nat} {xs : List Int} (ho : Own3 w1 (w.heap.size + 2) v f) (hb : Below w.heap.size w w1) (X : Box3 w1 (w.heap.size + 1) noSl) (hk : k < 3) (s : Sl)
    (hc : Catted (w1.alloc (.cells #[.slice (v 0).a (v 0).n (v 0).c, .slice (v 1).a (v 1).n (v 1).c, .slice (v 2).a (v 2).n (v 2).c] 25)) (w.heap.size + 2) (.slice (v k).a (v k).n (v k).c) s xs w2) :
    Box3 w2 w1.heap.size v ∧ Box3 w2 (w.heap.size + 1) noSl ∧
    Own3 (put3 (w2.setCell ⟨w1.heap.size, k, none⟩ (.slice s.a s.n s.c)) (w.heap.size + 1) (upd v k s)) (w.heap.size + 2) (upd v k s) (upd f k xs) ∧
    Below w.heap.size w (put3 (w2.setCell ⟨w1.heap.size, k, none⟩ (.slice s.a s.n s.c)) (w.heap.size + 1) (upd v k s)) := by
  have hX := X.lt
  obtain ⟨ho2, hg2, hat⟩ := hc
  have ob : ∀ q, (Value.slice (v k).a (v k).n (v k).c).ownBlock = some q → w.heap.size + 2 ≤ q ∧ q < w1.heap.size := (ho.own k hk).lt
  have O2 := (ho.alloc (.cells #[.slice (v 0).a (v 0).n (v 0).c, .slice (v 1).a (v 1).n (v 1).c, .slice (v 2).a (v 2).n (v 2).c] 25)).appended hk s ho2 hg2 hat
  have sep : ∀ j x, j < 3 → ((upd v k s) j).a = some x → ¬ x.block = w1.heap.size := by
    intro j x hj hx
    by_cases e : j = k
    · subst e
      rw [upd_same] at hx
      rcases hat x hx with h | h
      · have := ob _ h
        omega
      · rw [World.size_alloc] at h
        omega
    · rw [upd_other _ _ e] at hx
      have := (ho.block j hj hx).2
      omega
  refine ⟨(Box3.new w1 v 25).grown hg2 ?_, (X.alloc _).grown hg2 ?_, ?_, ?_⟩
  · intro e
    have := ob _ e.symm
    omega
  · intro e
    have := ob _ e.symm
    omega
  · exact (O2.setAbove (p := ⟨w1.heap.size, k, none⟩) sep _).put (fun j x hj hx => by have := (O2.block j hj hx).1; omega) _
  · refine below_put3 (((hb.alloc hb.size _).grown hg2 ?_ ?_).setCell (p := ⟨w1.heap.size, k, none⟩) hb.size _) (by omega) _
    · rw [World.size_alloc]
      have := hb.size
      omega
    · intro q hq
      have := ob _ hq
      omega

end Go.Proofs.YtccjelpfmkbmiaaGreatDoor.Ls
end
section
namespace Go.Proofs.YtccjelpfmkbmiaaGreatDoor.Ls
open Go.Proofs.YtccjelpfmkbmiaaGreatDoor
set_option maxRecDepth 100000
open Go.RowKit

theorem _root_.Go.Proofs.YtccjelpfmkbmiaaGreatDoor.Row.take {w : World} {B n m : Nat} {a : Option Addr} {xs : List Int} (h : Row w B a n xs) (hm : m ≤ n) : Row w B a m (xs.take m) :=
  ⟨by have := h.1; simp; omega, fun h0 => by
    obtain ⟨b, off, e, hb, hc⟩ := h.2 (by omega)
    refine ⟨b, off, e, hb, fun i hi => ?_⟩
    rw [hc i (by omega)]
    simp [List.getD, hi]⟩
theorem L3.cut {w : World} {B k m : Nat} {u : Nat → Sl} {f : Nat → List Int} (h : L3 w B u f) (hk : k < 3) (hm : m ≤ (u k).n) : L3 w B (upd u k ⟨(u k).a, m, (u k).c⟩) (upd f k ((f k).take m)) :=
  h.set k _ _ ((h k hk).1.take hm) (Nat.le_trans hm (h k hk).2.1) (h k hk).2.2
/-- Behind a cut of a class's slice, and the whole value's store into the result's box. -/
theorem cut_end {w w1 : World} {v : Nat → Sl} {f : Nat → List Int} {k m : Nat} (ho : Own3 w1 (w.heap.size + 2) v f) (hb : Below w.heap.size w w1) (X : Box3 w1 (w.heap.size + 1) noSl) (hk : k < 3) (hm : m ≤ (v k).n) {a : Option Addr} (ha : (v k).a = a) (o : Obj) (z : Nat → Sl) :
    L3 ((put3 w1 (w.heap.size + 1) z).alloc o) ((put3 w1 (w.heap.size + 1) z).alloc o).heap.size (upd v k ⟨a, m, (v k).c⟩) (upd f k ((f k).take m)) ∧ Below w.heap.size w ((put3 w1 (w.heap.size + 1) z).alloc o) := by
  have hX := X.lt
  subst ha
  have O1 := ho.put (b := w.heap.size + 1) (fun j y hj hy => by have := (ho.block j hj hy).1; omega) z
  refine ⟨(O1.alloc o).l3.cut hk hm, (below_put3 hb (by omega) z).alloc ?_ o⟩
  rw [put3_size]
  exact hb.size

end Go.Proofs.YtccjelpfmkbmiaaGreatDoor.Ls
end
section
namespace Go.Proofs.YtccjelpfmkbmiaaGreatDoor.Ls
open Go.Proofs.YtccjelpfmkbmiaaGreatDoor
set_option maxRecDepth 100000
open Go.RowKit

def isIn (low high a : Int) : Bool := decide (low ≤ a ∧ a < high)
def inOf (low high : Int) (xs : List Int) : List Int := xs.filter (isIn low high)
def outOf (low high : Int) (xs : List Int) : List Int := xs.filter (fun a => !isIn low high a)

theorem take_next {xs : List Int} {k n : Nat} (hl : xs.length = n) (hk : k < n) : xs.take (k + 1) = xs.take k ++ [xs.getD k 0] := by
  rw [List.take_add_one]
  simp [List.getD, List.getElem?_eq_getElem (show k < xs.length by omega)]

/-- While a slice's numbers are parted: two slices of the walk's own, apart, in memory from base on. -/
structure Parting (V wr : World) (base : Nat) (s p : Sl) (ys zs : List Int) : Prop where
  stay : wr.ownsRow base 3 1 (.slice s.a s.n s.c) s.n (ys.map (Value.int .i64))
  part : wr.ownsRow base 3 1 (.slice p.a p.n p.c) p.n (zs.map (Value.int .i64))
  apart : ∀ x y, s.a = some x → p.a = some y → ¬ x.block = y.block
  bel : Below base V wr
section
variable {V wr w2 : World} {base : Nat} {s p t : Sl} {ys zs : List Int} {o : Obj}
theorem Parting.size (h : Parting V wr base s p ys zs) (hV : base ≤ V.heap.size) : base ≤ wr.heap.size := Nat.le_trans hV h.bel.size
theorem Parting.below_cat {v : Value} {xs : List Int} (h : Parting V wr base s p ys zs) (hV : base ≤ V.heap.size) (hc : Catted (wr.alloc o) base v t xs w2) (ho : ∀ q, v.ownBlock = some q → base ≤ q) : Below base V w2 :=
  ((h.bel.alloc (h.size hV) o).grown hc.grown (by simp; have := h.size hV; omega) ho)
theorem Parting.yes {xs : List Int} (h : Parting V wr base s p ys zs) (hV : base ≤ V.heap.size) (hc : Catted (wr.alloc o) base (.slice p.a p.n p.c) t xs w2) : Parting V w2 base s t ys xs := by
  refine ⟨World.ownsRow.same h.stay (fun g hg hlt => ?_), hc.own, fun x y hx hy => ?_, h.below_cat hV hc (fun q hq => (h.part.lt q hq).1)⟩
  · refine (hc.grown.block g (by simp; omega) ?_).trans (Below.heap_alloc wr o g hlt)
    rw [ownBlock_slice] at hg ⊢
    cases hs : s.a with
    | none => rw [hs] at hg; cases hg
    | some x =>
      rw [hs] at hg
      cases hp : p.a with
      | none => simp
      | some y =>
        have := h.apart x y hs hp
        simp at hg
        subst hg
        simpa using this
  · have hl := own_block h.stay hx
    rcases hc.lies y hy with e | e
    · rw [ownBlock_slice] at e
      cases hp : p.a with
      | none => rw [hp] at e; cases e
      | some z =>
        rw [hp] at e
        simp at e
        rw [← e]
        exact h.apart x z hx hp
    · simp at e
      omega
theorem Parting.swap (h : Parting V wr base s p ys zs) : Parting V wr base p s zs ys := ⟨h.part, h.stay, fun x y hx hy e => h.apart y x hy hx e.symm, h.bel⟩
theorem Parting.no {xs : List Int} (h : Parting V wr base s p ys zs) (hV : base ≤ V.heap.size) (hc : Catted (wr.alloc o) base (.slice s.a s.n s.c) t xs w2) : Parting V w2 base t p xs zs := (h.swap.yes hV hc).swap
end
theorem row_lit1 (w : World) (a : Int) : Row (w.alloc (.cells #[.int .i64 a] 3)) (w.heap.size + 1) (some ⟨w.heap.size, 0, none⟩) 1 [a] := by
  refine ⟨rfl, fun _ => ⟨_, _, rfl, by omega, fun i hi => ?_⟩⟩
  match i, hi with
  | 0, _ => simp [go_sem]

/-- What stands at the head of Part's loop, k numbers on. -/
def PartAt (w1 wr : World) (v : Nat → Sl) (xs : List Int) (low high : Int) (k : Nat) (s p : Sl) : Prop :=
  Parting (w1.alloc (.cells #[.slice (v 0).a (v 0).n (v 0).c, .slice (v 1).a (v 1).n (v 1).c, .slice (v 2).a (v 2).n (v 2).c] 25)) wr (w1.heap.size + 1) s p (outOf low high (xs.take k)) (inOf low high (xs.take k))
section
variable {w w1 wr : World} {v : Nat → Sl} {f : Nat → List Int} {xs : List Int} {low high a : Int} {k n : Nat} {s p : Sl}
theorem PartAt.start : PartAt w1 (w1.alloc (.cells #[.slice (v 0).a (v 0).n (v 0).c, .slice (v 1).a (v 1).n (v 1).c, .slice (v 2).a (v 2).n (v 2).c] 25)) v xs low high 0 ⟨none, 0, 0⟩ ⟨none, 0, 0⟩ :=
  ⟨World.ownsRow_nil _ _ _ _, World.ownsRow_nil _ _ _ _, fun x y hx => by simp at hx, Below.refl _ _⟩
theorem PartAt.yes {w2 : World} {t : Sl} {o : Obj} (h : PartAt w1 wr v xs low high k s p) (hl : xs.length = n) (hk : k < n) (ha : a = xs.getD k 0) (hi : isIn low high a = true)
    (hc : Catted (wr.alloc o) (w1.heap.size + 1) (.slice p.a p.n p.c) t (inOf low high (xs.take k) ++ [a]) w2) : PartAt w1 w2 v xs low high (k + 1) s t := by
  have := Parting.yes h (by simp) hc
  unfold PartAt
  rw [take_next hl hk, ← ha]
  have e1 : outOf low high (xs.take k ++ [a]) = outOf low high (xs.take k) := by simp [outOf, hi]
  have e2 : inOf low high (xs.take k ++ [a]) = inOf low high (xs.take k) ++ [a] := by simp [inOf, hi]
  rw [e1, e2]
  exact this
theorem PartAt.no {w2 : World} {t : Sl} {o : Obj} (h : PartAt w1 wr v xs low high k s p) (hl : xs.length = n) (hk : k < n) (ha : a = xs.getD k 0) (hi : isIn low high a = false)
    (hc : Catted (wr.alloc o) (w1.heap.size + 1) (.slice s.a s.n s.c) t (outOf low high (xs.take k) ++ [a]) w2) : PartAt w1 w2 v xs low high (k + 1) t p := by
  have := Parting.no h (by simp) hc
  unfold PartAt
  rw [take_next hl hk, ← ha]
  have e1 : outOf low high (xs.take k ++ [a]) = outOf low high (xs.take k) ++ [a] := by simp [outOf, hi]
  have e2 : inOf low high (xs.take k ++ [a]) = inOf low high (xs.take k) := by simp [inOf, hi]
  rw [e1, e2]
  exact this
theorem PartAt.box (h : PartAt w1 wr v xs low high k s p) : Box3 wr w1.heap.size v := (Box3.new w1 v 25).below h.bel (by omega)
theorem PartAt.res (h : PartAt w1 wr v xs low high k s p) {b : Nat} {z : Nat → Sl} (X : Box3 w1 b z) : Box3 wr b z := (X.alloc _).below h.bel (by have := X.lt; omega)
theorem PartAt.row (h : PartAt w1 wr v xs low high k s p) {B m : Nat} {A : Option Addr} {ys : List Int} (hr : Row w1 B A m ys) (hB : B ≤ w1.heap.size) : Row wr B A m ys := (hr.alloc _ hB).over h.bel (by omega)
theorem PartAt.done (h : PartAt w1 wr v xs low high k s p) (ho : Own3 w1 (w.heap.size + 2) v f) (hb : Below w.heap.size w w1) (X : Box3 w1 (w.heap.size + 1) noSl) {j : Nat} (x : Value) (z : Nat → Sl) :
    (let W := put3 (wr.setCell ⟨w1.heap.size, j, none⟩ x) (w.heap.size + 1) z
     L3 W W.heap.size (upd v j s) (upd f j (outOf low high (xs.take k))) ∧ (Row W W.heap.size p.a p.n (inOf low high (xs.take k)) ∧ p.n ≤ p.c ∧ p.c ≤ maxLen) ∧ Below w.heap.size w W) := by
  intro W
  have hX := X.lt
  have hV : wr.heap.size = W.heap.size := by show _ = (put3 _ _ _).heap.size; rw [put3_size]; simp [World.setCell]
  have keep : ∀ b, ¬ b = w1.heap.size → ¬ b = w.heap.size + 1 → W.heap[b]? = wr.heap[b]? := fun b h1 h2 => (put3_other _ _ h2).trans (Below.heap_setCell _ _ _ _ h1)
  have O1 : Own3 wr (w.heap.size + 2) v f := (ho.alloc (.cells #[.slice (v 0).a (v 0).n (v 0).c, .slice (v 1).a (v 1).n (v 1).c, .slice (v 2).a (v 2).n (v 2).c] 25)).same (fun j y hj hy => h.bel.block _ (by have := (ho.block j hj hy).2; omega))
  have O2 : Own3 W (w.heap.size + 2) v f := O1.same (fun j y hj hy => keep _ (by have := (ho.block j hj hy).2; omega) (by have := (ho.block j hj hy).1; omega))
  have S2 : W.ownsRow (w1.heap.size + 1) 3 1 (.slice s.a s.n s.c) s.n ((outOf low high (xs.take k)).map (Value.int .i64)) := World.ownsRow.same h.stay (fun g hg hlt => keep g (by have := (h.stay.lt g hg).1; omega) (by have := (h.stay.lt g hg).1; omega))
  have P2 : W.ownsRow (w1.heap.size + 1) 3 1 (.slice p.a p.n p.c) p.n ((inOf low high (xs.take k)).map (Value.int .i64)) := World.ownsRow.same h.part (fun g hg hlt => keep g (by have := (h.part.lt g hg).1; omega) (by have := (h.part.lt g hg).1; omega))
  obtain ⟨a1, c1, e1, r1, l1, m1⟩ := owns_row S2
  obtain ⟨a2, c2, e2, r2, l2, m2⟩ := owns_row P2
  simp only [Value.slice.injEq, true_and] at e1 e2
  obtain ⟨rfl, rfl⟩ := e1
  obtain ⟨rfl, rfl⟩ := e2
  refine ⟨O2.l3.set j s _ r1 l1 m1, ⟨r2, l2, m2⟩, below_put3 (((hb.alloc hb.size _).trans (h.bel.mono ?_)).setCell (p := ⟨w1.heap.size, j, none⟩) hb.size _) (by omega) _⟩
  have := hb.size
  omega
end

end Go.Proofs.YtccjelpfmkbmiaaGreatDoor.Ls
end
section
namespace Go.Proofs.YtccjelpfmkbmiaaGreatDoor.Ls
open Go.Proofs.YtccjelpfmkbmiaaGreatDoor
set_option maxRecDepth 100000
open Go.RowKit

def todo : Nat → (Nat → Bool) → Nat
  | 0, _ => 0
  | n + 1, l => todo n l + (if l n then 0 else 1)
theorem todo_upd {l : Nat → Bool} {i : Nat} (h : l i = false) : ∀ n, i < n → todo n (upd l i true) + 1 = todo n l
  | 0, hi => absurd hi (by omega)
  | n + 1, hi => by
    by_cases e : i = n
    · subst e
      have same : ∀ m, m ≤ i → todo m (upd l i true) = todo m l := by
        intro m
        induction m with
        | zero => intro _; rfl
        | succ m ih =>
          intro hm
          simp only [todo]
          rw [ih (by omega), upd_other _ _ (by omega)]
      simp only [todo]
      rw [same i (Nat.le_refl _), upd_same, h]
      simp
    · have := todo_upd h n (by omega)
      simp only [todo]
      rw [upd_other _ _ (by omega)]
      omega
theorem todo_none {l : Nat → Bool} : ∀ n, todo n l = 0 → ∀ i, i < n → l i = true
  | 0, _, i, hi => absurd hi (by omega)
  | n + 1, h, i, hi => by
    simp only [todo] at h
    cases hl : l n
    · rw [hl] at h
      simp at h
    · by_cases e : i = n
      · rw [e]; exact hl
      · exact todo_none n (by omega) i (by omega)
theorem todo_le (l : Nat → Bool) : ∀ n, todo n l ≤ n
  | 0 => Nat.le_refl _
  | n + 1 => by
    have := todo_le l n
    simp only [todo]
    split <;> omega

section
variable {F : Fence} {n : Nat} {P : Program} {ops : Array Oper} {Q : Exit → Act → World → Prop} {md : Region.Mode}
end
end Go.Proofs.YtccjelpfmkbmiaaGreatDoor.Ls
end
section
namespace Go.Proofs.YtccjelpfmkbmiaaGreatDoor.Ls
open Go.Proofs.YtccjelpfmkbmiaaGreatDoor
set_option maxRecDepth 100000
open Go.RowKit

structure Thing where
  blk : Nat → Prop
  ok : World → Prop
  stab : ∀ w w' : World, ok w → w.heap.size ≤ w'.heap.size → (∀ b, blk b → w'.heap[b]? = w.heap[b]?) → ok w'
def tOwn (base : Nat) (U : Nat → Sl) (f : Nat → List Int) : Thing :=
  ⟨fun b => ∃ j x, j < 3 ∧ (U j).a = some x ∧ x.block = b, fun w => Own3 w base U f, fun _ _ h _ hs => h.same (fun j x hj hx => hs _ ⟨j, x, hj, hx, rfl⟩)⟩
def tBox (d : Nat) (z : Nat → Sl) : Thing := ⟨fun b => b = d, fun w => Box3 w d z, fun _ _ h hl hs => h.same (hs d rfl) hl⟩

structure Res (base : Nat) (W w : World) (R : Nat → Option Thing) : Prop where
  bel : Below base W w
  ok : ∀ r t, R r = some t → t.ok w ∧ ∀ b, t.blk b → base ≤ b ∧ b < w.heap.size
  apart : ∀ r s t t', R r = some t → R s = some t' → ¬ r = s → ∀ b, t.blk b → ¬ t'.blk b
section
variable {base : Nat} {W w w' : World} {R : Nat → Option Thing}
theorem Res.none_ (W : World) (base : Nat) : Res base W W (fun _ => none) := ⟨Below.refl _ _, (fun _ _ h => by cases h), (fun _ _ _ _ h => by cases h)⟩
theorem Res.next (h : Res base W w R) (hw : base ≤ w.heap.size) (hb : Below w.heap.size w w') : Res base W w' R :=
  ⟨h.bel.trans (hb.mono hw), fun r t hr => ⟨t.stab w w' (h.ok r t hr).1 hb.size (fun b hbk => hb.block b ((h.ok r t hr).2 b hbk).2), fun b hbk => ⟨((h.ok r t hr).2 b hbk).1, Nat.lt_of_lt_of_le ((h.ok r t hr).2 b hbk).2 hb.size⟩⟩, h.apart⟩
theorem Res.drewN (h : Res base W w R) (k : Nat) : Res base W (w.drewN k) R :=
  ⟨below_drawn h.bel k, fun r t hr => ⟨t.stab w _ (h.ok r t hr).1 (Nat.le_refl _) (fun _ _ => rfl), (h.ok r t hr).2⟩, h.apart⟩
/-- One more thing, in new memory. -/
theorem Res.add (h : Res base W w R) (hw : base ≤ w.heap.size) (hb : Below w.heap.size w w') (r : Nat) (t : Thing) (ht : t.ok w') (hn : ∀ b, t.blk b → w.heap.size ≤ b ∧ b < w'.heap.size) : Res base W w' (upd R r (some t)) := by
  have h' := h.next hw hb
  refine ⟨h'.bel, fun s t' hs => ?_, fun s s' t1 t2 h1 h2 hne b hb1 hb2 => ?_⟩
  · by_cases e : s = r
    · subst e
      rw [upd_same] at hs
      cases hs
      exact ⟨ht, fun b hbk => ⟨Nat.le_trans hw (hn b hbk).1, (hn b hbk).2⟩⟩
    · rw [upd_other _ _ e] at hs
      exact h'.ok s t' hs
  · by_cases e : s = r
    · subst e
      rw [upd_same] at h1
      cases h1
      rw [upd_other _ _ (fun e => hne e.symm)] at h2
      have := (hn b hb1).1
      have := ((h.ok s' t2 h2).2 b hb2).2
      omega
    · rw [upd_other _ _ e] at h1
      by_cases e' : s' = r
      · subst e'
        rw [upd_same] at h2
        cases h2
        have := (hn b hb2).1
        have := ((h.ok s t1 h1).2 b hb1).2
        omega
      · rw [upd_other _ _ e'] at h2
        exact h.apart s s' t1 t2 h1 h2 hne b hb1 hb2
/-- One thing is turned: where it lay, or in new memory; all else is as it was. -/
theorem Res.change (h : Res base W w R) (hw : base ≤ w.heap.size) {r : Nat} {t : Thing} (hr : R r = some t) (h1 : w'.os = w.os) (h2 : w'.tape = w.tape) (h3 : w'.output = w.output) (h4 : w.heap.size ≤ w'.heap.size)
    (hs : ∀ b, b < w.heap.size → ¬ t.blk b → w'.heap[b]? = w.heap[b]?) (t' : Thing) (ht : t'.ok w') (hn : ∀ b, t'.blk b → (t.blk b ∨ w.heap.size ≤ b) ∧ b < w'.heap.size) : Res base W w' (upd R r (some t')) := by
  have old := h.ok r t hr
  refine ⟨h.bel.trans ⟨h1, h2, h3, h4, fun b hb => hs b (by omega) (fun hbk => by have := (old.2 b hbk).1; omega)⟩, fun s t1 h1 => ?_, fun s s' t1 t2 h1 h2 hne b hb1 hb2 => ?_⟩
  · by_cases e : s = r
    · subst e
      rw [upd_same] at h1
      cases h1
      refine ⟨ht, fun b hbk => ⟨?_, (hn b hbk).2⟩⟩
      rcases (hn b hbk).1 with hb | hb
      · exact (old.2 b hb).1
      · exact Nat.le_trans hw hb
    · rw [upd_other _ _ e] at h1
      have o1 := h.ok s t1 h1
      exact ⟨t1.stab w w' o1.1 h4 (fun b hbk => hs b (o1.2 b hbk).2 (h.apart s r t1 t h1 hr e b hbk)), fun b hbk => ⟨(o1.2 b hbk).1, Nat.lt_of_lt_of_le (o1.2 b hbk).2 h4⟩⟩
  · by_cases e : s = r
    · subst e
      rw [upd_same] at h1
      cases h1
      rw [upd_other _ _ (fun e => hne e.symm)] at h2
      rcases (hn b hb1).1 with hb | hb
      · exact h.apart s s' t t2 hr h2 hne b hb hb2
      · have := ((h.ok s' t2 h2).2 b hb2).2
        omega
    · rw [upd_other _ _ e] at h1
      by_cases e' : s' = r
      · subst e'
        rw [upd_same] at h2
        cases h2
        rcases (hn b hb2).1 with hb | hb
        · exact h.apart s s' t1 t h1 hr hne b hb1 hb
        · have := ((h.ok s t1 h1).2 b hb1).2
          omega
      · rw [upd_other _ _ e'] at h2
        exact h.apart s s' t1 t2 h1 h2 hne b hb1 hb2
theorem Res.own {r : Nat} {b0 : Nat} {U : Nat → Sl} {f : Nat → List Int} (h : Res base W w R) (hr : R r = some (tOwn b0 U f)) : Own3 w b0 U f := (h.ok r _ hr).1
theorem Res.box {r : Nat} {d : Nat} {z : Nat → Sl} (h : Res base W w R) (hr : R r = some (tBox d z)) : Box3 w d z := (h.ok r _ hr).1
/-- New lists of one's own. -/
theorem Res.copied {U : Nat → Sl} {f : Nat → List Int} (h : Res base W w R) (hw : base ≤ w.heap.size) (ho : Own3 w' w.heap.size U f) (hb : Below w.heap.size w w') (r : Nat) : Res base W w' (upd R r (some (tOwn base U f))) :=
  h.add hw hb r _ (ho.less hw) (by rintro b ⟨j, x, hj, hx, rfl⟩; exact ho.block j hj hx)
/-- A new box. -/
theorem Res.boxed (h : Res base W w R) (hw : base ≤ w.heap.size) (z : Nat → Sl) (r : Nat) : Res base W (w.alloc (.cells #[.slice (z 0).a (z 0).n (z 0).c, .slice (z 1).a (z 1).n (z 1).c, .slice (z 2).a (z 2).n (z 2).c] 25)) (upd R r (some (tBox w.heap.size z))) :=
  h.add hw ((Below.refl _ _).alloc (Nat.le_refl _) _) r _ (Box3.new w z 25) (fun b e => by cases e; simp)
/-- A whole value is stored into a box. -/
theorem Res.put {r d : Nat} {z : Nat → Sl} (h : Res base W w R) (hw : base ≤ w.heap.size) (hr : R r = some (tBox d z)) (z' : Nat → Sl) : Res base W (put3 w d z') (upd R r (some (tBox d z'))) :=
  h.change (w' := put3 w d z') hw hr rfl rfl rfl (by rw [put3_size]; exact Nat.le_refl _) (fun b _ (hb : ¬ b = d) => put3_other w z' hb) (tBox d z') ((h.box hr).put z') (fun b (e : b = d) => ⟨.inl e, by rw [put3_size, e]; exact (h.box hr).lt⟩)
/-- One slice is stored into a box. -/
theorem Res.set {r d k : Nat} {z : Nat → Sl} (h : Res base W w R) (hw : base ≤ w.heap.size) (hr : R r = some (tBox d z)) (hk : k < 3) (s : Sl) : Res base W (w.setCell ⟨d, k, none⟩ (.slice s.a s.n s.c)) (upd R r (some (tBox d (upd z k s)))) :=
  h.change (w' := w.setCell ⟨d, k, none⟩ (.slice s.a s.n s.c)) hw hr rfl rfl rfl (by simp [World.setCell]) (fun b _ (hb : ¬ b = d) => Below.heap_setCell _ _ _ _ hb) (tBox d (upd z k s)) ((h.box hr).set hk s) (fun b (e : b = d) => ⟨.inl e, by have := (h.box hr).lt; simpa [World.setCell, e] using this⟩)
/-- One of three slices is appended to. -/
theorem Res.catted {r k b0 : Nat} {U : Nat → Sl} {f : Nat → List Int} {s : Sl} {xs : List Int} {o : Obj} (h : Res base W w R) (hw : base ≤ w.heap.size) (hr : R r = some (tOwn base U f)) (hk : k < 3)
    (hc : Catted (w.alloc o) b0 (.slice (U k).a (U k).n (U k).c) s xs w') (ho : w'.ownsRow base 3 1 (.slice s.a s.n s.c) s.n (xs.map (Value.int .i64))) : Res base W w' (upd R r (some (tOwn base (upd U k s) (upd f k xs)))) := by
  have O := h.own hr
  have hs : (w.alloc o).heap.size = w.heap.size + 1 := by simp
  refine h.change hw hr (hc.grown.os.trans rfl) (hc.grown.tape.trans rfl) (hc.grown.output.trans rfl) (by have := hc.grown.size; omega) (fun b hb hbk => ?_) _ ((O.alloc o).appended hk s ho hc.grown hc.lies) (fun b ⟨j, x, hj, hx, e⟩ => ?_)
  · refine (hc.grown.block b (by omega) (fun e => hbk ?_)).trans (Below.heap_alloc _ _ _ hb)
    rw [ownBlock_slice] at e
    cases hx : (U k).a with
    | none => rw [hx] at e; cases e
    | some x =>
      rw [hx] at e
      simp at e
      exact ⟨k, x, hk, hx, e.symm⟩
  · have hlt := (((O.alloc o).appended hk s ho hc.grown hc.lies).block j hj hx).2
    subst e
    refine ⟨?_, hlt⟩
    by_cases e : j = k
    · subst e
      rw [upd_same] at hx
      rcases hc.lies x hx with e | e
      · left
        rw [ownBlock_slice] at e
        cases hy : (U j).a with
        | none => rw [hy] at e; cases e
        | some y =>
          rw [hy] at e
          simp at e
          exact ⟨j, y, hj, hy, e⟩
      · right
        omega
    · rw [upd_other _ _ e] at hx
      exact .inl ⟨j, x, hj, hx, rfl⟩
end
end Go.Proofs.YtccjelpfmkbmiaaGreatDoor.Ls
end
section
namespace Go.Proofs.YtccjelpfmkbmiaaGreatDoor.Ls
open Go.Proofs.YtccjelpfmkbmiaaGreatDoor
set_option maxRecDepth 100000
open Go.RowKit

/-- The blocks of Z are as they were; the streams too. -/
structure Hold (Z : Nat → Prop) (w w' : World) : Prop where
  os : w'.os = w.os
  tape : w'.tape = w.tape
  output : w'.output = w.output
  size : w.heap.size ≤ w'.heap.size
  block : ∀ k, Z k → k < w.heap.size → w'.heap[k]? = w.heap[k]?
theorem Hold.refl (Z : Nat → Prop) (w : World) : Hold Z w w := ⟨rfl, rfl, rfl, Nat.le_refl _, fun _ _ _ => rfl⟩
theorem Hold.trans {Z : Nat → Prop} {a b c : World} (h : Hold Z a b) (k : Hold Z b c) : Hold Z a c :=
  ⟨k.os.trans h.os, k.tape.trans h.tape, k.output.trans h.output, Nat.le_trans h.size k.size, fun i hi hl => (k.block i hi (Nat.lt_of_lt_of_le hl h.size)).trans (h.block i hi hl)⟩
theorem hold_of_below {Z : Nat → Prop} {w w' : World} (h : Below w.heap.size w w') : Hold Z w w' := ⟨h.os, h.tape, h.output, h.size, fun k _ hl => h.block k hl⟩

section
variable {α : Type}
/-- What is said of M and what has come abides whatever turns blocks of M, and lays new ones. -/
def BidesZ (Z : Nat → Prop) (J : (Nat → Prop) → List α → World → Prop) : Prop :=
  ∀ M M' pre W W', J M pre W → Hold Z W W' → (∀ k, k < W.heap.size → ¬ M k → W'.heap[k]? = W.heap[k]?) → (∀ k, M' k → M k ∨ (W.heap.size ≤ k ∧ k < W'.heap.size)) → J M' pre W'
/-- The blocks of Z, and the blocks of M, are as they were. -/
def KeptZ (Z : Nat → Prop) (M : Nat → Prop) (W W' : World) : Prop := Hold Z W W' ∧ ∀ k, M k → k < W.heap.size → W'.heap[k]? = W.heap[k]?
theorem KeptZ.refl (Z : Nat → Prop) (M : Nat → Prop) (W : World) : KeptZ Z M W W := ⟨Hold.refl _ _, fun _ _ _ => rfl⟩
theorem KeptZ.trans {Z : Nat → Prop} {M : Nat → Prop} {A B C : World} (h : KeptZ Z M A B) (k : KeptZ Z M B C) : KeptZ Z M A C :=
  ⟨h.1.trans k.1, fun i hi hl => (k.2 i hi (Nat.lt_of_lt_of_le hl h.1.size)).trans (h.2 i hi hl)⟩
theorem KeptZ.less {Z : Nat → Prop} {M M' : Nat → Prop} {A B : World} (h : KeptZ Z M A B) (hm : ∀ k, M' k → M k) : KeptZ Z M' A B := ⟨h.1, fun i hi hl => h.2 i (hm i hi) hl⟩

/-- An iterator's value: it hands on the elements of L in their order, till a round says 'no more'. C: the blocks that it reads. -/
def GivesZ (P : Program) (g : Nat) (lb : Array Value) (encs : α → Array Value) (Z : Nat → Prop) (C : Nat → Prop) (L : List α) (w : World) : Prop :=
  ∀ (l : Nat) (J Jx : (Nat → Prop) → List α → World → Prop) (M : Nat → Prop) (W : World), Below w.heap.size w W → (∀ k, C k → M k ∨ Z k) → BidesZ Z J → BidesZ Z Jx →
    (∀ M pre x W1, pre ++ [x] <+: L → J M pre W1 → YieldAt Fence.wide 0 P l (encs x) W1 fun e W' => KeptZ Z M W1 W' ∧
      ((e = .returned (.bool true) ∧ J M (pre ++ [x]) W') ∨ (e = .returned (.bool false) ∧ Jx M (pre ++ [x]) W'))) →
    J M [] W →
    Calls P g (#[.func (.yield l) #[] #[]] ++ lb) W fun e W' => (∃ v, e = .returned v) ∧ ∃ M', J M' L W' ∨ ∃ pre, Jx M' pre W'
theorem GivesZ.later {P : Program} {g : Nat} {lb : Array Value} {encs : α → Array Value} {Z : Nat → Prop} {C : Nat → Prop} {L : List α} {w w' : World}
    (h : GivesZ P g lb encs Z C L w) (hb : Below w.heap.size w w') : GivesZ P g lb encs Z C L w' :=
  fun l J Jx M W hW => h l J Jx M W (hb.trans (hW.mono hb.size))

theorem hold_turned {Z : Nat → Prop} {W : World} {l : Nat} (o : Obj) (h : ¬ Z l) : Hold Z W (W.putObj l o) :=
  ⟨rfl, rfl, rfl, by simp, fun k hk _ => World.putObj_heap_other (by rintro rfl; exact h hk)⟩
theorem BidesZ.turned {Z : Nat → Prop} {J : (Nat → Prop) → List α → World → Prop} (h : BidesZ Z J) {M : Nat → Prop} {pre : List α} {W : World} {l : Nat} (o : Obj) (hj : J M pre W) (hn : ¬ Z l) (hM : M l) : J M pre (W.putObj l o) :=
  h M M pre W _ hj (hold_turned o hn) (fun _ _ hk => World.putObj_heap_other (fun e => hk (e ▸ hM))) (fun _ hk => .inl hk)
theorem BidesZ.more {Z : Nat → Prop} {J : (Nat → Prop) → List α → World → Prop} (h : BidesZ Z J) {M M' : Nat → Prop} {pre : List α} {W W' : World} (hj : J M pre W) (hb : Below W.heap.size W W')
    (hM : ∀ k, M' k → M k ∨ (W.heap.size ≤ k ∧ k < W'.heap.size)) : J M' pre W' :=
  h M M' pre W W' hj (hold_of_below hb) (fun k hk _ => hb.block k hk) hM

end
end Go.Proofs.YtccjelpfmkbmiaaGreatDoor.Ls
end
section
namespace Go.Proofs.YtccjelpfmkbmiaaGreatDoor.Ls
open Go.Proofs.YtccjelpfmkbmiaaGreatDoor
set_option maxRecDepth 100000
open Go.RowKit Go.Shelf
attribute [local go_sem] Oper.semAt_some

theorem Hold.cell {Z : Nat → Prop} {w w' : World} (h : Hold Z w w') {b o : Nat} {v : Value} (hb : Z b) (hc : w.cell? ⟨b, o, none⟩ = some v) : w'.cell? ⟨b, o, none⟩ = some v :=
  (World.cell?_of_block (a := ⟨b, o, none⟩) (h.block b hb (World.block_lt_of_cell? w _ hc))).trans hc
theorem Hold.row {Z : Nat → Prop} {w w' : World} (h : Hold Z w w') {B n : Nat} {A : Option Addr} {xs : List Int} (hr : Row w B A n xs) (hz : ∀ x, A = some x → Z x.block) : Row w' B A n xs :=
  ⟨hr.1, fun hn => by
    obtain ⟨b, off, rfl, hlt, hc⟩ := hr.2 hn
    exact ⟨b, off, rfl, hlt, fun i hi => h.cell (hz _ rfl) (hc i hi)⟩⟩

end Go.Proofs.YtccjelpfmkbmiaaGreatDoor.Ls
end
section
namespace Go.Proofs.YtccjelpfmkbmiaaGreatDoor.Ls
open Go.Proofs.YtccjelpfmkbmiaaGreatDoor
set_option maxRecDepth 100000
open Go.RowKit Go.Shelf

theorem upd_upd {α : Type} (u : Nat → α) (k : Nat) (a b : α) : upd (upd u k a) k b = upd u k b := by
  funext j
  by_cases e : j = k
  · rw [e, upd_same, upd_same]
  · rw [upd_other _ _ e, upd_other _ _ e, upd_other _ _ e]

theorem Res.same {base : Nat} {W w w' : World} {R : Nat → Option Thing} (h : Res base W w R) (hb : Below base w w') (hs : ∀ r t, R r = some t → ∀ b, t.blk b → w'.heap[b]? = w.heap[b]?) : Res base W w' R :=
  ⟨h.bel.trans hb, fun r t hr => ⟨t.stab w w' (h.ok r t hr).1 hb.size (hs r t hr), fun b hbk => ⟨((h.ok r t hr).2 b hbk).1, Nat.lt_of_lt_of_le ((h.ok r t hr).2 b hbk).2 hb.size⟩⟩, h.apart⟩

/-- Between two rounds: xs has been moved. -/
structure MvL (base : Nat) (W5 wl : World) (Z : Nat → Prop) (g : Nat → List Int) (k d2 : Nat) (xs : List Int) (M : Nat → Prop) (W : World) (V : Nat → Sl) (R : Nat → Option Thing) : Prop where
  hold : Hold Z wl W
  res : Res base W5 W R
  r1 : R 1 = some (tOwn base V (upd g k (g k ++ xs)))
  r3 : R 3 = some (tBox d2 V)
  off : ∀ r t, R r = some t → ∀ b, t.blk b → ¬ Z b ∧ ¬ M b
  fit : ∀ b, M b → b < W.heap.size
  zfit : ∀ b, Z b → b < wl.heap.size
  low : ∀ b, b < base → Z b
  big : base ≤ W.heap.size
section
variable {base k d2 : Nat} {W5 wl W W' : World} {Z M M' : Nat → Prop} {g : Nat → List Int} {xs : List Int} {V : Nat → Sl} {R : Nat → Option Thing}
theorem MvL.bides (h : MvL base W5 wl Z g k d2 xs M W V R) (hz : Hold Z W W') (hs : ∀ j, j < W.heap.size → ¬ M j → W'.heap[j]? = W.heap[j]?) (hm : ∀ j, M' j → M j ∨ (W.heap.size ≤ j ∧ j < W'.heap.size)) : MvL base W5 wl Z g k d2 xs M' W' V R := by
  refine ⟨h.hold.trans hz, h.res.same ⟨hz.os, hz.tape, hz.output, hz.size, fun b hb => hz.block b (h.low b hb) (Nat.lt_of_lt_of_le hb h.big)⟩ (fun r t hr b hb => hs b ((h.res.ok r t hr).2 b hb).2 (h.off r t hr b hb).2), h.r1, h.r3, fun r t hr b hb => ⟨(h.off r t hr b hb).1, fun hM => ?_⟩, fun b hb => ?_, h.zfit, h.low, Nat.le_trans h.big hz.size⟩
  · rcases hm b hM with hm | hm
    · exact (h.off r t hr b hb).2 hm
    · have := ((h.res.ok r t hr).2 b hb).2
      omega
  · rcases hm b hb with hm | hm
    · exact Nat.lt_of_lt_of_le (h.fit b hm) hz.size
    · exact hm.2
theorem MvL.own (h : MvL base W5 wl Z g k d2 xs M W V R) : Own3 W base V (upd g k (g k ++ xs)) := h.res.own h.r1
theorem MvL.box (h : MvL base W5 wl Z g k d2 xs M W V R) : Box3 W d2 V := h.res.box h.r3

/-- A round's end: one number more. -/
theorem MvL.moved (h : MvL base W5 wl Z g k d2 xs M W V R) (hk : k < 3) {s : Sl} {a : Int} {o : Obj} {w2 : World} (hc : Catted (W.drew.alloc o) base (.slice (V k).a (V k).n (V k).c) s (g k ++ xs ++ [a]) w2) :
    KeptZ Z M W (w2.setCell ⟨d2, k, none⟩ (.slice s.a s.n s.c)) ∧ ∃ V' R', MvL base W5 wl Z g k d2 (xs ++ [a]) M (w2.setCell ⟨d2, k, none⟩ (.slice s.a s.n s.c)) V' R' := by
  have hbig := h.big
  have RD : Res base W5 W.drew R := h.res.drewN 1
  have R1 := RD.catted (b0 := base) h.big h.r1 hk (s := s) (xs := g k ++ xs ++ [a]) hc hc.own
  have hsz : (W.drew.alloc o).heap.size = W.heap.size + 1 := by simp
  have hs2 : W.heap.size + 1 ≤ w2.heap.size := by have := hc.grown.size; omega
  have R2 := R1.set (by omega) (r := 3) (d := d2) (k := k) (z := V) (by rw [upd_other _ _ (by decide)]; exact h.r3) hk s
  have lies : ∀ q, (Value.slice (V k).a (V k).n (V k).c).ownBlock = some q → (tOwn base V (upd g k (g k ++ xs))).blk q := fun q hq => by
    rw [ownBlock_slice] at hq
    cases hx : (V k).a with
    | none => rw [hx] at hq; cases hq
    | some x =>
      rw [hx] at hq
      simp at hq
      exact ⟨k, x, hk, hx, hq⟩
  have keep : ∀ b, b < W.heap.size → (Z b ∨ M b) → (w2.setCell ⟨d2, k, none⟩ (.slice s.a s.n s.c)).heap[b]? = W.heap[b]? := fun b hb hzm => by
    have n1 : ¬ (tOwn base V (upd g k (g k ++ xs))).blk b := fun hbk => by
      have := h.off 1 _ h.r1 b hbk
      rcases hzm with hz | hz
      · exact this.1 hz
      · exact this.2 hz
    have n2 : ¬ b = d2 := fun e => by
      have := h.off 3 _ h.r3 b e
      rcases hzm with hz | hz
      · exact this.1 hz
      · exact this.2 hz
    refine (Below.heap_setCell _ _ _ _ n2).trans ((hc.grown.block b (by omega) (fun e => n1 (lies b e.symm))).trans (Below.heap_alloc _ _ _ hb))
  have hH : Hold Z W (w2.setCell ⟨d2, k, none⟩ (.slice s.a s.n s.c)) :=
    ⟨hc.grown.os, hc.grown.tape, hc.grown.output, by simp [World.setCell]; omega, fun b hz hb => keep b hb (.inl hz)⟩
  refine ⟨⟨hH, fun b hM hb => keep b hb (.inr hM)⟩, upd V k s, _, h.hold.trans hH, R2, ?_, upd_same _ _ _, ?_, fun b hM => ?_, h.zfit, h.low, by simp [World.setCell]; omega⟩
  · rw [upd_other _ _ (by decide), upd_same, upd_upd, List.append_assoc]
  · intro r t hr b hb
    have old : ∀ b, (tOwn base V (upd g k (g k ++ xs))).blk b ∨ W.heap.size ≤ b → ¬ Z b ∧ ¬ M b := fun b hb => by
      rcases hb with hb | hb
      · exact h.off 1 _ h.r1 b hb
      · refine ⟨fun hz => ?_, fun hM => ?_⟩
        · have := h.zfit b hz
          have := h.hold.size
          omega
        · have := h.fit b hM
          omega
    by_cases e3 : r = 3
    · subst e3
      rw [upd_same] at hr
      cases hr
      exact h.off 3 _ h.r3 b hb
    · rw [upd_other _ _ e3] at hr
      by_cases e1 : r = 1
      · subst e1
        rw [upd_same] at hr
        cases hr
        obtain ⟨j, x, hj, hx, rfl⟩ := hb
        by_cases ej : j = k
        · subst ej
          rw [upd_same] at hx
          rcases hc.lies x hx with e | e
          · exact old _ (.inl (lies _ e))
          · exact old _ (.inr (by omega))
        · rw [upd_other _ _ ej] at hx
          exact old _ (.inl ⟨j, x, hj, hx, rfl⟩)
      · rw [upd_other _ _ e1] at hr
        exact h.off r t hr b hb
  · have := h.fit b hM
    simp [World.setCell]
    omega
end

/-- In a round's region: what has been carried out. -/
structure MvRd (V0 : World) (base k d2 : Nat) (s0 : Sl) (ys : List Int) (a : Int) (l : Nat → Bool) (x48 x49 x50 x51 x52 x53 x54 x55 : Value) (w : World) (s : Sl) : Prop where
  s0_ : l 0 = true → x48 = .int .i64 k
  s1 : l 1 = true → x49 = .int .i64 k
  s2 : l 2 = true → x50 = .pointer (some ⟨d2, k, none⟩)
  s3 : l 3 = true → x51 = .slice s0.a s0.n s0.c
  s4 : l 4 = true → x52 = .int .i64 a
  s7 : l 7 = true → x55 = .pointer (some ⟨d2, k, none⟩)
  p0 : l 5 = false → w = V0.drew
  p1 : l 5 = true → l 6 = false → w = V0.drew.alloc (.cells #[.int .i64 a] 3) ∧ x53 = .slice (some ⟨V0.heap.size, 0, none⟩) 1 1
  p2 : l 6 = true → l 8 = false → Catted (V0.drew.alloc (.cells #[.int .i64 a] 3)) base (.slice s0.a s0.n s0.c) s ys w ∧ x54 = .slice s.a s.n s.c
  p3 : l 8 = true → ∃ w2, Catted (V0.drew.alloc (.cells #[.int .i64 a] 3)) base (.slice s0.a s0.n s0.c) s ys w2 ∧ w = w2.setCell ⟨d2, k, none⟩ (.slice s.a s.n s.c)
  o6 : l 6 = true → l 5 = true
  o8 : l 8 = true → ∀ j, j < 8 → l j = true
section
variable {V0 w w' : World} {base k d2 : Nat} {s0 s : Sl} {ys : List Int} {a : Int} {l : Nat → Bool} {x48 x49 x50 x51 x52 x53 x54 x55 : Value}
theorem MvRd.start (x48 x49 x50 x51 x52 x53 x54 x55 : Value) (s : Sl) : MvRd V0 base k d2 s0 ys a (fun _ => false) x48 x49 x50 x51 x52 x53 x54 x55 V0.drew s :=
  ⟨(fun h => by cases h), (fun h => by cases h), (fun h => by cases h), (fun h => by cases h), (fun h => by cases h), (fun h => by cases h), fun _ => rfl, (fun h => by cases h), (fun h => by cases h), (fun h => by cases h), (fun h => by cases h), (fun h => by cases h)⟩
/-- Old blocks are as they were, but for the one that is appended to. -/
theorem MvRd.old (h : MvRd V0 base k d2 s0 ys a l x48 x49 x50 x51 x52 x53 x54 x55 w s) (h8 : l 8 = false) {b : Nat} (hb : b < V0.heap.size) (hne : ∀ x, s0.a = some x → ¬ b = x.block) : w.heap[b]? = V0.heap[b]? ∧ V0.heap.size ≤ w.heap.size := by
  cases h5 : l 5
  · rw [h.p0 h5]
    exact ⟨rfl, Nat.le_refl _⟩
  · cases h6 : l 6
    · rw [(h.p1 h5 h6).1]
      exact ⟨Below.heap_alloc _ _ _ hb, by simp⟩
    · have hc := (h.p2 h6 h8).1
      have hsz : (V0.drew.alloc (.cells #[.int .i64 a] 3)).heap.size = V0.heap.size + 1 := by simp
      refine ⟨(hc.grown.block b (by omega) (fun e => ?_)).trans (Below.heap_alloc _ _ _ hb), by have := hc.grown.size; omega⟩
      rw [ownBlock_slice] at e
      cases hx : s0.a with
      | none => rw [hx] at e; cases e
      | some x =>
        rw [hx] at e
        simp at e
        exact hne x hx e
end
/-- The blocks that Move's loop keeps: what was there, the list that is gone through, its box, the iterator's. -/
def MvZ (base : Nat) (U : Nat → Sl) (d1 c0 b : Nat) : Prop := b < base ∨ (tOwn base U noLists).blk b ∨ b = d1 ∨ b = c0
def MvI (base : Nat) (W5 wl : World) (Z : Nat → Prop) (g : Nat → List Int) (k d2 : Nat) (xs : List Int) (M : Nat → Prop) (pre : List Nat) (W : World) : Prop := ∃ V R, MvL base W5 wl Z g k d2 (pre.map fun i => xs[i]?.getD 0) M W V R
theorem MvI.bides (base : Nat) (W5 wl : World) (Z : Nat → Prop) (g : Nat → List Int) (k d2 : Nat) (xs : List Int) : BidesZ Z (MvI base W5 wl Z g k d2 xs) :=
  fun _ _ _ _ _ ⟨V, R, h⟩ hz hs hm => ⟨V, R, h.bides hz hs hm⟩
theorem MvI.start {base k d1 d2 c0 : Nat} {W5 wl : World} {U V : Nat → Sl} {f g : Nat → List Int} {R : Nat → Option Thing} (h : Res base W5 wl R) (r0 : R 0 = some (tOwn base U f)) (r1 : R 1 = some (tOwn base V g)) (r2 : R 2 = some (tBox d1 U)) (r3 : R 3 = some (tBox d2 V))
    (hc : ∀ r t, R r = some t → ∀ b, t.blk b → b < c0) (hl : c0 < wl.heap.size) (hb : base ≤ wl.heap.size) (xs : List Int) : MvI base W5 wl (MvZ base U d1 c0) g k d2 xs (fun _ => False) [] wl := by
  refine ⟨V, fun r => if r = 1 ∨ r = 3 then R r else none, Hold.refl _ _, ⟨h.bel, fun r t hr => ?_, fun r s t t' hr hs hne => ?_⟩, ?_, ?_, fun r t hr b hbk => ⟨?_, fun h => h⟩, fun _ h => h.elim, fun b hz => ?_, fun b hz => .inl hz, hb⟩
  · split at hr
    · exact h.ok r t hr
    · cases hr
  · split at hr
    · split at hs
      · exact h.apart r s t t' hr hs hne
      · cases hs
    · cases hr
  · have e : upd g k (g k ++ ([] : List Nat).map fun i => xs[i]?.getD 0) = g := by
      funext j
      by_cases e : j = k
      · rw [e, upd_same]; simp
      · rw [upd_other _ _ e]
    simp only [true_or, if_true]
    rw [e]
    exact r1
  · simp only [or_true, if_true]
    exact r3
  · split at hr
    · rename_i hor
      have n0 : ¬ r = 0 := by omega
      have n2 : ¬ r = 2 := by omega
      rintro (hz | hz | hz | hz)
      · have := ((h.ok r t hr).2 b hbk).1
        omega
      · exact h.apart r 0 t _ hr r0 n0 b hbk hz
      · exact h.apart r 2 t _ hr r2 n2 b hbk hz
      · have := hc r t hr b hbk
        omega
    · cases hr
  · rcases hz with hz | hz | hz | hz
    · omega
    · exact ((h.ok 0 _ r0).2 b hz).2
    · exact ((h.ok 2 _ r2).2 b hz).2
    · omega

/-- What Move leaves: behind the cut of the list that was gone through, and behind the stores of both results. -/
structure MvEnd (w W5 W : World) (D d1 d2 : Nat) (U2 V : Nat → Sl) (F G : Nat → List Int) (W3 : World) : Prop where
  e1 : Box3 W3 d1 U2
  e2 : Box3 W3 d2 V
  e8 : Box3 W3 (w.heap.size + 1 + 1 + 1) noSl
  e9 : Box3 W3 (w.heap.size + 1 + 1 + 1 + 1) noSl
  def_ : W3.heap[D]? = some (.deferred (some []))
  far : w.heap.size + 5 ≤ D
  fin : ∀ W' : World, W'.os = W3.os → W'.tape = W3.tape → W'.output = W3.output → W'.heap.size = W3.heap.size → (∀ b, ¬ b = D → ¬ b = w.heap.size + 1 + 1 + 1 → ¬ b = w.heap.size + 1 + 1 + 1 + 1 → W'.heap[b]? = W3.heap[b]?) →
    L3 W' W'.heap.size U2 F ∧ L3 W' W'.heap.size V G ∧ Below w.heap.size w W'
theorem drewN_heap (w : World) (q : Nat) : (w.drewN q).heap = w.heap := rfl
theorem drewN_os (w : World) (q : Nat) : (w.drewN q).os = w.os ∧ (w.drewN q).tape = w.tape ∧ (w.drewN q).output = w.output := ⟨rfl, rfl, rfl⟩
theorem put3_os (w : World) (b : Nat) (v : Nat → Sl) : (put3 w b v).os = w.os ∧ (put3 w b v).tape = w.tape ∧ (put3 w b v).output = w.output := ⟨rfl, rfl, rfl⟩
/-- .. and at the return. -/
theorem MvEnd.done {w W5 W W3 W4 W' : World} {D d1 d2 q : Nat} {U2 V : Nat → Sl} {F G : Nat → List Int} (h : MvEnd w W5 W D d1 d2 U2 V F G W3) (e : W4 = (put3 (put3 W3 (w.heap.size + 1 + 1 + 1) U2) (w.heap.size + 1 + 1 + 1 + 1) V).drewN q)
    (g1 : W'.os = W4.os) (g2 : W'.tape = W4.tape) (g3 : W'.output = W4.output) (g4 : W'.heap.size = W4.heap.size) (g5 : ∀ b, ¬ b = D → W'.heap[b]? = W4.heap[b]?) :
    (L3 W' W'.heap.size U2 F ∧ L3 W' W'.heap.size V G ∧ Below w.heap.size w W') ∧ Box3 W' (w.heap.size + 1 + 1 + 1) U2 ∧ Box3 W' (w.heap.size + 1 + 1 + 1 + 1) V := by
  have hfar := h.far
  have s4 : W4.heap.size = W3.heap.size := by
    rw [e, drewN_heap, put3_size, put3_size]
  have k4 : ∀ b, ¬ b = w.heap.size + 1 + 1 + 1 → ¬ b = w.heap.size + 1 + 1 + 1 + 1 → W4.heap[b]? = W3.heap[b]? := fun b e1 e2 => by
    rw [e, drewN_heap]
    exact (put3_other _ _ e2).trans (put3_other _ _ e1)
  have e8 : Box3 W4 (w.heap.size + 1 + 1 + 1) U2 := by
    rw [e]
    exact ((h.e8.put U2).putOther (by omega) V).drewN q
  have e9 : Box3 W4 (w.heap.size + 1 + 1 + 1 + 1) V := by
    rw [e]
    exact ((h.e9.putOther (by omega) U2).put V).drewN q
  have o4 : W4.os = W3.os ∧ W4.tape = W3.tape ∧ W4.output = W3.output := by
    rw [e, (drewN_os _ _).1, (drewN_os _ _).2.1, (drewN_os _ _).2.2, (put3_os _ _ _).1, (put3_os _ _ _).2.1, (put3_os _ _ _).2.2, (put3_os _ _ _).1, (put3_os _ _ _).2.1, (put3_os _ _ _).2.2]
    exact ⟨rfl, rfl, rfl⟩
  exact ⟨h.fin W' (g1.trans o4.1) (g2.trans o4.2.1) (g3.trans o4.2.2) (by omega) (fun b b1 b2 b3 => (g5 b b1).trans (k4 b b2 b3)), e8.same (g5 _ (by omega)) (by omega), e9.same (g5 _ (by omega)) (by omega)⟩
end Go.Proofs.YtccjelpfmkbmiaaGreatDoor.Ls
end
section
namespace Go.Proofs.YtccjelpfmkbmiaaGreatDoor.Ls
open Go.Proofs.YtccjelpfmkbmiaaGreatDoor
set_option maxRecDepth 100000
open Go.RowKit Go.Shelf
attribute [local go_sem] Oper.semAt_some

structure MvSt (base : Nat) (W5 : World) (u v : Nat → Sl) (f g : Nat → List Int) (l : Nat → Bool) (x11 x12 x25 x26 x27 x28 : Value) (U V : Nat → Sl) (d1 d2 : Nat) (wc : World) (R : Nat → Option Thing) : Prop where
  res : Res base W5 wc R
  s0 : l 0 = true → x25 = (.agg #[.slice (u 0).a (u 0).n (u 0).c, .slice (u 1).a (u 1).n (u 1).c, .slice (u 2).a (u 2).n (u 2).c])
  s1 : l 1 = true → x26 = (.agg #[.slice (U 0).a (U 0).n (U 0).c, .slice (U 1).a (U 1).n (U 1).c, .slice (U 2).a (U 2).n (U 2).c]) ∧ R 0 = some (tOwn base U f)
  s2 : l 2 = true → x27 = (.agg #[.slice (v 0).a (v 0).n (v 0).c, .slice (v 1).a (v 1).n (v 1).c, .slice (v 2).a (v 2).n (v 2).c])
  s3 : l 3 = true → x28 = (.agg #[.slice (V 0).a (V 0).n (V 0).c, .slice (V 1).a (V 1).n (V 1).c, .slice (V 2).a (V 2).n (V 2).c]) ∧ R 1 = some (tOwn base V g)
  s4 : l 4 = true → x11 = .pointer (some ⟨d1, 0, none⟩) ∧ R 2 = some (tBox d1 (if l 6 then U else noSl))
  s5 : l 5 = true → x12 = .pointer (some ⟨d2, 0, none⟩) ∧ R 3 = some (tBox d2 (if l 7 then V else noSl))
  o6 : l 6 = true → l 1 = true
  o7 : l 7 = true → l 3 = true
  o4 : l 6 = true → l 4 = true
  o5 : l 7 = true → l 5 = true
section
variable {base : Nat} {W5 wc wc' : World} {u v : Nat → Sl} {f g : Nat → List Int} {l : Nat → Bool} {x11 x12 x25 x26 x27 x28 : Value} {U V : Nat → Sl} {d1 d2 : Nat} {R : Nat → Option Thing}
theorem MvSt.start (x11 x12 x25 x26 x27 x28 : Value) : MvSt base W5 u v f g (fun _ => false) x11 x12 x25 x26 x27 x28 noSl noSl 0 0 W5.drew (fun _ => none) :=
  ⟨(Res.none_ W5 base).drewN 1, (fun h => by cases h), (fun h => by cases h), (fun h => by cases h), (fun h => by cases h), (fun h => by cases h), (fun h => by cases h), (fun h => by cases h), (fun h => by cases h), (fun h => by cases h), (fun h => by cases h)⟩
theorem MvSt.size (h : MvSt base W5 u v f g l x11 x12 x25 x26 x27 x28 U V d1 d2 wc R) (hb : base ≤ W5.heap.size) : base ≤ wc.heap.size := Nat.le_trans hb h.res.bel.size
end
end Go.Proofs.YtccjelpfmkbmiaaGreatDoor.Ls
end
section
namespace Go.Proofs.YtccjelpfmkbmiaaGreatDoor.Ls
open Go.Proofs.YtccjelpfmkbmiaaGreatDoor
set_option maxRecDepth 100000
open Go.RowKit

/-- A slice of lists: each element's three cells hold slices, which are rows. -/
def LRow (w : World) (B : Nat) (A : Option Addr) (n : Nat) (u : Nat → Nat → Sl) (f : Nat → Nat → List Int) : Prop :=
  0 < n → ∃ b off, A = some ⟨b, off, none⟩ ∧ b < B ∧ ∀ i, i < n → (∀ j, j < 3 → w.cell? ⟨b, off + i * 3 + j, none⟩ = some (.slice (u i j).a (u i j).n (u i j).c)) ∧ L3 w B (u i) (f i)
theorem LRow.below {w w' : World} {B n : Nat} {A : Option Addr} {u : Nat → Nat → Sl} {f : Nat → Nat → List Int} (h : LRow w B A n u f) (hb : Below B w w') : LRow w' B A n u f := fun hn => by
  obtain ⟨b, off, e, hlt, hc⟩ := h hn
  exact ⟨b, off, e, hlt, fun i hi => ⟨fun j hj => (hb.cell (p := ⟨b, off + i * 3 + j, none⟩) hlt).trans ((hc i hi).1 j hj), (hc i hi).2.below hb⟩⟩
theorem LRow.over {w w' : World} {B C n : Nat} {A : Option Addr} {u : Nat → Nat → Sl} {f : Nat → Nat → List Int} (h : LRow w B A n u f) (hb : Below C w w') (hB : B ≤ C) : LRow w' B A n u f := h.below (hb.mono hB)

def upTo (g : Nat → List Int) (j : Nat) : List Int := (List.range j).flatMap g
theorem upTo_succ (g : Nat → List Int) (j : Nat) : upTo g (j + 1) = upTo g j ++ g j := by simp [upTo, List.range_succ, List.flatMap_append]
def allOf (f : Nat → Nat → List Int) (n : Nat) : List Int := (List.range n).flatMap fun i => upTo (f i) 3
theorem allOf_succ (f : Nat → Nat → List Int) (n : Nat) : allOf f (n + 1) = allOf f n ++ upTo (f n) 3 := by simp [allOf, List.range_succ, List.flatMap_append]
theorem upTo_le (g : Nat → List Int) : ∀ {j k : Nat}, j ≤ k → (upTo g j).length ≤ (upTo g k).length
  | j, k, h => by
    induction k with
    | zero => have : j = 0 := by omega
              rw [this]; exact Nat.le_refl _
    | succ k ih =>
      by_cases e : j = k + 1
      · rw [e]; exact Nat.le_refl _
      · have := ih (by omega)
        rw [upTo_succ, List.length_append]
        omega
theorem allOf_le (f : Nat → Nat → List Int) : ∀ {j k : Nat}, j ≤ k → (allOf f j).length ≤ (allOf f k).length
  | j, k, h => by
    induction k with
    | zero => have : j = 0 := by omega
              rw [this]; exact Nat.le_refl _
    | succ k ih =>
      by_cases e : j = k + 1
      · rw [e]; exact Nat.le_refl _
      · have := ih (by omega)
        rw [allOf_succ, List.length_append]
        omega
theorem part_len (f : Nat → Nat → List Int) {n k j : Nat} (hk : k < n) (hj : j < 3) : (allOf f k).length + (upTo (f k) j).length + (f k j).length ≤ (allOf f n).length := by
  have h1 := allOf_le f (show k + 1 ≤ n by omega)
  have h2 := upTo_le (f k) (show j + 1 ≤ 3 by omega)
  rw [allOf_succ, List.length_append] at h1
  rw [upTo_succ, List.length_append] at h2
  omega

/-- A list of the call's own was returned. -/
def AllOut (w : World) (xs : List Int) (e : Ending) (w' : World) : Prop := ∃ s : Sl, e = .returned (.slice s.a s.n s.c) ∧ w'.ownsRow w.heap.size 3 1 (.slice s.a s.n s.c) s.n (xs.map (Value.int .i64)) ∧ Below w.heap.size w w'
structure Alling (w wr : World) (s : Sl) (xs : List Int) : Prop where
  own : wr.ownsRow w.heap.size 3 1 (.slice s.a s.n s.c) s.n (xs.map (Value.int .i64))
  bel : Below w.heap.size w wr
theorem Alling.len {w wr : World} {s : Sl} {xs : List Int} (h : Alling w wr s xs) : s.n = xs.length := by have := h.own.1; simpa using this.symm
theorem Alling.alloc {w wr : World} {s : Sl} {xs : List Int} (h : Alling w wr s xs) (o : Obj) : Alling w (wr.alloc o) s xs := ⟨h.own.alloc o, h.bel.alloc h.bel.size o⟩
theorem Alling.cat {w wr w2 : World} {s t : Sl} {xs ys : List Int} (h : Alling w wr s xs) (hc : Catted wr w.heap.size (.slice s.a s.n s.c) t ys w2) : Alling w w2 t ys :=
  ⟨hc.own, h.bel.grown hc.grown h.bel.size (fun k hk => (h.own.lt k hk).1)⟩

set_option maxHeartbeats 1000000 in
theorem all_any (B : Nat) (A : Option Addr) (n c : Nat) (u : Nat → Nat → Sl) (f : Nat → Nat → List Int) (w : World) (h : LRow w B A n u f) (hB : B ≤ w.heap.size) (hn : n ≤ 1000000) (hlen : (allOf f n).length ≤ 2000000) :
    Calls Tryz.prog 105 #[.slice A n c] w (AllOut w (allOf f n)) := by
  have HL := Lib.hid h
  have HN := Lib.hid hlen
  clear h hlen
  go_enter Tryz.func105, Tryz.ntmps105
  go_wp2
  go_loopw [3, 10] (fun a i wr => ∃ (s : Sl) (k : Nat), k ≤ n ∧ a = .slice s.a s.n s.c ∧ i = .int .i64 k ∧ Hid (Alling w wr s (allOf f k))) (fun _ i _ => n - (intOf i).toNat)
  case atStart => exact ⟨⟨none, 0, 0⟩, 0, Nat.zero_le _, rfl, rfl, Lib.hid ⟨World.ownsRow_nil _ _ _ _, Below.refl _ _⟩⟩
  case round =>
    obtain ⟨s, k, hk, rfl, rfl, HA⟩ := hrel
    by_cases hlt : k < n
    · obtain ⟨b, off, rfl, hbB, hc⟩ := HL.out.over HA.out.bel hB (by omega)
      obtain ⟨hcell, hl3⟩ := hc k hlt
      have c0 := hcell 0 (by decide)
      have c1 := hcell 1 (by decide)
      have c2 := hcell 2 (by decide)
      rw [Nat.add_zero] at c0
      have hbs : b < wr.heap.size := by have := HA.out.bel.size; omega
      have HR3 := Lib.hid hl3
      have hwr := HA.out.bel.size
      clear hc hcell hl3
      obtain ⟨wo, rfl⟩ : ∃ wo : World, wo = wr := ⟨_, rfl⟩
      go_wp2
      go_loopw [3, 15] (fun a i wr => ∃ (s : Sl) (j : Nat), j ≤ 3 ∧ a = .slice s.a s.n s.c ∧ i = .int .i64 j ∧ Hid (Alling w wr s (allOf f k ++ upTo (f k) j) ∧ Below B wo wr)) (fun _ i _ => 3 - (intOf i).toNat)
      case atStart =>
        refine ⟨s, 0, by omega, rfl, rfl, Lib.hid ⟨?_, (Below.refl _ _).alloc (by omega) _⟩⟩
        have := HA.out.alloc (.cells #[.slice (u k 0).a (u k 0).n (u k 0).c, .slice (u k 1).a (u k 1).n (u k 1).c, .slice (u k 2).a (u k 2).n (u k 2).c] 25)
        simpa [upTo] using this
      case round =>
        obtain ⟨t, j, hj, rfl, rfl, HI⟩ := hrel
        by_cases hlt3 : j < 3
        · have hix := index_of (u k) j hlt3
          have hsum : t.n + (u k j).n ≤ 4000000 := by
            have h1 := HI.out.1.len
            have h2 := HR3.out.len j hlt3
            have h3 := part_len f hlt hlt3
            have h4 := HN.out
            rw [List.length_append] at h1
            omega
          go_wp2_with (at_builtin; refine list_cat rfl _ _ rfl rfl rfl HI.out.1.own ((HR3.out j hlt3).1.below HI.out.2) HI.out.1.bel.size hsum ?_)
          intro p' cp' w2 hcat
          have hA2 := HI.out.1.cat hcat
          have B2 : Below B wr w2 := (Below.refl _ _).grown hcat.grown (by have := HI.out.1.bel.size; omega) (fun q hq => by have := (HI.out.1.own.lt q hq).1; omega)
          rw [← upTo_succ] at hA2
          have H2 := Lib.hid (And.intro hA2 (HI.out.2.trans B2))
          clear hcat hA2 B2
          go_wp2
          go_roundw
          case rel => exact ⟨⟨p', t.n + (u k j).n, cp'⟩, j + 1, by omega, rfl, by go_num, H2⟩
          case measure => simp [intOf]; omega
        · obtain rfl : j = 3 := by omega
          have H3 := HI.out.1
          rw [← allOf_succ] at H3
          have H4 := Lib.hid H3
          clear H3
          go_wp2
          go_roundw
          case rel => exact ⟨t, k + 1, by omega, rfl, by go_num, H4⟩
          case measure => simp [intOf]; omega
    · obtain rfl : k = n := by omega
      go_wp2
      go_ret
      exact ⟨s, rfl, HA.out.own, HA.out.bel⟩
theorem upTo_take (g : Nat → List Int) (j : Nat) : upTo g j ++ (g j).take (g j).length = upTo g (j + 1) := by rw [List.take_length, upTo_succ]

set_option maxHeartbeats 1000000 in
theorem rall_any (B : Nat) (A : Option Addr) (n c : Nat) (u : Nat → Nat → Sl) (f : Nat → Nat → List Int) (w : World) (h : LRow w B A n u f) (hB : B ≤ w.heap.size) (hn : n ≤ 1000000) (hlen : (allOf f n).length ≤ 2000000) :
    Calls Tryz.prog 142 #[.slice A n c] w (AllOut w (allOf f n)) := by
  have HL := Lib.hid h
  have HN := Lib.hid hlen
  clear h hlen
  go_enter Tryz.func142, Tryz.ntmps142
  go_wp2
  go_loopw [3, 4] (fun a i wr => ∃ (s : Sl) (k : Nat), k ≤ n ∧ a = .slice s.a s.n s.c ∧ i = .int .i64 k ∧ Hid (Alling w wr s (allOf f k))) (fun _ i _ => n - (intOf i).toNat)
  case atStart => exact ⟨⟨none, 0, 0⟩, 0, Nat.zero_le _, rfl, rfl, Lib.hid ⟨World.ownsRow_nil _ _ _ _, Below.refl _ _⟩⟩
  case round =>
    obtain ⟨s, k, hk, rfl, rfl, HA⟩ := hrel
    by_cases hlt : k < n
    · obtain ⟨b, off, rfl, hbB, hc⟩ := HL.out (by omega)
      have HC := Lib.hid (hc k hlt)
      clear hc
      obtain ⟨wo, rfl⟩ : ∃ wo : World, wo = wr := ⟨_, rfl⟩
      go_wp2
      go_loopw [3, 5] (fun a i wr => ∃ (s : Sl) (j : Nat), j ≤ 3 ∧ a = .slice s.a s.n s.c ∧ i = .int .i64 j ∧ Hid (Alling w wr s (allOf f k ++ upTo (f k) j))) (fun _ i _ => 3 - (intOf i).toNat)
      case atStart => exact ⟨s, 0, by omega, rfl, rfl, Lib.hid (by have := HA.out; simpa [upTo] using this)⟩
      case round =>
        obtain ⟨t, j, hj, rfl, rfl, HI⟩ := hrel
        by_cases hlt3 : j < 3
        · have HX := Lib.hid (part_len f hlt hlt3)
          obtain ⟨wi, rfl⟩ : ∃ wi : World, wi = wr := ⟨_, rfl⟩
          have hlt3' : (j : Int) < 3 := by omega
          go_wp2
          have J3 := Lib.hid hlt3
          go_loopw [3, 6] (fun a i wr => ∃ (s : Sl) (q : Nat), q ≤ (u k j).n ∧ a = .slice s.a s.n s.c ∧ i = .int .i64 q ∧ Hid (Alling w wr s (allOf f k ++ (upTo (f k) j ++ (f k j).take q)))) (fun _ i _ => (u k j).n - (intOf i).toNat)
          case atStart => exact ⟨t, 0, Nat.zero_le _, rfl, rfl, Lib.hid (by have := HI.out; simpa using this)⟩
          case round =>
            obtain ⟨p, q, hq, rfl, rfl, HQ⟩ := hrel
            have hl3 := (HC.out.2.over HQ.out.bel hB) j J3.out
            have hcj := ((HQ.out.bel.mono hB).cell (p := ⟨b, off + k * 3 + j, none⟩) hbB).trans (HC.out.1 j J3.out)
            have hbs : b < wr.heap.size := by have := HQ.out.bel.size; omega
            have hlen' := hl3.1.1.symm
            by_cases hltq : q < (u k j).n
            · obtain ⟨b2, off2, e2, hb2, hc2⟩ := hl3.1.2 (by omega)
              have hnum := hc2 q hltq
              have hbs2 : b2 < wr.heap.size := by have := HQ.out.bel.size; omega
              clear hc2 hl3
              have hq2 : q < 2000000 := by
                have h2 := HX.out
                have h4 := HN.out
                omega
              have hsum : p.n + 1 ≤ 4000000 := by
                have h1 := HQ.out.len
                have h2 := HX.out
                have h4 := HN.out
                rw [List.length_append, List.length_append, List.length_take] at h1
                omega
              go_wp2_with (at_builtin; refine list_cat rfl _ _ rfl rfl rfl (HQ.out.alloc _).own (row_lit1 _ _) (HQ.out.alloc _).bel.size hsum ?_)
              intro p' cp' w2 hcat
              have hA2 := (HQ.out.alloc _).cat hcat
              have H2 := Lib.hid hA2
              clear hcat hA2
              go_wp2
              go_roundw
              case rel =>
                exact ⟨⟨p', p.n + 1, cp'⟩, q + 1, by omega, rfl, by go_num, H2⟩
              case measure => simp [intOf]; omega
            · obtain rfl : q = (u k j).n := by omega
              have H2 := HQ.out
              rw [hlen', upTo_take] at H2
              have H3 := Lib.hid H2
              clear H2 hlen' hl3
              go_wp2
              go_roundw
              case rel => exact ⟨p, j + 1, J3.out, rfl, by go_num, H3⟩
              case measure => simp [intOf]; omega
        · obtain rfl : j = 3 := by omega
          have H3 := HI.out
          rw [← allOf_succ] at H3
          have H4 := Lib.hid H3
          clear H3
          go_wp2
          go_roundw
          case rel => exact ⟨t, k + 1, by omega, rfl, by go_num, H4⟩
          case measure => simp [intOf]; omega
    · obtain rfl : k = n := by omega
      go_wp2
      go_ret
      exact ⟨s, rfl, HA.out.own, HA.out.bel⟩
end Go.Proofs.YtccjelpfmkbmiaaGreatDoor.Ls
end
section
namespace Go.Proofs.YtccjelpfmkbmiaaGreatDoor.Cl
open Go.Proofs.YtccjelpfmkbmiaaGreatDoor
set_option maxRecDepth 100000
open Go.RowKit

/-- The slice (address a, n elements) holds the pages f 0 to f (n - 1), in a block below B. -/
def PRow (w : World) (B : Nat) (a : Option Addr) (n : Nat) (f : Nat → Int × Int) : Prop :=
  0 < n → ∃ b off, a = some ⟨b, off, none⟩ ∧ b < B ∧ ∀ i, i < n → w.cell? ⟨b, off + i * 2, none⟩ = some (.int .i64 (f i).1) ∧ w.cell? ⟨b, off + i * 2 + 1, none⟩ = some (.int .i64 (f i).2)

section
variable {w w' : World} {B B' n : Nat} {a : Option Addr} {f : Nat → Int × Int}
theorem PRow.at_ (h : PRow w B a n f) (hn : 0 < n) : ∃ b off, a = some ⟨b, off, none⟩ ∧ b < B ∧ ∀ i, i < n → w.cell? ⟨b, off + i * 2, none⟩ = some (.int .i64 (f i).1) ∧ w.cell? ⟨b, off + i * 2 + 1, none⟩ = some (.int .i64 (f i).2) := h hn
theorem PRow.below (h : PRow w B a n f) (hb : Below B w w') : PRow w' B a n f := fun hn => by
  obtain ⟨b, off, e, hlt, hc⟩ := h hn
  exact ⟨b, off, e, hlt, fun i hi => ⟨(hb.cell (p := ⟨b, off + i * 2, none⟩) hlt).trans (hc i hi).1, (hb.cell (p := ⟨b, off + i * 2 + 1, none⟩) hlt).trans (hc i hi).2⟩⟩
theorem PRow.more (h : PRow w B a n f) (hB : B ≤ B') : PRow w B' a n f := fun hn => by
  obtain ⟨b, off, e, hb, hc⟩ := h hn
  exact ⟨b, off, e, by omega, hc⟩
/-- .. over a call that left what was below C, the blocks of the row among it. -/
theorem PRow.over (h : PRow w B a n f) {C : Nat} (hb : Below C w w') (hB : B ≤ C) : PRow w' B a n f := h.below (hb.mono hB)
theorem PRow.alloc (h : PRow w B a n f) (o : Obj) (hB : B ≤ w.heap.size) : PRow (w.alloc o) B a n f := h.below ((Below.refl _ _).alloc hB o)
theorem PRow.empty (w : World) (B : Nat) (a : Option Addr) (f : Nat → Int × Int) : PRow w B a 0 f := fun h => absurd h (by omega)
theorem PRow.congr {g : Nat → Int × Int} (h : PRow w B a n f) (e : ∀ i, i < n → g i = f i) : PRow w B a n g := fun hn => by
  obtain ⟨b, off, ea, hb, hc⟩ := h hn
  exact ⟨b, off, ea, hb, fun i hi => by rw [e i hi]; exact hc i hi⟩
/-- A part of it: from page k on, m of them. -/
theorem PRow.part {b off k m : Nat} (h : PRow w B (some ⟨b, off, none⟩) n f) (hk : k + m ≤ n) : PRow w B (some ⟨b, off + k * 2, none⟩) m (fun i => f (k + i)) := fun hm => by
  obtain ⟨b', off', ea, hb, hc⟩ := h (by omega)
  simp at ea
  obtain ⟨rfl, rfl⟩ := ea
  refine ⟨b, off + k * 2, rfl, hb, fun i hi => ?_⟩
  have := hc (k + i) (by omega)
  rw [show off + k * 2 + i * 2 = off + (k + i) * 2 by omega]
  exact this

/-- Cell j of the pages' cells, and all of them. -/
def pcell (f : Nat → Int × Int) (j : Nat) : Value := .int .i64 (if j % 2 = 0 then (f (j / 2)).1 else (f (j / 2)).2)
def pcells (f : Nat → Int × Int) (n : Nat) : List Value := (List.range (n * 2)).map (pcell f)
theorem pcells_length (f : Nat → Int × Int) (n : Nat) : (pcells f n).length = n * 2 := by simp [pcells]
theorem pcells_at (f : Nat → Int × Int) (n j : Nat) (h : j < n * 2) : (pcells f n)[j]? = some (pcell f j) := by simp [pcells, h]
theorem pcells_fst (f : Nat → Int × Int) (n i : Nat) (h : i < n) : (pcells f n)[i * 2]? = some (.int .i64 (f i).1) := by
  rw [pcells_at f n _ (by omega)]
  simp [pcell]
theorem pcells_snd (f : Nat → Int × Int) (n i : Nat) (h : i < n) : (pcells f n)[i * 2 + 1]? = some (.int .i64 (f i).2) := by
  rw [pcells_at f n _ (by omega)]
  have e1 : (i * 2 + 1) % 2 = 1 := by omega
  have e2 : (i * 2 + 1) / 2 = i := by omega
  simp [pcell, e1, e2]

/-- f, with page i another. -/
def put (f : Nat → Int × Int) (i : Nat) (p : Int × Int) : Nat → Int × Int := fun j => if j = i then p else f j
theorem pcells_put (f : Nat → Int × Int) (n i : Nat) (p : Int × Int) : ((pcells f n).set (i * 2) (.int .i64 p.1)).set (i * 2 + 1) (.int .i64 p.2) = pcells (put f i p) n := by
  apply List.ext_getElem?
  intro j
  by_cases hj : j < n * 2
  · rw [pcells_at _ _ _ hj, List.getElem?_set]
    by_cases h1 : i * 2 + 1 = j
    · subst h1
      have e1 : (i * 2 + 1) % 2 = 1 := by omega
      have e2 : (i * 2 + 1) / 2 = i := by omega
      simp [pcell, e1, e2, put, pcells_length, hj]
    · rw [if_neg h1, List.getElem?_set]
      by_cases h0 : i * 2 = j
      · subst h0
        simp [pcell, put, pcells_length, hj]
      · rw [if_neg h0, pcells_at _ _ _ hj]
        have e : j / 2 ≠ i := by omega
        simp [pcell, put, e]
  · rw [List.getElem?_eq_none (by simp [pcells_length]; omega), List.getElem?_eq_none (by simp [pcells_length]; omega)]

/-- What the call itself made: a row at the head of a block of its own, not frozen, with room for c. -/
def PMine (w : World) (base e g n c : Nat) (f : Nat → Int × Int) : Prop :=
  w.ownsRow base e 2 (.slice (some ⟨g, 0, none⟩) n c) n (pcells f n) ∧ base ≤ g ∧ g < w.heap.size ∧ n ≤ c ∧ c ≤ maxLen

theorem PMine.cells {base e g c : Nat} (h : PMine w base e g n c f) (i : Nat) (hi : i < n) : w.cell? ⟨g, i * 2, none⟩ = some (.int .i64 (f i).1) ∧ w.cell? ⟨g, i * 2 + 1, none⟩ = some (.int .i64 (f i).2) :=
  ⟨(h.1.cellAt (i * 2) (by omega)).trans (pcells_fst f n i hi), (h.1.cellAt (i * 2 + 1) (by omega)).trans (pcells_snd f n i hi)⟩
theorem PMine.row {base e g c : Nat} (h : PMine w base e g n c f) : PRow w w.heap.size (some ⟨g, 0, none⟩) n f := fun _ =>
  ⟨g, 0, rfl, h.2.2.1, fun i hi => by simpa using h.cells i hi⟩
theorem PMine.free {base e g c : Nat} (h : PMine w base e g n c f) (j : Nat) : w.frozen? ⟨g, j, none⟩ = false := h.1.frozenAt j
theorem PMine.stored {base e g c : Nat} (h : PMine w base e g n c f) (i : Nat) (p : Int × Int) : PMine ((w.setCell ⟨g, i * 2, none⟩ (.int .i64 p.1)).setCell ⟨g, i * 2 + 1, none⟩ (.int .i64 p.2)) base e g n c (put f i p) := by
  refine ⟨?_, h.2.1, by simpa [World.setCell] using h.2.2.1, h.2.2.2.1, h.2.2.2.2⟩
  have h1 := (h.1.stored (i * 2) (.int .i64 p.1)).1
  have h2 := (h1.stored (i * 2 + 1) (.int .i64 p.2)).1
  rw [pcells_put] at h2
  exact h2
theorem PMine.congr {base e g c : Nat} {f' : Nat → Int × Int} (h : PMine w base e g n c f) (he : ∀ i, i < n → f' i = f i) : PMine w base e g n c f' := by
  have : pcells f' n = pcells f n := by
    apply List.map_congr_left
    intro j hj
    have := List.mem_range.1 hj
    unfold pcell
    rw [he (j / 2) (by omega)]
  exact ⟨this ▸ h.1, h.2⟩
end

/-- What a law on append leaves is such a row. -/
theorem pmine_of {w : World} {base e n : Nat} {v : Value} {f : Nat → Int × Int} (h : w.ownsRow base e 2 v n (pcells f n)) (hn : 0 < n) :
    ∃ g c, v = .slice (some ⟨g, 0, none⟩) n c ∧ PMine w base e g n c f := by
  rcases h.2 with ⟨_, h0⟩ | ⟨g, c, cur, rfl, hb, hh, hnc, hcm, _⟩
  · omega
  · refine ⟨g, c, rfl, h, hb, ?_, hnc, hcm⟩
    rcases Nat.lt_or_ge g w.heap.size with hlt | hge
    · exact hlt
    · rw [Array.getElem?_eq_none hge] at hh
      cases hh
end Go.Proofs.YtccjelpfmkbmiaaGreatDoor.Cl
end
section
namespace Go.Proofs.YtccjelpfmkbmiaaGreatDoor
open Go.RowKit

/-- A heap's slices. -/
structure Hs where
  w : Ls.Sl
  p : Ls.Sl
  u : Nat → Ls.Sl
  c : Ls.Sl
/-- Truth values in a slice. -/
def BRow (w : World) (B : Nat) (a : Option Addr) (n : Nat) (f : Nat → Bool) : Prop :=
  0 < n → ∃ b off, a = some ⟨b, off, none⟩ ∧ b < B ∧ ∀ i, i < n → w.cell? ⟨b, off + i, none⟩ = some (.bool (f i))
theorem BRow.below {w w' : World} {B n : Nat} {a : Option Addr} {f : Nat → Bool} (h : BRow w B a n f) (hb : Below B w w') : BRow w' B a n f := fun hn => by
  obtain ⟨b, off, e, hlt, hc⟩ := h hn
  exact ⟨b, off, e, hlt, fun i hi => (hb.cell (p := ⟨b, off + i, none⟩) hlt).trans (hc i hi)⟩
theorem BRow.more {w : World} {B C n : Nat} {a : Option Addr} {f : Nat → Bool} (h : BRow w B a n f) (hB : B ≤ C) : BRow w C a n f := fun hn => by
  obtain ⟨b, off, e, hlt, hc⟩ := h hn
  exact ⟨b, off, e, Nat.lt_of_lt_of_le hlt hB, hc⟩
/-- What a heap holds. -/
structure Hd_ where
  ws : List Int
  f : Nat → Int × Int
  F : Nat → List Int
  cs : Nat → Bool
structure Hp (w : World) (B : Nat) (s : Hs) (d : Hd_) : Prop where
  words : Row w B s.w.a s.w.n d.ws
  pages : Cl.PRow w B s.p.a s.p.n d.f
  free : Ls.L3 w B s.u d.F
  cards : BRow w B s.c.a s.c.n d.cs
theorem Hp.below {w w' : World} {B : Nat} {s : Hs} {d : Hd_} (h : Hp w B s d) (hb : Below B w w') : Hp w' B s d := ⟨h.words.below hb, h.pages.below hb, h.free.below hb, h.cards.below hb⟩
theorem Hp.more {w : World} {B C : Nat} {s : Hs} {d : Hd_} (h : Hp w B s d) (hB : B ≤ C) : Hp w C s d := ⟨h.words.more hB, h.pages.more hB, h.free.more hB, h.cards.more hB⟩
theorem Hp.next {w w' : World} {s : Hs} {d : Hd_} (h : Hp w w.heap.size s d) (hb : Below w.heap.size w w') : Hp w' w'.heap.size s d := (h.below hb).more hb.size
def lightB (u : Nat → Ls.Sl) : Bool := decide ((u 0).n ≤ 70 ∧ (u 1).n ≤ 70 ∧ (u 2).n ≤ 70)
theorem rlight_any (u : Nat → Ls.Sl) (w : World) : Calls Tryz.prog 84 #[(.agg #[.slice (u 0).a (u 0).n (u 0).c, .slice (u 1).a (u 1).n (u 1).c, .slice (u 2).a (u 2).n (u 2).c])] w fun e w' => e = .returned (.bool (lightB u)) ∧ Below w.heap.size w w' := by
  by_cases h0 : (u 0).n ≤ 70
  · have a0 : decide (((u 0).n : Int) ≤ 70) = true := by simp; omega
    by_cases h1 : (u 1).n ≤ 70
    · have a1 : decide (((u 1).n : Int) ≤ 70) = true := by simp; omega
      by_cases h2 : (u 2).n ≤ 70
      · have a2 : decide (((u 2).n : Int) ≤ 70) = true := by simp; omega
        have e : lightB u = true := decide_eq_true ⟨h0, h1, h2⟩
        rw [e]
        clear h0 h1 h2 e
        go_enter Tryz.func84, Tryz.ntmps84
        go_wp2
        go_ret
        exact ⟨rfl, (Below.refl _ _).alloc (Nat.le_refl _) _⟩
      · have a2 : decide (((u 2).n : Int) ≤ 70) = false := by simp; omega
        have e : lightB u = false := decide_eq_false (fun h => h2 h.2.2)
        rw [e]
        clear h0 h1 h2 e
        go_enter Tryz.func84, Tryz.ntmps84
        go_wp2
        go_ret
        exact ⟨rfl, (Below.refl _ _).alloc (Nat.le_refl _) _⟩
    · have a1 : decide (((u 1).n : Int) ≤ 70) = false := by simp; omega
      have e : lightB u = false := decide_eq_false (fun h => h1 h.2.1)
      rw [e]
      clear h0 h1 e
      go_enter Tryz.func84, Tryz.ntmps84
      go_wp2
      go_ret
      exact ⟨rfl, (Below.refl _ _).alloc (Nat.le_refl _) _⟩
  · have a0 : decide (((u 0).n : Int) ≤ 70) = false := by simp; omega
    have e : lightB u = false := decide_eq_false (fun h => h0 h.1)
    rw [e]
    clear h0 e
    go_enter Tryz.func84, Tryz.ntmps84
    go_wp2
    go_ret
    exact ⟨rfl, (Below.refl _ _).alloc (Nat.le_refl _) _⟩
def fewH (s : Hs) : Bool := decide (s.w.n ≤ 130) && (decide (s.p.n ≤ 9) && (decide (s.c.n ≤ 20) && lightB s.u))
theorem rfew_any (s : Hs) (w : World) : Calls Tryz.prog 39 #[(.agg #[.slice s.w.a s.w.n s.w.c, .slice s.p.a s.p.n s.p.c, .slice (s.u 0).a (s.u 0).n (s.u 0).c, .slice (s.u 1).a (s.u 1).n (s.u 1).c, .slice (s.u 2).a (s.u 2).n (s.u 2).c, .slice s.c.a s.c.n s.c.c])] w fun e w' => e = .returned (.bool (fewH s)) ∧ Below w.heap.size w w' := by
  by_cases h0 : s.w.n ≤ 130
  · have a0 : decide ((s.w.n : Int) ≤ 130) = true := by simp; omega
    by_cases h1 : s.p.n ≤ 9
    · have a1 : decide ((s.p.n : Int) ≤ 9) = true := by simp; omega
      by_cases h2 : s.c.n ≤ 20
      · have a2 : decide ((s.c.n : Int) ≤ 20) = true := by simp; omega
        have e : fewH s = lightB s.u := by simp [fewH, h0, h1, h2]
        rw [e]
        clear h0 h1 h2 e
        go_enter Tryz.func39, Tryz.ntmps39
        go_wp2_with fail
        refine (rlight_any s.u _).mono ?_
        rintro e w1 ⟨rfl, hb⟩
        have HB := Lib.hid (((Below.refl w.heap.size w).alloc (Nat.le_refl _) _).trans (hb.mono (by simp)))
        clear hb
        go_wp2
        go_ret
        exact ⟨rfl, HB.out⟩
      · have a2 : decide ((s.c.n : Int) ≤ 20) = false := by simp; omega
        have e : fewH s = false := by simp [fewH, h2]
        rw [e]
        clear h0 h1 h2 e
        go_enter Tryz.func39, Tryz.ntmps39
        go_wp2
        go_ret
        exact ⟨rfl, (Below.refl _ _).alloc (Nat.le_refl _) _⟩
    · have a1 : decide ((s.p.n : Int) ≤ 9) = false := by simp; omega
      have e : fewH s = false := by simp [fewH, h1]
      rw [e]
      clear h0 h1 e
      go_enter Tryz.func39, Tryz.ntmps39
      go_wp2
      go_ret
      exact ⟨rfl, (Below.refl _ _).alloc (Nat.le_refl _) _⟩
  · have a0 : decide ((s.w.n : Int) ≤ 130) = false := by simp; omega
    have e : fewH s = false := by simp [fewH, h0]
    rw [e]
    clear h0 e
    go_enter Tryz.func39, Tryz.ntmps39
    go_wp2
    go_ret
    exact ⟨rfl, (Below.refl _ _).alloc (Nat.le_refl _) _⟩
end Go.Proofs.YtccjelpfmkbmiaaGreatDoor
end
section
namespace Go.Proofs.YtccjelpfmkbmiaaGreatDoor.Hd
open Go.Proofs.YtccjelpfmkbmiaaGreatDoor
set_option maxRecDepth 100000
open Go.RowKit

theorem ofInt_and (x : Int) (m : Nat) (hm : m < 9223372036854775808) : bits .and .i64 x (m : Int) = (((x % 18446744073709551616).toNat &&& m : Nat) : Int) := by
  have h2 : m % 18446744073709551616 = m := Nat.mod_eq_of_lt (by omega)
  have h3 : ((x % 18446744073709551616).toNat &&& m) ≤ m := Nat.and_le_right
  have e : (BitVec.ofInt 64 x).toNat = (x % 18446744073709551616).toNat := by
    rw [BitVec.toNat_ofInt]; rfl
  have e2 : (BitVec.ofInt 64 (m : Int)).toNat = m := by
    rw [BitVec.ofInt_natCast, BitVec.toNat_ofNat]; exact h2
  have e3 : (BitVec.ofInt 64 x &&& BitVec.ofInt 64 (m : Int)).toNat = ((x % 18446744073709551616).toNat &&& m) := by
    rw [BitVec.toNat_and, e, e2]
  show IntKind.i64.wrap (((BitVec.ofInt 64 x &&& BitVec.ofInt 64 (m : Int)).toNat : Nat) : Int) = _
  rw [e3]
  exact IntWalk.i64_in _ ⟨by omega, by omega⟩

theorem and_1 (x : Int) : bits .and .i64 x 1 = x % 2 := by
  refine (ofInt_and x 1 (by decide)).trans ?_
  rw [Nat.and_one_is_mod]
  omega
theorem and_2 (x : Int) : bits .and .i64 x 2 = x / 2 % 2 * 2 := by
  refine (ofInt_and x 2 (by decide)).trans ?_
  rw [nat_bit1]
  omega
theorem and_4 (x : Int) : bits .and .i64 x 4 = x / 4 % 2 * 4 := by
  refine (ofInt_and x 4 (by decide)).trans ?_
  rw [nat_bit2]
  omega
theorem and_127 (x : Int) : bits .and .i64 x 127 = x % 128 := by
  refine (ofInt_and x 127 (by decide)).trans ?_
  rw [nat_mask7]
  omega
theorem and_4194303 (x : Int) : bits .and .i64 x 4194303 = x % 4194304 := by
  refine (ofInt_and x 4194303 (by decide)).trans ?_
  rw [nat_mask22]
  omega

theorem wraps_i64 (n : Int) (h₀ : 0 ≤ n) (h₁ : n < 2 ^ 63) : IntKind.i64.wrap n = n := IntWalk.i64_in _ (by omega)
/-- Parts that do not overlap are added. -/
theorem or_add (i : Nat) (y x : Int) (hx₀ : 0 ≤ x) (hx : x % 2 ^ i = 0) (hx₁ : x < 9223372036854775808) (hy₀ : 0 ≤ y) (hy : y < 2 ^ i) (hy₁ : y < 9223372036854775808) : bits .or .i64 y x = y + x := by
  have h := bits_join .i64 63 (by decide) wraps_i64 i x y hx₀ hx (by simpa using hx₁) hy₀ hy (by simpa using hy₁)
  have c : bits .or .i64 y x = bits .or .i64 x y := by
    unfold bits
    simp only [BitVec.or_comm]
  rw [c, h]; omega

theorem or_3 (x n : Int) (h₀ : 0 ≤ x) (h : x ≤ 7) (n₀ : 0 ≤ n) (n₁ : n ≤ 63) : bits .or .i64 x (n * 8) = x + n * 8 := or_add 3 x (n * 8) (by omega) (by omega) (by omega) (by omega) (by omega) (by omega)
theorem or_10 (x n : Int) (h₀ : 0 ≤ x) (h : x ≤ 511) (n₀ : 0 ≤ n) (n₁ : n ≤ 1048576) : bits .or .i64 x (n * 1024) = x + n * 1024 := or_add 10 x (n * 1024) (by omega) (by omega) (by omega) (by omega) (by omega) (by omega)
theorem or_32 (x n : Int) (h₀ : 0 ≤ x) (h : x ≤ 1073742335) (n₀ : 0 ≤ n) (n₁ : n ≤ 1048576) : bits .or .i64 x (n * 4294967296) = x + n * 4294967296 := or_add 32 x (n * 4294967296) (by omega) (by omega) (by omega) (by omega) (by omega) (by omega)
end Go.Proofs.YtccjelpfmkbmiaaGreatDoor.Hd
end
section
namespace Go.Proofs.YtccjelpfmkbmiaaGreatDoor.Hd
open Go.Proofs.YtccjelpfmkbmiaaGreatDoor
set_option maxRecDepth 100000

/-- May the head be? -/
def mayB (u o d : Bool) (n b m : Int) : Bool :=
  if u then decide (0 ≤ n ∧ n ≤ 63 ∧ 0 ≤ b ∧ b ≤ 1048576 ∧ 0 ≤ m ∧ m ≤ 1048576)
  else !o && !d && decide (n = 0 ∧ b = 0 ∧ m = 0)
def bitOf (u : Bool) (k : Int) : Int := if u then k else 0
/-- A head's word. -/
def word (u o d : Bool) (n b m : Int) : Int :=
  if u then 1 + bitOf o 2 + bitOf d 4 + n * 8 + b * 1024 + m * 4294967296 else 0

theorem may_used_iff (o d : Bool) (n b m : Int) : mayB true o d n b m = true ↔ (0 ≤ n ∧ n ≤ 63 ∧ 0 ≤ b ∧ b ≤ 1048576 ∧ 0 ≤ m ∧ m ≤ 1048576) := by
  simp [mayB]
theorem may_free_iff (o d : Bool) (n b m : Int) : mayB false o d n b m = true ↔ (o = false ∧ d = false ∧ n = 0 ∧ b = 0 ∧ m = 0) := by
  simp [mayB, and_assoc]

theorem bit_le (u : Bool) (k : Int) (h : 0 ≤ k) : 0 ≤ bitOf u k ∧ bitOf u k ≤ k := by
  unfold bitOf; split <;> omega
/-- The word of a head that may be is no negative number, and less than 2^53. -/
theorem word_range {u o d : Bool} {n b m : Int} (h : mayB u o d n b m = true) : 0 ≤ word u o d n b m ∧ word u o d n b m ≤ 4503600701112831 := by
  cases u
  · simp [word]
  · have h' := (may_used_iff o d n b m).1 h
    have h2 := bit_le o 2 (by decide)
    have h4 := bit_le d 4 (by decide)
    simp only [word, if_true]
    omega
theorem word_parts {o d : Bool} {n b m : Int} (h : mayB true o d n b m = true) :
    word true o d n b m % 2 = 1 ∧ (word true o d n b m / 2 % 2 = 1 ↔ o = true) ∧ (word true o d n b m / 4 % 2 = 1 ↔ d = true) ∧
    word true o d n b m / 8 % 128 = n ∧ word true o d n b m / 1024 % 4194304 = b ∧ word true o d n b m / 4294967296 = m := by
  have h' := (may_used_iff o d n b m).1 h
  cases o <;> cases d <;> simp [word, bitOf] <;> omega
theorem word_back (x : Int) (h1 : x % 2 = 1) :
    word true (decide (x / 2 % 2 = 1)) (decide (x / 4 % 2 = 1)) (x / 8 % 128) (x / 1024 % 4194304) (x / 4294967296) = x := by
  by_cases a : x / 2 % 2 = 1 <;> by_cases c : x / 4 % 2 = 1 <;> simp [word, bitOf, a, c] <;> omega

/-- What Unpack reads in a number, whatever it is. -/
def isWord (x : Int) : Bool := mayB (decide (x % 2 = 1)) (decide (x / 2 % 2 = 1)) (decide (x / 4 % 2 = 1)) (x / 8 % 128) (x / 1024 % 4194304) (x / 4294967296)

theorem isWord_word {u o d : Bool} {n b m : Int} (h : mayB u o d n b m = true) : isWord (word u o d n b m) = true := by
  cases u
  · rfl
  · obtain ⟨p1, p2, p3, p4, p5, p6⟩ := word_parts h
    unfold isWord
    rw [p4, p5, p6, decide_eq_true p1]
    exact (may_used_iff _ _ _ _ _).2 ((may_used_iff o d n b m).1 h)
theorem isWord_cases (x : Int) (h : isWord x = true) : ∃ u o d n b m, mayB u o d n b m = true ∧ x = word u o d n b m ∧
    u = decide (x % 2 = 1) ∧ o = decide (x / 2 % 2 = 1) ∧ d = decide (x / 4 % 2 = 1) ∧ n = x / 8 % 128 ∧ b = x / 1024 % 4194304 ∧ m = x / 4294967296 := by
  refine ⟨_, _, _, _, _, _, h, ?_, rfl, rfl, rfl, rfl, rfl, rfl⟩
  by_cases h1 : x % 2 = 1
  · rw [decide_eq_true h1]
    exact (word_back x h1).symm
  · unfold isWord at h
    rw [decide_eq_false h1] at h ⊢
    obtain ⟨_, _, e1, e2, e3⟩ := (may_free_iff _ _ _ _ _).1 h
    simp only [word]
    simp only [decide_eq_false_iff_not] at *
    simp
    omega
theorem isWord_odd {x : Int} (h : isWord x = true) (h1 : x % 2 = 1) : 0 ≤ x / 8 % 128 ∧ x / 8 % 128 ≤ 63 ∧ 0 ≤ x / 1024 % 4194304 ∧ x / 1024 % 4194304 ≤ 1048576 ∧ 0 ≤ x / 4294967296 ∧ x / 4294967296 ≤ 1048576 := by
  unfold isWord at h
  rw [decide_eq_true h1] at h
  exact (may_used_iff _ _ _ _ _).1 h
theorem isWord_even {x : Int} (h : isWord x = true) (h1 : ¬ x % 2 = 1) : x = 0 := by
  unfold isWord at h
  rw [decide_eq_false h1] at h
  obtain ⟨h2, h3, e1, e2, e3⟩ := (may_free_iff _ _ _ _ _).1 h
  simp only [decide_eq_false_iff_not] at h2 h3
  omega
theorem bit_1 (x : Int) : (bits .and .i64 x 1 != 0) = decide (x % 2 = 1) := by
  rw [and_1, Bool.eq_iff_iff]; simp; omega
theorem bit_2 (x : Int) : (bits .and .i64 x 2 != 0) = decide (x / 2 % 2 = 1) := by
  rw [and_2, Bool.eq_iff_iff]; simp; omega
theorem bit_4 (x : Int) : (bits .and .i64 x 4 != 0) = decide (x / 4 % 2 = 1) := by
  rw [and_4, Bool.eq_iff_iff]; simp; omega
end Go.Proofs.YtccjelpfmkbmiaaGreatDoor.Hd
end
