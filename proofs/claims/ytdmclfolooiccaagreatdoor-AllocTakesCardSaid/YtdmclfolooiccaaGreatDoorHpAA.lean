/-
  Merged texts: Row, LsRow, LsCopied, LsCat, LsOwn, LsPush.
-/
import Derived.Below
import Derived.Laws.OwnMore
import Derived.Deep.Draws
import Derived.WalkKit
import Derived.Lib.Hide
import Derived.Test.YtdmclfolooiccaaGreatDoorRows
import Derived.Laws.CopyOwn
import Derived.Deep.AppendLies
import Derived.Deep.Upon
import Derived.WalkSmall
import Derived.RegionTactic
import Derived.ChangeAlike
import Derived.Deep.QuietTactic
import Derived.BigQuiet
import Derived.Deep.RegionLaw
section
namespace Go.Proofs.YtdmclfolooiccaaGreatDoor
open Go.RowKit

/-- The slice (address a, n elements) holds the numbers xs, in a block below B. -/
def Row (w : World) (B : Nat) (a : Option Addr) (n : Nat) (xs : List Int) : Prop :=
  xs.length = n ∧ (0 < n → ∃ b off, a = some ⟨b, off, none⟩ ∧ b < B ∧ ∀ i, i < n → w.cell? ⟨b, off + i, none⟩ = some (.int .i64 (xs.getD i 0)))

section
variable {w w' : World} {B B' n : Nat} {a : Option Addr} {xs : List Int}
theorem Row.len (h : Row w B a n xs) : xs.length = n := h.1
theorem Row.at_ (h : Row w B a n xs) (hn : 0 < n) : ∃ b off, a = some ⟨b, off, none⟩ ∧ b < B ∧ ∀ i, i < n → w.cell? ⟨b, off + i, none⟩ = some (.int .i64 (xs.getD i 0)) := h.2 hn
theorem Row.more (h : Row w B a n xs) (hB : B ≤ B') : Row w B' a n xs :=
  ⟨h.1, fun hn => by
    obtain ⟨b, off, e, hb, hc⟩ := h.2 hn
    exact ⟨b, off, e, by omega, hc⟩⟩
theorem Row.below (h : Row w B a n xs) (hb : Below B w w') : Row w' B a n xs :=
  ⟨h.1, fun hn => by
    obtain ⟨b, off, e, hlt, hc⟩ := h.2 hn
    exact ⟨b, off, e, hlt, fun i hi => (hb.cell (p := ⟨b, off + i, none⟩) hlt).trans (hc i hi)⟩⟩
/-- .. over a call that left what was below C, the blocks of the row among it. -/
theorem Row.over (h : Row w B a n xs) {C : Nat} (hb : Below C w w') (hB : B ≤ C) : Row w' B a n xs := h.below (hb.mono hB)
theorem Row.alloc (h : Row w B a n xs) (o : Obj) (hB : B ≤ w.heap.size) : Row (w.alloc o) B a n xs := h.below ((Below.refl _ _).alloc hB o)
theorem Row.drewN (h : Row w B a n xs) (k : Nat) : Row (w.drewN k) B a n xs := h
theorem Row.none_ (w : World) (B : Nat) : Row w B none 0 [] := ⟨rfl, fun h => absurd h (by omega)⟩
theorem Row.zero (h : Row w B a 0 xs) : xs = [] := List.eq_nil_of_length_eq_zero h.1
theorem Row.empty (w : World) (B : Nat) (a : Option Addr) : Row w B a 0 [] := ⟨rfl, fun h => absurd h (by omega)⟩

/-- What the call itself made: a row at the head of a block of its own, not frozen, with room for c. -/
def Mine (w : World) (base e g n c : Nat) (xs : List Int) : Prop :=
  w.ownsRow base e 1 (.slice (some ⟨g, 0, none⟩) n c) n (xs.map (Value.int .i64)) ∧ base ≤ g ∧ g < w.heap.size ∧ n ≤ c ∧ c ≤ maxLen

theorem Mine.row {base e g c : Nat} (h : Mine w base e g n c xs) : Row w w.heap.size (some ⟨g, 0, none⟩) n xs := by
  have hl : xs.length = n := by simpa using h.1.1
  refine ⟨hl, fun hn => ⟨g, 0, rfl, h.2.2.1, fun i hi => ?_⟩⟩
  have := h.1.cellAt i (by omega)
  rw [Nat.zero_add, this]
  simp [List.getElem?_map, List.getElem?_eq_getElem (show i < xs.length by omega), List.getD]
theorem Mine.free {base e g c : Nat} (h : Mine w base e g n c xs) (j : Nat) : w.frozen? ⟨g, j, none⟩ = false := h.1.frozenAt j
theorem Mine.cell {base e g c : Nat} (h : Mine w base e g n c xs) (i : Nat) (hi : i < n) : w.cell? ⟨g, i, none⟩ = some (.int .i64 (xs.getD i 0)) := by
  have := h.row.2 (by omega)
  obtain ⟨b, off, e1, _, hc⟩ := this
  simp at e1
  obtain ⟨rfl, rfl⟩ := e1
  simpa using hc i hi
theorem Mine.stored {base e g c : Nat} (h : Mine w base e g n c xs) (j : Nat) (v : Int) : Mine (w.setCell ⟨g, j, none⟩ (.int .i64 v)) base e g n c (xs.set j v) := by
  refine ⟨?_, h.2.1, by simpa [World.setCell] using h.2.2.1, h.2.2.2.1, h.2.2.2.2⟩
  have := (h.1.stored j (.int .i64 v)).1
  rw [List.map_set]
  exact this
end

/-- What a law on append or make leaves is such a row. -/
theorem mine_of {w : World} {base e n : Nat} {v : Value} {xs : List Int} (h : w.ownsRow base e 1 v n (xs.map (Value.int .i64))) (hn : 0 < n) :
    ∃ g c, v = .slice (some ⟨g, 0, none⟩) n c ∧ Mine w base e g n c xs := by
  rcases h.2 with ⟨_, h0⟩ | ⟨g, c, cur, rfl, hb, hh, hnc, hcm, _⟩
  · omega
  · refine ⟨g, c, rfl, h, hb, ?_, hnc, hcm⟩
    rcases Nat.lt_or_ge g w.heap.size with hlt | hge
    · exact hlt
    · rw [Array.getElem?_eq_none hge] at hh
      cases hh
end Go.Proofs.YtdmclfolooiccaaGreatDoor
end
section
namespace Go.Proofs.YtdmclfolooiccaaGreatDoor.Ls
open Go.Proofs.YtdmclfolooiccaaGreatDoor
set_option maxRecDepth 100000
open Go.RowKit

theorem info_int1 : (Tryz.prog.info? 3).map (fun i => (i.zero, i.size, i.bytes)) = some (some (.int .i64 0), 1, 8) := by kernel_rfl
theorem size_int1 : (Tryz.prog.info? 3).map (·.size) = some 1 := by kernel_rfl

/-- A block that was there holds what it held. -/
theorem old_cell {a z : World} (h : Below a.heap.size a z) : ∀ i k, i < a.heap.size → z.cell? ⟨i, k, none⟩ = a.cell? ⟨i, k, none⟩ := fun i k hi => h.cell (p := ⟨i, k, none⟩) hi
theorem old_mark {a z : World} (h : Below a.heap.size a z) : ∀ i k, i < a.heap.size → z.frozen? ⟨i, k, none⟩ = a.frozen? ⟨i, k, none⟩ := fun i k hi => h.frozen (p := ⟨i, k, none⟩) hi
theorem below_drawn {B : Nat} {a w : World} (h : Below B a w) (n : Nat) : Below B a (w.drewN n) := ⟨h.os, h.tape, h.output, h.size, h.block⟩

theorem ownBlock_slice (a : Option Addr) (n c : Nat) : (Value.slice a n c).ownBlock = a.map (·.block) := by cases a <;> rfl
theorem owns_row {w : World} {base e n : Nat} {v : Value} {xs : List Int} (h : w.ownsRow base e 1 v n (xs.map (Value.int .i64))) :
    ∃ a c, v = .slice a n c ∧ Row w w.heap.size a n xs ∧ n ≤ c ∧ c ≤ maxLen := by
  have hl : xs.length = n := by simpa using h.1
  rcases h.2 with ⟨rfl, h0⟩ | ⟨g, c, cur, rfl, hb, hh, hnc, hcm, _⟩
  · subst h0
    obtain rfl : xs = [] := List.eq_nil_of_length_eq_zero (by omega)
    exact ⟨none, 0, rfl, Row.none_ _ _, Nat.le_refl _, by unfold maxLen; omega⟩
  · have hg := (Array.getElem?_eq_some_iff.1 hh).1
    have hm : Mine w base e g n c xs := ⟨h, hb, hg, hnc, hcm⟩
    exact ⟨_, c, rfl, hm.row, hnc, hcm⟩
theorem World.ownsRow.same {w w' : World} {base e size n : Nat} {v : Value} {xs : List Value} (h : w.ownsRow base e size v n xs) (hs : ∀ g, v.ownBlock = some g → g < w.heap.size → w'.heap[g]? = w.heap[g]?) : w'.ownsRow base e size v n xs := by
  refine ⟨h.1, ?_⟩
  rcases h.2 with h2 | ⟨g, cap, cur, rfl, hb, hh, hr⟩
  · exact .inl h2
  · exact .inr ⟨g, cap, cur, rfl, hb, (hs g rfl (Array.getElem?_eq_some_iff.1 hh).1).trans hh, hr⟩

theorem _root_.Go.Proofs.YtdmclfolooiccaaGreatDoor.Row.grown {w w' : World} {B n : Nat} {a : Option Addr} {xs : List Int} {row : Option Nat} (h : Row w B a n xs) (hg : w.grownBy w' row) (hne : ∀ x, a = some x → some x.block ≠ row) : Row w' B a n xs :=
  ⟨h.1, fun hn => by
    obtain ⟨b, off, rfl, hlt, hc⟩ := h.2 hn
    exact ⟨b, off, rfl, hlt, fun i hi => hg.cell (hc i hi) (hne ⟨b, off, none⟩ rfl)⟩⟩

/-- A slice: where it lies, its length, its capacity. -/
structure Sl where
  a : Option Addr
  n : Nat
  c : Nat
/-- .. of a list of such, with another one at a place. -/
def upd {α : Type} (u : Nat → α) (k : Nat) (s : α) : Nat → α := fun j => if j = k then s else u j
theorem upd_same {α : Type} (u : Nat → α) (k : Nat) (s : α) : upd u k s k = s := if_pos rfl
theorem upd_other {α : Type} (u : Nat → α) {k j : Nat} (s : α) (h : ¬ j = k) : upd u k s j = u j := if_neg h

/-- The three slices of a value of lists are rows below B. -/
def L3 (w : World) (B : Nat) (u : Nat → Sl) (f : Nat → List Int) : Prop := ∀ j, j < 3 → Row w B (u j).a (u j).n (f j) ∧ (u j).n ≤ (u j).c ∧ (u j).c ≤ maxLen
section
variable {w w' : World} {B B' base : Nat} {u : Nat → Sl} {f : Nat → List Int}
theorem L3.more (h : L3 w B u f) (hB : B ≤ B') : L3 w B' u f := fun j hj => ⟨(h j hj).1.more hB, (h j hj).2⟩
theorem L3.below (h : L3 w B u f) (hb : Below B w w') : L3 w' B u f := fun j hj => ⟨(h j hj).1.below hb, (h j hj).2⟩
theorem L3.over (h : L3 w B u f) {C : Nat} (hb : Below C w w') (hB : B ≤ C) : L3 w' B u f := h.below (hb.mono hB)
theorem L3.next (h : L3 w w.heap.size u f) (hb : Below w.heap.size w w') : L3 w' w'.heap.size u f := (h.below hb).more hb.size
theorem L3.len (h : L3 w B u f) (j : Nat) (hj : j < 3) : (u j).n = (f j).length := (h j hj).1.1.symm
theorem L3.drewN (h : L3 w B u f) (k : Nat) : L3 (w.drewN k) B u f := h
theorem L3.grown {row : Option Nat} (h : L3 w B u f) (hg : w.grownBy w' row) (hne : ∀ j x, j < 3 → (u j).a = some x → some x.block ≠ row) : L3 w' B u f :=
  fun j hj => ⟨(h j hj).1.grown hg (fun x hx => hne j x hj hx), (h j hj).2⟩
def noSl : Nat → Sl := fun _ => ⟨none, 0, 0⟩
def noLists : Nat → List Int := fun _ => []
theorem L3.none_ (w : World) (B : Nat) : L3 w B noSl noLists := fun _ _ => ⟨Row.none_ _ _, Nat.le_refl _, by show (0 : Nat) ≤ maxLen; unfold maxLen; omega⟩
theorem L3.set (h : L3 w B u f) (k : Nat) (s : Sl) (xs : List Int) (hs : Row w B s.a s.n xs) (h1 : s.n ≤ s.c) (h2 : s.c ≤ maxLen) : L3 w B (upd u k s) (upd f k xs) := fun j hj => by
  by_cases e : j = k
  · subst e
    rw [upd_same, upd_same]
    exact ⟨hs, h1, h2⟩
  · rw [upd_other _ _ e, upd_other _ _ e]
    exact h j hj

/-- .. each is the walk's own, in a block of its own. -/
structure Own3 (w : World) (base : Nat) (u : Nat → Sl) (f : Nat → List Int) : Prop where
  own : ∀ j, j < 3 → w.ownsRow base 3 1 (.slice (u j).a (u j).n (u j).c) (u j).n ((f j).map (Value.int .i64))
  apart : ∀ i j, i < 3 → j < 3 → ¬ i = j → ∀ x y, (u i).a = some x → (u j).a = some y → ¬ x.block = y.block
theorem Own3.l3 (h : Own3 w base u f) : L3 w w.heap.size u f := fun j hj => by
  obtain ⟨a, c, e, hr, h1, h2⟩ := owns_row (h.own j hj)
  simp only [Value.slice.injEq, true_and] at e
  obtain ⟨rfl, rfl⟩ := e
  exact ⟨hr, h1, h2⟩
theorem Own3.block (h : Own3 w base u f) (j : Nat) (hj : j < 3) {x : Addr} (hx : (u j).a = some x) : base ≤ x.block ∧ x.block < w.heap.size :=
  (h.own j hj).lt x.block (by rw [ownBlock_slice, hx]; rfl)
theorem Own3.same (h : Own3 w base u f) (hs : ∀ j x, j < 3 → (u j).a = some x → w'.heap[x.block]? = w.heap[x.block]?) : Own3 w' base u f :=
  ⟨fun j hj => World.ownsRow.same (h.own j hj) (fun g hg _ => by
    rw [ownBlock_slice] at hg
    cases hx : (u j).a with
    | none => rw [hx] at hg; cases hg
    | some x =>
      rw [hx] at hg
      simp at hg
      subst hg
      exact hs j x hj hx), h.apart⟩
theorem Own3.next (h : Own3 w base u f) (hb : Below w.heap.size w w') : Own3 w' base u f := h.same (fun j _ hj hx => hb.block _ (h.block j hj hx).2)
theorem Own3.alloc (h : Own3 w base u f) (o : Obj) : Own3 (w.alloc o) base u f := h.next ((Below.refl _ _).alloc (Nat.le_refl _) o)
theorem Own3.drewN (h : Own3 w base u f) (k : Nat) : Own3 (w.drewN k) base u f := ⟨h.own, h.apart⟩
theorem Own3.setAbove (h : Own3 w base u f) {p : Addr} (hp : ∀ j x, j < 3 → (u j).a = some x → ¬ x.block = p.block) (x : Value) : Own3 (w.setCell p x) base u f :=
  h.same (fun j _ hj hx => Below.heap_setCell _ _ _ _ (hp j _ hj hx))
/-- One of them is turned by append: it lies where it lay, or in a new block. -/
theorem Own3.appended (h : Own3 w base u f) {k : Nat} (hk : k < 3) (s : Sl) {xs : List Int} (ho : w'.ownsRow base 3 1 (.slice s.a s.n s.c) s.n (xs.map (Value.int .i64)))
    (hg : w.grownBy w' (Value.slice (u k).a (u k).n (u k).c).ownBlock) (hat : ∀ x, s.a = some x → (Value.slice (u k).a (u k).n (u k).c).ownBlock = some x.block ∨ w.heap.size ≤ x.block) : Own3 w' base (upd u k s) (upd f k xs) := by
  have far : ∀ j x, j < 3 → ¬ j = k → (u j).a = some x → some x.block ≠ (Value.slice (u k).a (u k).n (u k).c).ownBlock ∧ ∀ y, s.a = some y → ¬ x.block = y.block := by
    intro j x hj hne hx
    have h1 : some x.block ≠ (Value.slice (u k).a (u k).n (u k).c).ownBlock := by
      rw [ownBlock_slice]
      cases hy : (u k).a with
      | none => simp
      | some y =>
        have := h.apart j k hj hk hne x y hx hy
        simpa using this
    refine ⟨h1, fun y hy => ?_⟩
    rcases hat y hy with e | e
    · intro e'
      rw [e'] at h1
      exact h1 e.symm
    · have := (h.block j hj hx).2
      omega
  refine ⟨fun j hj => ?_, fun i j hi hj hij x y hx hy => ?_⟩
  · by_cases e : j = k
    · subst e
      rw [upd_same, upd_same]
      exact ho
    · rw [upd_other _ _ e, upd_other _ _ e]
      refine (h.own j hj).kept hg ?_
      rw [ownBlock_slice]
      cases hx : (u j).a with
      | none => exact .inl rfl
      | some x => exact .inr ((far j x hj e hx).1)
  · by_cases ei : i = k
    · subst ei
      rw [upd_same] at hx
      rw [upd_other _ _ (fun e => hij e.symm)] at hy
      exact fun e => (far j y hj (fun e => hij e.symm) hy).2 x hx e.symm
    · rw [upd_other _ _ ei] at hx
      by_cases ej : j = k
      · subst ej
        rw [upd_same] at hy
        exact (far i x hi ei hx).2 y hy
      · rw [upd_other _ _ ej] at hy
        exact h.apart i j hi hj hij x y hx hy

/-- The box of a value of lists: three cells that are not frozen. -/
structure Box3 (w : World) (b : Nat) (u : Nat → Sl) : Prop where
  cell : ∀ j, j < 3 → w.cell? ⟨b, j, none⟩ = some (.slice (u j).a (u j).n (u j).c)
  free : ∀ j, w.frozen? ⟨b, j, none⟩ = false
  lt : b < w.heap.size
theorem Box3.same {b : Nat} (h : Box3 w b u) (hs : w'.heap[b]? = w.heap[b]?) (hl : w.heap.size ≤ w'.heap.size) : Box3 w' b u :=
  ⟨fun j hj => (World.cell?_of_block (a := ⟨b, j, none⟩) hs).trans (h.cell j hj), fun j => (World.frozen?_of_block (a := ⟨b, j, none⟩) hs).trans (h.free j), Nat.lt_of_lt_of_le h.lt hl⟩
theorem Box3.below {b : Nat} (h : Box3 w b u) (hb : Below B w w') (hB : b < B) : Box3 w' b u := h.same (hb.block b hB) hb.size
theorem Box3.next {b : Nat} (h : Box3 w b u) (hb : Below w.heap.size w w') : Box3 w' b u := h.below hb h.lt
theorem Box3.alloc {b : Nat} (h : Box3 w b u) (o : Obj) : Box3 (w.alloc o) b u := h.next ((Below.refl _ _).alloc (Nat.le_refl _) o)
theorem Box3.grown {b : Nat} {row : Option Nat} (h : Box3 w b u) (hg : w.grownBy w' row) (hne : some b ≠ row) : Box3 w' b u := h.same (hg.block b h.lt hne) hg.size
theorem Box3.other {b : Nat} (h : Box3 w b u) {p : Addr} (hp : ¬ p.block = b) (x : Value) : Box3 (w.setCell p x) b u := h.same (Below.heap_setCell _ _ _ _ (fun e => hp e.symm)) (by simp [World.setCell])
theorem Box3.drewN {b : Nat} (h : Box3 w b u) (k : Nat) : Box3 (w.drewN k) b u := ⟨h.cell, h.free, h.lt⟩
theorem Box3.set {b : Nat} (h : Box3 w b u) {k : Nat} (hk : k < 3) (s : Sl) : Box3 (w.setCell ⟨b, k, none⟩ (.slice s.a s.n s.c)) b (upd u k s) := by
  refine ⟨fun j hj => ?_, fun j => by rw [World.frozen?_setCell]; exact h.free j, by simpa [World.setCell] using h.lt⟩
  by_cases e : j = k
  · subst e
    rw [upd_same]
    exact World.cell?_setCell_same' _ _ _ (by rw [h.cell j hj]; rfl)
  · rw [upd_other _ _ e]
    rw [World.cell?_setCell_other _ _ _ _ (by intro hh; simp only [Addr.mk.injEq, true_and, and_true] at hh; omega)]
    exact h.cell j hj
theorem Box3.congr {b : Nat} {v : Nat → Sl} (h : Box3 w b u) (e : ∀ j, j < 3 → u j = v j) : Box3 w b v := ⟨fun j hj => by rw [← e j hj]; exact h.cell j hj, h.free, h.lt⟩
/-- A whole value is stored into its box. -/
def put3 (w : World) (b : Nat) (v : Nat → Sl) : World :=
  ((w.setCell ⟨b, 0, none⟩ (.slice (v 0).a (v 0).n (v 0).c)).setCell ⟨b, 1, none⟩ (.slice (v 1).a (v 1).n (v 1).c)).setCell ⟨b, 2, none⟩ (.slice (v 2).a (v 2).n (v 2).c)
theorem Box3.put {b : Nat} (h : Box3 w b u) (v : Nat → Sl) : Box3 (put3 w b v) b v :=
  (((h.set (by decide) (v 0)).set (by decide) (v 1)).set (by decide) (v 2)).congr (fun j hj => by
    match j, hj with
    | 0, _ => rfl
    | 1, _ => rfl
    | 2, _ => rfl)
theorem put3_other (w : World) {b k : Nat} (v : Nat → Sl) (h : ¬ k = b) : (put3 w b v).heap[k]? = w.heap[k]? :=
  ((Below.heap_setCell _ _ _ _ h).trans (Below.heap_setCell _ _ _ _ h)).trans (Below.heap_setCell _ _ _ _ h)
theorem put3_size (w : World) (b : Nat) (v : Nat → Sl) : (put3 w b v).heap.size = w.heap.size := by simp [put3, World.setCell]
theorem below_put3 {a : World} (h : Below B a w) {b : Nat} (hb : B ≤ b) (v : Nat → Sl) : Below B a (put3 w b v) := ((h.setCell (p := ⟨b, 0, none⟩) hb _).setCell (p := ⟨b, 1, none⟩) hb _).setCell (p := ⟨b, 2, none⟩) hb _
theorem Own3.put (h : Own3 w base u f) {b : Nat} (hb : ∀ j x, j < 3 → (u j).a = some x → ¬ x.block = b) (v : Nat → Sl) : Own3 (put3 w b v) base u f := h.same (fun j x hj hx => put3_other _ _ (hb j x hj hx))
theorem Box3.putOther {b d : Nat} (h : Box3 w b u) (hb : ¬ b = d) (v : Nat → Sl) : Box3 (put3 w d v) b u := h.same (put3_other _ _ hb) (by rw [put3_size]; exact Nat.le_refl _)
theorem L3.put (h : L3 w B u f) {b : Nat} (hb : B ≤ b) (v : Nat → Sl) : L3 (put3 w b v) B u f := h.below (below_put3 (Below.refl _ _) hb v)
end
theorem Box3.new (w : World) (u : Nat → Sl) (t : TypeId) : Box3 (w.alloc (.cells #[.slice (u 0).a (u 0).n (u 0).c, .slice (u 1).a (u 1).n (u 1).c, .slice (u 2).a (u 2).n (u 2).c] t)) w.heap.size u := by
  refine ⟨fun j hj => ?_, fun j => ?_, by simp⟩
  · match j, hj with
    | 0, _ => simp [go_sem]
    | 1, _ => simp [go_sem]
    | 2, _ => simp [go_sem]
  · simp [go_sem]

/-- Two slices of one length, the second one's numbers copied into the first one, a walk's own. -/
theorem list_copied {w : World} {ops : Array Oper} {rest : List Oper} {o : Oper} {a : Act} {Q : Exit → Act → World → Prop} (hgd : o.guard = none) (d s : Operand)
    (ho : o.op = .call { callee := .builtin .copy, args := #[d, s], argTypes := #[22, 22] }) {g n c B base : Nat} {A : Option Addr} {xs : List Int} {zs : List Value}
    (hd : a.eval d = .slice (some ⟨g, 0, none⟩) n n) (hs : a.eval s = .slice A n c) (h : w.ownsRow base 3 1 (.slice (some ⟨g, 0, none⟩) n n) n zs) (hr : Row w B A n xs)
    (hK : ∀ w', w'.ownsRow base 3 1 (.slice (some ⟨g, 0, none⟩) n n) n (xs.map (Value.int .i64)) → w.grownBy w' (some g) → wpList Tryz.prog ops Q rest (a.put o.dst (goInt n)) w') : wpList Tryz.prog ops Q (o :: rest) a w := by
  have hl := hr.1
  have hb := (h.lt g rfl).1
  rcases h.2 with ⟨e, _⟩ | ⟨g', cap, cur, e, _, hh, hnc, hcm, hsz, htk⟩
  · cases e
  · simp only [Value.slice.injEq, Option.some.injEq, Addr.mk.injEq, and_true, true_and] at e
    obtain ⟨rfl, rfl⟩ := e
    by_cases h0 : n = 0
    · subst h0
      obtain rfl := hr.zero
      refine wpList_copy_nothing hgd d s 22 22 ho 3 Tryz.underlying22 size_int1 _ _ 0 0 0 c hd hs (by simp) ?_
      refine hK w ⟨rfl, .inr ⟨g, 0, cur, rfl, hb, hh, hnc, hcm, hsz, by simp⟩⟩ ⟨rfl, rfl, rfl, Nat.le_refl _, fun _ _ _ => rfl⟩
    · obtain ⟨b, off, rfl, _, hc⟩ := hr.2 (by omega)
      have hh' : w.heap[g]? = some (.cells cur 3 (0, 0)) := hh
      refine wpList_copy_own hgd d s 22 22 ho 3 Tryz.underlying22 size_int1 g 0 n n ⟨b, off, none⟩ n c hd hs cur 3 hh' (xs.map (Value.int .i64)) (by simp [hl]) ?_ (by simp; omega) ?_ ?_
      · intro j v hj
        have hjn : j < xs.length := by
          have := (List.getElem?_eq_some_iff.1 hj).1
          simpa using this
        rw [Addr.add_lit, hc j (by omega)]
        rw [← hj]
        simp [List.getD, hjn]
      · intro v hv
        obtain ⟨x, _, rfl⟩ := List.mem_map.1 hv
        rfl
      · have el : (xs.map (Value.int .i64)).length = n := by simp [hl]
        have ed : cur.toList.drop (0 + (xs.map (Value.int .i64)).length) = [] := List.drop_eq_nil_of_le (by simp; omega)
        rw [ed, List.take_zero, List.nil_append, List.append_nil, el]
        refine hK _ ⟨by simp [hl], .inr ⟨g, n, _, rfl, hb, setRow_heap w g _ _ _ _ hh', Nat.le_refl _, hcm, by simp [hl], ?_⟩⟩ ⟨rfl, rfl, rfl, by simp [World.setRow], fun k _ hk => setRow_other w g k _ (fun e => hk (by rw [e]))⟩
        rw [Nat.mul_one]
        exact List.take_of_length_le (by simp [hl])
end Go.Proofs.YtdmclfolooiccaaGreatDoor.Ls
end
section
namespace Go.Proofs.YtdmclfolooiccaaGreatDoor.Ls
open Go.Proofs.YtdmclfolooiccaaGreatDoor
set_option maxRecDepth 100000
open Go.RowKit

theorem class_yes (k : Int) (w : World) (h0 : 0 ≤ k) (h1 : k < 3) :
    Calls Tryz.prog 115 #[.int .i64 k] w fun e w' => e = .returned (.bool true) ∧ w = w' := by
  go_enter Tryz.func115, Tryz.ntmps115
  go_wp2
  go_ret
  exact ⟨rfl, rfl⟩
/-- Lists of the call's own were returned. -/
def COut (w : World) (f : Nat → List Int) (e : Ending) (w' : World) : Prop := ∃ u, e = .returned (.agg #[.slice (u 0).a (u 0).n (u 0).c, .slice (u 1).a (u 1).n (u 1).c, .slice (u 2).a (u 2).n (u 2).c]) ∧ Own3 w' w.heap.size u f ∧ Below w.heap.size w w'

structure Copying (w wr : World) (u : Nat → Sl) (f : Nat → List Int) (k : Nat) (v : Nat → Sl) (g : Nat → Nat) : Prop where
  box : Box3 wr w.heap.size v
  res : Box3 wr (w.heap.size + 1) noSl
  is : ∀ j, j < k → v j = ⟨some ⟨g j, 0, none⟩, (u j).n, (u j).n⟩
  own : ∀ j, j < k → wr.ownsRow (w.heap.size + 2) 3 1 (.slice (some ⟨g j, 0, none⟩) (u j).n (u j).n) (u j).n ((f j).map (Value.int .i64))
  up : ∀ i j, i < j → j < k → g i < g j
  bel : Below w.heap.size w wr
theorem Copying.size {w wr : World} {u v : Nat → Sl} {f : Nat → List Int} {k : Nat} {g : Nat → Nat} (h : Copying w wr u f k v g) : w.heap.size + 2 ≤ wr.heap.size := by have := h.res.lt; omega

theorem Copying.step {w wr w1 w2 w3 : World} {u v : Nat → Sl} {f : Nat → List Int} {k : Nat} {g : Nat → Nat} (h : Copying w wr u f k v g) (hk : k < 3)
    (g1 : wr.grownBy w1 none) (e2 : w2 = w1.setCell ⟨w.heap.size, k, none⟩ (.slice (some ⟨wr.heap.size, 0, none⟩) (u k).n (u k).n))
    (ho : w3.ownsRow (w.heap.size + 2) 3 1 (.slice (some ⟨wr.heap.size, 0, none⟩) (u k).n (u k).n) (u k).n ((f k).map (Value.int .i64))) (g3 : w2.grownBy w3 (some wr.heap.size)) :
    Copying w w3 u f (k + 1) (upd v k ⟨some ⟨wr.heap.size, 0, none⟩, (u k).n, (u k).n⟩) (upd g k wr.heap.size) := by
  have hs := h.size
  have b2 : Below w.heap.size w w2 := by
    rw [e2]
    exact (h.bel.grown g1 (by omega) (by intro j hj; cases hj)).setCell (Nat.le_refl _) _
  have x2 : ∀ j, j < wr.heap.size → ¬ j = w.heap.size → w2.heap[j]? = wr.heap[j]? := fun j hj hn => by
    rw [e2]
    exact (Below.heap_setCell _ _ _ _ (by exact hn)).trans (g1.block j hj (by simp))
  have hs2 : wr.heap.size ≤ w2.heap.size := by
    rw [e2]
    simpa [World.setCell] using g1.size
  have x3 : ∀ j, j < wr.heap.size → ¬ j = w.heap.size → w3.heap[j]? = wr.heap[j]? := fun j hj hn => (g3.block j (by omega) (by simp; omega)).trans (x2 j hj hn)
  refine ⟨?_, ?_, fun j hj => ?_, fun j hj => ?_, fun i j hij hj => ?_, ?_⟩
  · have := (h.box.grown g1 (by simp)).set hk ⟨some ⟨wr.heap.size, 0, none⟩, (u k).n, (u k).n⟩
    rw [← e2] at this
    exact this.grown g3 (by simp; omega)
  · exact h.res.same (x3 _ h.res.lt (by omega)) (Nat.le_trans hs2 g3.size)
  · by_cases e : j = k
    · subst e; rw [upd_same, upd_same]
    · rw [upd_other _ _ e, upd_other _ _ e]; exact h.is j (by omega)
  · by_cases e : j = k
    · subst e; rw [upd_same]; exact ho
    · rw [upd_other _ _ e]
      have ho' := h.own j (by omega)
      have hl := ho'.lt (g j) rfl
      exact World.ownsRow.same ho' (fun q hq hlt => by
        have : q = g j := by simpa [Value.ownBlock] using hq.symm
        subst this
        exact x3 _ hlt (by omega))
  · by_cases e : j = k
    · subst e
      rw [upd_same, upd_other _ _ (by omega)]
      exact ((h.own i (by omega)).lt (g i) rfl).2
    · rw [upd_other _ _ e, upd_other _ _ (by omega)]
      exact h.up i j hij (by omega)
  · exact b2.grown g3 (by omega) (by intro j hj; cases hj; omega)

theorem Copying.own3 {w wr : World} {u v : Nat → Sl} {f : Nat → List Int} {g : Nat → Nat} (h : Copying w wr u f 3 v g) : Own3 wr (w.heap.size + 2) v f :=
  ⟨fun j hj => by rw [h.is j hj]; exact h.own j hj, fun i j hi hj hij x y hx hy => by
    rw [h.is i hi] at hx
    rw [h.is j hj] at hy
    simp only [Option.some.injEq] at hx hy
    subst hx hy
    rcases Nat.lt_or_gt_of_ne hij with hlt | hlt
    · have := h.up i j hlt hj
      show ¬ g i = g j
      omega
    · have := h.up j i hlt hi
      show ¬ g i = g j
      omega⟩
theorem Own3.less {w : World} {base base' : Nat} {u : Nat → Sl} {f : Nat → List Int} (h : Own3 w base u f) (hb : base' ≤ base) : Own3 w base' u f :=
  ⟨fun j hj => ⟨(h.own j hj).1, (h.own j hj).2.imp id (fun ⟨g, cap, cur, e, hg, r⟩ => ⟨g, cap, cur, e, Nat.le_trans hb hg, r⟩)⟩, h.apart⟩

theorem index_of (u : Nat → Sl) (k : Nat) (hk : k < 3) (w : World) : (Instr.index 25 (.agg #[.slice (u 0).a (u 0).n (u 0).c, .slice (u 1).a (u 1).n (u 1).c, .slice (u 2).a (u 2).n (u 2).c]) (.int .i64 k)).run Tryz.prog w = .ok (.slice (u k).a (u k).n (u k).c) w := by
  rcases (show k = 0 ∨ k = 1 ∨ k = 2 by omega) with rfl | rfl | rfl
  · rfl
  · rfl
  · rfl

theorem copied_any (B : Nat) (u : Nat → Sl) (f : Nat → List Int) (w : World) (h : L3 w B u f) (hB : B ≤ w.heap.size) (hn : ∀ j, j < 3 → (u j).n ≤ 2000000) :
    Calls Tryz.prog 116 #[(.agg #[.slice (u 0).a (u 0).n (u 0).c, .slice (u 1).a (u 1).n (u 1).c, .slice (u 2).a (u 2).n (u 2).c])] w (COut w f) := by
  obtain ⟨i0, hi, hz0, hz1, hz2⟩ := info_parts info_int1
  have HL := Lib.hid h
  have HN := Lib.hid hn
  clear h hn
  go_enter Tryz.func116, Tryz.ntmps116
  go_wp2
  go_loopw [6] (fun i wr => ∃ (k : Nat) (v : Nat → Sl) (g : Nat → Nat), k ≤ 3 ∧ i = .int .i64 k ∧ Hid (Copying w wr u f k v g)) (fun i _ => 3 - (intOf i).toNat)
  case atStart =>
    refine ⟨0, u, fun _ => 0, by omega, rfl, Lib.hid ⟨(Box3.new w u 25).alloc _, ?_, fun j hj => by omega, fun j hj => by omega, fun i j _ hj => by omega, ((Below.refl _ _).alloc (Nat.le_refl _) _).alloc (by simp) _⟩⟩
    have := Box3.new (w.alloc (.cells #[.slice (u 0).a (u 0).n (u 0).c, .slice (u 1).a (u 1).n (u 1).c, .slice (u 2).a (u 2).n (u 2).c] 25)) noSl 25
    rw [World.size_alloc] at this
    exact this
  case round =>
    obtain ⟨k, v, g, hk, rfl, HC⟩ := hrel
    by_cases hlt : k < 3
    · have hix := index_of u k hlt
      have hsz := HC.out.size
      have hnk := HN.out k hlt
      go_wp2_with (at_make; refine wpList_make_full _ rfl _ _ 22 rfl (w.heap.size + 2) 3 i0 (.int .i64 0) 1 Tryz.underlying22 hi hz0 hz1 .i64 .i64 ((u k).n) ((u k).n) (u k).n rfl rfl rfl rfl ?c3 ?c4 ?c5 ?_)
      case c3 => rw [hz2]; omega
      case c4 => unfold maxLen; omega
      case c5 => exact hsz
      intro w1 hown hgrow
      have hb1 := HC.out.box.grown hgrow (by simp)
      have hc1 := hb1.cell k hlt
      have hf1 := hb1.free k
      have hl1 := hb1.lt
      have O1 := Lib.hid hown
      have G1 := Lib.hid hgrow
      have B1 := Lib.hid (((HC.out.bel.grown hgrow (by omega) (by intro j hj; cases hj)).setCell (p := ⟨w.heap.size, k, none⟩) (Nat.le_refl _) (.slice (some ⟨wr.heap.size, 0, none⟩) (u k).n (u k).n)))
      clear hown hgrow hb1
      go_wp2_with (refine list_copied rfl _ _ rfl rfl rfl (ownsRow_setCell_below O1.out (by show w.heap.size < _; omega) _) ((HL.out k hlt).1.over B1.out hB) ?_)
      intro w3 ho g3
      have S3 := Lib.hid (HC.out.step hlt G1.out rfl ho g3)
      clear ho g3
      go_wp2
      go_roundw
      case rel => exact ⟨k + 1, _, _, by omega, by go_num, S3⟩
      case measure => simp [intOf]; omega
    · obtain rfl : k = 3 := by omega
      have r0 := HC.out.box.cell 0 (by decide)
      have r1 := HC.out.box.cell 1 (by decide)
      have r2 := HC.out.box.cell 2 (by decide)
      have rl := HC.out.box.lt
      have x0 := HC.out.res.cell 0 (by decide)
      have x1 := HC.out.res.cell 1 (by decide)
      have x2 := HC.out.res.cell 2 (by decide)
      have y0 := HC.out.res.free 0
      have y1 := HC.out.res.free 1
      have y2 := HC.out.res.free 2
      have xl := HC.out.res.lt
      go_wp2
      refine bodyPost_ret (v := (.agg #[.slice (v 0).a (v 0).n (v 0).c, .slice (v 1).a (v 1).n (v 1).c, .slice (v 2).a (v 2).n (v 2).c])) ?_ rfl ⟨v, rfl, (HC.out.own3.put (b := w.heap.size + 1) (fun j x hj hx => by have := (HC.out.own3.block j hj hx).1; omega) v).less (by omega), below_put3 HC.out.bel (by omega) v⟩
      simp [results, Tryz.results116, go_sem, x0, x1, x2]
end Go.Proofs.YtdmclfolooiccaaGreatDoor.Ls
end
section
namespace Go.Proofs.YtdmclfolooiccaaGreatDoor.Ls
open Go.Proofs.YtdmclfolooiccaaGreatDoor
set_option maxRecDepth 100000
open Go.RowKit

theorem src_none {w : World} (A : Option Addr) (c : Nat) : Src Tryz.prog 1 22 (.slice A 0 c) 0 [] w := by
  cases A with
  | none => exact Src.ofNil w Tryz.underlying22 c
  | some a => exact Src.ofSlice w Tryz.underlying22 a 0 c [] rfl (by simp) (by simp)
theorem run_cat {w : World} {base B m cp n c : Nat} {p A : Option Addr} {xs ys : List Int} (ty : TypeId) (h : w.ownsRow base 3 1 (.slice p m cp) m (xs.map (Value.int .i64))) (hr : Row w B A n ys) (hb : base ≤ w.heap.size) (hlen : m + n ≤ 4000000) :
    ∃ p' cp' w', (Builtin.append_ #[22, 22] ty #[.slice p m cp, .slice A n c]).run Tryz.prog w = .ok (.slice p' (m + n) cp') w' ∧ w'.ownsRow base 3 1 (.slice p' (m + n) cp') (m + n) ((xs ++ ys).map (Value.int .i64)) ∧
      w.grownBy w' (Value.slice p m cp).ownBlock ∧ ∀ x, p' = some x → (Value.slice p m cp).ownBlock = some x.block ∨ w.heap.size ≤ x.block := by
  obtain ⟨i0, hi, hz0, hz1, hz2⟩ := info_parts info_int1
  have hl := hr.1
  by_cases hn : n = 0
  · subst hn
    obtain rfl := hr.zero
    obtain ⟨a, c', e, _, hle, _⟩ := owns_row h
    simp only [Value.slice.injEq, true_and] at e
    obtain ⟨rfl, rfl⟩ := e
    refine ⟨p, cp, w, run_append_nothing w 22 22 ty 3 i0 Tryz.underlying22 hi p m cp hle _ (by rw [hz1]; exact src_none A c), ?_, ⟨rfl, rfl, rfl, Nat.le_refl _, fun _ _ _ => rfl⟩, fun x hx => .inl ?_⟩
    · rw [List.append_nil]
      exact h
    · rw [ownBlock_slice, hx]
      rfl
  · obtain ⟨b, off, rfl, _, hc⟩ := hr.2 (by omega)
    obtain ⟨g, cap, w', hrun, r1, r2, r3, r4⟩ := run_append_lies (P := Tryz.prog) w 22 ty base 3 i0 (.int .i64 0) 1 8 Tryz.underlying22 hi hz0 hz1 hz2 rfl (by decide) _ _ _ h ⟨b, off, none⟩ n c (ys.map (Value.int .i64)) (by simp [hl]) (by
      intro j u hj
      have hjn : j < ys.length := by
        have := (List.getElem?_eq_some_iff.1 hj).1
        simpa using this
      rw [Addr.add_lit, hc j (by omega)]
      rw [← hj]
      simp [List.getD, hjn]) (by
      intro u hu
      obtain ⟨x, _, rfl⟩ := List.mem_map.1 hu
      rfl) (by omega) (by unfold maxLen; omega) (by omega) hb w.heap.size rfl
    refine ⟨some ⟨g, 0, none⟩, cap, w', hrun, ?_, r2, fun x hx => ?_⟩
    · rw [List.map_append]
      exact r1
    · simp only [Option.some.injEq] at hx
      subst hx
      exact r3.imp id (fun e => Nat.le_of_eq e.symm)

/-- What an append leaves: a slice of the walk's own, in the block of the old one or in new memory; all else is as it was. -/
structure Catted (w : World) (base : Nat) (v : Value) (s : Sl) (xs : List Int) (w' : World) : Prop where
  own : w'.ownsRow base 3 1 (.slice s.a s.n s.c) s.n (xs.map (Value.int .i64))
  grown : w.grownBy w' v.ownBlock
  lies : ∀ x, s.a = some x → v.ownBlock = some x.block ∨ w.heap.size ≤ x.block
theorem wp_cat {w : World} {o : Oper} {a : Act} {K : Act → World → Prop} {Q : Exit → Act → World → Prop} (s x : Operand)
    (ho : o.op = .call { callee := .builtin .append, args := #[s, x], argTypes := #[22, 22] }) {base B m cp n c : Nat} {p A : Option Addr} {xs ys : List Int}
    (hs : a.eval s = .slice p m cp) (hx : a.eval x = .slice A n c) (h : w.ownsRow base 3 1 (.slice p m cp) m (xs.map (Value.int .i64))) (hr : Row w B A n ys) (hb : base ≤ w.heap.size) (hlen : m + n ≤ 4000000)
    (hK : ∀ p' cp' w', Catted w base (.slice p m cp) ⟨p', m + n, cp'⟩ (xs ++ ys) w' →
      K (a.put o.dst (.slice p' (m + n) cp')) w') : o.wp Tryz.prog a w K Q := by
  obtain ⟨p', cp', w', hrun, h1, h2, h3⟩ := run_cat (c := c) o.type h hr hb hlen
  unfold Oper.wp execOp
  simp only [ho, resolve, invoke, builtin, Sem.run_bind, Sem.run_pure, Result.andThen_ok, List.map_toArray, List.map_cons, List.map_nil, hs, hx, hrun]
  exact hK p' cp' w' ⟨h1, h2, h3⟩
theorem list_cat {w : World} {ops : Array Oper} {rest : List Oper} {o : Oper} {a : Act} {Q : Exit → Act → World → Prop} (hgd : o.guard = none) (s x : Operand)
    (ho : o.op = .call { callee := .builtin .append, args := #[s, x], argTypes := #[22, 22] }) {base B m cp n c : Nat} {p A : Option Addr} {xs ys : List Int}
    (hs : a.eval s = .slice p m cp) (hx : a.eval x = .slice A n c) (h : w.ownsRow base 3 1 (.slice p m cp) m (xs.map (Value.int .i64))) (hr : Row w B A n ys) (hb : base ≤ w.heap.size) (hlen : m + n ≤ 4000000)
    (hK : ∀ p' cp' w', Catted w base (.slice p m cp) ⟨p', m + n, cp'⟩ (xs ++ ys) w' →
      wpList Tryz.prog ops Q rest (a.put o.dst (.slice p' (m + n) cp')) w') : wpList Tryz.prog ops Q (o :: rest) a w :=
  wpList_plain hgd fun _ hK' => wp_cat s x ho hs hx h hr hb hlen fun p' cp' w' h1 => hK' _ _ (hK p' cp' w' h1)
theorem step_cat {w : World} {ops : Array Oper} {o : Oper} {a : Act} {K : Act → World → Prop} {Q : Exit → Act → World → Prop} {E : Prop} (hgd : o.guard = none) (s x : Operand)
    (ho : o.op = .call { callee := .builtin .append, args := #[s, x], argTypes := #[22, 22] }) {base B m cp n c : Nat} {p A : Option Addr} {xs ys : List Int}
    (hs : a.eval s = .slice p m cp) (hx : a.eval x = .slice A n c) (h : w.ownsRow base 3 1 (.slice p m cp) m (xs.map (Value.int .i64))) (hr : Row w B A n ys) (hb : base ≤ w.heap.size) (hlen : m + n ≤ 4000000)
    (hK : ∀ p' cp' w', Catted w base (.slice p m cp) ⟨p', m + n, cp'⟩ (xs ++ ys) w' →
      K (a.put o.dst (.slice p' (m + n) cp')) w') : if Region.wanted o (yielded ops a.tmps) = true then Oper.wp Tryz.prog o a w K Q else E := by
  have hw : Region.wanted o (yielded ops a.tmps) = true := by simp [Region.wanted, hgd]
  rw [if_pos hw]
  exact wp_cat s x ho hs hx h hr hb hlen hK

/-- 'append([]int(nil), s...)': of the walk's own, in new memory, or nothing. -/
theorem list_cloned {w : World} {ops : Array Oper} {rest : List Oper} {o : Oper} {a : Act} {Q : Exit → Act → World → Prop} (hgd : o.guard = none) (s x : Operand)
    (ho : o.op = .call { callee := .builtin .append, args := #[s, x], argTypes := #[22, 22] }) {B n c : Nat} {A : Option Addr} {ys : List Int}
    (hs : a.eval s = .slice none 0 0) (hx : a.eval x = .slice A n c) (hr : Row w B A n ys) (hn : n ≤ 2000000)
    (hK : ∀ p' cp' w', Catted w w.heap.size (.slice none 0 0) ⟨p', n, cp'⟩ ys w' → wpList Tryz.prog ops Q rest (a.put o.dst (.slice p' n cp')) w') : wpList Tryz.prog ops Q (o :: rest) a w := by
  refine list_cat (xs := []) hgd s x ho hs hx (World.ownsRow_nil w w.heap.size _ _) hr (Nat.le_refl _) (by omega) fun p' cp' w' h1 => ?_
  rw [Nat.zero_add, List.nil_append] at h1
  rw [Nat.zero_add]
  exact hK p' cp' w' h1

/-- The first k of three slices are a walk's own. -/
structure OwnTo (w : World) (base k : Nat) (v : Nat → Sl) (f : Nat → List Int) : Prop where
  own : ∀ j, j < k → w.ownsRow base 3 1 (.slice (v j).a (v j).n (v j).c) (v j).n ((f j).map (Value.int .i64))
  apart : ∀ i j, i < k → j < k → ¬ i = j → ∀ x y, (v i).a = some x → (v j).a = some y → ¬ x.block = y.block
theorem OwnTo.start (w : World) (base : Nat) (v : Nat → Sl) (f : Nat → List Int) : OwnTo w base 0 v f := ⟨fun j h => absurd h (by omega), fun i _ h => absurd h (by omega)⟩
theorem OwnTo.own3 {w : World} {base : Nat} {v : Nat → Sl} {f : Nat → List Int} (h : OwnTo w base 3 v f) : Own3 w base v f := ⟨h.own, h.apart⟩
theorem own_block {w : World} {base n : Nat} {s : Sl} {xs : List Value} (h : w.ownsRow base 3 1 (.slice s.a s.n s.c) n xs) {x : Addr} (hx : s.a = some x) : base ≤ x.block ∧ x.block < w.heap.size :=
  h.lt x.block (by rw [ownBlock_slice, hx]; rfl)
theorem OwnTo.step {w w' : World} {base k : Nat} {v : Nat → Sl} {f : Nat → List Int} (h : OwnTo w base k v f) (hb : base ≤ w.heap.size) (s : Sl)
    (ho : w'.ownsRow w.heap.size 3 1 (.slice s.a s.n s.c) s.n ((f k).map (Value.int .i64))) (hs : ∀ j, base ≤ j → j < w.heap.size → w'.heap[j]? = w.heap[j]?) : OwnTo w' base (k + 1) (upd v k s) f := by
  have old : ∀ j x, j < k → (v j).a = some x → base ≤ x.block ∧ x.block < w.heap.size := fun j x hj hx => own_block (h.own j hj) hx
  refine ⟨fun j hj => ?_, fun i j hi hj hij x y hx hy => ?_⟩
  · by_cases e : j = k
    · subst e
      rw [upd_same]
      exact ⟨ho.1, ho.2.imp id (fun ⟨g, cap, cur, e, hg, r⟩ => ⟨g, cap, cur, e, Nat.le_trans hb hg, r⟩)⟩
    · rw [upd_other _ _ e]
      have hj' : j < k := by omega
      refine World.ownsRow.same (h.own j hj') (fun g hg hlt => hs g ?_ hlt)
      rw [ownBlock_slice] at hg
      cases hx : (v j).a with
      | none => rw [hx] at hg; cases hg
      | some x =>
        rw [hx] at hg
        simp at hg
        have := (old j x hj' hx).1
        omega
  · by_cases ei : i = k
    · subst ei
      rw [upd_same] at hx
      rw [upd_other _ _ (fun e => hij e.symm)] at hy
      have h1 := (own_block ho hx).1
      have h2 := (old j y (by omega) hy).2
      omega
    · rw [upd_other _ _ ei] at hx
      by_cases ej : j = k
      · subst ej
        rw [upd_same] at hy
        have h1 := (own_block ho hy).1
        have h2 := (old i x (by omega) hx).2
        omega
      · rw [upd_other _ _ ej] at hy
        exact h.apart i j (by omega) (by omega) hij x y hx hy
end Go.Proofs.YtdmclfolooiccaaGreatDoor.Ls
end
section
namespace Go.Proofs.YtdmclfolooiccaaGreatDoor.Ls
open Go.Proofs.YtdmclfolooiccaaGreatDoor
set_option maxRecDepth 100000
open Go.RowKit

structure Owning (w wr : World) (u : Nat → Sl) (f : Nat → List Int) (k : Nat) (v : Nat → Sl) : Prop where
  src : Box3 wr w.heap.size u
  res : Box3 wr (w.heap.size + 1) noSl
  box : Box3 wr (w.heap.size + 2) v
  own : OwnTo wr (w.heap.size + 3) k v f
  bel : Below w.heap.size w wr
theorem Owning.size {w wr : World} {u v : Nat → Sl} {f : Nat → List Int} {k : Nat} (h : Owning w wr u f k v) : w.heap.size + 3 ≤ wr.heap.size := by have := h.box.lt; omega
theorem Owning.step {w wr w1 w2 : World} {u v : Nat → Sl} {f : Nat → List Int} {k : Nat} (h : Owning w wr u f k v) (hk : k < 3) (s : Sl)
    (ho : w1.ownsRow wr.heap.size 3 1 (.slice s.a s.n s.c) s.n ((f k).map (Value.int .i64))) (hg : wr.grownBy w1 none) (e2 : w2 = w1.setCell ⟨w.heap.size + 2, k, none⟩ (.slice s.a s.n s.c)) : Owning w w2 u f (k + 1) (upd v k s) := by
  have hs := h.size
  have b1 : Below wr.heap.size wr w1 := (Below.refl _ _).grown hg (Nat.le_refl _) (by intro j hj; cases hj)
  subst e2
  refine ⟨(h.src.next b1).other (by simp) _, (h.res.next b1).other (by simp) _, (h.box.next b1).set hk s, ?_, (h.bel.trans (b1.mono h.bel.size)).setCell (p := ⟨w.heap.size + 2, k, none⟩) (by simp) _⟩
  refine h.own.step hs s (World.ownsRow.same ho (fun g hg' _ => Below.heap_setCell _ _ _ _ ?_)) (fun j hj hlt => (Below.heap_setCell _ _ _ _ (by show ¬ j = w.heap.size + 2; omega)).trans (b1.block j hlt))
  have := (ho.lt g hg').1
  show ¬ g = w.heap.size + 2
  omega

theorem rown_any (B : Nat) (u : Nat → Sl) (f : Nat → List Int) (w : World) (h : L3 w B u f) (hB : B ≤ w.heap.size) (hn : ∀ j, j < 3 → (u j).n ≤ 2000000) :
    Calls Tryz.prog 17 #[(.agg #[.slice (u 0).a (u 0).n (u 0).c, .slice (u 1).a (u 1).n (u 1).c, .slice (u 2).a (u 2).n (u 2).c])] w (COut w f) := by
  have HL := Lib.hid h
  have HN := Lib.hid hn
  clear h hn
  go_enter Tryz.func17, Tryz.ntmps17
  go_wp2
  go_loopw [4] (fun i wr => ∃ (k : Nat) (v : Nat → Sl), k ≤ 3 ∧ i = .int .i64 k ∧ Hid (Owning w wr u f k v)) (fun i _ => 3 - (intOf i).toNat)
  case atStart =>
    refine ⟨0, noSl, by omega, rfl, Lib.hid ⟨((Box3.new w u 25).alloc _).alloc _, ?_, ?_, OwnTo.start _ _ _ _, (((Below.refl _ _).alloc (Nat.le_refl _) _).alloc (by simp) _).alloc (by simp; omega) _⟩⟩
    · have := (Box3.new (w.alloc (.cells #[.slice (u 0).a (u 0).n (u 0).c, .slice (u 1).a (u 1).n (u 1).c, .slice (u 2).a (u 2).n (u 2).c] 25)) noSl 25).alloc (.cells #[.slice (noSl 0).a (noSl 0).n (noSl 0).c, .slice (noSl 1).a (noSl 1).n (noSl 1).c, .slice (noSl 2).a (noSl 2).n (noSl 2).c] 25)
      rw [World.size_alloc] at this
      exact this
    · have := Box3.new ((w.alloc (.cells #[.slice (u 0).a (u 0).n (u 0).c, .slice (u 1).a (u 1).n (u 1).c, .slice (u 2).a (u 2).n (u 2).c] 25)).alloc (.cells #[.slice (noSl 0).a (noSl 0).n (noSl 0).c, .slice (noSl 1).a (noSl 1).n (noSl 1).c, .slice (noSl 2).a (noSl 2).n (noSl 2).c] 25)) noSl 25
      rw [World.size_alloc, World.size_alloc] at this
      exact this
  case round =>
    obtain ⟨k, v, hk, rfl, HC⟩ := hrel
    by_cases hlt : k < 3
    · have hs0 := HC.out.src.cell k hlt
      have hnk := HN.out k hlt
      have hl0 := HC.out.src.lt
      go_wp2_with (at_builtin; refine list_cloned rfl _ _ rfl rfl rfl ((HL.out k hlt).1.over HC.out.bel hB) hnk ?_)
      intro p' cp' w1 hc
      have ho := hc.own
      have hg : wr.grownBy w1 none := hc.grown
      have hb1 := HC.out.box.grown hg (by simp)
      have hc1 := hb1.cell k hlt
      have hf1 := hb1.free k
      have hl1 := hb1.lt
      have S1 := Lib.hid (HC.out.step hlt ⟨p', (u k).n, cp'⟩ ho hg rfl)
      clear ho hg hb1 hc
      go_wp2
      go_roundw
      case rel => exact ⟨k + 1, _, by omega, by go_num, S1⟩
      case measure => simp [intOf]; omega
    · obtain rfl : k = 3 := by omega
      have r0 := HC.out.box.cell 0 (by decide)
      have r1 := HC.out.box.cell 1 (by decide)
      have r2 := HC.out.box.cell 2 (by decide)
      have rl := HC.out.box.lt
      have x0 := HC.out.res.cell 0 (by decide)
      have x1 := HC.out.res.cell 1 (by decide)
      have x2 := HC.out.res.cell 2 (by decide)
      have y0 := HC.out.res.free 0
      have y1 := HC.out.res.free 1
      have y2 := HC.out.res.free 2
      have xl := HC.out.res.lt
      go_wp2
      refine bodyPost_ret (v := (.agg #[.slice (v 0).a (v 0).n (v 0).c, .slice (v 1).a (v 1).n (v 1).c, .slice (v 2).a (v 2).n (v 2).c])) ?_ rfl ⟨v, rfl, (HC.out.own.own3.put (b := w.heap.size + 1) (fun j x hj hx => by have := (HC.out.own.own3.block j hj hx).1; omega) v).less (by omega), below_put3 HC.out.bel (by omega) v⟩
      simp [results, Tryz.results17, go_sem, x0, x1, x2]
end Go.Proofs.YtdmclfolooiccaaGreatDoor.Ls
end
section
namespace Go.Proofs.YtdmclfolooiccaaGreatDoor.Ls
open Go.Proofs.YtdmclfolooiccaaGreatDoor
set_option maxRecDepth 100000
open Go.RowKit

/-- Lists were returned, and a word of an error. -/
def POut (w : World) (g : Nat → List Int) (er : Int) (e : Ending) (w' : World) : Prop := ∃ u, e = .returned (.tuple #[(.agg #[.slice (u 0).a (u 0).n (u 0).c, .slice (u 1).a (u 1).n (u 1).c, .slice (u 2).a (u 2).n (u 2).c]), .int .i64 er]) ∧ L3 w' w'.heap.size u g ∧ Below w.heap.size w w'

theorem two_boxes (w : World) (u : Nat → Sl) : Box3 ((w.alloc (.cells #[.slice (u 0).a (u 0).n (u 0).c, .slice (u 1).a (u 1).n (u 1).c, .slice (u 2).a (u 2).n (u 2).c] 25)).alloc (.cells #[.slice none 0 0, .slice none 0 0, .slice none 0 0] 25)) (w.heap.size + 1) noSl := by
  have := Box3.new (w.alloc (.cells #[.slice (u 0).a (u 0).n (u 0).c, .slice (u 1).a (u 1).n (u 1).c, .slice (u 2).a (u 2).n (u 2).c] 25)) noSl 25
  rw [World.size_alloc] at this
  exact this
theorem two_below (w : World) (o p : Obj) : Below w.heap.size w ((w.alloc o).alloc p) := ((Below.refl _ _).alloc (Nat.le_refl _) _).alloc (by simp) _

/-- Behind an append to a class: the box of the lists, the result's box; and what is returned. -/
theorem turned {w w1 w2 : World} {v : Nat → Sl} {f : Nat → List Int} {k : Nat} {xs : List Int} (ho : Own3 w1 (w.heap.size + 2) v f) (hb : Below w.heap.size w w1) (X : Box3 w1 (w.heap.size + 1) noSl) (hk : k < 3) (s : Sl)
    (hc : Catted (w1.alloc (.cells #[.slice (v 0).a (v 0).n (v 0).c, .slice (v 1).a (v 1).n (v 1).c, .slice (v 2).a (v 2).n (v 2).c] 25)) (w.heap.size + 2) (.slice (v k).a (v k).n (v k).c) s xs w2) :
    Box3 w2 w1.heap.size v ∧ Box3 w2 (w.heap.size + 1) noSl ∧
    Own3 (put3 (w2.setCell ⟨w1.heap.size, k, none⟩ (.slice s.a s.n s.c)) (w.heap.size + 1) (upd v k s)) (w.heap.size + 2) (upd v k s) (upd f k xs) ∧
    Below w.heap.size w (put3 (w2.setCell ⟨w1.heap.size, k, none⟩ (.slice s.a s.n s.c)) (w.heap.size + 1) (upd v k s)) := by
  have hX := X.lt
  obtain ⟨ho2, hg2, hat⟩ := hc
  have ob : ∀ q, (Value.slice (v k).a (v k).n (v k).c).ownBlock = some q → w.heap.size + 2 ≤ q ∧ q < w1.heap.size := (ho.own k hk).lt
  have O2 := (ho.alloc (.cells #[.slice (v 0).a (v 0).n (v 0).c, .slice (v 1).a (v 1).n (v 1).c, .slice (v 2).a (v 2).n (v 2).c] 25)).appended hk s ho2 hg2 hat
  have sep : ∀ j x, j < 3 → ((upd v k s) j).a = some x → ¬ x.block = w1.heap.size := by
    intro j x hj hx
    by_cases e : j = k
    · subst e
      rw [upd_same] at hx
      rcases hat x hx with h | h
      · have := ob _ h
        omega
      · rw [World.size_alloc] at h
        omega
    · rw [upd_other _ _ e] at hx
      have := (ho.block j hj hx).2
      omega
  refine ⟨(Box3.new w1 v 25).grown hg2 ?_, (X.alloc _).grown hg2 ?_, ?_, ?_⟩
  · intro e
    have := ob _ e.symm
    omega
  · intro e
    have := ob _ e.symm
    omega
  · exact (O2.setAbove (p := ⟨w1.heap.size, k, none⟩) sep _).put (fun j x hj hx => by have := (O2.block j hj hx).1; omega) _
  · refine below_put3 (((hb.alloc hb.size _).grown hg2 ?_ ?_).setCell (p := ⟨w1.heap.size, k, none⟩) hb.size _) (by omega) _
    · rw [World.size_alloc]
      have := hb.size
      omega
    · intro q hq
      have := ob _ hq
      omega

theorem two_on {w w1 : World} {u v : Nat → Sl} {f : Nat → List Int} (ho : Own3 w1 ((w.alloc (.cells #[.slice (u 0).a (u 0).n (u 0).c, .slice (u 1).a (u 1).n (u 1).c, .slice (u 2).a (u 2).n (u 2).c] 25)).alloc (.cells #[.slice none 0 0, .slice none 0 0, .slice none 0 0] 25)).heap.size v f)
    (hb : Below ((w.alloc (.cells #[.slice (u 0).a (u 0).n (u 0).c, .slice (u 1).a (u 1).n (u 1).c, .slice (u 2).a (u 2).n (u 2).c] 25)).alloc (.cells #[.slice none 0 0, .slice none 0 0, .slice none 0 0] 25)).heap.size ((w.alloc (.cells #[.slice (u 0).a (u 0).n (u 0).c, .slice (u 1).a (u 1).n (u 1).c, .slice (u 2).a (u 2).n (u 2).c] 25)).alloc (.cells #[.slice none 0 0, .slice none 0 0, .slice none 0 0] 25)) w1) :
    Hid (Box3 w1 (w.heap.size + 1) noSl) ∧ Own3 w1 (w.heap.size + 2) v f ∧ Below w.heap.size w w1 :=
  ⟨(two_boxes w u).next hb, ho.less (by simp), (two_below w _ _).trans (hb.mono (two_below w _ _).size)⟩

theorem push_ok0 (B : Nat) (u : Nat → Sl) (f : Nat → List Int) (A : Option Addr) (n c : Nat) (ys : List Int) (w : World) (h : L3 w B u f) (hB : B ≤ w.heap.size) (hn : ∀ j, j < 3 → (u j).n ≤ 2000000) (hr : Row w B A n ys) (hn' : n ≤ 2000000) :
    Calls Tryz.prog 131 #[(.agg #[.slice (u 0).a (u 0).n (u 0).c, .slice (u 1).a (u 1).n (u 1).c, .slice (u 2).a (u 2).n (u 2).c]), .int .i64 0, .slice A n c] w (POut w (upd f 0 (f 0 ++ ys)) 0) := by
  have HL := Lib.hid h
  have HN := Lib.hid hn
  have HR := Lib.hid hr
  clear h hn hr
  go_enter Tryz.func131, Tryz.ntmps131
  go_wp2_with (go_at_call 115; refine (class_yes _ _ (by decide) (by decide)).mono ?_; rintro e w' ⟨rfl, rfl⟩)
  have b0 := two_below w (.cells #[.slice (u 0).a (u 0).n (u 0).c, .slice (u 1).a (u 1).n (u 1).c, .slice (u 2).a (u 2).n (u 2).c] 25) (.cells #[.slice none 0 0, .slice none 0 0, .slice none 0 0] 25)
  refine (copied_any B u f _ (HL.out.over b0 hB) (by simp; omega) HN.out).mono ?_
  rintro e w1 ⟨v, rfl, ho0, hb0⟩
  obtain ⟨X1, ho, hb⟩ := two_on ho0 hb0
  clear ho0 hb0
  have OH := Lib.hid ho
  have BH := Lib.hid hb
  have hlen : (v 0).n + n ≤ 4000000 := by
    have h1 := ho.l3.len 0 (by decide)
    have h2 := HL.out.len 0 (by decide)
    have h3 := HN.out 0 (by decide)
    omega
  have R1 := Lib.hid ((HR.out.over hb hB).alloc (.cells #[.slice (v 0).a (v 0).n (v 0).c, .slice (v 1).a (v 1).n (v 1).c, .slice (v 2).a (v 2).n (v 2).c] 25) (by have := hb.size; omega))
  have hbase : w.heap.size + 2 ≤ (w1.alloc (.cells #[.slice (v 0).a (v 0).n (v 0).c, .slice (v 1).a (v 1).n (v 1).c, .slice (v 2).a (v 2).n (v 2).c] 25)).heap.size := by have := X1.out.lt; rw [World.size_alloc]; omega
  have Ow := Lib.hid ((ho.alloc (.cells #[.slice (v 0).a (v 0).n (v 0).c, .slice (v 1).a (v 1).n (v 1).c, .slice (v 2).a (v 2).n (v 2).c] 25)).own 0 (by decide))
  clear ho hb b0
  go_wp2_with (at_builtin; refine list_cat rfl _ _ rfl rfl rfl Ow.out R1.out hbase hlen ?_)
  intro p' cp' w2 hc
  obtain ⟨Y, X, O, BL⟩ := turned OH.out BH.out X1.out (k := 0) (by decide) ⟨p', (v 0).n + n, cp'⟩ hc
  have c0 := Y.cell 0 (by decide)
  have c1 := Y.cell 1 (by decide)
  have c2 := Y.cell 2 (by decide)
  have cf := Y.free 0
  have cl := Y.lt
  have x0 := X.cell 0 (by decide)
  have x1 := X.cell 1 (by decide)
  have x2 := X.cell 2 (by decide)
  have y0 := X.free 0
  have y1 := X.free 1
  have y2 := X.free 2
  have xl := X.lt
  have HO := Lib.hid O
  have HB := Lib.hid BL
  have hne' : ¬ w1.heap.size = w.heap.size + 1 := by have := X1.out.lt; omega
  clear hc Y X O BL
  go_wp2
  refine bodyPost_ret (v := .tuple #[(.agg #[.slice (upd v 0 ⟨p', (v 0).n + n, cp'⟩ 0).a (upd v 0 ⟨p', (v 0).n + n, cp'⟩ 0).n (upd v 0 ⟨p', (v 0).n + n, cp'⟩ 0).c, .slice (upd v 0 ⟨p', (v 0).n + n, cp'⟩ 1).a (upd v 0 ⟨p', (v 0).n + n, cp'⟩ 1).n (upd v 0 ⟨p', (v 0).n + n, cp'⟩ 1).c, .slice (upd v 0 ⟨p', (v 0).n + n, cp'⟩ 2).a (upd v 0 ⟨p', (v 0).n + n, cp'⟩ 2).n (upd v 0 ⟨p', (v 0).n + n, cp'⟩ 2).c]), .int .i64 0]) ?_ rfl ⟨_, rfl, HO.out.l3, HB.out⟩
  simp [results, Tryz.results131, go_sem, upd, x0, x1, x2]
theorem push_ok1 (B : Nat) (u : Nat → Sl) (f : Nat → List Int) (A : Option Addr) (n c : Nat) (ys : List Int) (w : World) (h : L3 w B u f) (hB : B ≤ w.heap.size) (hn : ∀ j, j < 3 → (u j).n ≤ 2000000) (hr : Row w B A n ys) (hn' : n ≤ 2000000) :
    Calls Tryz.prog 131 #[(.agg #[.slice (u 0).a (u 0).n (u 0).c, .slice (u 1).a (u 1).n (u 1).c, .slice (u 2).a (u 2).n (u 2).c]), .int .i64 1, .slice A n c] w (POut w (upd f 1 (f 1 ++ ys)) 0) := by
  have HL := Lib.hid h
  have HN := Lib.hid hn
  have HR := Lib.hid hr
  clear h hn hr
  go_enter Tryz.func131, Tryz.ntmps131
  go_wp2_with (go_at_call 115; refine (class_yes _ _ (by decide) (by decide)).mono ?_; rintro e w' ⟨rfl, rfl⟩)
  have b0 := two_below w (.cells #[.slice (u 0).a (u 0).n (u 0).c, .slice (u 1).a (u 1).n (u 1).c, .slice (u 2).a (u 2).n (u 2).c] 25) (.cells #[.slice none 0 0, .slice none 0 0, .slice none 0 0] 25)
  refine (copied_any B u f _ (HL.out.over b0 hB) (by simp; omega) HN.out).mono ?_
  rintro e w1 ⟨v, rfl, ho0, hb0⟩
  obtain ⟨X1, ho, hb⟩ := two_on ho0 hb0
  clear ho0 hb0
  have OH := Lib.hid ho
  have BH := Lib.hid hb
  have hlen : (v 1).n + n ≤ 4000000 := by
    have h1 := ho.l3.len 1 (by decide)
    have h2 := HL.out.len 1 (by decide)
    have h3 := HN.out 1 (by decide)
    omega
  have R1 := Lib.hid ((HR.out.over hb hB).alloc (.cells #[.slice (v 0).a (v 0).n (v 0).c, .slice (v 1).a (v 1).n (v 1).c, .slice (v 2).a (v 2).n (v 2).c] 25) (by have := hb.size; omega))
  have hbase : w.heap.size + 2 ≤ (w1.alloc (.cells #[.slice (v 0).a (v 0).n (v 0).c, .slice (v 1).a (v 1).n (v 1).c, .slice (v 2).a (v 2).n (v 2).c] 25)).heap.size := by have := X1.out.lt; rw [World.size_alloc]; omega
  have Ow := Lib.hid ((ho.alloc (.cells #[.slice (v 0).a (v 0).n (v 0).c, .slice (v 1).a (v 1).n (v 1).c, .slice (v 2).a (v 2).n (v 2).c] 25)).own 1 (by decide))
  clear ho hb b0
  go_wp2_with (at_builtin; refine list_cat rfl _ _ rfl rfl rfl Ow.out R1.out hbase hlen ?_)
  intro p' cp' w2 hc
  obtain ⟨Y, X, O, BL⟩ := turned OH.out BH.out X1.out (k := 1) (by decide) ⟨p', (v 1).n + n, cp'⟩ hc
  have c0 := Y.cell 0 (by decide)
  have c1 := Y.cell 1 (by decide)
  have c2 := Y.cell 2 (by decide)
  have cf := Y.free 1
  have cl := Y.lt
  have x0 := X.cell 0 (by decide)
  have x1 := X.cell 1 (by decide)
  have x2 := X.cell 2 (by decide)
  have y0 := X.free 0
  have y1 := X.free 1
  have y2 := X.free 2
  have xl := X.lt
  have HO := Lib.hid O
  have HB := Lib.hid BL
  have hne' : ¬ w1.heap.size = w.heap.size + 1 := by have := X1.out.lt; omega
  clear hc Y X O BL
  go_wp2
  refine bodyPost_ret (v := .tuple #[(.agg #[.slice (upd v 1 ⟨p', (v 1).n + n, cp'⟩ 0).a (upd v 1 ⟨p', (v 1).n + n, cp'⟩ 0).n (upd v 1 ⟨p', (v 1).n + n, cp'⟩ 0).c, .slice (upd v 1 ⟨p', (v 1).n + n, cp'⟩ 1).a (upd v 1 ⟨p', (v 1).n + n, cp'⟩ 1).n (upd v 1 ⟨p', (v 1).n + n, cp'⟩ 1).c, .slice (upd v 1 ⟨p', (v 1).n + n, cp'⟩ 2).a (upd v 1 ⟨p', (v 1).n + n, cp'⟩ 2).n (upd v 1 ⟨p', (v 1).n + n, cp'⟩ 2).c]), .int .i64 0]) ?_ rfl ⟨_, rfl, HO.out.l3, HB.out⟩
  simp [results, Tryz.results131, go_sem, upd, x0, x1, x2]
theorem push_ok2 (B : Nat) (u : Nat → Sl) (f : Nat → List Int) (A : Option Addr) (n c : Nat) (ys : List Int) (w : World) (h : L3 w B u f) (hB : B ≤ w.heap.size) (hn : ∀ j, j < 3 → (u j).n ≤ 2000000) (hr : Row w B A n ys) (hn' : n ≤ 2000000) :
    Calls Tryz.prog 131 #[(.agg #[.slice (u 0).a (u 0).n (u 0).c, .slice (u 1).a (u 1).n (u 1).c, .slice (u 2).a (u 2).n (u 2).c]), .int .i64 2, .slice A n c] w (POut w (upd f 2 (f 2 ++ ys)) 0) := by
  have HL := Lib.hid h
  have HN := Lib.hid hn
  have HR := Lib.hid hr
  clear h hn hr
  go_enter Tryz.func131, Tryz.ntmps131
  go_wp2_with (go_at_call 115; refine (class_yes _ _ (by decide) (by decide)).mono ?_; rintro e w' ⟨rfl, rfl⟩)
  have b0 := two_below w (.cells #[.slice (u 0).a (u 0).n (u 0).c, .slice (u 1).a (u 1).n (u 1).c, .slice (u 2).a (u 2).n (u 2).c] 25) (.cells #[.slice none 0 0, .slice none 0 0, .slice none 0 0] 25)
  refine (copied_any B u f _ (HL.out.over b0 hB) (by simp; omega) HN.out).mono ?_
  rintro e w1 ⟨v, rfl, ho0, hb0⟩
  obtain ⟨X1, ho, hb⟩ := two_on ho0 hb0
  clear ho0 hb0
  have OH := Lib.hid ho
  have BH := Lib.hid hb
  have hlen : (v 2).n + n ≤ 4000000 := by
    have h1 := ho.l3.len 2 (by decide)
    have h2 := HL.out.len 2 (by decide)
    have h3 := HN.out 2 (by decide)
    omega
  have R1 := Lib.hid ((HR.out.over hb hB).alloc (.cells #[.slice (v 0).a (v 0).n (v 0).c, .slice (v 1).a (v 1).n (v 1).c, .slice (v 2).a (v 2).n (v 2).c] 25) (by have := hb.size; omega))
  have hbase : w.heap.size + 2 ≤ (w1.alloc (.cells #[.slice (v 0).a (v 0).n (v 0).c, .slice (v 1).a (v 1).n (v 1).c, .slice (v 2).a (v 2).n (v 2).c] 25)).heap.size := by have := X1.out.lt; rw [World.size_alloc]; omega
  have Ow := Lib.hid ((ho.alloc (.cells #[.slice (v 0).a (v 0).n (v 0).c, .slice (v 1).a (v 1).n (v 1).c, .slice (v 2).a (v 2).n (v 2).c] 25)).own 2 (by decide))
  clear ho hb b0
  go_wp2_with (at_builtin; refine list_cat rfl _ _ rfl rfl rfl Ow.out R1.out hbase hlen ?_)
  intro p' cp' w2 hc
  obtain ⟨Y, X, O, BL⟩ := turned OH.out BH.out X1.out (k := 2) (by decide) ⟨p', (v 2).n + n, cp'⟩ hc
  have c0 := Y.cell 0 (by decide)
  have c1 := Y.cell 1 (by decide)
  have c2 := Y.cell 2 (by decide)
  have cf := Y.free 2
  have cl := Y.lt
  have x0 := X.cell 0 (by decide)
  have x1 := X.cell 1 (by decide)
  have x2 := X.cell 2 (by decide)
  have y0 := X.free 0
  have y1 := X.free 1
  have y2 := X.free 2
  have xl := X.lt
  have HO := Lib.hid O
  have HB := Lib.hid BL
  have hne' : ¬ w1.heap.size = w.heap.size + 1 := by have := X1.out.lt; omega
  clear hc Y X O BL
  go_wp2
  refine bodyPost_ret (v := .tuple #[(.agg #[.slice (upd v 2 ⟨p', (v 2).n + n, cp'⟩ 0).a (upd v 2 ⟨p', (v 2).n + n, cp'⟩ 0).n (upd v 2 ⟨p', (v 2).n + n, cp'⟩ 0).c, .slice (upd v 2 ⟨p', (v 2).n + n, cp'⟩ 1).a (upd v 2 ⟨p', (v 2).n + n, cp'⟩ 1).n (upd v 2 ⟨p', (v 2).n + n, cp'⟩ 1).c, .slice (upd v 2 ⟨p', (v 2).n + n, cp'⟩ 2).a (upd v 2 ⟨p', (v 2).n + n, cp'⟩ 2).n (upd v 2 ⟨p', (v 2).n + n, cp'⟩ 2).c]), .int .i64 0]) ?_ rfl ⟨_, rfl, HO.out.l3, HB.out⟩
  simp [results, Tryz.results131, go_sem, upd, x0, x1, x2]
theorem push_ok (B : Nat) (u : Nat → Sl) (f : Nat → List Int) (k : Nat) (hk : k < 3) (A : Option Addr) (n c : Nat) (ys : List Int) (w : World) (h : L3 w B u f) (hB : B ≤ w.heap.size) (hn : ∀ j, j < 3 → (u j).n ≤ 2000000) (hr : Row w B A n ys) (hn' : n ≤ 2000000) :
    Calls Tryz.prog 131 #[(.agg #[.slice (u 0).a (u 0).n (u 0).c, .slice (u 1).a (u 1).n (u 1).c, .slice (u 2).a (u 2).n (u 2).c]), .int .i64 k, .slice A n c] w (POut w (upd f k (f k ++ ys)) 0) := by
  rcases (show k = 0 ∨ k = 1 ∨ k = 2 by omega) with rfl | rfl | rfl
  · exact push_ok0 B u f A n c ys w h hB hn hr hn'
  · exact push_ok1 B u f A n c ys w h hB hn hr hn'
  · exact push_ok2 B u f A n c ys w h hB hn hr hn'
end Go.Proofs.YtdmclfolooiccaaGreatDoor.Ls
end
