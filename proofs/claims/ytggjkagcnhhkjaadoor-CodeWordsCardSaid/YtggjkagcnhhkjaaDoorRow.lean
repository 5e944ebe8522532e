/-
  A slice of numbers that lies in memory: its elements are the numbers of a list, in blocks below a number; kept while those blocks are; and one that the call itself made.
-/
import Derived.Below
import Derived.Laws.OwnMore
import Derived.Deep.Draws
import Derived.WalkKit
import Derived.Lib.Hide
namespace Go.Proofs.YtggjkagcnhhkjaaDoor
open Go.RowKit

/-- The slice (address a, n elements) holds the numbers xs, in a block below B. -/
def Row (w : World) (B : Nat) (a : Option Addr) (n : Nat) (xs : List Int) : Prop :=
  xs.length = n ∧ (0 < n → ∃ b off, a = some ⟨b, off, none⟩ ∧ b < B ∧ ∀ i, i < n → w.cell? ⟨b, off + i, none⟩ = some (.int .i64 (xs.getD i 0)))

section
variable {w w' : World} {B B' n : Nat} {a : Option Addr} {xs : List Int}
theorem Row.len (h : Row w B a n xs) : xs.length = n := h.1
theorem Row.at_ (h : Row w B a n xs) (hn : 0 < n) : ∃ b off, a = some ⟨b, off, none⟩ ∧ b < B ∧ ∀ i, i < n → w.cell? ⟨b, off + i, none⟩ = some (.int .i64 (xs.getD i 0)) := h.2 hn
theorem Row.more (h : Row w B a n xs) (hB : B ≤ B') : Row w B' a n xs :=
  ⟨h.1, fun hn => by
    obtain ⟨b, off, e, hb, hc⟩ := h.2 hn
    exact ⟨b, off, e, by omega, hc⟩⟩
theorem Row.below (h : Row w B a n xs) (hb : Below B w w') : Row w' B a n xs :=
  ⟨h.1, fun hn => by
    obtain ⟨b, off, e, hlt, hc⟩ := h.2 hn
    exact ⟨b, off, e, hlt, fun i hi => (hb.cell (p := ⟨b, off + i, none⟩) hlt).trans (hc i hi)⟩⟩
/-- .. over a call that left what was below C, the blocks of the row among it. -/
theorem Row.over (h : Row w B a n xs) {C : Nat} (hb : Below C w w') (hB : B ≤ C) : Row w' B a n xs := h.below (hb.mono hB)
theorem Row.alloc (h : Row w B a n xs) (o : Obj) (hB : B ≤ w.heap.size) : Row (w.alloc o) B a n xs := h.below ((Below.refl _ _).alloc hB o)
theorem Row.drewN (h : Row w B a n xs) (k : Nat) : Row (w.drewN k) B a n xs := h
theorem Row.none_ (w : World) (B : Nat) : Row w B none 0 [] := ⟨rfl, fun h => absurd h (by omega)⟩
theorem Row.zero (h : Row w B a 0 xs) : xs = [] := List.eq_nil_of_length_eq_zero h.1
theorem Row.empty (w : World) (B : Nat) (a : Option Addr) : Row w B a 0 [] := ⟨rfl, fun h => absurd h (by omega)⟩

/-- What the call itself made: a row at the head of a block of its own, not frozen, with room for c. -/
def Mine (w : World) (base e g n c : Nat) (xs : List Int) : Prop :=
  w.ownsRow base e 1 (.slice (some ⟨g, 0, none⟩) n c) n (xs.map (Value.int .i64)) ∧ base ≤ g ∧ g < w.heap.size ∧ n ≤ c ∧ c ≤ maxLen

theorem Mine.row {base e g c : Nat} (h : Mine w base e g n c xs) : Row w w.heap.size (some ⟨g, 0, none⟩) n xs := by
  have hl : xs.length = n := by simpa using h.1.1
  refine ⟨hl, fun hn => ⟨g, 0, rfl, h.2.2.1, fun i hi => ?_⟩⟩
  have := h.1.cellAt i (by omega)
  rw [Nat.zero_add, this]
  simp [List.getElem?_map, List.getElem?_eq_getElem (show i < xs.length by omega), List.getD]
theorem Mine.free {base e g c : Nat} (h : Mine w base e g n c xs) (j : Nat) : w.frozen? ⟨g, j, none⟩ = false := h.1.frozenAt j
theorem Mine.cell {base e g c : Nat} (h : Mine w base e g n c xs) (i : Nat) (hi : i < n) : w.cell? ⟨g, i, none⟩ = some (.int .i64 (xs.getD i 0)) := by
  have := h.row.2 (by omega)
  obtain ⟨b, off, e1, _, hc⟩ := this
  simp at e1
  obtain ⟨rfl, rfl⟩ := e1
  simpa using hc i hi
theorem Mine.stored {base e g c : Nat} (h : Mine w base e g n c xs) (j : Nat) (v : Int) : Mine (w.setCell ⟨g, j, none⟩ (.int .i64 v)) base e g n c (xs.set j v) := by
  refine ⟨?_, h.2.1, by simpa [World.setCell] using h.2.2.1, h.2.2.2.1, h.2.2.2.2⟩
  have := (h.1.stored j (.int .i64 v)).1
  rw [List.map_set]
  exact this
end

/-- What a law on append or make leaves is such a row. -/
theorem mine_of {w : World} {base e n : Nat} {v : Value} {xs : List Int} (h : w.ownsRow base e 1 v n (xs.map (Value.int .i64))) (hn : 0 < n) :
    ∃ g c, v = .slice (some ⟨g, 0, none⟩) n c ∧ Mine w base e g n c xs := by
  rcases h.2 with ⟨_, h0⟩ | ⟨g, c, cur, rfl, hb, hh, hnc, hcm, _⟩
  · omega
  · refine ⟨g, c, rfl, h, hb, ?_, hnc, hcm⟩
    rcases Nat.lt_or_ge g w.heap.size with hlt | hge
    · exact hlt
    · rw [Array.getElem?_eq_none hge] at hh
      cases hh
end Go.Proofs.YtggjkagcnhhkjaaDoor
