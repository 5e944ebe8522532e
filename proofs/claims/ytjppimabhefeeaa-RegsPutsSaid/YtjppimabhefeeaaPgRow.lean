/-
  A slice of pages that lies in memory: page i's two cells hold the two numbers of f i, in a block below a number; kept while those blocks are; and one that the call itself made.
-/
import Derived.Below
import Derived.Laws.OwnMore
import Derived.Deep.Draws
import Derived.WalkKit
import Derived.Lib.Hide
namespace Go.Proofs.Ytjppimabhefeeaa.Cl
open Go.Proofs.Ytjppimabhefeeaa
set_option maxRecDepth 100000
open Go.RowKit

/-- The slice (address a, n elements) holds the pages f 0 to f (n - 1), in a block below B. -/
def PRow (w : World) (B : Nat) (a : Option Addr) (n : Nat) (f : Nat → Int × Int) : Prop :=
  0 < n → ∃ b off, a = some ⟨b, off, none⟩ ∧ b < B ∧ ∀ i, i < n → w.cell? ⟨b, off + i * 2, none⟩ = some (.int .i64 (f i).1) ∧ w.cell? ⟨b, off + i * 2 + 1, none⟩ = some (.int .i64 (f i).2)

section
variable {w w' : World} {B B' n : Nat} {a : Option Addr} {f : Nat → Int × Int}
theorem PRow.at_ (h : PRow w B a n f) (hn : 0 < n) : ∃ b off, a = some ⟨b, off, none⟩ ∧ b < B ∧ ∀ i, i < n → w.cell? ⟨b, off + i * 2, none⟩ = some (.int .i64 (f i).1) ∧ w.cell? ⟨b, off + i * 2 + 1, none⟩ = some (.int .i64 (f i).2) := h hn
theorem PRow.below (h : PRow w B a n f) (hb : Below B w w') : PRow w' B a n f := fun hn => by
  obtain ⟨b, off, e, hlt, hc⟩ := h hn
  exact ⟨b, off, e, hlt, fun i hi => ⟨(hb.cell (p := ⟨b, off + i * 2, none⟩) hlt).trans (hc i hi).1, (hb.cell (p := ⟨b, off + i * 2 + 1, none⟩) hlt).trans (hc i hi).2⟩⟩
theorem PRow.more (h : PRow w B a n f) (hB : B ≤ B') : PRow w B' a n f := fun hn => by
  obtain ⟨b, off, e, hb, hc⟩ := h hn
  exact ⟨b, off, e, by omega, hc⟩
/-- .. over a call that left what was below C, the blocks of the row among it. -/
theorem PRow.over (h : PRow w B a n f) {C : Nat} (hb : Below C w w') (hB : B ≤ C) : PRow w' B a n f := h.below (hb.mono hB)
theorem PRow.alloc (h : PRow w B a n f) (o : Obj) (hB : B ≤ w.heap.size) : PRow (w.alloc o) B a n f := h.below ((Below.refl _ _).alloc hB o)
theorem PRow.empty (w : World) (B : Nat) (a : Option Addr) (f : Nat → Int × Int) : PRow w B a 0 f := fun h => absurd h (by omega)
theorem PRow.congr {g : Nat → Int × Int} (h : PRow w B a n f) (e : ∀ i, i < n → g i = f i) : PRow w B a n g := fun hn => by
  obtain ⟨b, off, ea, hb, hc⟩ := h hn
  exact ⟨b, off, ea, hb, fun i hi => by rw [e i hi]; exact hc i hi⟩
/-- A part of it: from page k on, m of them. -/
theorem PRow.part {b off k m : Nat} (h : PRow w B (some ⟨b, off, none⟩) n f) (hk : k + m ≤ n) : PRow w B (some ⟨b, off + k * 2, none⟩) m (fun i => f (k + i)) := fun hm => by
  obtain ⟨b', off', ea, hb, hc⟩ := h (by omega)
  simp at ea
  obtain ⟨rfl, rfl⟩ := ea
  refine ⟨b, off + k * 2, rfl, hb, fun i hi => ?_⟩
  have := hc (k + i) (by omega)
  rw [show off + k * 2 + i * 2 = off + (k + i) * 2 by omega]
  exact this

/-- Cell j of the pages' cells, and all of them. -/
def pcell (f : Nat → Int × Int) (j : Nat) : Value := .int .i64 (if j % 2 = 0 then (f (j / 2)).1 else (f (j / 2)).2)
def pcells (f : Nat → Int × Int) (n : Nat) : List Value := (List.range (n * 2)).map (pcell f)
theorem pcells_length (f : Nat → Int × Int) (n : Nat) : (pcells f n).length = n * 2 := by simp [pcells]
theorem pcells_at (f : Nat → Int × Int) (n j : Nat) (h : j < n * 2) : (pcells f n)[j]? = some (pcell f j) := by simp [pcells, h]
theorem pcells_fst (f : Nat → Int × Int) (n i : Nat) (h : i < n) : (pcells f n)[i * 2]? = some (.int .i64 (f i).1) := by
  rw [pcells_at f n _ (by omega)]
  simp [pcell]
theorem pcells_snd (f : Nat → Int × Int) (n i : Nat) (h : i < n) : (pcells f n)[i * 2 + 1]? = some (.int .i64 (f i).2) := by
  rw [pcells_at f n _ (by omega)]
  have e1 : (i * 2 + 1) % 2 = 1 := by omega
  have e2 : (i * 2 + 1) / 2 = i := by omega
  simp [pcell, e1, e2]

/-- f, with page i another. -/
def put (f : Nat → Int × Int) (i : Nat) (p : Int × Int) : Nat → Int × Int := fun j => if j = i then p else f j
theorem pcells_put (f : Nat → Int × Int) (n i : Nat) (p : Int × Int) : ((pcells f n).set (i * 2) (.int .i64 p.1)).set (i * 2 + 1) (.int .i64 p.2) = pcells (put f i p) n := by
  apply List.ext_getElem?
  intro j
  by_cases hj : j < n * 2
  · rw [pcells_at _ _ _ hj, List.getElem?_set]
    by_cases h1 : i * 2 + 1 = j
    · subst h1
      have e1 : (i * 2 + 1) % 2 = 1 := by omega
      have e2 : (i * 2 + 1) / 2 = i := by omega
      simp [pcell, e1, e2, put, pcells_length, hj]
    · rw [if_neg h1, List.getElem?_set]
      by_cases h0 : i * 2 = j
      · subst h0
        simp [pcell, put, pcells_length, hj]
      · rw [if_neg h0, pcells_at _ _ _ hj]
        have e : j / 2 ≠ i := by omega
        simp [pcell, put, e]
  · rw [List.getElem?_eq_none (by simp [pcells_length]; omega), List.getElem?_eq_none (by simp [pcells_length]; omega)]

/-- What the call itself made: a row at the head of a block of its own, not frozen, with room for c. -/
def PMine (w : World) (base e g n c : Nat) (f : Nat → Int × Int) : Prop :=
  w.ownsRow base e 2 (.slice (some ⟨g, 0, none⟩) n c) n (pcells f n) ∧ base ≤ g ∧ g < w.heap.size ∧ n ≤ c ∧ c ≤ maxLen

theorem PMine.cells {base e g c : Nat} (h : PMine w base e g n c f) (i : Nat) (hi : i < n) : w.cell? ⟨g, i * 2, none⟩ = some (.int .i64 (f i).1) ∧ w.cell? ⟨g, i * 2 + 1, none⟩ = some (.int .i64 (f i).2) :=
  ⟨(h.1.cellAt (i * 2) (by omega)).trans (pcells_fst f n i hi), (h.1.cellAt (i * 2 + 1) (by omega)).trans (pcells_snd f n i hi)⟩
theorem PMine.row {base e g c : Nat} (h : PMine w base e g n c f) : PRow w w.heap.size (some ⟨g, 0, none⟩) n f := fun _ =>
  ⟨g, 0, rfl, h.2.2.1, fun i hi => by simpa using h.cells i hi⟩
theorem PMine.free {base e g c : Nat} (h : PMine w base e g n c f) (j : Nat) : w.frozen? ⟨g, j, none⟩ = false := h.1.frozenAt j
theorem PMine.stored {base e g c : Nat} (h : PMine w base e g n c f) (i : Nat) (p : Int × Int) : PMine ((w.setCell ⟨g, i * 2, none⟩ (.int .i64 p.1)).setCell ⟨g, i * 2 + 1, none⟩ (.int .i64 p.2)) base e g n c (put f i p) := by
  refine ⟨?_, h.2.1, by simpa [World.setCell] using h.2.2.1, h.2.2.2.1, h.2.2.2.2⟩
  have h1 := (h.1.stored (i * 2) (.int .i64 p.1)).1
  have h2 := (h1.stored (i * 2 + 1) (.int .i64 p.2)).1
  rw [pcells_put] at h2
  exact h2
theorem PMine.congr {base e g c : Nat} {f' : Nat → Int × Int} (h : PMine w base e g n c f) (he : ∀ i, i < n → f' i = f i) : PMine w base e g n c f' := by
  have : pcells f' n = pcells f n := by
    apply List.map_congr_left
    intro j hj
    have := List.mem_range.1 hj
    unfold pcell
    rw [he (j / 2) (by omega)]
  exact ⟨this ▸ h.1, h.2⟩
end

/-- What a law on append leaves is such a row. -/
theorem pmine_of {w : World} {base e n : Nat} {v : Value} {f : Nat → Int × Int} (h : w.ownsRow base e 2 v n (pcells f n)) (hn : 0 < n) :
    ∃ g c, v = .slice (some ⟨g, 0, none⟩) n c ∧ PMine w base e g n c f := by
  rcases h.2 with ⟨_, h0⟩ | ⟨g, c, cur, rfl, hb, hh, hnc, hcm, _⟩
  · omega
  · refine ⟨g, c, rfl, h, hb, ?_, hnc, hcm⟩
    rcases Nat.lt_or_ge g w.heap.size with hlt | hge
    · exact hlt
    · rw [Array.getElem?_eq_none hge] at hh
      cases hh
end Go.Proofs.Ytjppimabhefeeaa.Cl
