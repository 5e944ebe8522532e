/-
  A box of any cells; a slice of operations; a thread in memory: its registers, its cache, its operations.
-/
import Derived.Test.YtggjkagcnhhkjaaDoorLsOwn
namespace Go.Proofs.YtggjkagcnhhkjaaDoor.Rt
open Go.Proofs.YtggjkagcnhhkjaaDoor
open Go.RowKit
set_option maxRecDepth 100000

/-- A block of its own that holds these cells, and may be stored to. -/
structure Box (W : World) (b : Nat) (vs : List Value) : Prop where
  cel : ∀ j v, vs[j]? = some v → W.cell? ⟨b, j, none⟩ = some v
  free : ∀ j, W.frozen? ⟨b, j, none⟩ = false
  lt : b < W.heap.size
/-- A whole value is stored, from a cell on. -/
def puts (b : Nat) : Nat → List Value → World → World
  | _, [], w => w
  | j, v :: vs, w => puts b (j + 1) vs (w.setCell ⟨b, j, none⟩ v)
section
variable {W W' : World} {b k : Nat} {vs us : List Value}
theorem Box.new (w : World) (vs : List Value) (t : TypeId) : Box (w.alloc (.cells vs.toArray t)) w.heap.size vs :=
  ⟨fun j v h => by rw [World.cell?_alloc_new]; simpa using h, fun j => by simp, by simp⟩
theorem Box.same (h : Box W b vs) (hs : W'.heap[b]? = W.heap[b]?) (hl : W.heap.size ≤ W'.heap.size) : Box W' b vs :=
  ⟨fun j v e => (World.cell?_of_block (a := ⟨b, j, none⟩) hs).trans (h.cel j v e), fun j => (World.frozen?_of_block (a := ⟨b, j, none⟩) hs).trans (h.free j), Nat.lt_of_lt_of_le h.lt hl⟩
theorem Box.next (h : Box W b vs) (hb : Below W.heap.size W W') : Box W' b vs := h.same (hb.block b h.lt) hb.size
theorem Box.other (h : Box W b vs) {p : Addr} (hp : ¬ b = p.block) (x : Value) : Box (W.setCell p x) b vs := h.same (Below.heap_setCell _ _ _ _ hp) (by simp [World.setCell])
theorem Box.set (h : Box W b vs) (k : Nat) (x : Value) : Box (W.setCell ⟨b, k, none⟩ x) b (vs.set k x) := by
  refine ⟨fun j v e => ?_, fun j => by rw [World.frozen?_setCell]; exact h.free j, by simpa [World.setCell] using h.lt⟩
  by_cases hk : k = j
  · subst hk
    have hlt : k < vs.length := by
      have := (List.getElem?_eq_some_iff.1 e).1
      simpa using this
    have : v = x := by simpa [hlt] using e.symm
    subst this
    exact World.cell?_setCell_same' _ _ _ (by rw [h.cel k _ (List.getElem?_eq_getElem hlt)]; rfl)
  · rw [List.getElem?_set_ne hk] at e
    rw [World.cell?_setCell_other _ _ _ _ (by intro hh; simp only [Addr.mk.injEq, true_and, and_true] at hh; exact hk hh)]
    exact h.cel j v e
theorem puts_other (b : Nat) : ∀ (vs : List Value) (j : Nat) (w : World) {k : Nat}, ¬ k = b → (puts b j vs w).heap[k]? = w.heap[k]?
  | [], _, _, _, _ => rfl
  | _ :: vs, j, _, _, hk => (puts_other b vs (j + 1) _ hk).trans (Below.heap_setCell _ _ _ _ hk)
theorem puts_size (b : Nat) : ∀ (vs : List Value) (j : Nat) (w : World), (puts b j vs w).heap.size = w.heap.size
  | [], _, _ => rfl
  | _ :: vs, j, _ => (puts_size b vs (j + 1) _).trans (by simp [World.setCell])
theorem below_puts {B : Nat} {a : World} (b : Nat) (hb : B ≤ b) : ∀ (vs : List Value) (j : Nat) (w : World), Below B a w → Below B a (puts b j vs w)
  | [], _, _, h => h
  | v :: vs, j, _, h => below_puts b hb vs (j + 1) _ (h.setCell (p := ⟨b, j, none⟩) hb v)
/-- .. a list of cells, from one on, others. -/
def sets : Nat → List Value → List Value → List Value
  | _, [], us => us
  | j, v :: vs, us => sets (j + 1) vs (us.set j v)
theorem Box.puts : ∀ (vs : List Value) (j : Nat) {us : List Value} {w : World}, Box w b us → Box (puts b j vs w) b (sets j vs us)
  | [], _, _, _, h => h
  | v :: vs, j, _, _, h => Box.puts vs (j + 1) (h.set j v)
theorem Box.putsOther {d : Nat} (h : Box W b vs) (hb : ¬ b = d) (us : List Value) (j : Nat) : Box (Rt.puts d j us W) b vs := h.same (puts_other d us j W hb) (by rw [puts_size]; exact Nat.le_refl _)
end

/-- An operation: its kind, and three numbers. -/
structure O4 where
  k : Int
  a : Int
  b : Int
  c : Int
/-- The slice holds the operations g 0 to g (n - 1), in a block below B. -/
def ORow (w : World) (B : Nat) (a : Option Addr) (n : Nat) (g : Nat → O4) : Prop :=
  0 < n → ∃ b off, a = some ⟨b, off, none⟩ ∧ b < B ∧ ∀ i, i < n → w.cell? ⟨b, off + i * 4, none⟩ = some (.int .i64 (g i).k) ∧ w.cell? ⟨b, off + i * 4 + 1, none⟩ = some (.int .i64 (g i).a) ∧ w.cell? ⟨b, off + i * 4 + 2, none⟩ = some (.int .i64 (g i).b) ∧ w.cell? ⟨b, off + i * 4 + 3, none⟩ = some (.int .i64 (g i).c)
section
variable {w w' : World} {B B' n : Nat} {a : Option Addr} {g : Nat → O4}
theorem ORow.below (h : ORow w B a n g) (hb : Below B w w') : ORow w' B a n g := fun hn => by
  obtain ⟨b, off, e, hlt, hc⟩ := h hn
  exact ⟨b, off, e, hlt, fun i hi => ⟨(hb.cell (p := ⟨b, off + i * 4, none⟩) hlt).trans (hc i hi).1, (hb.cell (p := ⟨b, off + i * 4 + 1, none⟩) hlt).trans (hc i hi).2.1, (hb.cell (p := ⟨b, off + i * 4 + 2, none⟩) hlt).trans (hc i hi).2.2.1, (hb.cell (p := ⟨b, off + i * 4 + 3, none⟩) hlt).trans (hc i hi).2.2.2⟩⟩
theorem ORow.same (h : ORow w B a n g) (hs : 0 < n → ∀ x, a = some x → w'.heap[x.block]? = w.heap[x.block]?) : ORow w' B a n g := fun hn => by
  obtain ⟨b, off, e, hlt, hc⟩ := h hn
  have hb := hs hn _ e
  exact ⟨b, off, e, hlt, fun i hi => ⟨(World.cell?_of_block (a := ⟨b, off + i * 4, none⟩) hb).trans (hc i hi).1, (World.cell?_of_block (a := ⟨b, off + i * 4 + 1, none⟩) hb).trans (hc i hi).2.1, (World.cell?_of_block (a := ⟨b, off + i * 4 + 2, none⟩) hb).trans (hc i hi).2.2.1, (World.cell?_of_block (a := ⟨b, off + i * 4 + 3, none⟩) hb).trans (hc i hi).2.2.2⟩⟩
theorem ORow.more (h : ORow w B a n g) (hB : B ≤ B') : ORow w B' a n g := fun hn => by
  obtain ⟨b, off, e, hb, hc⟩ := h hn
  exact ⟨b, off, e, by omega, hc⟩
theorem ORow.next (h : ORow w w.heap.size a n g) (hb : Below w.heap.size w w') : ORow w' w'.heap.size a n g := (h.below hb).more hb.size
theorem ORow.empty (w : World) (B : Nat) (a : Option Addr) (g : Nat → O4) : ORow w B a 0 g := fun h => absurd h (by omega)
/-- The operations' cells. -/
def o4c (x : O4) : Nat → Value
  | 0 => .int .i64 x.k
  | 1 => .int .i64 x.a
  | 2 => .int .i64 x.b
  | _ => .int .i64 x.c
def ocell (g : Nat → O4) (j : Nat) : Value := o4c (g (j / 4)) (j % 4)
def ocells (g : Nat → O4) (n : Nat) : List Value := (List.range (n * 4)).map (ocell g)
theorem ocells_length (g : Nat → O4) (n : Nat) : (ocells g n).length = n * 4 := by simp [ocells]
theorem ocells_get (g : Nat → O4) (n j : Nat) (h : j < n * 4) : (ocells g n)[j]? = some (ocell g j) := by simp [ocells, h]
theorem ocells_at (g : Nat → O4) (n i r : Nat) (h : i < n) (hr : r < 4) : (ocells g n)[i * 4 + r]? = some (o4c (g i) r) := by
  rw [ocells_get g n _ (by omega), ocell, show (i * 4 + r) / 4 = i by omega, show (i * 4 + r) % 4 = r by omega]
theorem ocells_one {u : Value} (h : u ∈ ocells g n) : ∃ z, u = .int .i64 z := by
  obtain ⟨j, _, rfl⟩ := List.mem_map.1 h
  unfold ocell o4c
  split <;> exact ⟨_, rfl⟩
theorem ORow.src {b off : Nat} (hc : ∀ i, i < n → w.cell? ⟨b, off + i * 4, none⟩ = some (.int .i64 (g i).k) ∧ w.cell? ⟨b, off + i * 4 + 1, none⟩ = some (.int .i64 (g i).a) ∧ w.cell? ⟨b, off + i * 4 + 2, none⟩ = some (.int .i64 (g i).b) ∧ w.cell? ⟨b, off + i * 4 + 3, none⟩ = some (.int .i64 (g i).c))
    (j : Nat) (u : Value) (hj : (ocells g n)[j]? = some u) : w.cell? ⟨b, off + j, none⟩ = some u := by
  have hlt : j < n * 4 := by
    have := (List.getElem?_eq_some_iff.1 hj).1
    simpa [ocells] using this
  obtain ⟨h0, h1, h2, h3⟩ := hc (j / 4) (by omega)
  have e := ocells_at g n (j / 4) (j % 4) (by omega) (by omega)
  rw [show j / 4 * 4 + j % 4 = j by omega, hj] at e
  cases e
  rcases (show j % 4 = 0 ∨ j % 4 = 1 ∨ j % 4 = 2 ∨ j % 4 = 3 by omega) with r | r | r | r <;> rw [r]
  · rw [show off + j = off + j / 4 * 4 by omega]; exact h0
  · rw [show off + j = off + j / 4 * 4 + 1 by omega]; exact h1
  · rw [show off + j = off + j / 4 * 4 + 2 by omega]; exact h2
  · rw [show off + j = off + j / 4 * 4 + 3 by omega]; exact h3
theorem orow_of {e : TypeId} {base : Nat} {v : Value} (h : w.ownsRow base e 4 v n (ocells g n)) : ∃ s : Ls.Sl, v = .slice s.a n s.c ∧ s.n = n ∧ ORow w w.heap.size s.a n g ∧ n ≤ s.c ∧ s.c ≤ maxLen ∧ (0 < n → ∀ x, s.a = some x → base ≤ x.block) := by
  rcases h.2 with ⟨rfl, h0⟩ | ⟨g', c, cur, rfl, hb, hh, hnc, hcm, _⟩
  · subst h0
    exact ⟨⟨none, 0, 0⟩, rfl, rfl, ORow.empty _ _ _ _, Nat.le_refl _, by show (0 : Nat) ≤ maxLen; unfold maxLen; omega, fun h => absurd h (by omega)⟩
  · refine ⟨⟨some ⟨g', 0, none⟩, n, c⟩, rfl, rfl, fun hn => ⟨g', 0, rfl, (Array.getElem?_eq_some_iff.1 hh).1, fun i hi => ?_⟩, hnc, hcm, fun _ x hx => by cases hx; exact hb⟩
    have t := fun r (hr : r < 4) => (h.cellAt (i * 4 + r) (by omega)).trans (ocells_at g n i r hi hr)
    simp only [Nat.zero_add]
    exact ⟨t 0 (by decide), t 1 (by decide), t 2 (by decide), t 3 (by decide)⟩
end

/-- A thread: registers, cache and operations by where they lie. -/
structure Ts where
  lv : Bool
  r : Nat → Int
  u : Nat → Ls.Sl
  ep : Int
  sg : Int
  rt : Int
  o : Ls.Sl
  pc : Int
  x : Int
  y : Int
/-- Its cells. -/
def tv (t : Ts) : List Value := [.bool t.lv, .int .i64 (t.r 0), .int .i64 (t.r 1), .int .i64 (t.r 2), .int .i64 (t.r 3), .slice (t.u 0).a (t.u 0).n (t.u 0).c, .slice (t.u 1).a (t.u 1).n (t.u 1).c, .slice (t.u 2).a (t.u 2).n (t.u 2).c, .int .i64 t.ep, .int .i64 t.sg, .int .i64 t.rt, .slice t.o.a t.o.n t.o.c, .int .i64 t.pc, .int .i64 t.x, .int .i64 t.y]
def noT : Ts := ⟨false, fun _ => 0, Ls.noSl, 0, 0, 0, ⟨none, 0, 0⟩, 0, 0, 0⟩
/-- .. with other registers; with a cache and operations that lie elsewhere. -/
def tr (t : Ts) (r : Nat → Int) : Ts := ⟨t.lv, r, t.u, t.ep, t.sg, t.rt, t.o, t.pc, t.x, t.y⟩
def tw (t : Ts) (u : Nat → Ls.Sl) (o : Ls.Sl) : Ts := ⟨t.lv, t.r, u, t.ep, t.sg, t.rt, o, t.pc, t.x, t.y⟩
/-- What a thread has in memory. -/
structure Th (w : World) (B : Nat) (t : Ts) (F : Nat → List Int) (g : Nat → O4) : Prop where
  c : Ls.L3 w B t.u F
  o : ORow w B t.o.a t.o.n g
section
variable {w w' : World} {B B' : Nat} {t : Ts} {F : Nat → List Int} {g : Nat → O4}
theorem Th.next (h : Th w w.heap.size t F g) (hb : Below w.heap.size w w') : Th w' w'.heap.size t F g := ⟨h.c.next hb, h.o.next hb⟩
theorem Th.below (h : Th w B t F g) (hb : Below B w w') : Th w' B t F g := ⟨h.c.below hb, h.o.below hb⟩
theorem Th.over (h : Th w w.heap.size t F g) (hb : Below w.heap.size w w') : Th w' w'.heap.size t F g := h.next hb
theorem Th.regs (h : Th w B t F g) (r : Nat → Int) : Th w B (tr t r) F g := ⟨h.c, h.o⟩
end
/-- A thread in a box. -/
theorem tbox_set {W : World} {b : Nat} {t : Ts} (h : Box W b (tv t)) {k : Nat} (hk : k < 4) (a : Int) : Box (W.setCell ⟨b, 1 + k, none⟩ (.int .i64 a)) b (tv (tr t (Ls.upd t.r k a))) := by
  have := h.set (1 + k) (.int .i64 a)
  match k, hk with
  | 0, _ => exact this
  | 1, _ => exact this
  | 2, _ => exact this
  | 3, _ => exact this
theorem tbox_reg {W : World} {b : Nat} {t : Ts} (h : Box W b (tv t)) {k : Nat} (hk : k < 4) : W.cell? ⟨b, 1 + k, none⟩ = some (.int .i64 (t.r k)) := by
  match k, hk with
  | 0, _ => exact h.cel 1 _ rfl
  | 1, _ => exact h.cel 2 _ rfl
  | 2, _ => exact h.cel 3 _ rfl
  | 3, _ => exact h.cel 4 _ rfl
end Go.Proofs.YtggjkagcnhhkjaaDoor.Rt
