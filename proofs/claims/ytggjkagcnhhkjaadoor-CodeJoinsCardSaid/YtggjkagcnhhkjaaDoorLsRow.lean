/-
  Lists of numbers in memory: a slice that is a walk's own, three of them side by side (a value of lists), and the box that such a value lies in.
-/
import Derived.Test.YtggjkagcnhhkjaaDoorRows
import Derived.Test.YtggjkagcnhhkjaaDoorRow
import Derived.Laws.CopyOwn
import Derived.Deep.AppendLies
import Derived.Deep.Upon
import Derived.WalkSmall
import Derived.RegionTactic
import Derived.ChangeAlike
import Derived.Deep.QuietTactic
import Derived.BigQuiet
namespace Go.Proofs.YtggjkagcnhhkjaaDoor.Ls
open Go.Proofs.YtggjkagcnhhkjaaDoor
set_option maxRecDepth 100000
open Go.RowKit

theorem info_int1 : (Tryd.prog.info? 3).map (fun i => (i.zero, i.size, i.bytes)) = some (some (.int .i64 0), 1, 8) := by kernel_rfl
theorem size_int1 : (Tryd.prog.info? 3).map (·.size) = some 1 := by kernel_rfl

/-- A block that was there holds what it held. -/
theorem old_cell {a z : World} (h : Below a.heap.size a z) : ∀ i k, i < a.heap.size → z.cell? ⟨i, k, none⟩ = a.cell? ⟨i, k, none⟩ := fun i k hi => h.cell (p := ⟨i, k, none⟩) hi
theorem old_mark {a z : World} (h : Below a.heap.size a z) : ∀ i k, i < a.heap.size → z.frozen? ⟨i, k, none⟩ = a.frozen? ⟨i, k, none⟩ := fun i k hi => h.frozen (p := ⟨i, k, none⟩) hi
theorem below_drawn {B : Nat} {a w : World} (h : Below B a w) (n : Nat) : Below B a (w.drewN n) := ⟨h.os, h.tape, h.output, h.size, h.block⟩

theorem ownBlock_slice (a : Option Addr) (n c : Nat) : (Value.slice a n c).ownBlock = a.map (·.block) := by cases a <;> rfl
theorem owns_row {w : World} {base e n : Nat} {v : Value} {xs : List Int} (h : w.ownsRow base e 1 v n (xs.map (Value.int .i64))) :
    ∃ a c, v = .slice a n c ∧ Row w w.heap.size a n xs ∧ n ≤ c ∧ c ≤ maxLen := by
  have hl : xs.length = n := by simpa using h.1
  rcases h.2 with ⟨rfl, h0⟩ | ⟨g, c, cur, rfl, hb, hh, hnc, hcm, _⟩
  · subst h0
    obtain rfl : xs = [] := List.eq_nil_of_length_eq_zero (by omega)
    exact ⟨none, 0, rfl, Row.none_ _ _, Nat.le_refl _, by unfold maxLen; omega⟩
  · have hg := (Array.getElem?_eq_some_iff.1 hh).1
    have hm : Mine w base e g n c xs := ⟨h, hb, hg, hnc, hcm⟩
    exact ⟨_, c, rfl, hm.row, hnc, hcm⟩
theorem World.ownsRow.same {w w' : World} {base e size n : Nat} {v : Value} {xs : List Value} (h : w.ownsRow base e size v n xs) (hs : ∀ g, v.ownBlock = some g → g < w.heap.size → w'.heap[g]? = w.heap[g]?) : w'.ownsRow base e size v n xs := by
  refine ⟨h.1, ?_⟩
  rcases h.2 with h2 | ⟨g, cap, cur, rfl, hb, hh, hr⟩
  · exact .inl h2
  · exact .inr ⟨g, cap, cur, rfl, hb, (hs g rfl (Array.getElem?_eq_some_iff.1 hh).1).trans hh, hr⟩

theorem _root_.Go.Proofs.YtggjkagcnhhkjaaDoor.Row.grown {w w' : World} {B n : Nat} {a : Option Addr} {xs : List Int} {row : Option Nat} (h : Row w B a n xs) (hg : w.grownBy w' row) (hne : ∀ x, a = some x → some x.block ≠ row) : Row w' B a n xs :=
  ⟨h.1, fun hn => by
    obtain ⟨b, off, rfl, hlt, hc⟩ := h.2 hn
    exact ⟨b, off, rfl, hlt, fun i hi => hg.cell (hc i hi) (hne ⟨b, off, none⟩ rfl)⟩⟩

/-- A slice: where it lies, its length, its capacity. -/
structure Sl where
  a : Option Addr
  n : Nat
  c : Nat
/-- .. of a list of such, with another one at a place. -/
def upd {α : Type} (u : Nat → α) (k : Nat) (s : α) : Nat → α := fun j => if j = k then s else u j
theorem upd_same {α : Type} (u : Nat → α) (k : Nat) (s : α) : upd u k s k = s := if_pos rfl
theorem upd_other {α : Type} (u : Nat → α) {k j : Nat} (s : α) (h : ¬ j = k) : upd u k s j = u j := if_neg h

/-- The three slices of a value of lists are rows below B. -/
def L3 (w : World) (B : Nat) (u : Nat → Sl) (f : Nat → List Int) : Prop := ∀ j, j < 3 → Row w B (u j).a (u j).n (f j) ∧ (u j).n ≤ (u j).c ∧ (u j).c ≤ maxLen
section
variable {w w' : World} {B B' base : Nat} {u : Nat → Sl} {f : Nat → List Int}
theorem L3.more (h : L3 w B u f) (hB : B ≤ B') : L3 w B' u f := fun j hj => ⟨(h j hj).1.more hB, (h j hj).2⟩
theorem L3.below (h : L3 w B u f) (hb : Below B w w') : L3 w' B u f := fun j hj => ⟨(h j hj).1.below hb, (h j hj).2⟩
theorem L3.over (h : L3 w B u f) {C : Nat} (hb : Below C w w') (hB : B ≤ C) : L3 w' B u f := h.below (hb.mono hB)
theorem L3.next (h : L3 w w.heap.size u f) (hb : Below w.heap.size w w') : L3 w' w'.heap.size u f := (h.below hb).more hb.size
theorem L3.len (h : L3 w B u f) (j : Nat) (hj : j < 3) : (u j).n = (f j).length := (h j hj).1.1.symm
theorem L3.drewN (h : L3 w B u f) (k : Nat) : L3 (w.drewN k) B u f := h
theorem L3.grown {row : Option Nat} (h : L3 w B u f) (hg : w.grownBy w' row) (hne : ∀ j x, j < 3 → (u j).a = some x → some x.block ≠ row) : L3 w' B u f :=
  fun j hj => ⟨(h j hj).1.grown hg (fun x hx => hne j x hj hx), (h j hj).2⟩
def noSl : Nat → Sl := fun _ => ⟨none, 0, 0⟩
def noLists : Nat → List Int := fun _ => []
theorem L3.none_ (w : World) (B : Nat) : L3 w B noSl noLists := fun _ _ => ⟨Row.none_ _ _, Nat.le_refl _, by show (0 : Nat) ≤ maxLen; unfold maxLen; omega⟩
theorem L3.set (h : L3 w B u f) (k : Nat) (s : Sl) (xs : List Int) (hs : Row w B s.a s.n xs) (h1 : s.n ≤ s.c) (h2 : s.c ≤ maxLen) : L3 w B (upd u k s) (upd f k xs) := fun j hj => by
  by_cases e : j = k
  · subst e
    rw [upd_same, upd_same]
    exact ⟨hs, h1, h2⟩
  · rw [upd_other _ _ e, upd_other _ _ e]
    exact h j hj

/-- .. each is the walk's own, in a block of its own. -/
structure Own3 (w : World) (base : Nat) (u : Nat → Sl) (f : Nat → List Int) : Prop where
  own : ∀ j, j < 3 → w.ownsRow base 3 1 (.slice (u j).a (u j).n (u j).c) (u j).n ((f j).map (Value.int .i64))
  apart : ∀ i j, i < 3 → j < 3 → ¬ i = j → ∀ x y, (u i).a = some x → (u j).a = some y → ¬ x.block = y.block
theorem Own3.l3 (h : Own3 w base u f) : L3 w w.heap.size u f := fun j hj => by
  obtain ⟨a, c, e, hr, h1, h2⟩ := owns_row (h.own j hj)
  simp only [Value.slice.injEq, true_and] at e
  obtain ⟨rfl, rfl⟩ := e
  exact ⟨hr, h1, h2⟩
theorem Own3.block (h : Own3 w base u f) (j : Nat) (hj : j < 3) {x : Addr} (hx : (u j).a = some x) : base ≤ x.block ∧ x.block < w.heap.size :=
  (h.own j hj).lt x.block (by rw [ownBlock_slice, hx]; rfl)
theorem Own3.same (h : Own3 w base u f) (hs : ∀ j x, j < 3 → (u j).a = some x → w'.heap[x.block]? = w.heap[x.block]?) : Own3 w' base u f :=
  ⟨fun j hj => World.ownsRow.same (h.own j hj) (fun g hg _ => by
    rw [ownBlock_slice] at hg
    cases hx : (u j).a with
    | none => rw [hx] at hg; cases hg
    | some x =>
      rw [hx] at hg
      simp at hg
      subst hg
      exact hs j x hj hx), h.apart⟩
theorem Own3.next (h : Own3 w base u f) (hb : Below w.heap.size w w') : Own3 w' base u f := h.same (fun j _ hj hx => hb.block _ (h.block j hj hx).2)
theorem Own3.alloc (h : Own3 w base u f) (o : Obj) : Own3 (w.alloc o) base u f := h.next ((Below.refl _ _).alloc (Nat.le_refl _) o)
theorem Own3.drewN (h : Own3 w base u f) (k : Nat) : Own3 (w.drewN k) base u f := ⟨h.own, h.apart⟩
theorem Own3.setBelow (h : Own3 w base u f) {p : Addr} (hp : p.block < base) (x : Value) : Own3 (w.setCell p x) base u f :=
  h.same (fun j _ hj hx => Below.heap_setCell _ _ _ _ (by have := (h.block j hj hx).1; omega))
theorem Own3.setAbove (h : Own3 w base u f) {p : Addr} (hp : ∀ j x, j < 3 → (u j).a = some x → ¬ x.block = p.block) (x : Value) : Own3 (w.setCell p x) base u f :=
  h.same (fun j _ hj hx => Below.heap_setCell _ _ _ _ (hp j _ hj hx))
/-- One of them is turned by append: it lies where it lay, or in a new block. -/
theorem Own3.appended (h : Own3 w base u f) {k : Nat} (hk : k < 3) (s : Sl) {xs : List Int} (ho : w'.ownsRow base 3 1 (.slice s.a s.n s.c) s.n (xs.map (Value.int .i64)))
    (hg : w.grownBy w' (Value.slice (u k).a (u k).n (u k).c).ownBlock) (hat : ∀ x, s.a = some x → (Value.slice (u k).a (u k).n (u k).c).ownBlock = some x.block ∨ w.heap.size ≤ x.block) : Own3 w' base (upd u k s) (upd f k xs) := by
  have far : ∀ j x, j < 3 → ¬ j = k → (u j).a = some x → some x.block ≠ (Value.slice (u k).a (u k).n (u k).c).ownBlock ∧ ∀ y, s.a = some y → ¬ x.block = y.block := by
    intro j x hj hne hx
    have h1 : some x.block ≠ (Value.slice (u k).a (u k).n (u k).c).ownBlock := by
      rw [ownBlock_slice]
      cases hy : (u k).a with
      | none => simp
      | some y =>
        have := h.apart j k hj hk hne x y hx hy
        simpa using this
    refine ⟨h1, fun y hy => ?_⟩
    rcases hat y hy with e | e
    · intro e'
      rw [e'] at h1
      exact h1 e.symm
    · have := (h.block j hj hx).2
      omega
  refine ⟨fun j hj => ?_, fun i j hi hj hij x y hx hy => ?_⟩
  · by_cases e : j = k
    · subst e
      rw [upd_same, upd_same]
      exact ho
    · rw [upd_other _ _ e, upd_other _ _ e]
      refine (h.own j hj).kept hg ?_
      rw [ownBlock_slice]
      cases hx : (u j).a with
      | none => exact .inl rfl
      | some x => exact .inr ((far j x hj e hx).1)
  · by_cases ei : i = k
    · subst ei
      rw [upd_same] at hx
      rw [upd_other _ _ (fun e => hij e.symm)] at hy
      exact fun e => (far j y hj (fun e => hij e.symm) hy).2 x hx e.symm
    · rw [upd_other _ _ ei] at hx
      by_cases ej : j = k
      · subst ej
        rw [upd_same] at hy
        exact (far i x hi ei hx).2 y hy
      · rw [upd_other _ _ ej] at hy
        exact h.apart i j hi hj hij x y hx hy

/-- The box of a value of lists: three cells that are not frozen. -/
structure Box3 (w : World) (b : Nat) (u : Nat → Sl) : Prop where
  cell : ∀ j, j < 3 → w.cell? ⟨b, j, none⟩ = some (.slice (u j).a (u j).n (u j).c)
  free : ∀ j, w.frozen? ⟨b, j, none⟩ = false
  lt : b < w.heap.size
theorem Box3.same {b : Nat} (h : Box3 w b u) (hs : w'.heap[b]? = w.heap[b]?) (hl : w.heap.size ≤ w'.heap.size) : Box3 w' b u :=
  ⟨fun j hj => (World.cell?_of_block (a := ⟨b, j, none⟩) hs).trans (h.cell j hj), fun j => (World.frozen?_of_block (a := ⟨b, j, none⟩) hs).trans (h.free j), Nat.lt_of_lt_of_le h.lt hl⟩
theorem Box3.below {b : Nat} (h : Box3 w b u) (hb : Below B w w') (hB : b < B) : Box3 w' b u := h.same (hb.block b hB) hb.size
theorem Box3.next {b : Nat} (h : Box3 w b u) (hb : Below w.heap.size w w') : Box3 w' b u := h.below hb h.lt
theorem Box3.alloc {b : Nat} (h : Box3 w b u) (o : Obj) : Box3 (w.alloc o) b u := h.next ((Below.refl _ _).alloc (Nat.le_refl _) o)
theorem Box3.grown {b : Nat} {row : Option Nat} (h : Box3 w b u) (hg : w.grownBy w' row) (hne : some b ≠ row) : Box3 w' b u := h.same (hg.block b h.lt hne) hg.size
theorem Box3.other {b : Nat} (h : Box3 w b u) {p : Addr} (hp : ¬ p.block = b) (x : Value) : Box3 (w.setCell p x) b u := h.same (Below.heap_setCell _ _ _ _ (fun e => hp e.symm)) (by simp [World.setCell])
theorem Box3.drewN {b : Nat} (h : Box3 w b u) (k : Nat) : Box3 (w.drewN k) b u := ⟨h.cell, h.free, h.lt⟩
theorem Box3.set {b : Nat} (h : Box3 w b u) {k : Nat} (hk : k < 3) (s : Sl) : Box3 (w.setCell ⟨b, k, none⟩ (.slice s.a s.n s.c)) b (upd u k s) := by
  refine ⟨fun j hj => ?_, fun j => by rw [World.frozen?_setCell]; exact h.free j, by simpa [World.setCell] using h.lt⟩
  by_cases e : j = k
  · subst e
    rw [upd_same]
    exact World.cell?_setCell_same' _ _ _ (by rw [h.cell j hj]; rfl)
  · rw [upd_other _ _ e]
    rw [World.cell?_setCell_other _ _ _ _ (by intro hh; simp only [Addr.mk.injEq, true_and, and_true] at hh; omega)]
    exact h.cell j hj
theorem Box3.congr {b : Nat} {v : Nat → Sl} (h : Box3 w b u) (e : ∀ j, j < 3 → u j = v j) : Box3 w b v := ⟨fun j hj => by rw [← e j hj]; exact h.cell j hj, h.free, h.lt⟩
/-- A whole value is stored into its box. -/
def put3 (w : World) (b : Nat) (v : Nat → Sl) : World :=
  ((w.setCell ⟨b, 0, none⟩ (.slice (v 0).a (v 0).n (v 0).c)).setCell ⟨b, 1, none⟩ (.slice (v 1).a (v 1).n (v 1).c)).setCell ⟨b, 2, none⟩ (.slice (v 2).a (v 2).n (v 2).c)
theorem Box3.put {b : Nat} (h : Box3 w b u) (v : Nat → Sl) : Box3 (put3 w b v) b v :=
  (((h.set (by decide) (v 0)).set (by decide) (v 1)).set (by decide) (v 2)).congr (fun j hj => by
    match j, hj with
    | 0, _ => rfl
    | 1, _ => rfl
    | 2, _ => rfl)
theorem put3_other (w : World) {b k : Nat} (v : Nat → Sl) (h : ¬ k = b) : (put3 w b v).heap[k]? = w.heap[k]? :=
  ((Below.heap_setCell _ _ _ _ h).trans (Below.heap_setCell _ _ _ _ h)).trans (Below.heap_setCell _ _ _ _ h)
theorem put3_size (w : World) (b : Nat) (v : Nat → Sl) : (put3 w b v).heap.size = w.heap.size := by simp [put3, World.setCell]
theorem below_put3 {a : World} (h : Below B a w) {b : Nat} (hb : B ≤ b) (v : Nat → Sl) : Below B a (put3 w b v) := ((h.setCell (p := ⟨b, 0, none⟩) hb _).setCell (p := ⟨b, 1, none⟩) hb _).setCell (p := ⟨b, 2, none⟩) hb _
theorem Own3.put (h : Own3 w base u f) {b : Nat} (hb : ∀ j x, j < 3 → (u j).a = some x → ¬ x.block = b) (v : Nat → Sl) : Own3 (put3 w b v) base u f := h.same (fun j x hj hx => put3_other _ _ (hb j x hj hx))
theorem Box3.putOther {b d : Nat} (h : Box3 w b u) (hb : ¬ b = d) (v : Nat → Sl) : Box3 (put3 w d v) b u := h.same (put3_other _ _ hb) (by rw [put3_size]; exact Nat.le_refl _)
theorem L3.put (h : L3 w B u f) {b : Nat} (hb : B ≤ b) (v : Nat → Sl) : L3 (put3 w b v) B u f := h.below (below_put3 (Below.refl _ _) hb v)
end
theorem Box3.new (w : World) (u : Nat → Sl) (t : TypeId) : Box3 (w.alloc (.cells #[.slice (u 0).a (u 0).n (u 0).c, .slice (u 1).a (u 1).n (u 1).c, .slice (u 2).a (u 2).n (u 2).c] t)) w.heap.size u := by
  refine ⟨fun j hj => ?_, fun j => ?_, by simp⟩
  · match j, hj with
    | 0, _ => simp [go_sem]
    | 1, _ => simp [go_sem]
    | 2, _ => simp [go_sem]
  · simp [go_sem]

/-- Two slices of one length, the second one's numbers copied into the first one, a walk's own. -/
theorem list_copied {w : World} {ops : Array Oper} {rest : List Oper} {o : Oper} {a : Act} {Q : Exit → Act → World → Prop} (hgd : o.guard = none) (d s : Operand)
    (ho : o.op = .call { callee := .builtin .copy, args := #[d, s], argTypes := #[44, 44] }) {g n c B base : Nat} {A : Option Addr} {xs : List Int} {zs : List Value}
    (hd : a.eval d = .slice (some ⟨g, 0, none⟩) n n) (hs : a.eval s = .slice A n c) (h : w.ownsRow base 3 1 (.slice (some ⟨g, 0, none⟩) n n) n zs) (hr : Row w B A n xs)
    (hK : ∀ w', w'.ownsRow base 3 1 (.slice (some ⟨g, 0, none⟩) n n) n (xs.map (Value.int .i64)) → w.grownBy w' (some g) → wpList Tryd.prog ops Q rest (a.put o.dst (goInt n)) w') : wpList Tryd.prog ops Q (o :: rest) a w := by
  have hl := hr.1
  have hb := (h.lt g rfl).1
  rcases h.2 with ⟨e, _⟩ | ⟨g', cap, cur, e, _, hh, hnc, hcm, hsz, htk⟩
  · cases e
  · simp only [Value.slice.injEq, Option.some.injEq, Addr.mk.injEq, and_true, true_and] at e
    obtain ⟨rfl, rfl⟩ := e
    by_cases h0 : n = 0
    · subst h0
      obtain rfl := hr.zero
      refine wpList_copy_nothing hgd d s 44 44 ho 3 Tryd.underlying44 size_int1 _ _ 0 0 0 c hd hs (by simp) ?_
      refine hK w ⟨rfl, .inr ⟨g, 0, cur, rfl, hb, hh, hnc, hcm, hsz, by simp⟩⟩ ⟨rfl, rfl, rfl, Nat.le_refl _, fun _ _ _ => rfl⟩
    · obtain ⟨b, off, rfl, _, hc⟩ := hr.2 (by omega)
      have hh' : w.heap[g]? = some (.cells cur 3 (0, 0)) := hh
      refine wpList_copy_own hgd d s 44 44 ho 3 Tryd.underlying44 size_int1 g 0 n n ⟨b, off, none⟩ n c hd hs cur 3 hh' (xs.map (Value.int .i64)) (by simp [hl]) ?_ (by simp; omega) ?_ ?_
      · intro j v hj
        have hjn : j < xs.length := by
          have := (List.getElem?_eq_some_iff.1 hj).1
          simpa using this
        rw [Addr.add_lit, hc j (by omega)]
        rw [← hj]
        simp [List.getD, hjn]
      · intro v hv
        obtain ⟨x, _, rfl⟩ := List.mem_map.1 hv
        rfl
      · have el : (xs.map (Value.int .i64)).length = n := by simp [hl]
        have ed : cur.toList.drop (0 + (xs.map (Value.int .i64)).length) = [] := List.drop_eq_nil_of_le (by simp; omega)
        rw [ed, List.take_zero, List.nil_append, List.append_nil, el]
        refine hK _ ⟨by simp [hl], .inr ⟨g, n, _, rfl, hb, setRow_heap w g _ _ _ _ hh', Nat.le_refl _, hcm, by simp [hl], ?_⟩⟩ ⟨rfl, rfl, rfl, by simp [World.setRow], fun k _ hk => setRow_other w g k _ (fun e => hk (by rw [e]))⟩
        rw [Nat.mul_one]
        exact List.take_of_length_le (by simp [hl])
end Go.Proofs.YtggjkagcnhhkjaaDoor.Ls
