/-
  Merged texts: HpApp, HpSlab, HpOwn7, HaOwn, HaG, HpIns, HpLess, HpSix, AlIns, ShIns, RtIns.
-/
import Derived.Test.YtgmkomnoiffapaaGreatDoorHpNE
import Derived.Test.YtgmkomnoiffapaaGreatDoorHpNA
import Derived.Test.YtgmkomnoiffapaaGreatDoorHpNJ
import Derived.Test.YtgmkomnoiffapaaGreatDoorHpNH
import Derived.Test.YtgmkomnoiffapaaGreatDoorCards
import Derived.Test.YtgmkomnoiffapaaGreatDoorTie
import Derived.Deep.SlicePairs
import Derived.Deep.Slices
import Derived.Deep.Fields
import Derived.ProofKit
import Derived.OpenShut
import Derived.ShutString
import Derived.ChangeOld
import Derived.LaidMore
import Derived.Lib.LaidTab
import Derived.Stop.Joined
import Derived.SevenTiedAt
import Derived.Laws.IdiomArrays
import Derived.Test.YtgmkomnoiffapaaGreatDoorRows
import Derived.WalkKit
import Derived.Test.YtgmkomnoiffapaaGreatDoorHpNG
import Derived.Test.YtgmkomnoiffapaaGreatDoorHpNF
section
namespace Go.Proofs.YtgmkomnoiffapaaGreatDoor
open Go.RowKit
set_option maxRecDepth 100000

/-- What an append to nothing leaves. -/
structure PNew (w : World) (n : Nat) (f : Nat → Int × Int) (p : Option Addr) (w' : World) : Prop where
  row : Cl.PRow w' w'.heap.size p n f
  bel : Below w.heap.size w w'
  lies : ∀ x, p = some x → w.heap.size ≤ x.block
  high : ∀ x, p = some x → x.block < w'.heap.size
structure BNew (w : World) (n : Nat) (f : Nat → Bool) (p : Option Addr) (w' : World) : Prop where
  row : BRow w' w'.heap.size p n f
  bel : Below w.heap.size w w'
  lies : ∀ x, p = some x → w.heap.size ≤ x.block
  free : ∀ x, p = some x → x = ⟨x.block, 0, none⟩ ∧ (∀ i, w'.frozen? ⟨x.block, i, none⟩ = false) ∧ x.block < w'.heap.size
theorem run_pnew {w : World} {B n c : Nat} {A : Option Addr} {f : Nat → Int × Int} (ty : TypeId) (hr : Cl.PRow w B A n f) (hn : n ≤ 1000) :
    ∃ p cp w', (Builtin.append_ #[23, 23] ty #[.slice none 0 0, .slice A n c]).run Tryz.prog w = .ok (.slice p n cp) w' ∧ PNew w n f p w' := by
  obtain ⟨i0, hi, hz0, hz1, hz2⟩ := info_parts Cl.info_page
  by_cases h0 : n = 0
  · subst h0
    have hsrc : Src Tryz.prog i0.size 23 (.slice A 0 c) 0 [] w := by
      rw [hz1]
      cases A with
      | none => exact Src.ofNil _ Tryz.underlying23 c
      | some a => exact Src.ofSlice _ Tryz.underlying23 a 0 c [] rfl (by simp) (by simp)
    exact ⟨none, 0, w, run_append_nothing w 23 23 ty 81 i0 Tryz.underlying23 hi none 0 0 (Nat.le_refl _) _ hsrc, ⟨fun h => absurd h (by omega), Below.refl _ _, (fun x hx => by cases hx), fun x hx => by cases hx⟩⟩
  · obtain ⟨b, off, rfl, _, hc⟩ := hr (by omega)
    obtain ⟨g, cap, w', hrun, r1, r2, r3, r4⟩ := run_append_lies (P := Tryz.prog) w 23 ty w.heap.size 81 i0 (.agg #[.int .i64 0, .int .i64 0]) 2 16 Tryz.underlying23 hi hz0 hz1 hz2 rfl (by decide) _ _ _ (World.ownsRow_nil w w.heap.size 81 2) ⟨b, off, none⟩ n c (Cl.pcells f n) (Cl.pcells_length f n) (by
      intro j u hj
      rw [Addr.add_lit]
      exact Cl.pcells_of hc j u hj) Cl.pcells_one (by omega) (by unfold maxLen; omega) (by omega) (Nat.le_refl _) w.heap.size rfl
    have hown : w'.ownsRow w.heap.size 81 2 (.slice (some ⟨g, 0, none⟩) n cap) n (Cl.pcells f n) := by simpa using r1
    obtain ⟨g', c', e, hm⟩ := Cl.pmine_of hown (by omega)
    simp only [Value.slice.injEq, Option.some.injEq, Addr.mk.injEq, and_true, true_and] at e
    obtain ⟨rfl, rfl⟩ := e
    refine ⟨some ⟨g, 0, none⟩, cap, w', by simpa using hrun, ⟨hm.row, (Below.refl _ _).grown r2 (Nat.le_refl _) (by intro j hj; cases hj), fun x hx => ?_, fun x hx => ?_⟩⟩
    · cases hx
      exact hm.2.1
    · cases hx
      exact hm.2.2.1
theorem run_bnew {w : World} {B n c : Nat} {A : Option Addr} {f : Nat → Bool} (ty : TypeId) (hr : BRow w B A n f) (hn : n ≤ 1000000) :
    ∃ p cp w', (Builtin.append_ #[26, 26] ty #[.slice none 0 0, .slice A n c]).run Tryz.prog w = .ok (.slice p n cp) w' ∧ BNew w n f p w' := by
  obtain ⟨i0, hi, hz0, hz1, hz2⟩ := info_parts info_boolC
  by_cases h0 : n = 0
  · subst h0
    have hsrc : Src Tryz.prog i0.size 26 (.slice A 0 c) 0 [] w := by
      rw [hz1]
      cases A with
      | none => exact Src.ofNil _ Tryz.underlying26 c
      | some a => exact Src.ofSlice _ Tryz.underlying26 a 0 c [] rfl (by simp) (by simp)
    exact ⟨none, 0, w, run_append_nothing w 26 26 ty 4 i0 Tryz.underlying26 hi none 0 0 (Nat.le_refl _) _ hsrc, ⟨fun h => absurd h (by omega), Below.refl _ _, (fun x hx => by cases hx), fun x hx => by cases hx⟩⟩
  · obtain ⟨b, off, rfl, _, hc⟩ := hr (by omega)
    obtain ⟨g, cap, w', hrun, r1, r2, r3, r4⟩ := run_append_lies (P := Tryz.prog) w 26 ty w.heap.size 4 i0 (.bool false) 1 1 Tryz.underlying26 hi hz0 hz1 hz2 rfl (by decide) _ _ _ (World.ownsRow_nil w w.heap.size 4 1) ⟨b, off, none⟩ n c (bcells f n) (by simp [bcells]) (by
      intro j u hj
      rw [Addr.add_lit]
      have hjn : j < n := by
        have := (List.getElem?_eq_some_iff.1 hj).1
        simpa [bcells] using this
      rw [bcells_at f n j hjn] at hj
      rw [← hj]
      exact hc j hjn) (by
      intro u hu
      obtain ⟨x, _, rfl⟩ := List.mem_map.1 hu
      rfl) (by omega) (by unfold maxLen; omega) (by omega) (Nat.le_refl _) w.heap.size rfl
    have hown : w'.ownsRow w.heap.size 4 1 (.slice (some ⟨g, 0, none⟩) n cap) n (bcells f n) := by simpa using r1
    obtain ⟨g', c', e, hm, hb, hl⟩ := bmade_of hown (by omega)
    simp only [Value.slice.injEq, Option.some.injEq, Addr.mk.injEq, and_true, true_and] at e
    obtain ⟨rfl, rfl⟩ := e
    refine ⟨some ⟨g, 0, none⟩, cap, w', by simpa using hrun, ⟨fun _ => ⟨g, 0, rfl, hl, fun i hi => by rw [Nat.zero_add]; exact hm i hi⟩, (Below.refl _ _).grown r2 (Nat.le_refl _) (by intro j hj; cases hj), fun x hx => ?_, fun x hx => ?_⟩⟩
    · cases hx
      exact hb
    · cases hx
      exact ⟨rfl, fun i => hown.frozenAt i, hl⟩
theorem list_pnew {w : World} {ops : Array Oper} {rest : List Oper} {o : Oper} {a : Act} {Q : Exit → Act → World → Prop} (hgd : o.guard = none) (s x : Operand)
    (ho : o.op = .call { callee := .builtin .append, args := #[s, x], argTypes := #[23, 23] }) {B n c : Nat} {A : Option Addr} {f : Nat → Int × Int}
    (hs : a.eval s = .slice none 0 0) (hx : a.eval x = .slice A n c) (hr : Cl.PRow w B A n f) (hn : n ≤ 1000)
    (hK : ∀ p cp w', PNew w n f p w' → wpList Tryz.prog ops Q rest (a.put o.dst (.slice p n cp)) w') : wpList Tryz.prog ops Q (o :: rest) a w :=
  wpList_plain hgd fun _ hK' => by
    obtain ⟨p, cp, w', hrun, h1⟩ := run_pnew (c := c) o.type hr hn
    unfold Oper.wp execOp
    simp only [ho, resolve, invoke, builtin, Sem.run_bind, Sem.run_pure, Result.andThen_ok, List.map_toArray, List.map_cons, List.map_nil, hs, hx, hrun]
    exact hK' _ _ (hK p cp w' h1)
theorem list_bnew {w : World} {ops : Array Oper} {rest : List Oper} {o : Oper} {a : Act} {Q : Exit → Act → World → Prop} (hgd : o.guard = none) (s x : Operand)
    (ho : o.op = .call { callee := .builtin .append, args := #[s, x], argTypes := #[26, 26] }) {B n c : Nat} {A : Option Addr} {f : Nat → Bool}
    (hs : a.eval s = .slice none 0 0) (hx : a.eval x = .slice A n c) (hr : BRow w B A n f) (hn : n ≤ 1000000)
    (hK : ∀ p cp w', BNew w n f p w' → wpList Tryz.prog ops Q rest (a.put o.dst (.slice p n cp)) w') : wpList Tryz.prog ops Q (o :: rest) a w :=
  wpList_plain hgd fun _ hK' => by
    obtain ⟨p, cp, w', hrun, h1⟩ := run_bnew (c := c) o.type hr hn
    unfold Oper.wp execOp
    simp only [ho, resolve, invoke, builtin, Sem.run_bind, Sem.run_pure, Result.andThen_ok, List.map_toArray, List.map_cons, List.map_nil, hs, hx, hrun]
    exact hK' _ _ (hK p cp w' h1)
/-- Two blocks alone are turned, of those that were there. -/
def Stp (x y : Nat) (w w' : World) : Prop := w.heap.size ≤ w'.heap.size ∧ ∀ k, k < w.heap.size → ¬ k = x → ¬ k = y → w'.heap[k]? = w.heap[k]?
section
variable {x y : Nat} {w w' w'' : World}
theorem Stp.trans (h : Stp x y w w') (h' : Stp x y w' w'') : Stp x y w w'' := ⟨Nat.le_trans h.1 h'.1, fun k hk h1 h2 => (h'.2 k (Nat.lt_of_lt_of_le hk h.1) h1 h2).trans (h.2 k hk h1 h2)⟩
theorem Stp.of_below (h : Below w.heap.size w w') : Stp x y w w' := ⟨h.size, fun k hk _ _ => h.block k hk⟩
theorem Stp.set (j : Nat) (v : Value) : Stp x y w (w.setCell ⟨x, j, none⟩ v) := ⟨by simp [World.setCell], fun _ _ h1 _ => Below.heap_setCell _ _ _ _ h1⟩
theorem Stp.put (v0 v1 v2 v3 v4 v5 : Value) : Stp x y w (put6 w y v0 v1 v2 v3 v4 v5) := ⟨by rw [put6_size]; exact Nat.le_refl _, fun _ _ _ h2 => put6_other _ _ _ _ _ _ _ _ h2⟩
/-- A slice lies in neither. -/
def Out2 (x y : Nat) (v : Ls.Sl) : Prop := 0 < v.n → ∀ z, v.a = some z → ¬ z.block = x ∧ ¬ z.block = y
theorem row_stp {v : Ls.Sl} {xs : List Int} (h : Row w w.heap.size v.a v.n xs) (ho : Out2 x y v) (hs : Stp x y w w') : Row w' w'.heap.size v.a v.n xs := by
  refine (row_same h fun hn z hz => ?_).more hs.1
  obtain ⟨b, off, e, hlt, _⟩ := h.2 hn
  rw [hz] at e
  cases e
  exact hs.2 _ hlt (ho hn _ hz).1 (ho hn _ hz).2
theorem prow_stp {v : Ls.Sl} {f : Nat → Int × Int} (h : Cl.PRow w w.heap.size v.a v.n f) (ho : Out2 x y v) (hs : Stp x y w w') : Cl.PRow w' w'.heap.size v.a v.n f := fun hn => by
  obtain ⟨b, off, e, hlt, hc⟩ := h hn
  have hb := hs.2 b hlt (ho hn _ e).1 (ho hn _ e).2
  exact ⟨b, off, e, Nat.lt_of_lt_of_le hlt hs.1, fun i hi => ⟨(World.cell?_of_block (a := ⟨b, off + i * 2, none⟩) hb).trans (hc i hi).1, (World.cell?_of_block (a := ⟨b, off + i * 2 + 1, none⟩) hb).trans (hc i hi).2⟩⟩
theorem brow_stp {v : Ls.Sl} {f : Nat → Bool} (h : BRow w w.heap.size v.a v.n f) (ho : Out2 x y v) (hs : Stp x y w w') : BRow w' w'.heap.size v.a v.n f := fun hn => by
  obtain ⟨b, off, e, hlt, hc⟩ := h hn
  have hb := hs.2 b hlt (ho hn _ e).1 (ho hn _ e).2
  exact ⟨b, off, e, Nat.lt_of_lt_of_le hlt hs.1, fun i hi => (World.cell?_of_block (a := ⟨b, off + i, none⟩) hb).trans (hc i hi)⟩
end
end Go.Proofs.YtgmkomnoiffapaaGreatDoor
end
section
namespace Go.Proofs.YtgmkomnoiffapaaGreatDoor
open Go.RowKit
set_option maxRecDepth 100000

theorem hbox_same {W W' : World} {b : Nat} {t : Hs} (h : HBox W b t) (hs : W'.heap[b]? = W.heap[b]?) (hl : W.heap.size ≤ W'.heap.size) : HBox W' b t :=
  ⟨(World.cell?_of_block (a := ⟨b, 0, none⟩) hs).trans h.c0, (World.cell?_of_block (a := ⟨b, 1, none⟩) hs).trans h.c1, (World.cell?_of_block (a := ⟨b, 2, none⟩) hs).trans h.c2, (World.cell?_of_block (a := ⟨b, 3, none⟩) hs).trans h.c3, (World.cell?_of_block (a := ⟨b, 4, none⟩) hs).trans h.c4, (World.cell?_of_block (a := ⟨b, 5, none⟩) hs).trans h.c5, Nat.lt_of_lt_of_le h.lt hl⟩
/-- All cells of a block hold slices. -/
def Slices (W : World) (b : Nat) : Prop := ∀ j v, W.cell? ⟨b, j, none⟩ = some v → ∃ a n c, v = .slice a n c
theorem Slices.row {W : World} {b B n : Nat} {a : Option Addr} {xs : List Int} (h : Slices W b) (hr : Row W B a n xs) : 0 < n → ∀ x, a = some x → ¬ x.block = b := fun hn x hx e => by
  obtain ⟨b', off, e', _, hc⟩ := hr.2 hn
  rw [hx] at e'
  cases e'
  subst e
  obtain ⟨_, _, _, hv⟩ := h _ _ (hc 0 hn)
  cases hv
theorem Slices.prow {W : World} {b B n : Nat} {a : Option Addr} {f : Nat → Int × Int} (h : Slices W b) (hr : Cl.PRow W B a n f) : 0 < n → ∀ x, a = some x → ¬ x.block = b := fun hn x hx e => by
  obtain ⟨b', off, e', _, hc⟩ := hr hn
  rw [hx] at e'
  cases e'
  subst e
  obtain ⟨_, _, _, hv⟩ := h _ _ (hc 0 hn).1
  cases hv
theorem Slices.brow {W : World} {b B n : Nat} {a : Option Addr} {f : Nat → Bool} (h : Slices W b) (hr : BRow W B a n f) : 0 < n → ∀ x, a = some x → ¬ x.block = b := fun hn x hx e => by
  obtain ⟨b', off, e', _, hc⟩ := hr hn
  rw [hx] at e'
  cases e'
  subst e
  obtain ⟨_, _, _, hv⟩ := h _ _ (hc 0 hn)
  cases hv
theorem Slices.same {W W' : World} {b : Nat} (h : Slices W b) (hs : W'.heap[b]? = W.heap[b]?) : Slices W' b := fun j v hv => h j v ((World.cell?_of_block (a := ⟨b, j, none⟩) hs).symm.trans hv)
theorem cell_set_none {W : World} {b j : Nat} {v : Value} (h : W.cell? ⟨b, j, none⟩ = none) : (W.setCell ⟨b, j, none⟩ v).cell? ⟨b, j, none⟩ = none := by
  unfold World.cell? at h ⊢
  unfold World.setCell
  simp only [Array.getElem?_modify, if_true]
  cases hb : W.heap[b]? with
  | none => rfl
  | some o =>
    cases o with
    | cells c e f =>
      rw [hb] at h
      simp at h
      simp [h]
    | _ => rfl
theorem Slices.set {W : World} {b k : Nat} {a : Option Addr} {n c : Nat} (h : Slices W b) : Slices (W.setCell ⟨b, k, none⟩ (.slice a n c)) b := fun j v hv => by
  by_cases e : j = k
  · subst e
    cases hc : W.cell? ⟨b, j, none⟩ with
    | none => rw [cell_set_none hc] at hv; cases hv
    | some x =>
      rw [World.cell?_setCell_same' _ _ _ (by rw [hc]; rfl)] at hv
      cases hv
      exact ⟨a, n, c, rfl⟩
  · rw [World.cell?_setCell_other _ _ _ _ (by intro hh; simp only [Addr.mk.injEq, true_and, and_true] at hh; omega)] at hv
    exact h j v hv
/-- Rows stand where another block alone is turned. -/
theorem l3_turn {W W' : World} {b : Nat} {u : Nat → Ls.Sl} {F : Nat → List Int} (hS : Slices W b) (h : Ls.L3 W W.heap.size u F) (hs : ∀ i, ¬ i = b → W'.heap[i]? = W.heap[i]?) (hl : W.heap.size = W'.heap.size) : Ls.L3 W' W'.heap.size u F := fun j hj => by
  rw [← hl]
  exact ⟨row_same (h j hj).1 fun hn x hx => hs _ (hS.row (h j hj).1 hn x hx), (h j hj).2⟩
theorem hp_turn {W W' : World} {b : Nat} {t : Hs} {d : Hd_} (hS : Slices W b) (h : Hp W W.heap.size t d) (hs : ∀ i, ¬ i = b → W'.heap[i]? = W.heap[i]?) (hl : W.heap.size = W'.heap.size) : Hp W' W'.heap.size t d := by
  refine ⟨?_, fun hn => ?_, l3_turn hS h.free hs hl, fun hn => ?_⟩
  · rw [← hl]
    exact row_same h.words fun hn x hx => hs _ (hS.row h.words hn x hx)
  · obtain ⟨b', off, e, hlt, hc⟩ := h.pages hn
    rw [← hl]
    refine ⟨b', off, e, hlt, fun i hi => ?_⟩
    have hb' := hs b' (hS.prow h.pages hn _ e)
    exact ⟨(World.cell?_of_block (a := ⟨b', off + i * 2, none⟩) hb').trans (hc i hi).1, (World.cell?_of_block (a := ⟨b', off + i * 2 + 1, none⟩) hb').trans (hc i hi).2⟩
  · obtain ⟨b', off, e, hlt, hc⟩ := h.cards hn
    rw [← hl]
    refine ⟨b', off, e, hlt, fun i hi => ?_⟩
    exact (World.cell?_of_block (a := ⟨b', off + i, none⟩) (hs b' (hS.brow h.cards hn _ e))).trans (hc i hi)
theorem set_others {W : World} {b k : Nat} {v : Value} : ∀ i, ¬ i = b → (W.setCell ⟨b, k, none⟩ v).heap[i]? = W.heap[i]? := fun _ hi => Below.heap_setCell _ _ _ _ hi
theorem set3_others {W : World} {b k0 k1 k2 : Nat} {v0 v1 v2 : Value} : ∀ i, ¬ i = b → (((W.setCell ⟨b, k0, none⟩ v0).setCell ⟨b, k1, none⟩ v1).setCell ⟨b, k2, none⟩ v2).heap[i]? = W.heap[i]? := fun i hi => ((set_others i hi).trans (set_others i hi)).trans (set_others i hi)
theorem set_size {W : World} {p : Addr} {v : Value} : (W.setCell p v).heap.size = W.heap.size := by simp [World.setCell]
theorem slices6 (w : World) (t : Hs) (ty : TypeId) : Slices (w.alloc (.cells #[.slice t.w.a t.w.n t.w.c, .slice t.p.a t.p.n t.p.c, .slice (t.u 0).a (t.u 0).n (t.u 0).c, .slice (t.u 1).a (t.u 1).n (t.u 1).c, .slice (t.u 2).a (t.u 2).n (t.u 2).c, .slice t.c.a t.c.n t.c.c] ty)) w.heap.size := fun j v hv => by
  rcases j with _ | _ | _ | _ | _ | _ | j
  · simp [go_sem] at hv; exact ⟨_, _, _, hv.symm⟩
  · simp [go_sem] at hv; exact ⟨_, _, _, hv.symm⟩
  · simp [go_sem] at hv; exact ⟨_, _, _, hv.symm⟩
  · simp [go_sem] at hv; exact ⟨_, _, _, hv.symm⟩
  · simp [go_sem] at hv; exact ⟨_, _, _, hv.symm⟩
  · simp [go_sem] at hv; exact ⟨_, _, _, hv.symm⟩
  · simp [go_sem] at hv
/-- A box of a heap, or of what is made of one. -/
structure Rm (W : World) (b : Nat) (t : Hs) : Prop where
  box : Box6 W b t
  sl : Slices W b
section
variable {w W W' : World} {b : Nat} {t t' : Hs} {d d' : Hd_}
theorem Rm.same (h : Rm W b t) (hs : W'.heap[b]? = W.heap[b]?) (hl : W.heap.size ≤ W'.heap.size) : Rm W' b t := ⟨h.box.same hs hl, h.sl.same hs⟩
theorem Rm.next (h : Rm W b t) (hb : Below W.heap.size W W') : Rm W' b t := h.same (hb.block b h.box.box.lt) hb.size
theorem Rm.new (w : World) (t : Hs) (ty : TypeId) : Rm (w.alloc (.cells #[.slice t.w.a t.w.n t.w.c, .slice t.p.a t.p.n t.p.c, .slice (t.u 0).a (t.u 0).n (t.u 0).c, .slice (t.u 1).a (t.u 1).n (t.u 1).c, .slice (t.u 2).a (t.u 2).n (t.u 2).c, .slice t.c.a t.c.n t.c.c] ty)) w.heap.size t :=
  ⟨⟨HBox.new w t ty, fun j => by simp [go_sem]⟩, slices6 w t ty⟩
theorem Rm.set (h : Rm W b t) (k : Nat) (a : Option Addr) (n c : Nat)
    (e0 : Value.slice t'.w.a t'.w.n t'.w.c = if 0 = k then .slice a n c else .slice t.w.a t.w.n t.w.c) (e1 : Value.slice t'.p.a t'.p.n t'.p.c = if 1 = k then .slice a n c else .slice t.p.a t.p.n t.p.c)
    (e2 : Value.slice (t'.u 0).a (t'.u 0).n (t'.u 0).c = if 2 = k then .slice a n c else .slice (t.u 0).a (t.u 0).n (t.u 0).c) (e3 : Value.slice (t'.u 1).a (t'.u 1).n (t'.u 1).c = if 3 = k then .slice a n c else .slice (t.u 1).a (t.u 1).n (t.u 1).c)
    (e4 : Value.slice (t'.u 2).a (t'.u 2).n (t'.u 2).c = if 4 = k then .slice a n c else .slice (t.u 2).a (t.u 2).n (t.u 2).c) (e5 : Value.slice t'.c.a t'.c.n t'.c.c = if 5 = k then .slice a n c else .slice t.c.a t.c.n t.c.c) : Rm (W.setCell ⟨b, k, none⟩ (.slice a n c)) b t' :=
  ⟨⟨⟨cell_set h.box.box.c0 e0, cell_set h.box.box.c1 e1, cell_set h.box.box.c2 e2, cell_set h.box.box.c3 e3, cell_set h.box.box.c4 e4, cell_set h.box.box.c5 e5, by simpa [World.setCell] using h.box.box.lt⟩, frozen_set h.box.free⟩, h.sl.set⟩
/-- A box, and the heap that it holds, in the midst of a call. -/
structure Ro (w W : World) (b : Nat) (t : Hs) (d : Hd_) : Prop where
  bel : Below w.heap.size w W
  hi : w.heap.size ≤ b
  rm : Rm W b t
  hp : Hp W W.heap.size t d
theorem Ro.next (h : Ro w W b t d) (hb : Below W.heap.size W W') : Ro w W' b t d := ⟨h.bel.trans (hb.mono h.bel.size), h.hi, h.rm.next hb, h.hp.next hb⟩
theorem Ro.drew (h : Ro w W b t d) : Ro w W.drew b t d := h.next (below_drawn' (Below.refl _ _) 1)
/-- The box is turned, to what lies in memory already. -/
theorem Ro.turn (h : Ro w W b t d) (hr : Rm W' b t') (hb : Below w.heap.size w W') (hs : ∀ i, ¬ i = b → W'.heap[i]? = W.heap[i]?) (hl : W.heap.size = W'.heap.size) (hp : Hp W W.heap.size t' d') : Ro w W' b t' d' :=
  ⟨hb, h.hi, hr, hp_turn h.rm.sl hp hs hl⟩
theorem Ro.words (h : Ro w W b t d) (v : Ls.Sl) (ws : List Int) (hr : Row W W.heap.size v.a v.n ws) : Ro w (W.setCell ⟨b, 0, none⟩ (.slice v.a v.n v.c)) b ⟨v, t.p, t.u, t.c⟩ ⟨ws, d.f, d.F, d.cs⟩ :=
  h.turn (h.rm.set 0 _ _ _ rfl rfl rfl rfl rfl rfl) (h.bel.setCell (p := ⟨b, 0, none⟩) h.hi _) set_others set_size.symm ⟨hr, h.hp.pages, h.hp.free, h.hp.cards⟩
theorem Ro.pages (h : Ro w W b t d) (v : Ls.Sl) (f : Nat → Int × Int) (hr : Cl.PRow W W.heap.size v.a v.n f) : Ro w (W.setCell ⟨b, 1, none⟩ (.slice v.a v.n v.c)) b ⟨t.w, v, t.u, t.c⟩ ⟨d.ws, f, d.F, d.cs⟩ :=
  h.turn (h.rm.set 1 _ _ _ rfl rfl rfl rfl rfl rfl) (h.bel.setCell (p := ⟨b, 1, none⟩) h.hi _) set_others set_size.symm ⟨h.hp.words, hr, h.hp.free, h.hp.cards⟩
theorem Ro.cards (h : Ro w W b t d) (v : Ls.Sl) (cs : Nat → Bool) (hr : BRow W W.heap.size v.a v.n cs) : Ro w (W.setCell ⟨b, 5, none⟩ (.slice v.a v.n v.c)) b ⟨t.w, t.p, t.u, v⟩ ⟨d.ws, d.f, d.F, cs⟩ :=
  h.turn (h.rm.set 5 _ _ _ rfl rfl rfl rfl rfl rfl) (h.bel.setCell (p := ⟨b, 5, none⟩) h.hi _) set_others set_size.symm ⟨h.hp.words, h.hp.pages, h.hp.free, hr⟩
def triS (a b c : Ls.Sl) : Nat → Ls.Sl := fun | 0 => a | 1 => b | _ => c
theorem Rm.free3 (h : Rm W b t) (v : Nat → Ls.Sl) : Rm (((W.setCell ⟨b, 2, none⟩ (.slice (v 0).a (v 0).n (v 0).c)).setCell ⟨b, 3, none⟩ (.slice (v 1).a (v 1).n (v 1).c)).setCell ⟨b, 4, none⟩ (.slice (v 2).a (v 2).n (v 2).c)) b ⟨t.w, t.p, v, t.c⟩ := by
  have h1 := h.set (t' := ⟨t.w, t.p, triS (v 0) (t.u 1) (t.u 2), t.c⟩) 2 (v 0).a (v 0).n (v 0).c rfl rfl rfl rfl rfl rfl
  have h2 := h1.set (t' := ⟨t.w, t.p, triS (v 0) (v 1) (t.u 2), t.c⟩) 3 (v 1).a (v 1).n (v 1).c rfl rfl rfl rfl rfl rfl
  exact h2.set (t' := ⟨t.w, t.p, v, t.c⟩) 4 (v 2).a (v 2).n (v 2).c rfl rfl rfl rfl rfl rfl
theorem Ro.free3 (h : Ro w W b t d) (v : Nat → Ls.Sl) (F : Nat → List Int) (hl : Ls.L3 W W.heap.size v F) : Ro w (((W.setCell ⟨b, 2, none⟩ (.slice (v 0).a (v 0).n (v 0).c)).setCell ⟨b, 3, none⟩ (.slice (v 1).a (v 1).n (v 1).c)).setCell ⟨b, 4, none⟩ (.slice (v 2).a (v 2).n (v 2).c)) b ⟨t.w, t.p, v, t.c⟩ ⟨d.ws, d.f, F, d.cs⟩ :=
  h.turn (h.rm.free3 v) (((h.bel.setCell (p := ⟨b, 2, none⟩) h.hi _).setCell (p := ⟨b, 3, none⟩) h.hi _).setCell (p := ⟨b, 4, none⟩) h.hi _) set3_others (by simp) ⟨h.hp.words, h.hp.pages, hl, h.hp.cards⟩
/-- A whole heap is stored into the box. -/
theorem Rm.put (h : Rm W b t) (t' : Hs) : Rm (put6 W b (.slice t'.w.a t'.w.n t'.w.c) (.slice t'.p.a t'.p.n t'.p.c) (.slice (t'.u 0).a (t'.u 0).n (t'.u 0).c) (.slice (t'.u 1).a (t'.u 1).n (t'.u 1).c) (.slice (t'.u 2).a (t'.u 2).n (t'.u 2).c) (.slice t'.c.a t'.c.n t'.c.c)) b t' := by
  have h1 := h.set (t' := ⟨t'.w, t.p, t.u, t.c⟩) 0 t'.w.a t'.w.n t'.w.c rfl rfl rfl rfl rfl rfl
  have h2 := h1.set (t' := ⟨t'.w, t'.p, t.u, t.c⟩) 1 t'.p.a t'.p.n t'.p.c rfl rfl rfl rfl rfl rfl
  have h3 := h2.free3 t'.u
  exact h3.set (t' := t') 5 t'.c.a t'.c.n t'.c.c rfl rfl rfl rfl rfl rfl
theorem Ro.put (h : Ro w W b t d) (hp : Hp W W.heap.size t' d') : Ro w (put6 W b (.slice t'.w.a t'.w.n t'.w.c) (.slice t'.p.a t'.p.n t'.p.c) (.slice (t'.u 0).a (t'.u 0).n (t'.u 0).c) (.slice (t'.u 1).a (t'.u 1).n (t'.u 1).c) (.slice (t'.u 2).a (t'.u 2).n (t'.u 2).c) (.slice t'.c.a t'.c.n t'.c.c)) b t' d' :=
  h.turn (h.rm.put t') (below_put6 h.bel h.hi _ _ _ _ _ _) (fun _ hi => put6_other _ _ _ _ _ _ _ _ hi) (put6_size _ _ _ _ _ _ _ _).symm hp
/-- The result's cell is turned: all else stands. -/
theorem Ro.res {rb : Nat} {t0 : Hs} (h : Ro w W b t d) (hr : Rm W rb t0) (hi : w.heap.size ≤ rb) (t' : Hs) : Hp (put6 W rb (.slice t'.w.a t'.w.n t'.w.c) (.slice t'.p.a t'.p.n t'.p.c) (.slice (t'.u 0).a (t'.u 0).n (t'.u 0).c) (.slice (t'.u 1).a (t'.u 1).n (t'.u 1).c) (.slice (t'.u 2).a (t'.u 2).n (t'.u 2).c) (.slice t'.c.a t'.c.n t'.c.c)) (put6 W rb (.slice t'.w.a t'.w.n t'.w.c) (.slice t'.p.a t'.p.n t'.p.c) (.slice (t'.u 0).a (t'.u 0).n (t'.u 0).c) (.slice (t'.u 1).a (t'.u 1).n (t'.u 1).c) (.slice (t'.u 2).a (t'.u 2).n (t'.u 2).c) (.slice t'.c.a t'.c.n t'.c.c)).heap.size t d ∧
    Below w.heap.size w (put6 W rb (.slice t'.w.a t'.w.n t'.w.c) (.slice t'.p.a t'.p.n t'.p.c) (.slice (t'.u 0).a (t'.u 0).n (t'.u 0).c) (.slice (t'.u 1).a (t'.u 1).n (t'.u 1).c) (.slice (t'.u 2).a (t'.u 2).n (t'.u 2).c) (.slice t'.c.a t'.c.n t'.c.c)) :=
  ⟨hp_turn hr.sl h.hp (fun _ hi => put6_other _ _ _ _ _ _ _ _ hi) (put6_size _ _ _ _ _ _ _ _).symm, below_put6 h.bel hi _ _ _ _ _ _⟩
end
/-- A heap was returned. -/
def RoOut (w : World) (s : Hs) (d : Hd_) (e : Ending) (w' : World) : Prop :=
  ∃ t : Hs, e = .returned (.agg #[.slice t.w.a t.w.n t.w.c, .slice t.p.a t.p.n t.p.c, .slice (t.u 0).a (t.u 0).n (t.u 0).c, .slice (t.u 1).a (t.u 1).n (t.u 1).c, .slice (t.u 2).a (t.u 2).n (t.u 2).c, .slice t.c.a t.c.n t.c.c]) ∧ Hp w' w'.heap.size t d ∧ (t.w.n = s.w.n ∧ t.p.n = s.p.n ∧ t.c.n = s.c.n) ∧ Below w.heap.size w w'
end Go.Proofs.YtgmkomnoiffapaaGreatDoor
end
section
namespace Go.Proofs.YtgmkomnoiffapaaGreatDoor
open Go.RowKit
set_option maxRecDepth 100000

/-- The cards are in a block of their own. -/
def OwnC (w w' : World) (t : Hs) : Prop :=
  0 < t.c.n → ∃ g, t.c.a = some ⟨g, 0, none⟩ ∧ (∀ i, w'.frozen? ⟨g, i, none⟩ = false) ∧ w.heap.size + 2 ≤ g ∧ g < w'.heap.size ∧ (∀ z, t.w.a = some z → ¬ z.block = g) ∧ (∀ z, t.p.a = some z → ¬ z.block = g) ∧ ∀ j, j < 3 → ∀ z, (t.u j).a = some z → ¬ z.block = g
/-- .. with all that is known of it. -/
def OwnFull (w : World) (s : Hs) (d : Hd_) (e : Ending) (w' : World) : Prop :=
  ∃ t : Hs, e = .returned (.agg #[.slice t.w.a t.w.n t.w.c, .slice t.p.a t.p.n t.p.c, .slice (t.u 0).a (t.u 0).n (t.u 0).c, .slice (t.u 1).a (t.u 1).n (t.u 1).c, .slice (t.u 2).a (t.u 2).n (t.u 2).c, .slice t.c.a t.c.n t.c.c]) ∧ (w'.ownsRow w.heap.size 3 1 (.slice t.w.a t.w.n t.w.c) t.w.n (d.ws.map (Value.int .i64)) ∧ Hp w' w'.heap.size t d ∧ Lens s t ∧ News w.heap.size t ∧
    (∀ x, t.w.a = some x → (0 < t.p.n → ∀ z, t.p.a = some z → ¬ z.block = x.block) ∧ (∀ j, j < 3 → 0 < (t.u j).n → ∀ z, (t.u j).a = some z → ¬ z.block = x.block) ∧ (0 < t.c.n → ∀ z, t.c.a = some z → ¬ z.block = x.block)) ∧ Below w.heap.size w w') ∧ OwnC w w' t
theorem own7_end {w W0 w1 w3 w4 w5 w6 w7 w9 : World} {s : Hs} {d : Hd_} {v : Nat → Ls.Sl} {p3 p5 p7 : Option Addr} {c3 c5 c7 : Nat} (hl0 : w.heap.size + 1 < W0.heap.size) (hb1 : Below W0.heap.size W0 w1) (ho1 : Ls.Own3 w1 W0.heap.size v d.F)
    (h3 : w3.ownsRow (w1.heap.size + 1) 3 1 (.slice p3 s.w.n c3) s.w.n (d.ws.map (Value.int .i64))) (hs3 : w1.heap.size + 1 ≤ w3.heap.size) (e4 : w4.heap.size = w3.heap.size) (h5 : PNew w4 s.p.n d.f p5 w5) (e6 : w6.heap.size = w5.heap.size) (h7 : BNew w6 s.c.n d.cs p7 w7)
    (t1 : Stp w1.heap.size (w.heap.size + 1) w1 w9) (t3 : Stp w1.heap.size (w.heap.size + 1) w3 w9) (t5 : Stp w1.heap.size (w.heap.size + 1) w5 w9) (t7 : Stp w1.heap.size (w.heap.size + 1) w7 w9) (hbel : Below w.heap.size w w9) (hun : ∀ j, j < 3 → (v j).n = (s.u j).n) :
    OwnFull w s d (.returned (.agg #[.slice (⟨⟨p3, s.w.n, c3⟩, ⟨p5, s.p.n, c5⟩, v, ⟨p7, s.c.n, c7⟩⟩ : Hs).w.a (⟨⟨p3, s.w.n, c3⟩, ⟨p5, s.p.n, c5⟩, v, ⟨p7, s.c.n, c7⟩⟩ : Hs).w.n (⟨⟨p3, s.w.n, c3⟩, ⟨p5, s.p.n, c5⟩, v, ⟨p7, s.c.n, c7⟩⟩ : Hs).w.c, .slice (⟨⟨p3, s.w.n, c3⟩, ⟨p5, s.p.n, c5⟩, v, ⟨p7, s.c.n, c7⟩⟩ : Hs).p.a (⟨⟨p3, s.w.n, c3⟩, ⟨p5, s.p.n, c5⟩, v, ⟨p7, s.c.n, c7⟩⟩ : Hs).p.n (⟨⟨p3, s.w.n, c3⟩, ⟨p5, s.p.n, c5⟩, v, ⟨p7, s.c.n, c7⟩⟩ : Hs).p.c, .slice ((⟨⟨p3, s.w.n, c3⟩, ⟨p5, s.p.n, c5⟩, v, ⟨p7, s.c.n, c7⟩⟩ : Hs).u 0).a ((⟨⟨p3, s.w.n, c3⟩, ⟨p5, s.p.n, c5⟩, v, ⟨p7, s.c.n, c7⟩⟩ : Hs).u 0).n ((⟨⟨p3, s.w.n, c3⟩, ⟨p5, s.p.n, c5⟩, v, ⟨p7, s.c.n, c7⟩⟩ : Hs).u 0).c, .slice ((⟨⟨p3, s.w.n, c3⟩, ⟨p5, s.p.n, c5⟩, v, ⟨p7, s.c.n, c7⟩⟩ : Hs).u 1).a ((⟨⟨p3, s.w.n, c3⟩, ⟨p5, s.p.n, c5⟩, v, ⟨p7, s.c.n, c7⟩⟩ : Hs).u 1).n ((⟨⟨p3, s.w.n, c3⟩, ⟨p5, s.p.n, c5⟩, v, ⟨p7, s.c.n, c7⟩⟩ : Hs).u 1).c, .slice ((⟨⟨p3, s.w.n, c3⟩, ⟨p5, s.p.n, c5⟩, v, ⟨p7, s.c.n, c7⟩⟩ : Hs).u 2).a ((⟨⟨p3, s.w.n, c3⟩, ⟨p5, s.p.n, c5⟩, v, ⟨p7, s.c.n, c7⟩⟩ : Hs).u 2).n ((⟨⟨p3, s.w.n, c3⟩, ⟨p5, s.p.n, c5⟩, v, ⟨p7, s.c.n, c7⟩⟩ : Hs).u 2).c, .slice (⟨⟨p3, s.w.n, c3⟩, ⟨p5, s.p.n, c5⟩, v, ⟨p7, s.c.n, c7⟩⟩ : Hs).c.a (⟨⟨p3, s.w.n, c3⟩, ⟨p5, s.p.n, c5⟩, v, ⟨p7, s.c.n, c7⟩⟩ : Hs).c.n (⟨⟨p3, s.w.n, c3⟩, ⟨p5, s.p.n, c5⟩, v, ⟨p7, s.c.n, c7⟩⟩ : Hs).c.c])) w9 := by
  have z1 := hb1.size
  have z5 := h5.bel.size
  obtain ⟨a3, k3, e3, hr3, _, _⟩ := Ls.owns_row h3
  simp only [Value.slice.injEq, true_and] at e3
  obtain ⟨rfl, rfl⟩ := e3
  have l3 : ∀ x, p3 = some x → w1.heap.size + 1 ≤ x.block ∧ x.block < w3.heap.size := fun x hx => h3.lt x.block (by rw [Ls.ownBlock_slice, hx]; rfl)
  have lv : ∀ j, j < 3 → ∀ x, (v j).a = some x → W0.heap.size ≤ x.block ∧ x.block < w1.heap.size := fun j hj x hx => ho1.block j hj hx
  have hv := ho1.l3
  refine ⟨⟨⟨p3, s.w.n, c3⟩, ⟨p5, s.p.n, c5⟩, v, ⟨p7, s.c.n, c7⟩⟩, rfl, ⟨?_, ⟨?_, ?_, fun j hj => ⟨?_, (hv j hj).2⟩, ?_⟩, ⟨rfl, rfl, hun, rfl⟩, ⟨fun _ x hx => by have := (l3 x hx).1; omega, fun _ x hx => by have := h5.lies x hx; omega, fun j hj _ x hx => by have := (lv j hj x hx).1; omega, fun _ x hx => by have := h7.lies x hx; omega⟩, fun x hx => ⟨fun _ z hz => ?_, fun j hj _ z hz => ?_, fun _ z hz => ?_⟩, hbel⟩, fun h0 => ?_⟩
  · have h3' : w3.ownsRow w.heap.size 3 1 (.slice p3 s.w.n c3) s.w.n (d.ws.map (Value.int .i64)) := ⟨h3.1, h3.2.imp id fun ⟨g, cap, cur, e, hg, r⟩ => ⟨g, cap, cur, e, by omega, r⟩⟩
    refine Ls.World.ownsRow.same h3' fun g hg hlt => ?_
    rw [Ls.ownBlock_slice] at hg
    cases hp3 : p3 with
    | none => rw [hp3] at hg; cases hg
    | some x =>
      rw [hp3] at hg
      simp at hg
      subst hg
      exact t3.2 _ hlt (by have := (l3 x hp3).1; omega) (by have := (l3 x hp3).1; omega)
  · exact row_stp (v := ⟨p3, s.w.n, c3⟩) hr3 (fun _ z hz => by have := (l3 z hz).1; exact ⟨by omega, by omega⟩) t3
  · exact prow_stp (v := ⟨p5, s.p.n, c5⟩) h5.row (fun _ z hz => by have := h5.lies z hz; exact ⟨by omega, by omega⟩) t5
  · exact row_stp (hv j hj).1 (fun _ z hz => by have := lv j hj z hz; exact ⟨by omega, by omega⟩) t1
  · exact brow_stp (v := ⟨p7, s.c.n, c7⟩) h7.row (fun _ z hz => by have := h7.lies z hz; exact ⟨by omega, by omega⟩) t7
  · have h1 := (l3 x hx).2
    have h2 := h5.lies z hz
    omega
  · have h1 := (l3 x hx).1
    have h2 := (lv j hj z hz).2
    omega
  · have h1 := (l3 x hx).2
    have h2 := h7.lies z hz
    omega
  · obtain ⟨g, off, e, hlt, hc⟩ := h7.row h0
    have h8 := h7.free _ e
    have h9 := h7.lies _ e
    obtain ⟨h81, h82, h83⟩ := h8
    simp only [Addr.mk.injEq, true_and, and_true] at h81
    subst h81
    dsimp only at h82 h83 h9
    have hg : w1.heap.size + 1 ≤ g := by omega
    refine ⟨g, e, fun i => (World.frozen?_of_block (a := ⟨g, i, none⟩) (t7.2 g h83 (by omega) (by omega))).trans (h82 i), by omega, by have := t7.1; omega, fun z hz => ?_, fun z hz => ?_, fun j hj z hz => ?_⟩
    · have := (l3 z hz).2
      omega
    · have h1 := h5.lies z hz
      have h2 := h5.high z hz
      omega
    · have := (lv j hj z hz).2
      omega
/-- What a walk through Own has in memory. -/
structure Ow (w W : World) (bo : Nat) (s t : Hs) : Prop where
  bel : Below w.heap.size w W
  hb : HBox W w.heap.size s
  rb : Box6 W (w.heap.size + 1) noHs
  ob : Box6 W bo t
  lo : w.heap.size + 2 ≤ bo
theorem Ow.next {w W W' : World} {bo : Nat} {s t : Hs} (h : Ow w W bo s t) (hb : Below W.heap.size W W') : Ow w W' bo s t := ⟨h.bel.trans (hb.mono h.bel.size), h.hb.next hb, h.rb.next hb, h.ob.next hb, h.lo⟩
theorem Ow.set {w W : World} {bo : Nat} {s t t' : Hs} (h : Ow w W bo s t) (k : Nat) (x : Value)
    (e0 : Value.slice t'.w.a t'.w.n t'.w.c = if 0 = k then x else .slice t.w.a t.w.n t.w.c) (e1 : Value.slice t'.p.a t'.p.n t'.p.c = if 1 = k then x else .slice t.p.a t.p.n t.p.c)
    (e2 : Value.slice (t'.u 0).a (t'.u 0).n (t'.u 0).c = if 2 = k then x else .slice (t.u 0).a (t.u 0).n (t.u 0).c) (e3 : Value.slice (t'.u 1).a (t'.u 1).n (t'.u 1).c = if 3 = k then x else .slice (t.u 1).a (t.u 1).n (t.u 1).c)
    (e4 : Value.slice (t'.u 2).a (t'.u 2).n (t'.u 2).c = if 4 = k then x else .slice (t.u 2).a (t.u 2).n (t.u 2).c) (e5 : Value.slice t'.c.a t'.c.n t'.c.c = if 5 = k then x else .slice t.c.a t.c.n t.c.c) : Ow w (W.setCell ⟨bo, k, none⟩ x) bo s t' := by
  have hsz : W.heap.size = (W.setCell ⟨bo, k, none⟩ x).heap.size := by simp [World.setCell]
  have hoth : ∀ j, ¬ j = bo → (W.setCell ⟨bo, k, none⟩ x).heap[j]? = W.heap[j]? := fun j hj => Below.heap_setCell _ _ _ _ hj
  have hlo := h.lo
  have hB : Box6 W bo t := h.ob
  exact ⟨h.bel.setCell (p := ⟨bo, k, none⟩) (by show w.heap.size ≤ bo; omega) _, hbox_same h.hb (hoth _ (by omega)) (Nat.le_of_eq hsz), h.rb.same (hoth _ (by omega)) (Nat.le_of_eq hsz),
    ⟨⟨cell_set hB.box.c0 e0, cell_set hB.box.c1 e1, cell_set hB.box.c2 e2, cell_set hB.box.c3 e3, cell_set hB.box.c4 e4, cell_set hB.box.c5 e5, by rw [← hsz]; exact hB.box.lt⟩, frozen_set hB.free⟩, hlo⟩
theorem res_own {W : World} {b : Nat} {tm : Array Value} {v0 v1 v2 v3 v4 v5 : Value} (ht : tm[2]? = some (.pointer (some ⟨b, 0, none⟩))) (k0 : W.cell? ⟨b, 0, none⟩ = some v0) (k1 : W.cell? ⟨b, 1, none⟩ = some v1) (k2 : W.cell? ⟨b, 2, none⟩ = some v2) (k3 : W.cell? ⟨b, 3, none⟩ = some v3) (k4 : W.cell? ⟨b, 4, none⟩ = some v4) (k5 : W.cell? ⟨b, 5, none⟩ = some v5) :
    (results Tryz.f37 tm).run Tryz.prog W = .ok (.agg #[v0, v1, v2, v3, v4, v5]) W := by
  simp [results, Tryz.results37, go_sem, ht, k0, k1, k2, k3, k4, k5]
set_option maxHeartbeats 2000000 in
theorem rown7_full (s : Hs) (d : Hd_) (w : World) (hp : Hp w w.heap.size s d) (hwn : s.w.n ≤ 4000) (hpn : s.p.n ≤ 1000) (hcn : s.c.n ≤ 100000) (hun : ∀ j, j < 3 → (s.u j).n ≤ 2000000) : Calls Tryz.prog 37 #[(.agg #[.slice s.w.a s.w.n s.w.c, .slice s.p.a s.p.n s.p.c, .slice (s.u 0).a (s.u 0).n (s.u 0).c, .slice (s.u 1).a (s.u 1).n (s.u 1).c, .slice (s.u 2).a (s.u 2).n (s.u 2).c, .slice s.c.a s.c.n s.c.c])] w (OwnFull w s d) := by
  have HP := Lib.hid hp
  have HUN := Lib.hid hun
  clear hp hun
  go_enter Tryz.func37, Tryz.ntmps37
  go_wp2_with fail
  obtain ⟨W0, hW0⟩ : ∃ W0, W0 = (w.alloc (.cells #[.slice s.w.a s.w.n s.w.c, .slice s.p.a s.p.n s.p.c, .slice (s.u 0).a (s.u 0).n (s.u 0).c, .slice (s.u 1).a (s.u 1).n (s.u 1).c, .slice (s.u 2).a (s.u 2).n (s.u 2).c, .slice s.c.a s.c.n s.c.c] 28)).alloc (.cells #[.slice none 0 0, .slice none 0 0, .slice none 0 0, .slice none 0 0, .slice none 0 0, .slice none 0 0] 28) := ⟨_, rfl⟩
  have K0 := Lib.hid (cp_start HP.out hW0)
  rw [← hW0]
  clear hW0
  have hl0 : w.heap.size + 1 < W0.heap.size := K0.out.res.box.lt
  refine (Ls.rown_any W0.heap.size s.u d.F W0 K0.out.hp.free (Nat.le_refl _) HUN.out).mono ?_
  rintro e9 w1 ⟨v, rfl, ho1, hb1⟩
  have O1 := Lib.hid (And.intro ho1 hb1)
  have hs1 := hb1.size
  have bOB := HBox.new w1 ⟨⟨none, 0, 0⟩, ⟨none, 0, 0⟩, v, ⟨none, 0, 0⟩⟩ 28
  have fOB : ∀ j, (w1.alloc (.cells #[.slice none 0 0, .slice none 0 0, .slice (v 0).a (v 0).n (v 0).c, .slice (v 1).a (v 1).n (v 1).c, .slice (v 2).a (v 2).n (v 2).c, .slice none 0 0] 28)).frozen? ⟨w1.heap.size, j, none⟩ = false := fun j => by simp [go_sem]
  have b2 := (Below.refl w1.heap.size w1).alloc (Nat.le_refl _) (.cells #[.slice none 0 0, .slice none 0 0, .slice (v 0).a (v 0).n (v 0).c, .slice (v 1).a (v 1).n (v 1).c, .slice (v 2).a (v 2).n (v 2).c, .slice none 0 0] 28)
  have K1 := K0.out.next hb1
  have K2 : Hid (Ow w (w1.alloc (.cells #[.slice none 0 0, .slice none 0 0, .slice (v 0).a (v 0).n (v 0).c, .slice (v 1).a (v 1).n (v 1).c, .slice (v 2).a (v 2).n (v 2).c, .slice none 0 0] 28)) w1.heap.size s ⟨⟨none, 0, 0⟩, ⟨none, 0, 0⟩, v, ⟨none, 0, 0⟩⟩) := Lib.hid ⟨(K1.next b2).bel, (K1.next b2).box.box, (K1.next b2).res, ⟨bOB, fOB⟩, by omega⟩
  clear ho1 hb1 bOB fOB b2 K1 K0
  have q0 := K2.out.hb.c0
  have ql := K2.out.hb.lt
  go_wp2_with (at_builtin; refine Ls.list_cat rfl (.tmp 9) (.tmp 11) rfl rfl rfl (xs := []) (base := w1.heap.size + 1) (World.ownsRow_nil _ _ _ _) (HP.out.words.below K2.out.bel) (by simp) (by omega) ?_)
  intro p3 c3 w3 hcat
  have h3 : w3.ownsRow (w1.heap.size + 1) 3 1 (.slice p3 s.w.n c3) s.w.n (d.ws.map (Value.int .i64)) := by simpa using hcat.own
  have b3 : Below (w1.alloc (.cells #[.slice none 0 0, .slice none 0 0, .slice (v 0).a (v 0).n (v 0).c, .slice (v 1).a (v 1).n (v 1).c, .slice (v 2).a (v 2).n (v 2).c, .slice none 0 0] 28)).heap.size (w1.alloc (.cells #[.slice none 0 0, .slice none 0 0, .slice (v 0).a (v 0).n (v 0).c, .slice (v 1).a (v 1).n (v 1).c, .slice (v 2).a (v 2).n (v 2).c, .slice none 0 0] 28)) w3 := (Below.refl _ _).grown hcat.grown (Nat.le_refl _) (by intro j hj; cases hj)
  have K3 := Lib.hid (K2.out.next b3)
  have K4 := Lib.hid (K3.out.set (t' := ⟨⟨p3, s.w.n, c3⟩, ⟨none, 0, 0⟩, v, ⟨none, 0, 0⟩⟩) 0 (.slice p3 s.w.n c3) rfl rfl rfl rfl rfl rfl)
  have T3 := Lib.hid (And.intro h3 b3)
  clear hcat h3 b3 q0 ql
  have x0 := K3.out.ob.box.c0
  have x1 := K3.out.ob.box.c1
  have xf := K3.out.ob.free 0
  have xl := K3.out.ob.box.lt
  have q1 := K3.out.hb.c1
  have ql := K3.out.hb.lt
  dsimp only at x0 x1
  go_wp2_with (at_builtin; refine list_pnew rfl (.tmp 15) (.tmp 17) rfl rfl rfl (HP.out.pages.below K4.out.bel) hpn ?_)
  intro p5 c5 w5 h5
  have K5 := Lib.hid (K4.out.next h5.bel)
  have K6 := Lib.hid (K5.out.set (t' := ⟨⟨p3, s.w.n, c3⟩, ⟨p5, s.p.n, c5⟩, v, ⟨none, 0, 0⟩⟩) 1 (.slice p5 s.p.n c5) rfl rfl rfl rfl rfl rfl)
  have T5 := Lib.hid h5
  clear h5 x0 x1 xf xl q1 ql
  have x1 := K5.out.ob.box.c1
  have x5 := K5.out.ob.box.c5
  have xf := K5.out.ob.free 1
  have xl := K5.out.ob.box.lt
  have q5 := K5.out.hb.c5
  have ql := K5.out.hb.lt
  dsimp only at x1 x5
  go_wp2_with (at_builtin; refine list_bnew rfl (.tmp 21) (.tmp 23) rfl rfl rfl (HP.out.cards.below K6.out.bel) (by omega) ?_)
  intro p7 c7 w7 h7
  have K7 := Lib.hid (K6.out.next h7.bel)
  have K8 := Lib.hid (K7.out.set (t' := ⟨⟨p3, s.w.n, c3⟩, ⟨p5, s.p.n, c5⟩, v, ⟨p7, s.c.n, c7⟩⟩) 5 (.slice p7 s.c.n c7) rfl rfl rfl rfl rfl rfl)
  have T7 := Lib.hid h7
  clear h7 x1 x5 xf xl q5 ql
  have x0 := K7.out.ob.box.c0
  have x1 := K7.out.ob.box.c1
  have x2 := K7.out.ob.box.c2
  have x3 := K7.out.ob.box.c3
  have x4 := K7.out.ob.box.c4
  have x5 := K7.out.ob.box.c5
  have xf := K7.out.ob.free 5
  have xl := K7.out.ob.box.lt
  have y0 := K7.out.rb.box.c0
  have y1 := K7.out.rb.box.c1
  have y2 := K7.out.rb.box.c2
  have y3 := K7.out.rb.box.c3
  have y4 := K7.out.rb.box.c4
  have y5 := K7.out.rb.box.c5
  have yl := K7.out.rb.box.lt
  have f0 := K7.out.rb.free 0
  have f1 := K7.out.rb.free 1
  have f2 := K7.out.rb.free 2
  have f3 := K7.out.rb.free 3
  have f4 := K7.out.rb.free 4
  have f5 := K7.out.rb.free 5
  have hne : ¬ w.heap.size + 1 = w1.heap.size := by omega
  dsimp only [noHs, Ls.noSl] at x0 x1 x2 x3 x4 x5 y0 y1 y2 y3 y4 y5
  go_wp2
  have st := fun (a b : World) (h : Below a.heap.size a b) => (Stp.of_below (x := w1.heap.size) (y := w.heap.size + 1) h)
  have t7 : Stp w1.heap.size (w.heap.size + 1) w7 (put6 (w7.setCell ⟨w1.heap.size, 5, none⟩ (.slice p7 s.c.n c7)) (w.heap.size + 1) (.slice p3 s.w.n c3) (.slice p5 s.p.n c5) (.slice (v 0).a (v 0).n (v 0).c) (.slice (v 1).a (v 1).n (v 1).c) (.slice (v 2).a (v 2).n (v 2).c) (.slice p7 s.c.n c7)) := (Stp.set 5 _).trans (Stp.put _ _ _ _ _ _)
  have t5 := (Stp.set (x := w1.heap.size) (y := w.heap.size + 1) (w := w5) 1 (.slice p5 s.p.n c5)).trans ((st _ _ T7.out.bel).trans t7)
  have t3 := (Stp.set (x := w1.heap.size) (y := w.heap.size + 1) (w := w3) 0 (.slice p3 s.w.n c3)).trans ((st _ _ T5.out.bel).trans t5)
  have t1 := (st _ _ ((Below.refl w1.heap.size w1).alloc (Nat.le_refl _) (.cells #[.slice none 0 0, .slice none 0 0, .slice (v 0).a (v 0).n (v 0).c, .slice (v 1).a (v 1).n (v 1).c, .slice (v 2).a (v 2).n (v 2).c, .slice none 0 0] 28))).trans ((st _ _ T3.out.2).trans t3)
  refine bodyPost_ret (v := (.agg #[.slice (⟨⟨p3, s.w.n, c3⟩, ⟨p5, s.p.n, c5⟩, v, ⟨p7, s.c.n, c7⟩⟩ : Hs).w.a (⟨⟨p3, s.w.n, c3⟩, ⟨p5, s.p.n, c5⟩, v, ⟨p7, s.c.n, c7⟩⟩ : Hs).w.n (⟨⟨p3, s.w.n, c3⟩, ⟨p5, s.p.n, c5⟩, v, ⟨p7, s.c.n, c7⟩⟩ : Hs).w.c, .slice (⟨⟨p3, s.w.n, c3⟩, ⟨p5, s.p.n, c5⟩, v, ⟨p7, s.c.n, c7⟩⟩ : Hs).p.a (⟨⟨p3, s.w.n, c3⟩, ⟨p5, s.p.n, c5⟩, v, ⟨p7, s.c.n, c7⟩⟩ : Hs).p.n (⟨⟨p3, s.w.n, c3⟩, ⟨p5, s.p.n, c5⟩, v, ⟨p7, s.c.n, c7⟩⟩ : Hs).p.c, .slice ((⟨⟨p3, s.w.n, c3⟩, ⟨p5, s.p.n, c5⟩, v, ⟨p7, s.c.n, c7⟩⟩ : Hs).u 0).a ((⟨⟨p3, s.w.n, c3⟩, ⟨p5, s.p.n, c5⟩, v, ⟨p7, s.c.n, c7⟩⟩ : Hs).u 0).n ((⟨⟨p3, s.w.n, c3⟩, ⟨p5, s.p.n, c5⟩, v, ⟨p7, s.c.n, c7⟩⟩ : Hs).u 0).c, .slice ((⟨⟨p3, s.w.n, c3⟩, ⟨p5, s.p.n, c5⟩, v, ⟨p7, s.c.n, c7⟩⟩ : Hs).u 1).a ((⟨⟨p3, s.w.n, c3⟩, ⟨p5, s.p.n, c5⟩, v, ⟨p7, s.c.n, c7⟩⟩ : Hs).u 1).n ((⟨⟨p3, s.w.n, c3⟩, ⟨p5, s.p.n, c5⟩, v, ⟨p7, s.c.n, c7⟩⟩ : Hs).u 1).c, .slice ((⟨⟨p3, s.w.n, c3⟩, ⟨p5, s.p.n, c5⟩, v, ⟨p7, s.c.n, c7⟩⟩ : Hs).u 2).a ((⟨⟨p3, s.w.n, c3⟩, ⟨p5, s.p.n, c5⟩, v, ⟨p7, s.c.n, c7⟩⟩ : Hs).u 2).n ((⟨⟨p3, s.w.n, c3⟩, ⟨p5, s.p.n, c5⟩, v, ⟨p7, s.c.n, c7⟩⟩ : Hs).u 2).c, .slice (⟨⟨p3, s.w.n, c3⟩, ⟨p5, s.p.n, c5⟩, v, ⟨p7, s.c.n, c7⟩⟩ : Hs).c.a (⟨⟨p3, s.w.n, c3⟩, ⟨p5, s.p.n, c5⟩, v, ⟨p7, s.c.n, c7⟩⟩ : Hs).c.n (⟨⟨p3, s.w.n, c3⟩, ⟨p5, s.p.n, c5⟩, v, ⟨p7, s.c.n, c7⟩⟩ : Hs).c.c])) ?_ rfl (own7_end hl0 O1.out.2 O1.out.1 T3.out.1 (by have := T3.out.2.size; simpa using this) (by simp [World.setCell]) T5.out (by simp [World.setCell]) T7.out t1 t3 t5 t7 (below_put6 K8.out.bel (by omega) _ _ _ _ _ _) (fun j hj => by have h1 := O1.out.1.l3.len j hj; have h2 := HP.out.free.len j hj; omega))
  obtain ⟨k0, k1, k2, k3, k4, k5⟩ := put6_at K8.out.rb (.slice p3 s.w.n c3) (.slice p5 s.p.n c5) (.slice (v 0).a (v 0).n (v 0).c) (.slice (v 1).a (v 1).n (v 1).c) (.slice (v 2).a (v 2).n (v 2).c) (.slice p7 s.c.n c7)
  exact res_own rfl k0 k1 k2 k3 k4 k5
end Go.Proofs.YtgmkomnoiffapaaGreatDoor
end
section
namespace Go.Proofs.YtgmkomnoiffapaaGreatDoor.Ha
open Go.Proofs.YtgmkomnoiffapaaGreatDoor Go.Proofs.YtgmkomnoiffapaaGreatDoor.Rt
open Go.RowKit
open Go.Proofs.YtgmkomnoiffapaaGreatDoor.Mu (hv kv w_load w_store w_loadg ldHb ldKb ldTb stHb stKb stTb st_ints noK0 infK)
set_option maxRecDepth 100000

/-- A copy of a collector. -/
def RcOut (w : World) (k : Sh.Ks) (xs : List Int) (e : Ending) (w' : World) : Prop :=
  ∃ v : Ls.Sl, e = .returned (.agg #[.int .i64 k.ph, .int .i64 k.ep, .bool k.mj, .slice v.a v.n v.c, .bool k.ov, .int .i64 k.pa, .int .i64 k.pf, .int .i64 k.ps, .int .i64 k.pc, .bool k.me]) ∧ Row w' w'.heap.size v.a v.n xs ∧ (0 < v.n → ∀ x, v.a = some x → w.heap.size ≤ x.block) ∧ Below w.heap.size w w'
theorem res1k {fn : Func} {p : Tmp} (hf : fn.results = #[.cell p 30]) {tm : Array Value} {b : Nat} {q : Sh.Ks} {W : World} (ht : tm[p]? = some (.pointer (some ⟨b, 0, none⟩))) (xk : Box W b (kv q)) : (results fn tm).run Tryz.prog W = .ok (.agg #[.int .i64 q.ph, .int .i64 q.ep, .bool q.mj, .slice q.wk.a q.wk.n q.wk.c, .bool q.ov, .int .i64 q.pa, .int .i64 q.pf, .int .i64 q.ps, .int .i64 q.pc, .bool q.me]) W := by
  have l2 := run_loadVar_mid (P := Tryz.prog) W b 0 30 (kv q) _ (fun j v hj => by rw [Nat.zero_add]; exact xk.cel j v hj) Tryz.underlying30 rfl infK
  simp [results, hf, ht, asAddr, l2]
  rfl
set_option maxHeartbeats 2000000 in
theorem rcol_any (k : Sh.Ks) (xs : List Int) (w : World) (hk : Sh.WRow w w.heap.size k xs) (hn : xs.length ≤ 1000000) : Calls Tryz.prog 38 #[(.agg #[.int .i64 k.ph, .int .i64 k.ep, .bool k.mj, .slice k.wk.a k.wk.n k.wk.c, .bool k.ov, .int .i64 k.pa, .int .i64 k.pf, .int .i64 k.ps, .int .i64 k.pc, .bool k.me])] w (RcOut w k xs) := by
  have HK := Lib.hid hk
  have hn' : k.wk.n ≤ 2000000 := by have := hk.1; omega
  clear hk hn
  go_enter Tryz.func38, Tryz.ntmps38
  go_upto_region 2 with fail
  obtain ⟨W1, hW1⟩ : ∃ W1, W1 = ((w.alloc (.cells #[.int .i64 k.ph, .int .i64 k.ep, .bool k.mj, .slice k.wk.a k.wk.n k.wk.c, .bool k.ov, .int .i64 k.pa, .int .i64 k.pf, .int .i64 k.ps, .int .i64 k.pc, .bool k.me] 30)).alloc (.cells #[.int .i64 0, .int .i64 0, .bool false, .slice none 0 0, .bool false, .int .i64 0, .int .i64 0, .int .i64 0, .int .i64 0, .bool false] 30)).alloc (.cells #[.int .i64 k.ph, .int .i64 k.ep, .bool k.mj, .slice k.wk.a k.wk.n k.wk.c, .bool k.ov, .int .i64 k.pa, .int .i64 k.pf, .int .i64 k.ps, .int .i64 k.pc, .bool k.me] 30) := ⟨_, rfl⟩
  have L1 : Hid (Lb w W1 [(w.heap.size + 1 + 1, kv k), (w.heap.size + 1, kv noK0), (w.heap.size, kv k)] [] []) := Lib.hid (by
    have l := (((lb_none w).lay (kv k) 30).lay (kv noK0) 30).lay (kv k) 30
    rw [World.size_alloc, World.size_alloc] at l
    rw [hW1]
    exact l)
  rw [← hW1]
  clear hW1
  have q3 := (L1.out.bx (w.heap.size) (kv k) (by simp)).cel 3 (.slice k.wk.a k.wk.n k.wk.c) rfl
  have hr1 := Lib.hid (show Row W1 W1.heap.size k.wk.a k.wk.n xs from HK.out.next L1.out.bel)
  go_wp2_with (at_builtin; refine Ls.list_cloned rfl _ _ rfl rfl rfl hr1.out hn' ?_)
  intro p' cp' w2 hc
  have hb2 : Below W1.heap.size W1 w2 := (Below.refl _ _).grown hc.grown (Nat.le_refl _) (by intro j hj; cases hj)
  have L2 := Lib.hid (L1.out.next hb2)
  have T2 := Lib.hid (And.intro (Mu.all_row9 (s := ⟨p', k.wk.n, cp'⟩) hc.own) (show ∀ x, p' = some x → W1.heap.size ≤ x.block from fun x hx => (hc.own.lt x.block (by rw [Ls.ownBlock_slice, hx]; rfl)).1))
  have Z1 := Lib.hid (show w.heap.size + 1 + 1 < W1.heap.size from (L1.out.bx (w.heap.size + 1 + 1) (kv k) (by simp)).lt)
  clear hc hb2 q3 L1
  go_upto_region 3 with (refine w_store (st_ints (j := 3) (L2.out.bx (w.heap.size + 1 + 1) (kv k) (by simp)) (show 3 < 10 by decide) ⟨p', k.wk.n, cp'⟩) rfl rfl rfl rfl rfl ?_)
  obtain ⟨W3, hW3⟩ : ∃ W3, W3 = w2.setCell ⟨w.heap.size + 1 + 1, 3, none⟩ (.slice p' k.wk.n cp') := ⟨_, rfl⟩
  have X3 : Hid (Box W3 (w.heap.size + 2) (kv (Sh.kw k ⟨p', k.wk.n, cp'⟩ k.ov)) ∧ Box W3 (w.heap.size + 1) (kv noK0) ∧ Below w.heap.size w W3 ∧ Row W3 W3.heap.size p' k.wk.n xs) := Lib.hid (by
    have hs : ∀ g, ¬ g = w.heap.size + 1 + 1 → W3.heap[g]? = w2.heap[g]? := fun g hg => by rw [hW3]; exact Below.heap_setCell _ _ _ _ hg
    have hz : W3.heap.size = w2.heap.size := by rw [hW3]; simp [World.setCell]
    refine ⟨by rw [hW3]; exact (L2.out.bx (w.heap.size + 1 + 1) (kv k) (by simp)).set 3 _, (L2.out.bx (w.heap.size + 1) (kv noK0) (by simp)).same (hs _ (by omega)) (Nat.le_of_eq hz.symm), by rw [hW3]; exact L2.out.bel.setCell (p := ⟨w.heap.size + 1 + 1, 3, none⟩) (by show w.heap.size ≤ w.heap.size + 1 + 1; omega) _, by rw [hz]; exact Mu.row_keep T2.out.1 fun _ x hx => hs x.block (by have := T2.out.2 x hx; have := Z1.out; omega)⟩)
  rw [← hW3]
  clear hW3
  go_wp2_with (first
    | (refine w_load (ldKb (b := w.heap.size + 2) X3.out.1) rfl rfl rfl rfl ?_)
    | (refine w_store (stKb X3.out.2.1 rfl (Sh.kw k ⟨p', k.wk.n, cp'⟩ k.ov)) rfl rfl rfl rfl rfl ?_))
  refine bodyPost_ret (res1k (q := Sh.kw k ⟨p', k.wk.n, cp'⟩ k.ov) rfl rfl (Mu.box_all X3.out.2.1 rfl)) rfl ⟨⟨p', k.wk.n, cp'⟩, rfl, ?_, fun _ x hx => ?_, below_puts _ (by omega) _ _ _ X3.out.2.2.1⟩
  · rw [puts_size]
    exact Mu.row_keep X3.out.2.2.2 fun _ x hx => puts_other _ _ _ _ (by have := T2.out.2 x hx; have := Z1.out; omega)
  · have := T2.out.2 x hx
    have := Z1.out
    omega
section
variable {w W W0 : World} {p : Nat → Nat} {c : Nat → List Value} {n m P : Q3}
/-- Another state, in new memory, is held instead. -/
theorem W6.swap (h : W6 w W p c [n, P]) (hm : Hold W0 m) (hn : NewQ W.heap.size m) (hb : Below W.heap.size W W0) : W6 w W0 p c [m, P] := by
  have nx := h.next hb
  exact W6.held ⟨nx.bel, nx.lo, nx.inj, nx.box, fun x hx => nx.hold x (by rcases List.mem_singleton.1 hx with rfl; simp)⟩ hm fun i hi => hn.off (h.lt hi)
/-- What lies between two blocks is off both. -/
theorem off_mid {u : Ls.Sl} {A B b : Nat} (h1 : 0 < u.n → ∀ x, u.a = some x → A ≤ x.block) (h2 : 0 < u.n → ∀ x, u.a = some x → x.block < B) (hb : b < A ∨ B ≤ b) : Mu.Off b u := fun hn x hx => by
  have := h1 hn x hx
  have := h2 hn x hx
  omega
theorem offh_mid {W : World} {s : Hs} {d : Hd_} {A b : Nat} (h1 : News A s) (h2 : Hp W W.heap.size s d) (hb : b < A ∨ W.heap.size ≤ b) : Mu.OffH b s :=
  ⟨off_mid h1.w (Mu.row_lies h2.words) hb, off_mid h1.p (Mu.prow_lies h2.pages) hb, fun j hj => off_mid (h1.u j hj) (Mu.row_lies (h2.free j hj).1) hb, off_mid h1.c (Mu.brow_lies h2.cards) hb⟩
/-- The six boxes of HandEnds: h, c, t, as t was, k, d. -/
theorem ends_start {w w4 W5 w6 W7 w8 W9 : World} {s s1 : Hs} {k : Sh.Ks} {v : Ls.Sl} {t : Ts} {d : Hd_} {xs : List Int} {F : Nat → List Int} {g : Nat → O4} {bs : List (Nat × List Value)} {rs : List Tl} {ty : TypeId} (hh : Hold w ⟨s, k, t, d, xs, F, g⟩) (z4 : w.heap.size ≤ w4.heap.size) (z5 : w4.heap.size < W5.heap.size) (z6 : W5.heap.size ≤ w6.heap.size) (z7 : w6.heap.size < W7.heap.size) (b67 : Below w6.heap.size w6 W7) (b78 : Below W7.heap.size W7 w8) (h9 : W9 = w8.alloc (.cells (kv (Sh.kw k v k.ov)).toArray ty))
    (h : Lb w W9 ((w8.heap.size, kv (Sh.kw k v k.ov)) :: (w6.heap.size, hv s1) :: (w4.heap.size, tv t) :: (boxes3 w.heap.size s k t ++ bs)) [⟨s, k, t, d, xs, F, g⟩] rs)
    (hp : Hp w6 w6.heap.size s1 d) (hn : News W5.heap.size s1) (hr : Row w8 w8.heap.size v.a v.n xs) (hv8 : 0 < v.n → ∀ x, v.a = some x → W7.heap.size ≤ x.block) (z3 : w.heap.size + 3 ≤ w4.heap.size) :
    W6 w W9 (p6 w.heap.size (w.heap.size + 1) (w.heap.size + 2) w4.heap.size w6.heap.size w8.heap.size) (c6 (hv s) (kv k) (tv t) (tv t) (hv s1) (kv (Sh.kw k v k.ov))) [⟨s1, Sh.kw k v k.ov, t, d, xs, F, g⟩, ⟨s, k, t, d, xs, F, g⟩] := by
  have z8 := b78.size
  have b89 : Below w8.heap.size w8 W9 := by rw [h9]; exact (Below.refl _ _).alloc (Nat.le_refl _) _
  have z9 := b89.size
  have hlo : ∀ i, i < 6 → w.heap.size ≤ p6 w.heap.size (w.heap.size + 1) (w.heap.size + 2) w4.heap.size w6.heap.size w8.heap.size i := all6 ⟨Nat.le_refl _, Nat.le_add_right _ _, Nat.le_add_right _ _, z4, (by show w.heap.size ≤ w6.heap.size; omega), (by show w.heap.size ≤ w8.heap.size; omega)⟩
  have old := h.at ⟨s, k, t, d, xs, F, g⟩ (by simp)
  have hinj : ∀ i j, i < 6 → j < 6 → ¬ i = j → ¬ p6 w.heap.size (w.heap.size + 1) (w.heap.size + 2) w4.heap.size w6.heap.size w8.heap.size i = p6 w.heap.size (w.heap.size + 1) (w.heap.size + 2) w4.heap.size w6.heap.size w8.heap.size j := by
    intro i j hi hj hne
    rcases (show i = 0 ∨ i = 1 ∨ i = 2 ∨ i = 3 ∨ i = 4 ∨ i = 5 by omega) with rfl | rfl | rfl | rfl | rfl | rfl <;> rcases (show j = 0 ∨ j = 1 ∨ j = 2 ∨ j = 3 ∨ j = 4 ∨ j = 5 by omega) with rfl | rfl | rfl | rfl | rfl | rfl <;> first
      | exact absurd rfl hne
      | (simp only [p6]; omega)
  refine W6.held (W6.held ⟨h.bel, hlo, hinj, all6 ⟨h.bx w.heap.size (hv s) (by simp [boxes3]), h.bx (w.heap.size + 1) (kv k) (by simp [boxes3]), h.bx (w.heap.size + 2) (tv t) (by simp [boxes3]), h.bx w4.heap.size (tv t) (by simp), h.bx w6.heap.size (hv s1) (by simp), h.bx w8.heap.size (kv (Sh.kw k v k.ov)) (by simp)⟩, fun x hx => (by cases hx)⟩ old fun i hi => off_old hh (hlo i hi)) ?_ fun i hi => ?_
  · exact ⟨((hp.next b67).next b78).next b89, (hr.below b89).more b89.size, old.t⟩
  · refine ⟨offh_mid hn hp ?_, off_mid hv8 (Mu.row_lies hr) ?_, (off_old hh (hlo i hi)).t⟩
    · rcases (show i = 0 ∨ i = 1 ∨ i = 2 ∨ i = 3 ∨ i = 4 ∨ i = 5 by omega) with rfl | rfl | rfl | rfl | rfl | rfl <;> simp only [p6] <;> omega
    · rcases (show i = 0 ∨ i = 1 ∨ i = 2 ∨ i = 3 ∨ i = 4 ∨ i = 5 by omega) with rfl | rfl | rfl | rfl | rfl | rfl <;> simp only [p6] <;> omega
end
end Go.Proofs.YtgmkomnoiffapaaGreatDoor.Ha
end
section
namespace Go.Proofs.YtgmkomnoiffapaaGreatDoor.Ha
open Go.Proofs.YtgmkomnoiffapaaGreatDoor
open Go.RowKit
set_option maxRecDepth 100000

/-- Slots within the frame, no two alike. -/
def fitG (ops : Array Oper) (n : Nat) : Bool := (List.range ops.size).all fun i => ((ops[i]?).map fun o => (match o.dst with
  | none => true
  | some s => decide (s < n) && (List.range i).all fun j => ((ops[j]?).map fun q => !(q.dst == some s)).getD true)).getD true
theorem fit_g {ops : Array Oper} {n i : Nat} {o : Oper} {s : Nat} (h : fitG ops n = true) (ho : ops[i]? = some o) (hs : o.dst = some s) : s < n ∧ ∀ j q, j < i → ops[j]? = some q → ¬ q.dst = some s := by
  have hi : i < ops.size := (Array.getElem?_eq_some_iff.1 ho).1
  have h2 := List.all_eq_true.1 h i (List.mem_range.2 hi)
  rw [ho] at h2
  simp only [Option.map_some, Option.getD_some] at h2
  rw [hs] at h2
  simp only [Bool.and_eq_true, decide_eq_true_eq] at h2
  refine ⟨h2.1, fun j q hj hq hd => ?_⟩
  have h3 := List.all_eq_true.1 h2.2 j (List.mem_range.2 hj)
  rw [hq] at h3
  simp [hd] at h3
/-- No other one has this slot. -/
theorem fit_ne {ops : Array Oper} {n i j : Nat} {o q : Oper} {s : Nat} (h : fitG ops n = true) (ho : ops[i]? = some o) (hs : o.dst = some s) (hq : ops[j]? = some q) (hd : q.dst = some s) : j = i := by
  rcases Nat.lt_trichotomy j i with hlt | e | hlt
  · exact absurd hd ((fit_g h ho hs).2 j q hlt hq)
  · exact e
  · exact absurd hs ((fit_g h hq hd).2 i o hlt ho)
open Go.Proofs.YtgmkomnoiffapaaGreatDoor.Mu (Pl)
theorem pl_put {ops : Array Oper} {a0 a : Act} {val val' : Nat → Value} {l : Nat → Bool} {i : Nat} {o : Oper} {v : Value} (hf : fitG ops a0.tmps.size = true) (h : Pl ops a0 val l a) (ho : ops[i]? = some o) (hv : ∀ j, l j = true → val' j = val j) (hl : l i = false) (he : val' i = v) : Pl ops a0 val' (Ls.upd l i true) (a.put o.dst v) := by
  cases hd : o.dst with
  | none =>
    refine ⟨h.sz, h.df, h.out, fun j q s hq hj hs => ?_⟩
    by_cases e : j = i
    · subst e
      rw [ho] at hq
      cases hq
      rw [hd] at hs
      cases hs
    · rw [Ls.upd_other _ _ e] at hj
      rw [hv j hj]
      exact h.got j q s hq hj hs
  | some s =>
    have h1 := fit_g hf ho hd
    refine ⟨by simp [Act.put, h.sz], h.df, fun j hj => ?_, fun j q s' hq hj hs => ?_⟩
    · have hne : ¬ s = j := fun e => hj i o ho (by rw [hd, e])
      rw [← h.out j hj]
      simp [Act.put, Array.getElem?_setIfInBounds_ne hne]
    · by_cases e : j = i
      · subst e
        rw [ho] at hq
        cases hq
        rw [hd] at hs
        cases hs
        have : s < a.tmps.size := by rw [h.sz]; exact h1.1
        simp [Act.put, this, he]
      · rw [Ls.upd_other _ _ e] at hj
        have hne : ¬ s = s' := fun e' => e (fit_ne hf ho hd hq (by rw [hs, e']))
        rw [hv j hj, ← h.got j q s' hq hj hs]
        simp [Act.put, Array.getElem?_setIfInBounds_ne hne]
/-- What is carried out, one by one. -/
def putD (val : Nat → Value) : List (Option Tmp) → Nat → Act → Act
  | [], _, a => a
  | d :: ds, k, a => putD val ds (k + 1) (a.put d (val k))
section
variable {val : Nat → Value}
theorem put_size (a : Act) (d : Option Tmp) (v : Value) : (a.put d v).tmps.size = a.tmps.size := by cases d <;> simp [Act.put]
theorem putD_out (j : Nat) : ∀ (ds : List (Option Tmp)) (k : Nat) (a : Act), (∀ i : Nat, ¬ ds[i]? = some (some j)) → (putD val ds k a).tmps[j]? = a.tmps[j]?
  | [], _, _, _ => rfl
  | d :: ds, k, a, h => by
    have e : (putD val ds (k + 1) (a.put d (val k))).tmps[j]? = _ := putD_out j ds (k + 1) _ fun i hi => h (i + 1) hi
    show (putD val ds (k + 1) _).tmps[j]? = _
    rw [e]
    cases hd : d with
    | none => rfl
    | some s => exact Sh.put_ne fun e' => h 0 (by rw [hd, e']; rfl)
theorem putD_at (j : Nat) : ∀ (ds : List (Option Tmp)) (k i : Nat) (a : Act), ds[i]? = some (some j) → (∀ i' : Nat, ds[i']? = some (some j) → i' = i) → j < a.tmps.size → (putD val ds k a).tmps[j]? = some (val (k + i))
  | [], _, i, _, h, _, _ => by simp at h
  | d :: ds, k, 0, a, h, hu, hj => by
    have e : (putD val ds (k + 1) (a.put d (val k))).tmps[j]? = _ := putD_out j ds (k + 1) _ fun i hi => by
      have := hu (i + 1) hi
      omega
    show (putD val ds (k + 1) _).tmps[j]? = _
    have hd : d = some j := by simpa using h
    rw [e, Nat.add_zero, hd]
    exact Sh.put_at hj
  | d :: ds, k, i + 1, a, h, hu, hj => by
    have e := putD_at j ds (k + 1) i (a.put d (val k)) h (fun i' hi' => by have := hu (i' + 1) hi'; omega) (by rw [put_size]; exact hj)
    show (putD val ds (k + 1) _).tmps[j]? = _
    rw [e, show k + 1 + i = k + (i + 1) by omega]
theorem putD_df : ∀ (ds : List (Option Tmp)) (k : Nat) (a : Act), (putD val ds k a).defers = a.defers
  | [], _, _ => rfl
  | d :: ds, k, a => by
    show (putD val ds (k + 1) _).defers = _
    rw [putD_df ds (k + 1)]
    cases d <;> rfl
end
/-- The frame behind a region. -/
theorem pl_full {ops : Array Oper} {a0 a : Act} {val : Nat → Value} {l : Nat → Bool} (h : Pl ops a0 val l a) (hf : fitG ops a0.tmps.size = true) (hall : ∀ i, i < ops.size → l i = true) (ds : List (Option Tmp)) (hd : ops.toList.map (·.dst) = ds) : a = putD val ds 0 a0 := by
  have hg : ∀ (i : Nat) (d : Option Tmp), ds[i]? = some d ↔ ∃ o : Oper, ops[i]? = some o ∧ o.dst = d := fun i d => by
    rw [← hd, List.getElem?_map, Array.getElem?_toList]
    simp [Option.map_eq_some_iff]
  refine Sh.act_ext (h.df.trans (putD_df _ _ _).symm) fun j => ?_
  by_cases hj : ∃ i : Nat, ds[i]? = some (some j)
  · obtain ⟨i, hi⟩ := hj
    obtain ⟨o, ho, hs⟩ := (hg i _).1 hi
    have hlt := (fit_g hf ho hs).1
    rw [putD_at j ds 0 i a0 hi (fun i' hi' => by
      obtain ⟨q, hq, hqs⟩ := (hg i' _).1 hi'
      exact fit_ne hf ho hs hq hqs) hlt, Nat.zero_add]
    exact h.got i o j ho (hall i (Array.getElem?_eq_some_iff.1 ho).1) hs
  · rw [putD_out j ds 0 a0 fun i hi => hj ⟨i, hi⟩]
    exact h.out j fun i o ho hs => hj ⟨i, (hg i _).2 ⟨o, ho, hs⟩⟩
section
variable {P : Program} {ops : Array Oper} {Q : Exit → Act → World → Prop}
theorem region_planG {X : Type} {id : Nat} {a : Act} {w : World} (hm : P.follows .mixedOrders = true) (hb : backAny ops = true) (hf : fitG ops a.tmps.size = true) (val : X → Nat → Value) (skip : Nat → Bool) (hz : ∀ x i, skip i = true → val x i = undef) (I : X → (Nat → Bool) → World → Prop) (x0 : X) (hstart : I x0 (fun _ => false) w.drew)
    (hw : ∀ (i : Nat) (o : Oper) (l : Nat → Bool) (a' : Act) (x : X), ops[i]? = some o → Pl ops a (val x) l a' → (∀ e ∈ o.after, Region.binds .any e = true → l e.on = true) → Region.wanted o (yielded ops a'.tmps) = !skip i)
    (hskip : ∀ (i : Nat) (l : Nat → Bool) (x : X) (W : World), skip i = true → I x l W → I x (Ls.upd l i true) W)
    (hstep : ∀ (i : Nat) (o : Oper) (l : Nat → Bool) (a' : Act) (x : X) (W : World), ops[i]? = some o → Pl ops a (val x) l a' → I x l W → l i = false → skip i = false → (∀ e ∈ o.after, Region.binds .any e = true → l e.on = true) → ∀ K : Act → World → Prop,
      (∀ (x' : X) (W' : World), (∀ j, l j = true → val x' j = val x j) → I x' (Ls.upd l i true) W' → K (a'.put o.dst (val x' i)) W') → o.wp P a' W K Q)
    (hdone : ∀ (l : Nat → Bool) (a' : Act) (x : X) (W : World), Pl ops a (val x) l a' → I x l W → (∀ i, i < ops.size → l i = true) → Q .normal a' W) : (Code.region id ops true).wp P Q a w := by
  refine wp_region_from hm (fun a0 l a' W => a0 = a ∧ ∃ x, Pl ops a (val x) l a' ∧ I x l W) (dag_any hb) ⟨rfl, x0, ⟨rfl, rfl, fun _ _ => rfl, fun _ _ _ _ h => (by cases h)⟩, hstart⟩ ?_ ?_
  · rintro i o l a' W ho ⟨_, x, hP, hI⟩ hl haft K hK
    refine wpOp_of ho ?_
    have hg := hw i o l a' x ho hP haft
    cases hk : skip i with
    | true =>
      rw [hk] at hg
      rw [if_neg (show ¬ Region.wanted o (yielded ops a'.tmps) = true by rw [hg]; decide)]
      exact hK _ _ ⟨rfl, x, pl_put hf hP ho (fun _ _ => rfl) hl (hz x i hk), hskip i l x W hk hI⟩
    | false =>
      rw [hk] at hg
      rw [if_pos (show Region.wanted o (yielded ops a'.tmps) = true from hg)]
      exact hstep i o l a' x W ho hP hI hl hk haft K fun x' W' hv hI' => hK _ _ ⟨rfl, x', pl_put hf hP ho hv hl rfl, hI'⟩
  · rintro l a' W ⟨_, x, hP, hI⟩ hall
    exact hdone l a' x W hP hI hall
end
end Go.Proofs.YtgmkomnoiffapaaGreatDoor.Ha
end
section
namespace Go.Proofs.YtgmkomnoiffapaaGreatDoor
open Go.ChangeShapes Go.WideShapes Go.ChangeAt Go.RowKit Go.Deep
set_option maxRecDepth 100000

theorem own : ownKnob Tryz.prog.godebug = none := by kernel_rfl
theorem laidOut : laidOutB Tryz.prog = true := by kernel_rfl
def laidSizes : List (String × DataW Unit) := [("ragpicker/class.sizes", Rows.laid_ragpicker_class_sizes)]
theorem gSizes : Tryz.prog.globalNamed "ragpicker/class.sizes" = some 0 := by kernel_rfl
theorem tSizes : (Tryz.prog.globals[0]?).map (·.type) = some 150 := by kernel_rfl
theorem cInt : Tryz.prog.cellsOf 3 = 1 := by kernel_rfl
theorem cSizes : Tryz.prog.cellsOf 150 = 3 := by kernel_rfl
theorem of_laid {W : World} (h : laidMetH Tryz.prog laidSizes W) : Cl.Sz W := by
  rw [MakeChecks.laidMetH_plain _ _ _ (by kernel_rfl)] at h
  have hT : Lib.TabIs Tryz.prog W "ragpicker/class.sizes" .i64 [2, 4, 8] := Lib.tabIs_of_head gSizes tSizes Tryz.underlying150 Tryz.underlying3 cInt cSizes h
  exact ⟨hT.cell gSizes 0 (by decide), hT.cell gSizes 1 (by decide), hT.cell gSizes 2 (by decide)⟩
theorem door_met (os : Os) (args : Array Value) : laidMetH Tryz.prog laidSizes ((World.doorLaid Tryz.prog 400 os).forCall (fun _ _ => 0) ⟨#[], args, []⟩).memory :=
  laidMetH_of_parts3 (fuel := 8) (laidMet_of_run' 8 (by kernel_rfl) (by kernel_rfl)) (by kernel_rfl) (by kernel_rfl)

/-- How much a reading holds. -/
theorem bulk_one {H : Type} (d : DataW H) : 1 ≤ Rows.uptoBulk d := by
  cases d <;> first | (simp only [Rows.uptoBulk]; omega) | (rename_i l; cases l <;> simp [Rows.uptoBulk])
theorem bulk_long {H : Type} : ∀ l : List (DataW H), l.length ≤ Rows.uptoBulkAll l
  | [] => by simp [Rows.uptoBulkAll]
  | x :: r => by
    have h1 := bulk_one x
    have h2 := bulk_long r
    simp only [Rows.uptoBulkAll, List.length_cons]
    omega
theorem bulk_slice {H : Type} (l r : List (DataW H)) : l.length ≤ Rows.uptoBulk (.slice l r) := by
  have := bulk_long l
  simp only [Rows.uptoBulk]
  omega
theorem wf_bounds {n : Int} (h : (Lit.int .i64 n).wf = true) : -9223372036854775808 ≤ n ∧ n ≤ 9223372036854775807 := by
  simpa [Lit.wf, IntKind.min, IntKind.max, IntKind.signed, IntKind.bits] using h
def Fit64 (zs : List Int) : Prop := ∀ i, -9223372036854775808 ≤ zs.getD i 0 ∧ zs.getD i 0 ≤ 9223372036854775807
/-- A slice of numbers that comes in. -/
theorem ints_in {H : Type} {enc : TypeId × Value → H} {w : World} {base : Nat} {spare : Nat → Bool} {held : Bool} {fuel : Nat} {cs : List Value} {x : DataW H × List MemPlace}
    (h : DataW.trod enc Tryz.prog w base spare held fuel 22 cs = some x) :
    ∃ (s : Ls.Sl) (zs : List Int), cs = [.slice s.a s.n s.c] ∧ (Row w w.heap.size s.a s.n zs ∧ s.n ≤ s.c ∧ s.c ≤ maxLen) ∧ s.n ≤ Rows.uptoBulk x.1 ∧ Fit64 zs := by
  rcases open_ints Tryz.underlying22 Tryz.underlying3 (by kernel_rfl) h with ⟨rfl, rfl⟩ | ⟨y, len, cap, zs, rfl, _, hl, hm, hz, rfl, hcell, hwz⟩
  · exact ⟨⟨none, 0, 0⟩, [], rfl, ⟨Row.none_ _ _, Nat.le_refl _, by show (0 : Nat) ≤ maxLen; unfold maxLen; omega⟩, Nat.zero_le _, fun i => by simp⟩
  · have hz' : len ≤ zs.length := by rw [hz]; split <;> omega
    refine ⟨⟨some y, len, cap⟩, zs.take len, rfl, ⟨⟨by simp; omega, fun hn => ?_⟩, hl, hm⟩, ?_, fun i => ?_⟩
    · have hn' : 0 < len := hn
      obtain ⟨b, off, spot⟩ := y
      have h0 := hcell 0 (by omega)
      have hs : spot = none := by simpa [Addr.add] using World.cell?_spot h0
      subst hs
      refine ⟨b, off, rfl, ?_, fun i hi => ?_⟩
      · have := World.block_lt_of_cell? w _ h0
        simpa [Addr.add] using this
      · have hi' : i < len := hi
        have := hcell i (by omega)
        rw [Addr.add_lit] at this
        rw [this]
        simp [List.getD, hi']
    · have := bulk_slice (H := H) (lits .i64 (zs.take len)) (lits .i64 (zs.drop len))
      have e : (lits (H := H) .i64 (zs.take len)).length = len := by simp [lits]; omega
      show len ≤ Rows.uptoBulk (DataW.slice (lits .i64 (zs.take len)) (lits .i64 (zs.drop len)))
      rw [e] at this
      exact this
    · by_cases hi : i < len
      · have hi2 : i < zs.length := by omega
        have h1 := hwz (zs.getD i 0) (getD_mem hi2)
        rw [show (zs.take len).getD i 0 = zs.getD i 0 by simp [List.getD, hi]]
        exact wf_bounds h1
      · rw [show (zs.take len).getD i 0 = 0 by simp [List.getD, List.getElem?_eq_none (show (zs.take len).length ≤ i by simp; omega)]]
        omega
theorem bools_in {H : Type} {enc : TypeId × Value → H} {w : World} {base : Nat} {spare : Nat → Bool} {held : Bool} {fuel : Nat} {cs : List Value} {x : DataW H × List MemPlace}
    (h : DataW.trod enc Tryz.prog w base spare held fuel 26 cs = some x) : ∃ (s : Ls.Sl) (f : Nat → Bool), cs = [.slice s.a s.n s.c] ∧ BRow w w.heap.size s.a s.n f := by
  rcases open_slice Tryz.underlying26 h with ⟨hcs, _⟩ | ⟨y, len, cap, m, k, D, Pl, hcs, _, hl, hm, hmm, _, hi⟩
  · exact ⟨⟨none, 0, 0⟩, fun _ => false, hcs, fun h0 => absurd h0 (by simp)⟩
  · have hm' : len ≤ m := by rw [hmm]; split <;> omega
    have each : ∀ i, i < len → ∃ v : Bool, w.cell? ((y.add (i * 1)).add 0) = some (.bool v) := by
      intro i hlt
      obtain ⟨cs', h1, h2⟩ := hi i (by omega)
      have ce : Tryz.prog.cellsOf 4 = 1 := by kernel_rfl
      rw [ce] at h1
      obtain ⟨_, hlen, hcell⟩ := World.cells?_some h1
      match cs', hlen with
      | [c0], _ =>
        obtain ⟨v, e, _⟩ := DataW.trod_bool Tryz.underlying4 h2
        simp only [List.cons.injEq, and_true] at e
        subst e
        exact ⟨v, by simpa using hcell 0 (by decide)⟩
    obtain ⟨q, hq⟩ := choose_lt each
    refine ⟨⟨some y, len, cap⟩, q, hcs, fun hn => ?_⟩
    have hn' : 0 < len := hn
    obtain ⟨b, off, spot⟩ := y
    have h0 := hq 0 hn'
    have hs : spot = none := by simpa [Addr.add] using World.cell?_spot h0
    subst hs
    refine ⟨b, off, rfl, ?_, fun i hlt => ?_⟩
    · have := World.block_lt_of_cell? w _ h0
      simpa [Addr.add] using this
    · have := hq i hlt
      rw [Addr.add_lit, Addr.add_lit, Nat.mul_one] at this
      exact this
/-- Three of them. -/
def tri {α : Type} (a b c : α) : Nat → α
  | 0 => a
  | 1 => b
  | _ => c
theorem lists_in {H : Type} {enc : TypeId × Value → H} {w : World} {base : Nat} {spare : Nat → Bool} {held : Bool} {fuel : Nat} {c0 c1 c2 : Value} {x : DataW H × List MemPlace}
    (h : DataW.trod enc Tryz.prog w base spare held fuel 25 [c0, c1, c2] = some x) :
    ∃ (u : Nat → Ls.Sl) (f : Nat → List Int), [c0, c1, c2] = [.slice (u 0).a (u 0).n (u 0).c, .slice (u 1).a (u 1).n (u 1).c, .slice (u 2).a (u 2).n (u 2).c] ∧ Ls.L3 w w.heap.size u f ∧ (u 0).n + (u 1).n + (u 2).n ≤ Rows.uptoBulk x.1 := by
  obtain ⟨y0, y1, y2, n, rfl, h0, h1, h2⟩ := trod_array3 Tryz.underlying25 (by kernel_rfl) h
  obtain ⟨s0, z0, e0, r0, b0, _⟩ := ints_in h0
  obtain ⟨s1, z1, e1, r1, b1, _⟩ := ints_in h1
  obtain ⟨s2, z2, e2, r2, b2, _⟩ := ints_in h2
  simp only [List.cons.injEq, and_true] at e0 e1 e2
  refine ⟨tri s0 s1 s2, tri z0 z1 z2, by rw [e0, e1, e2]; rfl, fun j hj => ?_, ?_⟩
  · match j, hj with
    | 0, _ => exact r0
    | 1, _ => exact r1
    | 2, _ => exact r2
  · simp only [Rows.uptoBulk, Rows.uptoBulkAll, tri]
    omega
end Go.Proofs.YtgmkomnoiffapaaGreatDoor
end
section
namespace Go.Proofs.YtgmkomnoiffapaaGreatDoor
open Go.ChangeShapes Go.WideShapes Go.ChangeAt Go.RowKit Go.Deep
set_option maxRecDepth 100000

end Go.Proofs.YtgmkomnoiffapaaGreatDoor
end
section
namespace Go.Proofs.YtgmkomnoiffapaaGreatDoor
open Go.ChangeShapes Go.WideShapes Go.ChangeAt Go.RowKit Go.Deep

section
variable {H : Type} {enc : TypeId × Value → H} {P : Program} {w : World} {base : Nat} {spare : Nat → Bool} {held : Bool}

end
end Go.Proofs.YtgmkomnoiffapaaGreatDoor
end
section
namespace Go.Proofs.YtgmkomnoiffapaaGreatDoor
open Go.ChangeShapes Go.WideShapes Go.ChangeAt Go.RowKit Go.Deep
set_option maxRecDepth 100000

theorem pin_cap {H : Type} {enc : TypeId × Value → H} {w : World} {base : Nat} {spare : Nat → Bool} {held : Bool} {fuel : Nat} {cs : List Value} {x : DataW H × List MemPlace}
    (h : DataW.trod enc Tryz.prog w base spare held fuel 23 cs = some x) : ∃ (s : Ls.Sl) (f : Nat → Int × Int), cs = [.slice s.a s.n s.c] ∧ Cl.PRow w w.heap.size s.a s.n f ∧ s.n ≤ s.c := by
  rcases open_slice_pairs Tryz.underlying23 Tryz.underlying81 (by kernel_rfl) rfl rfl (by kernel_rfl) (by kernel_rfl) h with ⟨hcs, _⟩ | ⟨x, l, c, m, n, V0, V1, D0, D1, P0, P1, hcs, _, hl, hm, hmm, _, hi⟩
  · exact ⟨⟨none, 0, 0⟩, fun _ => (0, 0), hcs, Cl.PRow.empty _ _ _ _, Nat.le_refl _⟩
  · refine ⟨⟨some x, l, c⟩, fun i => (intOf (V0 i), intOf (V1 i)), hcs, fun hn => ?_, hl⟩
    have hn' : 0 < l := hn
    have hm' : l ≤ m := by rw [hmm]; split <;> omega
    obtain ⟨b, off, spot⟩ := x
    have h0 := (hi 0 (by omega)).1
    have hs : spot = none := by simpa [Addr.add] using World.cell?_spot h0
    subst hs
    refine ⟨b, off, rfl, ?_, fun i hlt => ?_⟩
    · have := World.block_lt_of_cell? w _ h0
      simpa [Addr.add] using this
    · have hlt' : i < l := hlt
      obtain ⟨g0, g1, t0, t1⟩ := hi i (by omega)
      rw [Addr.add_lit] at g0 g1
      rw [← Nat.add_assoc] at g1
      obtain ⟨z0, e0, _⟩ := DataW.trod_int Tryz.underlying3 t0
      obtain ⟨z1, e1, _⟩ := DataW.trod_int Tryz.underlying3 t1
      simp only [List.cons.injEq, and_true] at e0 e1
      refine ⟨?_, ?_⟩
      · show _ = some (Value.int .i64 (intOf (V0 i)))
        rw [g0, e0]
        rfl
      · show _ = some (Value.int .i64 (intOf (V1 i)))
        rw [g1, e1]
        rfl
theorem heap_of8 {H : Type} {enc : TypeId × Value → H} {w : World} {base b0 : Nat} {spare : Nat → Bool} {held : Bool} {v : Value} {d : DataW H} {p : List MemPlace} {r : Reach}
    (hv : Value.okWide Tryz.prog w r b0 28 v) (h : DataW.Trod enc Tryz.prog w base spare held 28 v d p) :
    ∃ (s : Hs) (e : Hd_), v = (.agg #[.slice s.w.a s.w.n s.w.c, .slice s.p.a s.p.n s.p.c, .slice (s.u 0).a (s.u 0).n (s.u 0).c, .slice (s.u 1).a (s.u 1).n (s.u 1).c, .slice (s.u 2).a (s.u 2).n (s.u 2).c, .slice s.c.a s.c.n s.c.c]) ∧ Hp w w.heap.size s e ∧ Fit64 e.ws ∧ s.p.n ≤ s.p.c := by
  obtain ⟨⟨l⟩, rfl, hsz⟩ := okWide_struct Tryz.underlying28 hv
  obtain ⟨fuel, hf⟩ := h
  obtain ⟨xs, k, _, hx, hl, hlen, hg⟩ := DataW.trod_struct Tryz.underlying28 hf
  have hl6 : l.length = 6 := hsz.trans (by kernel_rfl)
  match l, hl6, xs, hlen with
  | [c0, c1, c2, c3, c4, c5], _, [y0, y1, y2, y3], _ =>
    have e22 : Tryz.prog.cellsOf 22 = 1 := by kernel_rfl
    have e23 : Tryz.prog.cellsOf 23 = 1 := by kernel_rfl
    have e25 : Tryz.prog.cellsOf 25 = 3 := by kernel_rfl
    have e26 : Tryz.prog.cellsOf 26 = 1 := by kernel_rfl
    have g0 : DataW.trod enc Tryz.prog w base spare held k 22 [c0] = some y0 := by have := hg 0 _ rfl; simpa [e22, Value.cells] using this
    have g1 : DataW.trod enc Tryz.prog w base spare held k 23 [c1] = some y1 := by have := hg 1 _ rfl; simpa [e23, Value.cells] using this
    have g2 : DataW.trod enc Tryz.prog w base spare held k 25 [c2, c3, c4] = some y2 := by have := hg 2 _ rfl; simpa [e25, Value.cells] using this
    have g3 : DataW.trod enc Tryz.prog w base spare held k 26 [c5] = some y3 := by have := hg 3 _ rfl; simpa [e26, Value.cells] using this
    obtain ⟨s0, zs, h0, r0, _, f0⟩ := ints_in g0
    obtain ⟨s1, f1, h1, r1, c1'⟩ := pin_cap g1
    obtain ⟨u, F, h2, r2, _⟩ := lists_in g2
    obtain ⟨s3, f3, h3, r3⟩ := bools_in g3
    simp only [List.cons.injEq, and_true] at h0 h1 h2 h3
    obtain ⟨rfl, rfl, rfl⟩ := h2
    subst h0 h1 h3
    refine ⟨⟨s0, s1, u, s3⟩, ⟨zs, f1, F, f3⟩, rfl, ⟨r0.1, r1, r2, r3⟩, f0, c1'⟩
end Go.Proofs.YtgmkomnoiffapaaGreatDoor
end
section
namespace Go.Proofs.YtgmkomnoiffapaaGreatDoor.Sh
open Go.Proofs.YtgmkomnoiffapaaGreatDoor
open Go.ChangeShapes Go.WideShapes Go.ChangeAt Go.RowKit Go.Deep
set_option maxRecDepth 100000

theorem col_of {H : Type} {enc : TypeId × Value → H} {w : World} {base b0 : Nat} {spare : Nat → Bool} {held : Bool} {v : Value} {d : DataW H} {p : List MemPlace} {r : Reach}
    (hv : Value.okWide Tryz.prog w r b0 30 v) (h : DataW.Trod enc Tryz.prog w base spare held 30 v d p) :
    ∃ (k : Ks) (xs : List Int), v = (.agg #[.int .i64 k.ph, .int .i64 k.ep, .bool k.mj, .slice k.wk.a k.wk.n k.wk.c, .bool k.ov, .int .i64 k.pa, .int .i64 k.pf, .int .i64 k.ps, .int .i64 k.pc, .bool k.me]) ∧ WRow w w.heap.size k xs ∧ k.wk.n ≤ k.wk.c ∧ k.wk.c ≤ maxLen ∧ (Lit.int .i64 k.ep).wf = true := by
  obtain ⟨⟨l⟩, rfl, hsz⟩ := okWide_struct Tryz.underlying30 hv
  obtain ⟨fuel, hf⟩ := h
  obtain ⟨xs, k, _, hx, hl, hlen, hg⟩ := DataW.trod_struct Tryz.underlying30 hf
  have hl10 : l.length = 10 := hsz.trans (by kernel_rfl)
  match l, hl10, xs, hlen with
  | [c0, c1, c2, c3, c4, c5, c6, c7, c8, c9], _, [y0, y1, y2, y3, y4, y5, y6, y7, y8, y9], _ =>
    have e1 : Tryz.prog.cellsOf 3 = 1 := by kernel_rfl
    have e2 : Tryz.prog.cellsOf 4 = 1 := by kernel_rfl
    have e3 : Tryz.prog.cellsOf 22 = 1 := by kernel_rfl
    have g0 : DataW.trod enc Tryz.prog w base spare held k 3 [c0] = some y0 := by have := hg 0 _ rfl; simpa [e1, Value.cells] using this
    have g1 : DataW.trod enc Tryz.prog w base spare held k 3 [c1] = some y1 := by have := hg 1 _ rfl; simpa [e1, Value.cells] using this
    have g2 : DataW.trod enc Tryz.prog w base spare held k 4 [c2] = some y2 := by have := hg 2 _ rfl; simpa [e2, Value.cells] using this
    have g3 : DataW.trod enc Tryz.prog w base spare held k 22 [c3] = some y3 := by have := hg 3 _ rfl; simpa [e3, Value.cells] using this
    have g4 : DataW.trod enc Tryz.prog w base spare held k 4 [c4] = some y4 := by have := hg 4 _ rfl; simpa [e2, Value.cells] using this
    have g5 : DataW.trod enc Tryz.prog w base spare held k 3 [c5] = some y5 := by have := hg 5 _ rfl; simpa [e1, Value.cells] using this
    have g6 : DataW.trod enc Tryz.prog w base spare held k 3 [c6] = some y6 := by have := hg 6 _ rfl; simpa [e1, Value.cells] using this
    have g7 : DataW.trod enc Tryz.prog w base spare held k 3 [c7] = some y7 := by have := hg 7 _ rfl; simpa [e1, Value.cells] using this
    have g8 : DataW.trod enc Tryz.prog w base spare held k 3 [c8] = some y8 := by have := hg 8 _ rfl; simpa [e1, Value.cells] using this
    have g9 : DataW.trod enc Tryz.prog w base spare held k 4 [c9] = some y9 := by have := hg 9 _ rfl; simpa [e2, Value.cells] using this
    obtain ⟨n0, h0, _, _⟩ := DataW.trod_int Tryz.underlying3 g0
    obtain ⟨n1, h1, _, w1⟩ := DataW.trod_int Tryz.underlying3 g1
    obtain ⟨n2, h2, _⟩ := DataW.trod_bool Tryz.underlying4 g2
    obtain ⟨s3, zs, h3, r3, _, _⟩ := ints_in g3
    obtain ⟨n4, h4, _⟩ := DataW.trod_bool Tryz.underlying4 g4
    obtain ⟨n5, h5, _, _⟩ := DataW.trod_int Tryz.underlying3 g5
    obtain ⟨n6, h6, _, _⟩ := DataW.trod_int Tryz.underlying3 g6
    obtain ⟨n7, h7, _, _⟩ := DataW.trod_int Tryz.underlying3 g7
    obtain ⟨n8, h8, _, _⟩ := DataW.trod_int Tryz.underlying3 g8
    obtain ⟨n9, h9, _⟩ := DataW.trod_bool Tryz.underlying4 g9
    simp only [List.cons.injEq, and_true] at h0 h1 h2 h3 h4 h5 h6 h7 h8 h9
    subst h0 h1 h2 h3 h4 h5 h6 h7 h8 h9
    exact ⟨⟨n0, n1, n2, s3, n4, n5, n6, n7, n8, n9⟩, zs, rfl, r3.1, r3.2.1, r3.2.2, w1⟩
end Go.Proofs.YtgmkomnoiffapaaGreatDoor.Sh
end
section
namespace Go.Proofs.YtgmkomnoiffapaaGreatDoor.Rt
open Go.Proofs.YtgmkomnoiffapaaGreatDoor
open Go.ChangeShapes Go.WideShapes Go.ChangeAt Go.RowKit Go.Deep
set_option maxRecDepth 100000

section
variable {H : Type} {enc : TypeId × Value → H} {w : World} {base : Nat} {spare : Nat → Bool} {held : Bool}
theorem ints_in {fuel : Nat} {cs : List Value} {x : DataW H × List MemPlace} (h : DataW.trod enc Tryz.prog w base spare held fuel 22 cs = some x) :
    ∃ (s : Ls.Sl) (zs : List Int), cs = [.slice s.a s.n s.c] ∧ Row w w.heap.size s.a s.n zs ∧ s.n ≤ s.c ∧ s.c ≤ maxLen := by
  rcases open_ints Tryz.underlying22 Tryz.underlying3 (by kernel_rfl) h with ⟨rfl, rfl⟩ | ⟨y, len, cap, zs, rfl, _, hl, hm, hz, rfl, hcell, hwz⟩
  · exact ⟨⟨none, 0, 0⟩, [], rfl, Row.none_ _ _, Nat.le_refl _, by show (0 : Nat) ≤ maxLen; unfold maxLen; omega⟩
  · have hz' : len ≤ zs.length := by rw [hz]; split <;> omega
    refine ⟨⟨some y, len, cap⟩, zs.take len, rfl, ⟨by simp; omega, fun hn => ?_⟩, hl, hm⟩
    have hn' : 0 < len := hn
    obtain ⟨b, off, spot⟩ := y
    have h0 := hcell 0 (by omega)
    have hs : spot = none := by simpa [Addr.add] using World.cell?_spot h0
    subst hs
    refine ⟨b, off, rfl, ?_, fun i hi => ?_⟩
    · have := World.block_lt_of_cell? w _ h0
      simpa [Addr.add] using this
    · have hi' : i < len := hi
      have := hcell i (by omega)
      rw [Addr.add_lit] at this
      rw [this]
      simp [List.getD, hi']
def tri {α : Type} (a b c : α) : Nat → α
  | 0 => a
  | 1 => b
  | _ => c
def four {α : Type} (a b c d : α) : Nat → α
  | 0 => a
  | 1 => b
  | 2 => c
  | _ => d
theorem lists_in {fuel : Nat} {c0 c1 c2 : Value} {x : DataW H × List MemPlace} (h : DataW.trod enc Tryz.prog w base spare held fuel 25 [c0, c1, c2] = some x) :
    ∃ (u : Nat → Ls.Sl) (f : Nat → List Int), c0 = .slice (u 0).a (u 0).n (u 0).c ∧ c1 = .slice (u 1).a (u 1).n (u 1).c ∧ c2 = .slice (u 2).a (u 2).n (u 2).c ∧ Ls.L3 w w.heap.size u f := by
  obtain ⟨y0, y1, y2, n, rfl, h0, h1, h2⟩ := trod_array3 Tryz.underlying25 (by kernel_rfl) h
  obtain ⟨s0, z0, e0, r0⟩ := ints_in h0
  obtain ⟨s1, z1, e1, r1⟩ := ints_in h1
  obtain ⟨s2, z2, e2, r2⟩ := ints_in h2
  simp only [List.cons.injEq, and_true] at e0 e1 e2
  refine ⟨tri s0 s1 s2, tri z0 z1 z2, e0, e1, e2, fun j hj => ?_⟩
  match j, hj with
  | 0, _ => exact r0
  | 1, _ => exact r1
  | 2, _ => exact r2
theorem ops_in {fuel : Nat} {cs : List Value} {x : DataW H × List MemPlace} (h : DataW.trod enc Tryz.prog w base spare held fuel 32 cs = some x) :
    ∃ (s : Ls.Sl) (g : Nat → O4), cs = [.slice s.a s.n s.c] ∧ ORow w w.heap.size s.a s.n g ∧ s.n ≤ s.c := by
  rcases open_slice Tryz.underlying32 h with ⟨hcs, _⟩ | ⟨y, len, cap, m, k, D, Pl, hcs, _, hl, hm, hmm, _, hi⟩
  · exact ⟨⟨none, 0, 0⟩, fun _ => ⟨0, 0, 0, 0⟩, hcs, ORow.empty _ _ _ _, Nat.le_refl _⟩
  · have hm' : len ≤ m := by rw [hmm]; split <;> omega
    have ce : Tryz.prog.cellsOf 39 = 4 := by kernel_rfl
    have e1 : Tryz.prog.cellsOf 3 = 1 := by kernel_rfl
    have each : ∀ i, i < len → ∃ q : O4, w.cell? ((y.add (i * 4)).add 0) = some (.int .i64 q.k) ∧ w.cell? ((y.add (i * 4)).add 1) = some (.int .i64 q.a) ∧ w.cell? ((y.add (i * 4)).add 2) = some (.int .i64 q.b) ∧ w.cell? ((y.add (i * 4)).add 3) = some (.int .i64 q.c) := by
      intro i hlt
      obtain ⟨cs', h1, h2⟩ := hi i (by omega)
      rw [ce] at h1
      obtain ⟨_, hlen, hcell⟩ := World.cells?_some h1
      obtain ⟨xs, k', _, _, _, hxl, hg⟩ := DataW.trod_struct Tryz.underlying39 h2
      match xs, hxl, cs', hlen with
      | [y0, y1, y2, y3], _, [c0, c1, c2, c3], _ =>
        have g0 : DataW.trod enc Tryz.prog w base spare held k' 3 [c0] = some y0 := by have := hg 0 _ rfl; simpa [e1, Value.cells] using this
        have g1 : DataW.trod enc Tryz.prog w base spare held k' 3 [c1] = some y1 := by have := hg 1 _ rfl; simpa [e1, Value.cells] using this
        have g2 : DataW.trod enc Tryz.prog w base spare held k' 3 [c2] = some y2 := by have := hg 2 _ rfl; simpa [e1, Value.cells] using this
        have g3 : DataW.trod enc Tryz.prog w base spare held k' 3 [c3] = some y3 := by have := hg 3 _ rfl; simpa [e1, Value.cells] using this
        obtain ⟨n0, a0, _, _⟩ := DataW.trod_int Tryz.underlying3 g0
        obtain ⟨n1, a1, _, _⟩ := DataW.trod_int Tryz.underlying3 g1
        obtain ⟨n2, a2, _, _⟩ := DataW.trod_int Tryz.underlying3 g2
        obtain ⟨n3, a3, _, _⟩ := DataW.trod_int Tryz.underlying3 g3
        simp only [List.cons.injEq, and_true] at a0 a1 a2 a3
        subst a0 a1 a2 a3
        exact ⟨⟨n0, n1, n2, n3⟩, by simpa using hcell 0 (by decide), by simpa using hcell 1 (by decide), by simpa using hcell 2 (by decide), by simpa using hcell 3 (by decide)⟩
    haveI : Inhabited O4 := ⟨⟨0, 0, 0, 0⟩⟩
    obtain ⟨q, hq⟩ := choose_lt each
    refine ⟨⟨some y, len, cap⟩, q, hcs, fun hn => ?_, hl⟩
    obtain ⟨b, off, spot⟩ := y
    have h0 := (hq 0 hn).1
    have hs : spot = none := by simpa [Addr.add] using World.cell?_spot h0
    subst hs
    refine ⟨b, off, rfl, ?_, fun i hlt => ?_⟩
    · have := World.block_lt_of_cell? w _ h0
      simpa [Addr.add] using this
    · have := hq i hlt
      simp only [Addr.add_lit, Nat.add_zero] at this
      exact this
theorem th_in {fuel : Nat} {l : List Value} {x : DataW H × List MemPlace} (h : DataW.trod enc Tryz.prog w base spare held fuel 34 l = some x) (hl15 : l.length = 15) :
    ∃ (t : Ts) (F : Nat → List Int) (g : Nat → O4), l = tv t ∧ Th w w.heap.size t F g ∧ ∀ j, (Lit.int .i64 (t.r j)).wf = true := by
  obtain ⟨xs, k, _, hx, hl, hlen, hg⟩ := DataW.trod_struct Tryz.underlying34 h
  match l, hl15, xs, hlen with
  | [c0, c1, c2, c3, c4, c5, c6, c7, c8, c9, c10, c11, c12, c13, c14], _, [y0, y1, y2, y3, y4, y5, y6, y7, y8, y9], _ =>
    have e1 : Tryz.prog.cellsOf 3 = 1 := by kernel_rfl
    have e2 : Tryz.prog.cellsOf 4 = 1 := by kernel_rfl
    have e3 : Tryz.prog.cellsOf 32 = 1 := by kernel_rfl
    have e4 : Tryz.prog.cellsOf 31 = 4 := by kernel_rfl
    have e5 : Tryz.prog.cellsOf 25 = 3 := by kernel_rfl
    have g0 : DataW.trod enc Tryz.prog w base spare held k 4 [c0] = some y0 := by have := hg 0 _ rfl; simpa [e2, Value.cells] using this
    have g1 : DataW.trod enc Tryz.prog w base spare held k 31 [c1, c2, c3, c4] = some y1 := by have := hg 1 _ rfl; simpa [e4, Value.cells] using this
    have g2 : DataW.trod enc Tryz.prog w base spare held k 25 [c5, c6, c7] = some y2 := by have := hg 2 _ rfl; simpa [e5, Value.cells] using this
    have g3 : DataW.trod enc Tryz.prog w base spare held k 3 [c8] = some y3 := by have := hg 3 _ rfl; simpa [e1, Value.cells] using this
    have g4 : DataW.trod enc Tryz.prog w base spare held k 3 [c9] = some y4 := by have := hg 4 _ rfl; simpa [e1, Value.cells] using this
    have g5 : DataW.trod enc Tryz.prog w base spare held k 3 [c10] = some y5 := by have := hg 5 _ rfl; simpa [e1, Value.cells] using this
    have g6 : DataW.trod enc Tryz.prog w base spare held k 32 [c11] = some y6 := by have := hg 6 _ rfl; simpa [e3, Value.cells] using this
    have g7 : DataW.trod enc Tryz.prog w base spare held k 3 [c12] = some y7 := by have := hg 7 _ rfl; simpa [e1, Value.cells] using this
    have g8 : DataW.trod enc Tryz.prog w base spare held k 3 [c13] = some y8 := by have := hg 8 _ rfl; simpa [e1, Value.cells] using this
    have g9 : DataW.trod enc Tryz.prog w base spare held k 3 [c14] = some y9 := by have := hg 9 _ rfl; simpa [e1, Value.cells] using this
    obtain ⟨n0, h0, _⟩ := DataW.trod_bool Tryz.underlying4 g0
    obtain ⟨q0, q1, q2, q3, k', _, p0, p1, p2, p3⟩ := trod_array4 Tryz.underlying31 (by kernel_rfl) g1
    obtain ⟨r0, a0, _, b0⟩ := DataW.trod_int Tryz.underlying3 p0
    obtain ⟨r1, a1, _, b1⟩ := DataW.trod_int Tryz.underlying3 p1
    obtain ⟨r2, a2, _, b2⟩ := DataW.trod_int Tryz.underlying3 p2
    obtain ⟨r3, a3, _, b3⟩ := DataW.trod_int Tryz.underlying3 p3
    obtain ⟨u, F, u0, u1, u2, hu⟩ := lists_in g2
    obtain ⟨n3, h3, _, _⟩ := DataW.trod_int Tryz.underlying3 g3
    obtain ⟨n4, h4, _, _⟩ := DataW.trod_int Tryz.underlying3 g4
    obtain ⟨n5, h5, _, _⟩ := DataW.trod_int Tryz.underlying3 g5
    obtain ⟨o, g, h6, ho, hk⟩ := ops_in g6
    obtain ⟨n7, h7, _, _⟩ := DataW.trod_int Tryz.underlying3 g7
    obtain ⟨n8, h8, _, _⟩ := DataW.trod_int Tryz.underlying3 g8
    obtain ⟨n9, h9, _, _⟩ := DataW.trod_int Tryz.underlying3 g9
    simp only [List.cons.injEq, and_true] at h0 a0 a1 a2 a3 h3 h4 h5 h6 h7 h8 h9
    subst h0 a0 a1 a2 a3 u0 u1 u2 h3 h4 h5 h6 h7 h8 h9
    exact ⟨⟨n0, four r0 r1 r2 r3, u, n3, n4, n5, o, n7, n8, n9⟩, F, g, rfl, ⟨hu, ho, hk⟩, fun j => (match j with | 0 => b0 | 1 => b1 | 2 => b2 | _ + 3 => b3)⟩
theorem th_fits {b0 : Nat} {v : Value} {d : DataW H} {p : List MemPlace} {r : Reach} (hv : Value.okWide Tryz.prog w r b0 34 v) (h : DataW.Trod enc Tryz.prog w base spare held 34 v d p) :
    ∃ (t : Ts) (F : Nat → List Int) (g : Nat → O4), v = (.agg #[.bool t.lv, .int .i64 (t.r 0), .int .i64 (t.r 1), .int .i64 (t.r 2), .int .i64 (t.r 3), .slice (t.u 0).a (t.u 0).n (t.u 0).c, .slice (t.u 1).a (t.u 1).n (t.u 1).c, .slice (t.u 2).a (t.u 2).n (t.u 2).c, .int .i64 t.ep, .int .i64 t.sg, .int .i64 t.rt, .slice t.o.a t.o.n t.o.c, .int .i64 t.pc, .int .i64 t.x, .int .i64 t.y]) ∧ Th w w.heap.size t F g ∧ ∀ j, (Lit.int .i64 (t.r j)).wf = true := by
  obtain ⟨⟨l⟩, rfl, hsz⟩ := okWide_struct Tryz.underlying34 hv
  obtain ⟨fuel, hf⟩ := h
  obtain ⟨t, F, g, e, h1, h2⟩ := th_in hf (hsz.trans (by kernel_rfl))
  have e : l = tv t := e
  subst e
  exact ⟨t, F, g, rfl, h1, h2⟩
theorem th_of {b0 : Nat} {v : Value} {d : DataW H} {p : List MemPlace} {r : Reach} (hv : Value.okWide Tryz.prog w r b0 34 v) (h : DataW.Trod enc Tryz.prog w base spare held 34 v d p) :
    ∃ (t : Ts) (F : Nat → List Int) (g : Nat → O4), v = (.agg #[.bool t.lv, .int .i64 (t.r 0), .int .i64 (t.r 1), .int .i64 (t.r 2), .int .i64 (t.r 3), .slice (t.u 0).a (t.u 0).n (t.u 0).c, .slice (t.u 1).a (t.u 1).n (t.u 1).c, .slice (t.u 2).a (t.u 2).n (t.u 2).c, .int .i64 t.ep, .int .i64 t.sg, .int .i64 t.rt, .slice t.o.a t.o.n t.o.c, .int .i64 t.pc, .int .i64 t.x, .int .i64 t.y]) ∧ Th w w.heap.size t F g := by
  obtain ⟨t, F, g, e, h, _⟩ := th_fits hv h
  exact ⟨t, F, g, e, h⟩
end
end Go.Proofs.YtgmkomnoiffapaaGreatDoor.Rt
end
