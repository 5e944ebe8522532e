/-
  Merged texts: PgFill, HpClone, HpCp, CkP, CkOf, AlOwn, FrHeap, CkMark, CkDirty.
-/
import Derived.Test.YtmalopciboikhaaGreatDoorHpTF
import Derived.Lib.SliceRun
import Derived.Test.YtmalopciboikhaaGreatDoorHpTE
import Derived.Test.YtmalopciboikhaaGreatDoorHpTA
import Derived.Deep.RegionHeld3
import Derived.Deep.Cut
import Derived.Deep.CutRange
section
namespace Go.Proofs.YtmalopciboikhaaGreatDoor.Cl
open Go.Proofs.YtmalopciboikhaaGreatDoor
set_option maxRecDepth 100000
open Go.RowKit

theorem info_page : (Tryz.prog.info? 76).map (fun i => (i.zero, i.size, i.bytes)) = some (some (.agg #[.int .i64 0, .int .i64 0]), 2, 16) := by kernel_rfl

/-- The row's block is as it was. -/
theorem PMine.kept {w w' : World} {base e g n c : Nat} {f : Nat → Int × Int} (h : PMine w base e g n c f) (hg : w'.heap[g]? = w.heap[g]?) (hs : w.heap.size ≤ w'.heap.size) : PMine w' base e g n c f := by
  obtain ⟨⟨h1, h2⟩, h3, h4, h5⟩ := h
  refine ⟨⟨h1, ?_⟩, h3, by omega, h5⟩
  rcases h2 with h2 | ⟨g', cap, cur, hv, hb, hh, hr⟩
  · exact .inl h2
  · simp only [Value.slice.injEq, Option.some.injEq, Addr.mk.injEq, and_true, true_and] at hv
    obtain ⟨rfl, rfl⟩ := hv
    exact .inr ⟨g, c, cur, rfl, hb, hg.trans hh, hr⟩
theorem PMine.alloc {w : World} {base e g n c : Nat} {f : Nat → Int × Int} (h : PMine w base e g n c f) (o : Obj) : PMine (w.alloc o) base e g n c f :=
  h.kept (Below.heap_alloc w o g h.2.2.1) (by simp)
theorem PMine.below {w w' : World} {base e g n c B : Nat} {f : Nat → Int × Int} (h : PMine w base e g n c f) (hb : Below B w w') (hg : g < B) : PMine w' base e g n c f :=
  h.kept (hb.block g hg) hb.size

/-- A copy of the call's own was returned; all that was there is as it was. -/
def PMade (w : World) (n : Nat) (f : Nat → Int × Int) (e : Ending) (w' : World) : Prop :=
  ∃ g c, e = .returned (.slice (some ⟨g, 0, none⟩) n c) ∧ PMine w' w.heap.size 76 g n c f ∧ Below w.heap.size w w'

theorem pcells_of {w : World} {b off n : Nat} {f : Nat → Int × Int} (hc : ∀ i, i < n → w.cell? ⟨b, off + i * 2, none⟩ = some (.int .i64 (f i).1) ∧ w.cell? ⟨b, off + i * 2 + 1, none⟩ = some (.int .i64 (f i).2))
    (j : Nat) (u : Value) (hj : (pcells f n)[j]? = some u) : w.cell? ⟨b, off + j, none⟩ = some u := by
  have hjn : j < n * 2 := by
    have := (List.getElem?_eq_some_iff.1 hj).1
    rwa [pcells_length] at this
  rw [pcells_at f n j hjn] at hj
  obtain rfl := Option.some.inj hj
  by_cases hm : j % 2 = 0
  · have := (hc (j / 2) (by omega)).1
    rw [show off + j / 2 * 2 = off + j by omega] at this
    rw [this]
    simp [pcell, hm]
  · have := (hc (j / 2) (by omega)).2
    rw [show off + j / 2 * 2 + 1 = off + j by omega] at this
    rw [this]
    simp [pcell, hm]
theorem pcells_one {f : Nat → Int × Int} {n : Nat} : ∀ u ∈ pcells f n, u.oneCell' = true := by
  intro u hu
  obtain ⟨x, _, rfl⟩ := List.mem_map.1 hu
  rfl

theorem pclone_ok (B : Nat) (A : Option Addr) (n c : Nat) (f : Nat → Int × Int) (w : World) (hn : 0 < n) (hbig : n ≤ 1000) (hr : PRow w B A n f) :
    Calls Tryz.prog 90 #[.slice A n c] w (PMade w n f) := by
  obtain ⟨i0, hi, hz0, hz1, hz2⟩ := info_parts info_page
  obtain ⟨b, off, rfl, _, hc⟩ := hr hn
  have HC := Lib.hid hc
  have q22 : ∀ (w : World) (a : Option Addr) (n c n' c' : Nat), (binOp .eql 23 (.slice a n c) (.slice none n' c')).run Tryz.prog w = .ok (.bool a.isNone) w := fun w a n c n' c' => Lib.run_eql_slice_nil w _ _ a n c n' c' Tryz.underlying23
  have u22 : ∀ w, Sem.run Tryz.prog (underlying 23) w = .ok (TypeDesc.slice 76) w := run_underlying Tryz.underlying23
  clear hc hr
  go_enter Tryz.func90, Tryz.ntmps90
  go_wp2_with (at_builtin; refine wpList_append_own _ rfl _ _ 23 rfl w.heap.size 76 i0 (.agg #[.int .i64 0, .int .i64 0]) 2 16 Tryz.underlying23 hi hz0 hz1 hz2 rfl (by decide) _ _ _ rfl (World.ownsRow_made w #[] 0 (Nat.le_refl _) (Nat.zero_le _) rfl) ⟨b, off, none⟩ n c (pcells f n) rfl ?qc1 ?qc2 ?qc3 ?qc4 ?qc5 ?qc6 ?_)
  case qc1 => exact pcells_length f n
  case qc2 =>
    intro j u hj
    rw [Addr.add_lit]
    exact Lib.cell?_alloc_some _ (pcells_of HC.out j u hj)
  case qc3 => exact pcells_one
  case qc4 => unfold maxLen; omega
  case qc5 => omega
  case qc6 => simp
  intro v' w1 hown hgrow hnil
  have hown' : w1.ownsRow w.heap.size 76 2 v' n (pcells f n) := by simpa using hown
  obtain ⟨g, c', rfl, hm⟩ := pmine_of hown' hn
  have HM := Lib.hid hm
  clear hown hown' hnil hm
  go_wp2
  go_ret
  exact ⟨g, c', rfl, HM.out, ((Below.refl _ w).alloc (Nat.le_refl _) _).grown hgrow (by simp) (by intro k hk; simp [Value.ownBlock] at hk; omega)⟩

end Go.Proofs.YtmalopciboikhaaGreatDoor.Cl
end
section
namespace Go.Proofs.YtmalopciboikhaaGreatDoor
open Go.RowKit
set_option maxRecDepth 100000

theorem iclone_any (B : Nat) (A : Option Addr) (n c : Nat) (xs : List Int) (w : World) (hn : n ≤ 2000000) (hB : B ≤ w.heap.size) (hr : Row w B A n xs) :
    Calls Tryz.prog 89 #[.slice A n c] w (Ls.AllOut w xs) := by
  have HR := Lib.hid hr
  have q22 : ∀ (w : World) (a : Option Addr) (n c n' c' : Nat), (binOp .eql 22 (.slice a n c) (.slice none n' c')).run Tryz.prog w = .ok (.bool a.isNone) w := fun w a n c n' c' => Lib.run_eql_slice_nil w _ _ a n c n' c' Tryz.underlying22
  have hl := hr.1
  have hA : A = none → n = 0 ∧ xs = [] := fun e => by
    by_cases h0 : n = 0
    · exact ⟨h0, List.eq_nil_of_length_eq_zero (by omega)⟩
    · obtain ⟨b, off, e', _⟩ := hr.2 (by omega)
      rw [e] at e'
      cases e'
  clear hr hl
  cases A with
  | none =>
    obtain ⟨rfl, rfl⟩ := hA rfl
    clear hA
    go_enter Tryz.func89, Tryz.ntmps89
    go_wp2
    go_ret
    exact ⟨⟨none, 0, 0⟩, rfl, World.ownsRow_nil _ _ _ _, Below.refl _ _⟩
  | some x =>
    clear hA
    go_enter Tryz.func89, Tryz.ntmps89
    go_wp2_with (at_builtin; refine Ls.list_cat rfl (.tmp 5) (.tmp 6) rfl rfl rfl (xs := []) (World.ownsRow_made w #[] 0 (Nat.le_refl _) (Nat.zero_le _) rfl) (HR.out.below ((Below.refl B w).alloc hB _)) (by simp) (by omega) ?_)
    intro p' cp' w1 hcat
    have ho := hcat.own
    have hg := hcat.grown
    have HO := Lib.hid ho
    have HG := Lib.hid hg
    clear hcat ho hg
    go_wp2
    go_ret
    exact ⟨⟨p', n, cp'⟩, rfl, HO.out, ((Below.refl _ w).alloc (Nat.le_refl _) _).grown HG.out (by simp) (by intro k hk; simp [Value.ownBlock] at hk; omega)⟩

def bcells (f : Nat → Bool) (n : Nat) : List Value := (List.range n).map fun i => .bool (f i)
theorem bcells_at (f : Nat → Bool) (n i : Nat) (h : i < n) : (bcells f n)[i]? = some (.bool (f i)) := by simp [bcells, h]
theorem info_boolC : (Tryz.prog.info? 4).map (fun i => (i.zero, i.size, i.bytes)) = some (some (.bool false), 1, 1) := by kernel_rfl
/-- A row of truth values in a block of the call's own. -/
def BMade (w : World) (n : Nat) (f : Nat → Bool) (e : Ending) (w' : World) : Prop :=
  ∃ g c, e = .returned (.slice (some ⟨g, 0, none⟩) n c) ∧ (∀ i, i < n → w'.cell? ⟨g, i, none⟩ = some (.bool (f i))) ∧ (∀ i, w'.frozen? ⟨g, i, none⟩ = false) ∧ w.heap.size ≤ g ∧ g < w'.heap.size ∧ Below w.heap.size w w'
theorem bmade_of {w w1 : World} {v : Value} {n : Nat} {f : Nat → Bool} (h : w1.ownsRow w.heap.size 4 1 v n (bcells f n)) (hn : 0 < n) :
    ∃ g c, v = .slice (some ⟨g, 0, none⟩) n c ∧ (∀ i, i < n → w1.cell? ⟨g, i, none⟩ = some (.bool (f i))) ∧ w.heap.size ≤ g ∧ g < w1.heap.size := by
  rcases h.2 with ⟨rfl, h0⟩ | ⟨g, c, cur, rfl, hb, hh, hnc, hcm, _⟩
  · omega
  · exact ⟨g, c, rfl, fun i hi => (h.cellAt i (by omega)).trans (bcells_at f n i hi), hb, (Array.getElem?_eq_some_iff.1 hh).1⟩
theorem bclone_ok (B : Nat) (A : Option Addr) (n c : Nat) (f : Nat → Bool) (w : World) (hn : 0 < n) (hbig : n ≤ 1000000) (hr : BRow w B A n f) :
    Calls Tryz.prog 91 #[.slice A n c] w (BMade w n f) := by
  obtain ⟨i0, hi, hz0, hz1, hz2⟩ := info_parts info_boolC
  obtain ⟨b, off, rfl, _, hc⟩ := hr hn
  have HC := Lib.hid hc
  have q22 : ∀ (w : World) (a : Option Addr) (n c n' c' : Nat), (binOp .eql 26 (.slice a n c) (.slice none n' c')).run Tryz.prog w = .ok (.bool a.isNone) w := fun w a n c n' c' => Lib.run_eql_slice_nil w _ _ a n c n' c' Tryz.underlying26
  have u22 : ∀ w, Sem.run Tryz.prog (underlying 26) w = .ok (TypeDesc.slice 4) w := run_underlying Tryz.underlying26
  clear hc hr
  go_enter Tryz.func91, Tryz.ntmps91
  go_wp2_with (at_builtin; refine wpList_append_own _ rfl _ _ 26 rfl w.heap.size 4 i0 (.bool false) 1 1 Tryz.underlying26 hi hz0 hz1 hz2 rfl (by decide) _ _ _ rfl (World.ownsRow_made w #[] 0 (Nat.le_refl _) (Nat.zero_le _) rfl) ⟨b, off, none⟩ n c (bcells f n) rfl ?qc1 ?qc2 ?qc3 ?qc4 ?qc5 ?qc6 ?_)
  case qc1 => simp [bcells]
  case qc2 =>
    intro j u hj
    rw [Addr.add_lit]
    have hjn : j < n := by
      have := (List.getElem?_eq_some_iff.1 hj).1
      simpa [bcells] using this
    rw [bcells_at f n j hjn] at hj
    rw [← hj]
    exact Lib.cell?_alloc_some _ (HC.out j hjn)
  case qc3 =>
    intro u hu
    obtain ⟨x, _, rfl⟩ := List.mem_map.1 hu
    rfl
  case qc4 => unfold maxLen; omega
  case qc5 => omega
  case qc6 => simp
  intro v' w1 hown hgrow hnil
  have hown' : w1.ownsRow w.heap.size 4 1 v' n (bcells f n) := by simpa using hown
  obtain ⟨g, c', rfl, hm, hb, hl⟩ := bmade_of hown' hn
  have HM := Lib.hid hm
  have HFZ : Hid (∀ i, w1.frozen? ⟨g, i, none⟩ = false) := Lib.hid fun i => hown'.frozenAt i
  clear hown hown' hnil hm
  go_wp2
  go_ret
  exact ⟨g, c', rfl, HM.out, HFZ.out, hb, hl, ((Below.refl _ w).alloc (Nat.le_refl _) _).grown hgrow (by simp) (by intro k hk; simp [Value.ownBlock] at hk; omega)⟩
end Go.Proofs.YtmalopciboikhaaGreatDoor
end
section
namespace Go.Proofs.YtmalopciboikhaaGreatDoor
open Go.RowKit
set_option maxRecDepth 100000

/-- A box of six cells that are not frozen. -/
structure Box6 (W : World) (b : Nat) (t : Hs) : Prop where
  box : HBox W b t
  free : ∀ j, W.frozen? ⟨b, j, none⟩ = false
/-- Of such a heap's slices none lies in the two boxes. -/
def Off (b : Nat) (v : Ls.Sl) : Prop := 0 < v.n → ∀ x, v.a = some x → ¬ x.block = b ∧ ¬ x.block = b + 1
/-- A slice in new memory. -/
def New (b : Nat) (v : Ls.Sl) : Prop := 0 < v.n → ∀ x, v.a = some x → b ≤ x.block
/-- A heap that is being copied: what the box holds so far. -/
structure Cp (w W : World) (t : Hs) (d : Hd_) : Prop where
  bel : Below w.heap.size w W
  hp : Hp W W.heap.size t d
  ow : Off w.heap.size t.w
  op : Off w.heap.size t.p
  ou : ∀ j, j < 3 → Off w.heap.size (t.u j)
  oc : Off w.heap.size t.c
  box : Box6 W w.heap.size t
  res : Box6 W (w.heap.size + 1) noHs
theorem Box6.next {W W' : World} {b : Nat} {t : Hs} (h : Box6 W b t) (hb : Below W.heap.size W W') : Box6 W' b t := ⟨h.box.next hb, fun j => (hb.frozen (p := ⟨b, j, none⟩) h.box.lt).trans (h.free j)⟩
theorem Box6.same {W W' : World} {b : Nat} {t : Hs} (h : Box6 W b t) (hs : W'.heap[b]? = W.heap[b]?) (hl : W.heap.size ≤ W'.heap.size) : Box6 W' b t :=
  ⟨⟨(World.cell?_of_block (a := ⟨b, 0, none⟩) hs).trans h.box.c0, (World.cell?_of_block (a := ⟨b, 1, none⟩) hs).trans h.box.c1, (World.cell?_of_block (a := ⟨b, 2, none⟩) hs).trans h.box.c2, (World.cell?_of_block (a := ⟨b, 3, none⟩) hs).trans h.box.c3, (World.cell?_of_block (a := ⟨b, 4, none⟩) hs).trans h.box.c4, (World.cell?_of_block (a := ⟨b, 5, none⟩) hs).trans h.box.c5, Nat.lt_of_lt_of_le h.box.lt hl⟩,
   fun j => (World.frozen?_of_block (a := ⟨b, j, none⟩) hs).trans (h.free j)⟩
theorem Cp.next {w W W' : World} {t : Hs} {d : Hd_} (h : Cp w W t d) (hb : Below W.heap.size W W') : Cp w W' t d :=
  ⟨h.bel.trans (hb.mono h.bel.size), h.hp.next hb, h.ow, h.op, h.ou, h.oc, h.box.next hb, h.res.next hb⟩
/-- All slices stand where only the first box is turned. -/
theorem hp_off {W W' : World} {b : Nat} {t : Hs} {d : Hd_} (h : Hp W W.heap.size t d) (ow : Off b t.w) (op : Off b t.p) (ou : ∀ j, j < 3 → Off b (t.u j)) (oc : Off b t.c) (hs : ∀ k, ¬ k = b → ¬ k = b + 1 → W'.heap[k]? = W.heap[k]?) (hl : W.heap.size = W'.heap.size) : Hp W' W'.heap.size t d := by
  rw [← hl]
  refine ⟨row_same h.words fun hn x hx => hs _ (ow hn x hx).1 (ow hn x hx).2, fun hn => ?_, fun j hj => ⟨row_same (h.free j hj).1 fun hn x hx => hs _ (ou j hj hn x hx).1 (ou j hj hn x hx).2, (h.free j hj).2⟩, fun hn => ?_⟩
  · obtain ⟨b', off, e, hlt, hc⟩ := h.pages hn
    refine ⟨b', off, e, hlt, fun i hi => ?_⟩
    have hb' := hs b' (op hn _ e).1 (op hn _ e).2
    exact ⟨(World.cell?_of_block (a := ⟨b', off + i * 2, none⟩) hb').trans (hc i hi).1, (World.cell?_of_block (a := ⟨b', off + i * 2 + 1, none⟩) hb').trans (hc i hi).2⟩
  · obtain ⟨b', off, e, hlt, hc⟩ := h.cards hn
    refine ⟨b', off, e, hlt, fun i hi => ?_⟩
    exact (World.cell?_of_block (a := ⟨b', off + i, none⟩) (hs b' (oc hn _ e).1 (oc hn _ e).2)).trans (hc i hi)
theorem frozen_set {W : World} {b k : Nat} {v : Value} (h : ∀ j, W.frozen? ⟨b, j, none⟩ = false) : ∀ j, (W.setCell ⟨b, k, none⟩ v).frozen? ⟨b, j, none⟩ = false := fun j => by rw [World.frozen?_setCell]; exact h j
theorem cell_set {W : World} {b k j : Nat} {v x y : Value} (h : W.cell? ⟨b, j, none⟩ = some x) (hy : y = if j = k then v else x) : (W.setCell ⟨b, k, none⟩ v).cell? ⟨b, j, none⟩ = some y := by
  subst hy
  by_cases e : j = k
  · subst e
    rw [if_pos rfl]
    exact World.cell?_setCell_same' _ _ _ (by rw [h]; rfl)
  · rw [if_neg e, World.cell?_setCell_other _ _ _ _ (by intro hh; simp only [Addr.mk.injEq, true_and, and_true] at hh; omega)]
    exact h
/-- One cell of the box is turned: the heap with that slice in the place of the old one. -/
theorem Cp.set {w W : World} {t t' : Hs} {d : Hd_} (h : Cp w W t d) (k : Nat) (v : Value) (hp : Hp W W.heap.size t' d) (ow : Off w.heap.size t'.w) (op : Off w.heap.size t'.p) (ou : ∀ j, j < 3 → Off w.heap.size (t'.u j)) (oc : Off w.heap.size t'.c)
    (e0 : Value.slice t'.w.a t'.w.n t'.w.c = if 0 = k then v else .slice t.w.a t.w.n t.w.c) (e1 : Value.slice t'.p.a t'.p.n t'.p.c = if 1 = k then v else .slice t.p.a t.p.n t.p.c)
    (e2 : Value.slice (t'.u 0).a (t'.u 0).n (t'.u 0).c = if 2 = k then v else .slice (t.u 0).a (t.u 0).n (t.u 0).c) (e3 : Value.slice (t'.u 1).a (t'.u 1).n (t'.u 1).c = if 3 = k then v else .slice (t.u 1).a (t.u 1).n (t.u 1).c)
    (e4 : Value.slice (t'.u 2).a (t'.u 2).n (t'.u 2).c = if 4 = k then v else .slice (t.u 2).a (t.u 2).n (t.u 2).c) (e5 : Value.slice t'.c.a t'.c.n t'.c.c = if 5 = k then v else .slice t.c.a t.c.n t.c.c) :
    Cp w (W.setCell ⟨w.heap.size, k, none⟩ v) t' d := by
  have hsz : W.heap.size = (W.setCell ⟨w.heap.size, k, none⟩ v).heap.size := by simp [World.setCell]
  have hoth : ∀ j, ¬ j = w.heap.size → (W.setCell ⟨w.heap.size, k, none⟩ v).heap[j]? = W.heap[j]? := fun j hj => Below.heap_setCell _ _ _ _ hj
  exact ⟨h.bel.setCell (Nat.le_refl _) _, hp_off hp ow op ou oc (fun j hj _ => hoth j hj) hsz, ow, op, ou, oc,
    ⟨⟨cell_set h.box.box.c0 e0, cell_set h.box.box.c1 e1, cell_set h.box.box.c2 e2, cell_set h.box.box.c3 e3, cell_set h.box.box.c4 e4, cell_set h.box.box.c5 e5, by rw [← hsz]; exact h.box.box.lt⟩, frozen_set h.box.free⟩,
    h.res.same (hoth _ (by omega)) (Nat.le_of_eq hsz)⟩
theorem Cp.drew {w W : World} {t : Hs} {d : Hd_} (h : Cp w W t d) : Cp w W.drew t d := h.next (below_drawn' (Below.refl _ _) 1)
theorem off_old {w : World} {b : Nat} {v : Ls.Sl} {xs : List Int} (h : Row w b v.a v.n xs) : Off b v := fun hn x hx => by
  obtain ⟨b', off, e, hlt, _⟩ := h.2 hn
  rw [hx] at e
  cases e
  exact ⟨by show ¬ b' = b; omega, by show ¬ b' = b + 1; omega⟩
/-- A slice that a call made, as a row, and apart from the boxes. -/
theorem own_off {b base : Nat} {W : World} {v : Ls.Sl} {xs : List Int} (ho : W.ownsRow base 3 1 (.slice v.a v.n v.c) v.n (xs.map (Value.int .i64))) (hb : b + 2 ≤ base) : Row W W.heap.size v.a v.n xs ∧ v.n ≤ v.c ∧ v.c ≤ maxLen ∧ Off b v ∧ New b v := by
  obtain ⟨a, c, e, hr, h1, h2⟩ := Ls.owns_row ho
  simp only [Value.slice.injEq, true_and] at e
  obtain ⟨rfl, rfl⟩ := e
  refine ⟨hr, h1, h2, fun _ x hx => ?_, fun _ x hx => ?_⟩
  · have := (ho.lt x.block (by rw [Ls.ownBlock_slice, hx]; rfl)).1
    exact ⟨by omega, by omega⟩
  · have := (ho.lt x.block (by rw [Ls.ownBlock_slice, hx]; rfl)).1
    omega
/-- What copied leaves: the same heap, in memory of its own. -/
structure News (b : Nat) (t : Hs) : Prop where
  w : New b t.w
  p : New b t.p
  u : ∀ j, j < 3 → New b (t.u j)
  c : New b t.c
/-- A heap in new memory stands where nothing of that is turned. -/
theorem News.kept {b : Nat} {t : Hs} {d : Hd_} {W W' : World} (hn : News b t) (h : Hp W W.heap.size t d) (hs : ∀ k, b ≤ k → k < W.heap.size → W'.heap[k]? = W.heap[k]?) (hl : W.heap.size ≤ W'.heap.size) : Hp W' W'.heap.size t d := by
  refine Hp.more ?_ hl
  refine ⟨row_same h.words fun h0 x hx => ?_, fun h0 => ?_, fun j hj => ⟨row_same (h.free j hj).1 fun h0 x hx => ?_, (h.free j hj).2⟩, fun h0 => ?_⟩
  · obtain ⟨b', off, e, hlt, _⟩ := h.words.2 h0
    rw [hx] at e
    cases e
    exact hs _ (hn.w h0 _ hx) hlt
  · obtain ⟨b', off, e, hlt, hc⟩ := h.pages h0
    have hb' := hs b' (hn.p h0 _ e) hlt
    exact ⟨b', off, e, hlt, fun i hi => ⟨(World.cell?_of_block (a := ⟨b', off + i * 2, none⟩) hb').trans (hc i hi).1, (World.cell?_of_block (a := ⟨b', off + i * 2 + 1, none⟩) hb').trans (hc i hi).2⟩⟩
  · obtain ⟨b', off, e, hlt, _⟩ := (h.free j hj).1.2 h0
    rw [hx] at e
    cases e
    exact hs _ (hn.u j hj h0 _ hx) hlt
  · obtain ⟨b', off, e, hlt, hc⟩ := h.cards h0
    exact ⟨b', off, e, hlt, fun i hi => (World.cell?_of_block (a := ⟨b', off + i, none⟩) (hs b' (hn.c h0 _ e) hlt)).trans (hc i hi)⟩
/-- Words, pages and cards are turned at once. -/
theorem Cp.three {w W : World} {s t : Hs} {d : Hd_} (h : Cp w W s d) (hp : Hp W W.heap.size t d) (ow : Off w.heap.size t.w) (op : Off w.heap.size t.p) (oc : Off w.heap.size t.c) (eu : t.u = s.u) :
    Cp w (((W.setCell ⟨w.heap.size, 0, none⟩ (.slice t.w.a t.w.n t.w.c)).setCell ⟨w.heap.size, 1, none⟩ (.slice t.p.a t.p.n t.p.c)).setCell ⟨w.heap.size, 5, none⟩ (.slice t.c.a t.c.n t.c.c)) t d := by
  have hsz : W.heap.size = (((W.setCell ⟨w.heap.size, 0, none⟩ (.slice t.w.a t.w.n t.w.c)).setCell ⟨w.heap.size, 1, none⟩ (.slice t.p.a t.p.n t.p.c)).setCell ⟨w.heap.size, 5, none⟩ (.slice t.c.a t.c.n t.c.c)).heap.size := by simp [World.setCell]
  have hoth : ∀ j, ¬ j = w.heap.size → (((W.setCell ⟨w.heap.size, 0, none⟩ (.slice t.w.a t.w.n t.w.c)).setCell ⟨w.heap.size, 1, none⟩ (.slice t.p.a t.p.n t.p.c)).setCell ⟨w.heap.size, 5, none⟩ (.slice t.c.a t.c.n t.c.c)).heap[j]? = W.heap[j]? := fun j hj => (Below.heap_setCell _ _ _ _ hj).trans ((Below.heap_setCell _ _ _ _ hj).trans (Below.heap_setCell _ _ _ _ hj))
  have ou : ∀ j, j < 3 → Off w.heap.size (t.u j) := by rw [eu]; exact h.ou
  refine ⟨((h.bel.setCell (p := ⟨w.heap.size, 0, none⟩) (Nat.le_refl _) _).setCell (p := ⟨w.heap.size, 1, none⟩) (Nat.le_refl _) _).setCell (p := ⟨w.heap.size, 5, none⟩) (Nat.le_refl _) _, hp_off hp ow op ou oc (fun j hj _ => hoth j hj) hsz, ow, op, ou, oc,
    ⟨⟨?_, ?_, ?_, ?_, ?_, ?_, by rw [← hsz]; exact h.box.box.lt⟩, frozen_set (frozen_set (frozen_set h.box.free))⟩, h.res.same (hoth _ (by omega)) (Nat.le_of_eq hsz)⟩
  · exact cell_set (cell_set (cell_set h.box.box.c0 rfl) rfl) rfl
  · exact cell_set (cell_set (cell_set h.box.box.c1 rfl) rfl) rfl
  · rw [eu]; exact cell_set (cell_set (cell_set h.box.box.c2 rfl) rfl) rfl
  · rw [eu]; exact cell_set (cell_set (cell_set h.box.box.c3 rfl) rfl) rfl
  · rw [eu]; exact cell_set (cell_set (cell_set h.box.box.c4 rfl) rfl) rfl
  · exact cell_set (cell_set (cell_set h.box.box.c5 rfl) rfl) rfl
/-- One of the lists is turned. -/
theorem Cp.list {w W : World} {t : Hs} {d : Hd_} (h : Cp w W t d) {k : Nat} (hk : k < 3) (v : Ls.Sl) (hr : Row W W.heap.size v.a v.n (d.F k)) (h1 : v.n ≤ v.c) (h2 : v.c ≤ maxLen) (ho : Off w.heap.size v) :
    Cp w (W.setCell ⟨w.heap.size, 2 + k, none⟩ (.slice v.a v.n v.c)) ⟨t.w, t.p, Ls.upd t.u k v, t.c⟩ d := by
  have hp : Hp W W.heap.size ⟨t.w, t.p, Ls.upd t.u k v, t.c⟩ d := ⟨h.hp.words, h.hp.pages, by
    have := h.hp.free.set k v (d.F k) hr h1 h2
    rwa [show Ls.upd d.F k (d.F k) = d.F by funext j; by_cases e : j = k <;> simp [Ls.upd, e]] at this, h.hp.cards⟩
  have ou : ∀ j, j < 3 → Off w.heap.size (Ls.upd t.u k v j) := fun j hj => by
    by_cases e : j = k
    · subst e; rw [Ls.upd_same]; exact ho
    · rw [Ls.upd_other _ _ e]; exact h.ou j hj
  refine h.set (2 + k) _ hp h.ow h.op ou h.oc ?_ ?_ ?_ ?_ ?_ ?_
  · rw [if_neg (by omega)]
  · rw [if_neg (by omega)]
  · by_cases e : k = 0
    · subst e; rfl
    · rw [if_neg (by omega)]
      dsimp only
      rw [Ls.upd_other _ _ (by omega)]
  · by_cases e : k = 1
    · subst e; rfl
    · rw [if_neg (by omega)]
      dsimp only
      rw [Ls.upd_other _ _ (by omega)]
  · by_cases e : k = 2
    · subst e; rfl
    · rw [if_neg (by omega)]
      dsimp only
      rw [Ls.upd_other _ _ (by omega)]
  · rw [if_neg (by omega)]
theorem prow_more {w : World} {B C n : Nat} {a : Option Addr} {f : Nat → Int × Int} (h : Cl.PRow w B a n f) (hB : B ≤ C) : Cl.PRow w C a n f := fun hn => by
  obtain ⟨b, off, e, hlt, hc⟩ := h hn
  exact ⟨b, off, e, Nat.lt_of_lt_of_le hlt hB, hc⟩
def Lens (s t : Hs) : Prop := t.w.n = s.w.n ∧ t.p.n = s.p.n ∧ (∀ j, j < 3 → (t.u j).n = (s.u j).n) ∧ t.c.n = s.c.n
theorem cp_start {w W0 : World} {s : Hs} {d : Hd_} (hp : Hp w w.heap.size s d) (h : W0 = (w.alloc (.cells #[.slice s.w.a s.w.n s.w.c, .slice s.p.a s.p.n s.p.c, .slice (s.u 0).a (s.u 0).n (s.u 0).c, .slice (s.u 1).a (s.u 1).n (s.u 1).c, .slice (s.u 2).a (s.u 2).n (s.u 2).c, .slice s.c.a s.c.n s.c.c] 28)).alloc (.cells #[.slice none 0 0, .slice none 0 0, .slice none 0 0, .slice none 0 0, .slice none 0 0, .slice none 0 0] 28)) : Cp w W0 s d := by
  have hb : Below w.heap.size w W0 := by rw [h]; exact ((Below.refl _ _).alloc (Nat.le_refl _) _).alloc (by simp) _
  have b1 := HBox.new w s 28
  have bb : Below (w.alloc (.cells #[.slice s.w.a s.w.n s.w.c, .slice s.p.a s.p.n s.p.c, .slice (s.u 0).a (s.u 0).n (s.u 0).c, .slice (s.u 1).a (s.u 1).n (s.u 1).c, .slice (s.u 2).a (s.u 2).n (s.u 2).c, .slice s.c.a s.c.n s.c.c] 28)).heap.size (w.alloc (.cells #[.slice s.w.a s.w.n s.w.c, .slice s.p.a s.p.n s.p.c, .slice (s.u 0).a (s.u 0).n (s.u 0).c, .slice (s.u 1).a (s.u 1).n (s.u 1).c, .slice (s.u 2).a (s.u 2).n (s.u 2).c, .slice s.c.a s.c.n s.c.c] 28)) W0 := by rw [h]; exact (Below.refl _ _).alloc (Nat.le_refl _) _
  refine ⟨hb, hp.next hb, off_old hp.words, fun hn x hx => ?_, fun j hj => off_old (hp.free j hj).1, fun hn x hx => ?_, Box6.next ⟨b1, fun j => by simp [go_sem]⟩ bb, ?_⟩
  · obtain ⟨b', off, e, hlt, _⟩ := hp.pages hn
    rw [hx] at e
    cases e
    exact ⟨by show ¬ b' = _; omega, by show ¬ b' = _; omega⟩
  · obtain ⟨b', off, e, hlt, _⟩ := hp.cards hn
    rw [hx] at e
    cases e
    exact ⟨by show ¬ b' = _; omega, by show ¬ b' = _; omega⟩
  · have b2 := HBox.new (w.alloc (.cells #[.slice s.w.a s.w.n s.w.c, .slice s.p.a s.p.n s.p.c, .slice (s.u 0).a (s.u 0).n (s.u 0).c, .slice (s.u 1).a (s.u 1).n (s.u 1).c, .slice (s.u 2).a (s.u 2).n (s.u 2).c, .slice s.c.a s.c.n s.c.c] 28)) noHs 28
    rw [World.size_alloc] at b2
    rw [h]
    exact ⟨b2, fun j => by simp [go_sem]⟩
theorem put6_at {W : World} {b : Nat} {t : Hs} (h : Box6 W b t) (v0 v1 v2 v3 v4 v5 : Value) :
    (put6 W b v0 v1 v2 v3 v4 v5).cell? ⟨b, 0, none⟩ = some v0 ∧ (put6 W b v0 v1 v2 v3 v4 v5).cell? ⟨b, 1, none⟩ = some v1 ∧ (put6 W b v0 v1 v2 v3 v4 v5).cell? ⟨b, 2, none⟩ = some v2 ∧
    (put6 W b v0 v1 v2 v3 v4 v5).cell? ⟨b, 3, none⟩ = some v3 ∧ (put6 W b v0 v1 v2 v3 v4 v5).cell? ⟨b, 4, none⟩ = some v4 ∧ (put6 W b v0 v1 v2 v3 v4 v5).cell? ⟨b, 5, none⟩ = some v5 := by
  have h0 := h.box.c0
  have h1 := h.box.c1
  have h2 := h.box.c2
  have h3 := h.box.c3
  have h4 := h.box.c4
  have h5 := h.box.c5
  refine ⟨?_, ?_, ?_, ?_, ?_, ?_⟩ <;> simp [put6, go_sem, h0, h1, h2, h3, h4, h5]
end Go.Proofs.YtmalopciboikhaaGreatDoor
end
section
namespace Go.Proofs.YtmalopciboikhaaGreatDoor.Ck
open Go.Proofs.YtmalopciboikhaaGreatDoor
open Go.RowKit
set_option maxRecDepth 100000

/-- What Of tells: an error, or a card. -/
def ofE (s : Hs) (d : Hd_) (a : Int) : Int := if mayB0 s d = false then 1 else if 16 ≤ a ∧ a < 16 + (s.w.n : Int) then 0 else 3
def ofK (a : Int) : Nat := ((a - 16) / 8).toNat
def ofN (s : Hs) (d : Hd_) (a : Int) : Int := if ofE s d a = 0 then (ofK a : Int) else 0
/-- What Clean tells. -/
def clE (s : Hs) (d : Hd_) (k : Int) : Int := if mayB0 s d = false then 1 else if 0 ≤ k ∧ k < (s.c.n : Int) then 0 else 3
/-- A heap with a card dirty, or clean. -/
def ck (d : Hd_) (k : Nat) (b : Bool) : Hd_ := ⟨d.ws, d.f, d.F, fun i => if i = k then b else d.cs i⟩
def isB (s : Hs) (d : Hd_) (a : Int) : Bool := decide (ofE s d a = 0) && d.cs (ofK a)
/-- The objects that begin on a card. -/
def onL (s : Hs) (d : Hd_) (k : Int) : List Int := (usedL s d).filter fun a => decide ((a - 16) / 8 = k)
/-- Is the object that begins there old? -/
def oldB (s : Hs) (d : Hd_) (a : Int) : Bool := decide (headE s d a = 0) && decide (wd d a / 2 % 2 = 1)
def nextO (s : Hs) (d : Hd_) (k a : Int) : Option Int := (onL s d k).find? fun x => decide (a < x) && oldB s d x
def nextA (s : Hs) (d : Hd_) (k a : Int) : Int := (nextO s d k a).getD 0
def nextB (s : Hs) (d : Hd_) (k a : Int) : Bool := (nextO s d k a).isSome
section
variable {s t : Hs} {d : Hd_}
theorem may_wp (h : mayB0 s d = true) : s.w.n = 16 * s.p.n ∧ s.c.n = 2 * s.p.n ∧ s.p.n ≤ 64 ∧ 0 < s.p.n := by
  have h1 := (mayH_all h).1
  unfold firstB at h1
  simp only [Bool.and_eq_true, decide_eq_true_eq] at h1
  have h2 := (Cl.mayB_iff _ _).1 h1.2.1
  exact ⟨h1.2.2.1, h1.2.2.2, by omega, by omega⟩
theorem ofE_is {a : Int} (h : ofE s d a = 0) : mayB0 s d = true ∧ 16 ≤ a ∧ a < 16 + (s.w.n : Int) ∧ ofN s d a = ofK a ∧ ofK a < s.c.n := by
  have hh := h
  unfold ofE at h
  cases hm : mayB0 s d
  · rw [if_pos hm] at h; omega
  · rw [if_neg (by rw [hm]; decide)] at h
    split at h
    · next g =>
      have w := may_wp hm
      refine ⟨rfl, g.1, g.2, if_pos hh, ?_⟩
      unfold ofK
      omega
    · omega
theorem clE_is {k : Int} (h : clE s d k = 0) : mayB0 s d = true ∧ 0 ≤ k ∧ k < (s.c.n : Int) := by
  unfold clE at h
  cases hm : mayB0 s d
  · rw [if_pos hm] at h; omega
  · rw [if_neg (by rw [hm]; decide)] at h
    split at h
    · next g => exact ⟨rfl, g⟩
    · omega
/-- Cards are none of what the other answers hang on. -/
def Same3 (s t : Hs) : Prop := t.w.n = s.w.n ∧ t.p.n = s.p.n ∧ t.c.n = s.c.n
theorem fine_ck (h : Same3 s t) (hf : Fine s d) (k : Nat) (b : Bool) : Fine t (ck d k b) := by
  obtain ⟨h1, h2, h3⟩ := h
  exact ⟨by rw [h1]; exact hf.wn, by rw [h2]; exact hf.pn, by rw [h3]; exact hf.cn, hf.hv, hf.len⟩
end
/-- Two lists that rise are one, if the same numbers are in them. -/
theorem rise_ext : ∀ {xs ys : List Int}, xs.Pairwise (· < ·) → ys.Pairwise (· < ·) → (∀ a, a ∈ xs ↔ a ∈ ys) → xs = ys
  | [], [], _, _, _ => rfl
  | [], y :: ys, _, _, h => absurd ((h y).2 (List.mem_cons_self)) (by simp)
  | x :: xs, [], _, _, h => absurd ((h x).1 (List.mem_cons_self)) (by simp)
  | x :: xs, y :: ys, hx, hy, h => by
    obtain ⟨hx1, hx2⟩ := List.pairwise_cons.1 hx
    obtain ⟨hy1, hy2⟩ := List.pairwise_cons.1 hy
    have e : x = y := by
      rcases List.mem_cons.1 ((h x).1 List.mem_cons_self) with e | e
      · exact e
      · rcases List.mem_cons.1 ((h y).2 List.mem_cons_self) with e' | e'
        · exact e'.symm
        · have := hy1 _ e; have := hx1 _ e'; omega
    subst e
    rw [rise_ext hx2 hy2 fun a => ?_]
    constructor
    · intro ha
      rcases List.mem_cons.1 ((h a).1 (List.mem_cons_of_mem _ ha)) with e | e
      · subst e; have := hx1 _ ha; omega
      · exact e
    · intro ha
      rcases List.mem_cons.1 ((h a).2 (List.mem_cons_of_mem _ ha)) with e | e
      · subst e; have := hy1 _ ha; omega
      · exact e
theorem on_mem {s : Hs} {d : Hd_} {k a : Int} : a ∈ onL s d k ↔ a ∈ usedL s d ∧ (a - 16) / 8 = k := by
  unfold onL
  rw [List.mem_filter, decide_eq_true_eq]
theorem used_no {s : Hs} {d : Hd_} (h : mayB0 s d = false) : usedL s d = [] := by simp [usedL, h]
theorem used_may {s : Hs} {d : Hd_} {a : Int} (h : a ∈ usedL s d) : mayB0 s d = true := by
  cases hm : mayB0 s d
  · rw [used_no hm] at h; simp at h
  · rfl
/-- No object begins on what is no card. -/
theorem on_out {s : Hs} {d : Hd_} {k : Int} (h : ¬ (0 ≤ k ∧ k < (s.c.n : Int))) : onL s d k = [] := by
  refine List.eq_nil_iff_forall_not_mem.2 fun a ha => h ?_
  obtain ⟨h1, h2⟩ := on_mem.1 ha
  have h3 := used_in h1
  have h4 := may_wp (used_may h1)
  omega
/-- What has been gathered when a number of the card's words are behind. -/
def onTo (us : List Int) (k : Nat) (i : Nat) : List Int := us.filter fun a => decide (16 + (k : Int) * 8 ≤ a ∧ a < 16 + (k : Int) * 8 + (i : Int))
theorem onTo_zero (us : List Int) (k : Nat) : onTo us k 0 = [] := by
  refine List.eq_nil_iff_forall_not_mem.2 fun a ha => ?_
  have := (List.mem_filter.1 ha).2
  simp only [decide_eq_true_eq] at this
  omega
theorem onTo_mem {us : List Int} {k i : Nat} {a : Int} : a ∈ onTo us k i ↔ a ∈ us ∧ (16 + (k : Int) * 8 ≤ a ∧ a < 16 + (k : Int) * 8 + (i : Int)) := by
  unfold onTo
  rw [List.mem_filter, decide_eq_true_eq]
theorem onTo_rise {us : List Int} (h : us.Pairwise (· < ·)) (k i : Nat) : (onTo us k i).Pairwise (· < ·) := h.sublist List.filter_sublist
theorem onTo_yes {us : List Int} (h : us.Pairwise (· < ·)) {k i : Nat} {t : Int} (ht : t = 16 + (k : Int) * 8 + i) (hm : t ∈ us) : onTo us k (i + 1) = onTo us k i ++ [t] := by
  refine rise_ext (onTo_rise h _ _) ?_ fun a => ?_
  · refine List.pairwise_append.2 ⟨onTo_rise h _ _, List.pairwise_singleton _ _, fun a ha b hb => ?_⟩
    have h1 := (onTo_mem.1 ha).2
    rw [List.mem_singleton] at hb
    omega
  · rw [List.mem_append, List.mem_singleton, onTo_mem, onTo_mem]
    constructor
    · rintro ⟨h1, h2⟩
      by_cases e : a = t
      · exact .inr e
      · exact .inl ⟨h1, by omega⟩
    · rintro (⟨h1, h2⟩ | rfl)
      · exact ⟨h1, by omega⟩
      · exact ⟨hm, by omega⟩
theorem onTo_no {us : List Int} {k i : Nat} {t : Int} (ht : t = 16 + (k : Int) * 8 + i) (hm : ¬ t ∈ us) : onTo us k (i + 1) = onTo us k i := by
  unfold onTo
  refine List.filter_congr fun a ha => ?_
  have : ¬ a = t := fun e => hm (e ▸ ha)
  rw [decide_eq_decide]
  constructor <;> intro h <;> omega
theorem onTo_all (s : Hs) (d : Hd_) (k : Nat) : onTo (usedL s d) k 8 = onL s d k := by
  unfold onTo onL
  refine List.filter_congr fun a ha => ?_
  rw [decide_eq_decide]
  constructor <;> intro h <;> omega
theorem onTo_len {us : List Int} (h : us.Pairwise (· < ·)) (k : Nat) : ∀ i, (onTo us k i).length ≤ i
  | 0 => by rw [onTo_zero]; exact Nat.le_refl _
  | i + 1 => by
    by_cases hm : 16 + (k : Int) * 8 + i ∈ us
    · rw [onTo_yes h rfl hm, List.length_append]
      have := onTo_len h k i
      simp only [List.length_singleton]
      omega
    · rw [onTo_no rfl hm]
      have := onTo_len h k i
      omega
theorem on_len (s : Hs) (d : Hd_) (k : Int) : (onL s d k).length ≤ 8 := by
  by_cases h : 0 ≤ k ∧ k < (s.c.n : Int)
  · obtain ⟨i, rfl⟩ : ∃ i : Nat, k = i := ⟨k.toNat, by omega⟩
    rw [← onTo_all]
    exact onTo_len (used_rise s d) i 8
  · rw [on_out h]
    exact Nat.zero_le _
/-- A head's second mark is whether it is old. -/
theorem old_form (s : Hs) (d : Hd_) (a : Int) : ∃ (u e : Bool) (n b m : Int), headV s d a = .agg #[.bool u, .bool (oldB s d a), .bool e, .int .i64 n, .int .i64 b, .int .i64 m] := by
  unfold oldB
  by_cases hE : headE s d a = 0
  · have hV : headV s d a = headOf (wd d a) := if_pos hE
    have hm : mayB0 s d = true := by
      cases hm : mayB0 s d
      · unfold headE at hE; rw [if_pos hm] at hE; omega
      · rfl
    have hb : ¬ Cl.bg d.f s.p.n a = 0 := fun e => by
      unfold headE at hE
      rw [if_neg (by rw [hm]; decide), if_pos (Or.inl e)] at hE
      omega
    have hw : Hd.isWord (wd d a) = true := (may0_word hm hb).2.2.2
    rw [hV, headOf_yes hw, hE]
    exact ⟨_, _, _, _, _, rfl⟩
  · have hV : headV s d a = noHead := if_neg hE
    rw [hV, show decide (headE s d a = 0) = false from decide_eq_false hE, Bool.false_and]
    exact ⟨_, _, _, _, _, rfl⟩
end Go.Proofs.YtmalopciboikhaaGreatDoor.Ck
end
section
namespace Go.Proofs.YtmalopciboikhaaGreatDoor.Ck
open Go.Proofs.YtmalopciboikhaaGreatDoor
open Go.RowKit
set_option maxRecDepth 100000

theorem has_any (s : Hs) (k : Int) (w : World) : Calls Tryz.prog 72 #[(.agg #[.slice s.w.a s.w.n s.w.c, .slice s.p.a s.p.n s.p.c, .slice (s.u 0).a (s.u 0).n (s.u 0).c, .slice (s.u 1).a (s.u 1).n (s.u 1).c, .slice (s.u 2).a (s.u 2).n (s.u 2).c, .slice s.c.a s.c.n s.c.c]), .int .i64 k] w fun e w' => e = .returned (.bool (decide (0 ≤ k ∧ k < (s.c.n : Int)))) ∧ Below w.heap.size w w' := by
  by_cases h0 : 0 ≤ k
  · have a0 : decide (0 ≤ k) = true := decide_eq_true h0
    by_cases h1 : k < (s.c.n : Int)
    · have a1 : decide (k < (s.c.n : Int)) = true := decide_eq_true h1
      rw [show decide (0 ≤ k ∧ k < (s.c.n : Int)) = true from decide_eq_true ⟨h0, h1⟩]
      clear h0 h1
      go_enter Tryz.func72, Tryz.ntmps72
      go_wp2
      go_ret
      exact ⟨rfl, (Below.refl _ _).alloc (Nat.le_refl _) _⟩
    · have a1 : decide (k < (s.c.n : Int)) = false := decide_eq_false h1
      rw [show decide (0 ≤ k ∧ k < (s.c.n : Int)) = false from decide_eq_false fun h => h1 h.2]
      clear h0 h1
      go_enter Tryz.func72, Tryz.ntmps72
      go_wp2
      go_ret
      exact ⟨rfl, (Below.refl _ _).alloc (Nat.le_refl _) _⟩
  · have a0 : decide (0 ≤ k) = false := decide_eq_false h0
    rw [show decide (0 ≤ k ∧ k < (s.c.n : Int)) = false from decide_eq_false fun h => h0 h.1]
    clear h0
    go_enter Tryz.func72, Tryz.ntmps72
    go_wp2
    go_ret
    exact ⟨rfl, (Below.refl _ _).alloc (Nat.le_refl _) _⟩
section
variable (s : Hs) (d : Hd_) (w : World)
theorem of_bad (a : Int) (hp : Hp w w.heap.size s d) (hz : Cl.Sz w) (hf : Fine s d) (hm : mayB0 s d = false) : Calls Tryz.prog 23 #[(.agg #[.slice s.w.a s.w.n s.w.c, .slice s.p.a s.p.n s.p.c, .slice (s.u 0).a (s.u 0).n (s.u 0).c, .slice (s.u 1).a (s.u 1).n (s.u 1).c, .slice (s.u 2).a (s.u 2).n (s.u 2).c, .slice s.c.a s.c.n s.c.c]), .int .i64 a] w fun e w' => e = .returned (.tuple #[.int .i64 0, .int .i64 1]) ∧ Below w.heap.size w w' := by
  have HP := Lib.hid hp
  have HZ := Lib.hid hz
  have HF := Lib.hid hf
  have HM := Lib.hid hm
  have hz0 := hz.pos
  have b0 := (Below.refl w.heap.size w).alloc (Nat.le_refl _) (.cells #[.slice s.w.a s.w.n s.w.c, .slice s.p.a s.p.n s.p.c, .slice (s.u 0).a (s.u 0).n (s.u 0).c, .slice (s.u 1).a (s.u 1).n (s.u 1).c, .slice (s.u 2).a (s.u 2).n (s.u 2).c, .slice s.c.a s.c.n s.c.c] 28)
  clear hp hz hf hm
  go_enter Tryz.func23, Tryz.ntmps23
  go_wp2_with fail
  refine (pmay0_any s d _ (HP.out.next b0) (HZ.out.over b0 hz0) HF.out).mono ?_
  rw [HM.out]
  rintro e w1 ⟨rfl, hb1⟩
  have HB := Lib.hid (b0.trans (hb1.mono b0.size))
  clear b0 hb1
  go_wp2
  go_ret2
  exact ⟨rfl, HB.out⟩
theorem of_low (a : Int) (hp : Hp w w.heap.size s d) (hz : Cl.Sz w) (hf : Fine s d) (hm : mayB0 s d = true) (ha : a < 16) : Calls Tryz.prog 23 #[(.agg #[.slice s.w.a s.w.n s.w.c, .slice s.p.a s.p.n s.p.c, .slice (s.u 0).a (s.u 0).n (s.u 0).c, .slice (s.u 1).a (s.u 1).n (s.u 1).c, .slice (s.u 2).a (s.u 2).n (s.u 2).c, .slice s.c.a s.c.n s.c.c]), .int .i64 a] w fun e w' => e = .returned (.tuple #[.int .i64 0, .int .i64 3]) ∧ Below w.heap.size w w' := by
  have HP := Lib.hid hp
  have HZ := Lib.hid hz
  have HF := Lib.hid hf
  have HM := Lib.hid hm
  have hz0 := hz.pos
  have b0 := (Below.refl w.heap.size w).alloc (Nat.le_refl _) (.cells #[.slice s.w.a s.w.n s.w.c, .slice s.p.a s.p.n s.p.c, .slice (s.u 0).a (s.u 0).n (s.u 0).c, .slice (s.u 1).a (s.u 1).n (s.u 1).c, .slice (s.u 2).a (s.u 2).n (s.u 2).c, .slice s.c.a s.c.n s.c.c] 28)
  have a0 : decide (a < 16) = true := decide_eq_true ha
  clear hp hz hf hm ha
  go_enter Tryz.func23, Tryz.ntmps23
  go_wp2_with fail
  refine (pmay0_any s d _ (HP.out.next b0) (HZ.out.over b0 hz0) HF.out).mono ?_
  rw [HM.out]
  rintro e w1 ⟨rfl, hb1⟩
  have HB := Lib.hid (b0.trans (hb1.mono b0.size))
  clear b0 hb1
  go_wp2
  go_ret2
  exact ⟨rfl, HB.out⟩
theorem of_high (i : Nat) (hp : Hp w w.heap.size s d) (hz : Cl.Sz w) (hf : Fine s d) (hm : mayB0 s d = true) (hi : s.w.n ≤ i) (hw : 16 + (i : Int) ≤ 9223372036854775807) : Calls Tryz.prog 23 #[(.agg #[.slice s.w.a s.w.n s.w.c, .slice s.p.a s.p.n s.p.c, .slice (s.u 0).a (s.u 0).n (s.u 0).c, .slice (s.u 1).a (s.u 1).n (s.u 1).c, .slice (s.u 2).a (s.u 2).n (s.u 2).c, .slice s.c.a s.c.n s.c.c]), .int .i64 (16 + (i : Int))] w fun e w' => e = .returned (.tuple #[.int .i64 0, .int .i64 3]) ∧ Below w.heap.size w w' := by
  have HP := Lib.hid hp
  have HZ := Lib.hid hz
  have HF := Lib.hid hf
  have HM := Lib.hid hm
  have hz0 := hz.pos
  have b0 := (Below.refl w.heap.size w).alloc (Nat.le_refl _) (.cells #[.slice s.w.a s.w.n s.w.c, .slice s.p.a s.p.n s.p.c, .slice (s.u 0).a (s.u 0).n (s.u 0).c, .slice (s.u 1).a (s.u 1).n (s.u 1).c, .slice (s.u 2).a (s.u 2).n (s.u 2).c, .slice s.c.a s.c.n s.c.c] 28)
  have a0 : decide (16 + (i : Int) < 16) = false := decide_eq_false (by omega)
  have a1 : decide ((s.w.n : Int) ≤ 16 + (i : Int) - 16) = true := decide_eq_true (by omega)
  have a2 : decide (s.w.n ≤ i) = true := decide_eq_true hi
  clear hp hz hf hm
  go_enter Tryz.func23, Tryz.ntmps23
  go_wp2_with fail
  refine (pmay0_any s d _ (HP.out.next b0) (HZ.out.over b0 hz0) HF.out).mono ?_
  rw [HM.out]
  rintro e w1 ⟨rfl, hb1⟩
  have HB := Lib.hid (b0.trans (hb1.mono b0.size))
  have bx := (HBox.new w s 28).next hb1
  have q0 := bx.c0
  have ql := bx.lt
  clear b0 hb1 bx
  go_wp2
  go_ret2
  exact ⟨rfl, HB.out⟩
theorem of_in (i k : Nat) (hp : Hp w w.heap.size s d) (hz : Cl.Sz w) (hf : Fine s d) (hm : mayB0 s d = true) (hi : i < s.w.n) (hk : i / 8 = k) : Calls Tryz.prog 23 #[(.agg #[.slice s.w.a s.w.n s.w.c, .slice s.p.a s.p.n s.p.c, .slice (s.u 0).a (s.u 0).n (s.u 0).c, .slice (s.u 1).a (s.u 1).n (s.u 1).c, .slice (s.u 2).a (s.u 2).n (s.u 2).c, .slice s.c.a s.c.n s.c.c]), .int .i64 (16 + (i : Int))] w fun e w' => e = .returned (.tuple #[.int .i64 (k : Int), .int .i64 0]) ∧ Below w.heap.size w w' := by
  have HP := Lib.hid hp
  have HZ := Lib.hid hz
  have HF := Lib.hid hf
  have HM := Lib.hid hm
  have hz0 := hz.pos
  have hi4 : i ≤ 4000 := by have := hf.wn; omega
  have b0 := (Below.refl w.heap.size w).alloc (Nat.le_refl _) (.cells #[.slice s.w.a s.w.n s.w.c, .slice s.p.a s.p.n s.p.c, .slice (s.u 0).a (s.u 0).n (s.u 0).c, .slice (s.u 1).a (s.u 1).n (s.u 1).c, .slice (s.u 2).a (s.u 2).n (s.u 2).c, .slice s.c.a s.c.n s.c.c] 28)
  have a0 : decide (16 + (i : Int) < 16) = false := decide_eq_false (by omega)
  have a1 : decide ((s.w.n : Int) ≤ 16 + (i : Int) - 16) = false := decide_eq_false (by omega)
  have a2 : decide (s.w.n ≤ i) = false := decide_eq_false (by omega)
  have d1 : (16 + (i : Int) - 16) / 8 = k := by omega
  have d2 : Int.tdiv (16 + (i : Int) - 16) 8 = k := by rw [Int.tdiv_eq_ediv_of_nonneg (by omega)]; exact d1
  have d3 : (i : Int) / 8 = k := by omega
  have d4 : Int.tdiv (i : Int) 8 = k := by rw [Int.tdiv_eq_ediv_of_nonneg (by omega)]; exact d3
  have hk2 : k ≤ 500 := by omega
  clear hp hz hf hm hk
  go_enter Tryz.func23, Tryz.ntmps23
  go_wp2_with fail
  refine (pmay0_any s d _ (HP.out.next b0) (HZ.out.over b0 hz0) HF.out).mono ?_
  rw [HM.out]
  rintro e w1 ⟨rfl, hb1⟩
  have HB := Lib.hid (b0.trans (hb1.mono b0.size))
  have bx := (HBox.new w s 28).next hb1
  have q0 := bx.c0
  have ql := bx.lt
  clear b0 hb1 bx
  go_wp2
  go_ret2
  exact ⟨rfl, HB.out⟩
theorem of_any (a : Int) (hp : Hp w w.heap.size s d) (hz : Cl.Sz w) (hf : Fine s d) (ha : a ≤ 9223372036854775807) : Calls Tryz.prog 23 #[(.agg #[.slice s.w.a s.w.n s.w.c, .slice s.p.a s.p.n s.p.c, .slice (s.u 0).a (s.u 0).n (s.u 0).c, .slice (s.u 1).a (s.u 1).n (s.u 1).c, .slice (s.u 2).a (s.u 2).n (s.u 2).c, .slice s.c.a s.c.n s.c.c]), .int .i64 a] w fun e w' => e = .returned (.tuple #[.int .i64 (ofN s d a), .int .i64 (ofE s d a)]) ∧ Below w.heap.size w w' := by
  cases hm : mayB0 s d
  · have e : ofE s d a = 1 := if_pos hm
    have e2 : ofN s d a = 0 := if_neg (by rw [e]; decide)
    rw [e, e2]
    exact of_bad s d w a hp hz hf hm
  · by_cases h1 : a < 16
    · have e : ofE s d a = 3 := by unfold ofE; rw [if_neg (by rw [hm]; decide), if_neg (by omega)]
      have e2 : ofN s d a = 0 := if_neg (by rw [e]; decide)
      rw [e, e2]
      exact of_low s d w a hp hz hf hm h1
    · obtain ⟨i, rfl⟩ : ∃ i : Nat, a = 16 + i := ⟨(a - 16).toNat, by omega⟩
      by_cases h2 : i < s.w.n
      · have e : ofE s d (16 + (i : Int)) = 0 := by unfold ofE; rw [if_neg (by rw [hm]; decide), if_pos (by omega)]
        have e2 : ofN s d (16 + (i : Int)) = ((i / 8 : Nat) : Int) := by
          unfold ofN ofK
          rw [if_pos e]
          omega
        rw [e, e2]
        exact of_in s d w i (i / 8) hp hz hf hm h2 rfl
      · have e : ofE s d (16 + (i : Int)) = 3 := by unfold ofE; rw [if_neg (by rw [hm]; decide), if_neg (by omega)]
        have e2 : ofN s d (16 + (i : Int)) = 0 := if_neg (by rw [e]; decide)
        rw [e, e2]
        exact of_high s d w i hp hz hf hm (by omega) ha
end
end Go.Proofs.YtmalopciboikhaaGreatDoor.Ck
end
section
namespace Go.Proofs.YtmalopciboikhaaGreatDoor.Ls
open Go.Proofs.YtmalopciboikhaaGreatDoor
open Go.RowKit
set_option maxRecDepth 100000

structure AOwn (w wr : World) (f : Nat → List Int) (k : Nat) (v : Nat → Sl) : Prop where
  box : Box3 wr w.heap.size v
  res : Box3 wr (w.heap.size + 1) noSl
  own : OwnTo wr (w.heap.size + 2) k v f
  bel : Below w.heap.size w wr
theorem AOwn.size {w wr : World} {v : Nat → Sl} {f : Nat → List Int} {k : Nat} (h : AOwn w wr f k v) : w.heap.size + 2 ≤ wr.heap.size := by have := h.res.lt; omega
theorem AOwn.step {w wr w1 w2 : World} {v : Nat → Sl} {f : Nat → List Int} {k : Nat} (h : AOwn w wr f k v) (hk : k < 3) (s : Sl)
    (ho : w1.ownsRow wr.heap.size 3 1 (.slice s.a s.n s.c) s.n ((f k).map (Value.int .i64))) (b1 : Below wr.heap.size wr w1) (e2 : w2 = w1.setCell ⟨w.heap.size, k, none⟩ (.slice s.a s.n s.c)) : AOwn w w2 f (k + 1) (upd v k s) := by
  have hs := h.size
  subst e2
  refine ⟨(h.box.next b1).set hk s, (h.res.next b1).other (by simp) _, ?_, (h.bel.trans (b1.mono h.bel.size)).setCell (p := ⟨w.heap.size, k, none⟩) (by simp) _⟩
  refine h.own.step hs s (World.ownsRow.same ho (fun g hg' _ => Below.heap_setCell _ _ _ _ ?_)) (fun j hj hlt => (Below.heap_setCell _ _ _ _ (by show ¬ j = w.heap.size; omega)).trans (b1.block j hlt))
  have := (ho.lt g hg').1
  show ¬ g = w.heap.size
  omega
theorem aown_any (B : Nat) (u : Nat → Sl) (f : Nat → List Int) (w : World) (h : L3 w B u f) (hB : B ≤ w.heap.size) (hn : ∀ j, j < 3 → (u j).n ≤ 2000000) :
    Calls Tryz.prog 43 #[(.agg #[.slice (u 0).a (u 0).n (u 0).c, .slice (u 1).a (u 1).n (u 1).c, .slice (u 2).a (u 2).n (u 2).c])] w (COut w f) := by
  have C4 := Lib.hid (fun j (hj : j < 3) W (hb : Below w.heap.size w W) => iclone_any B (u j).a (u j).n (u j).c (f j) W (hn j hj) (Nat.le_trans hB hb.size) ((h j hj).1.over hb hB))
  clear h hn
  go_enter Tryz.func43, Tryz.ntmps43
  go_wp2
  go_loopw [6] (fun i wr => ∃ (k : Nat) (v : Nat → Sl), k ≤ 3 ∧ i = .int .i64 k ∧ Hid (AOwn w wr f k v)) (fun i _ => 3 - (intOf i).toNat)
  case atStart =>
    refine ⟨0, u, by omega, rfl, Lib.hid ⟨(Box3.new w u 25).alloc _, ?_, OwnTo.start _ _ _ _, ((Below.refl _ _).alloc (Nat.le_refl _) _).alloc (by simp) _⟩⟩
    have := Box3.new (w.alloc (.cells #[.slice (u 0).a (u 0).n (u 0).c, .slice (u 1).a (u 1).n (u 1).c, .slice (u 2).a (u 2).n (u 2).c] 25)) noSl 25
    rw [World.size_alloc] at this
    exact this
  case round =>
    obtain ⟨k, v, hk, rfl, HC⟩ := hrel
    by_cases hlt : k < 3
    · have hix := index_of u k hlt
      go_wp2_with fail
      refine (C4.out k hlt _ HC.out.bel).mono ?_
      rintro e w1 ⟨s, rfl, ho, hb1⟩
      have hB1 := HC.out.box.next hb1
      have hc1 := hB1.cell k hlt
      have hf1 := hB1.free k
      have hl1 := hB1.lt
      have S1 := Lib.hid (HC.out.step hlt s ho hb1 rfl)
      clear ho hb1 hB1
      go_wp2
      go_roundw
      case rel => exact ⟨k + 1, _, by omega, by go_num, S1⟩
      case measure => simp [intOf]; omega
    · obtain rfl : k = 3 := by omega
      have r0 := HC.out.box.cell 0 (by decide)
      have r1 := HC.out.box.cell 1 (by decide)
      have r2 := HC.out.box.cell 2 (by decide)
      have rl := HC.out.box.lt
      have x0 := HC.out.res.cell 0 (by decide)
      have x1 := HC.out.res.cell 1 (by decide)
      have x2 := HC.out.res.cell 2 (by decide)
      have y0 := HC.out.res.free 0
      have y1 := HC.out.res.free 1
      have y2 := HC.out.res.free 2
      have xl := HC.out.res.lt
      go_wp2
      refine bodyPost_ret (v := (.agg #[.slice (v 0).a (v 0).n (v 0).c, .slice (v 1).a (v 1).n (v 1).c, .slice (v 2).a (v 2).n (v 2).c])) ?_ rfl ⟨v, rfl, (HC.out.own.own3.put (b := w.heap.size + 1) (fun j x hj hx => by have := (HC.out.own.own3.block j hj hx).1; omega) v).less (by omega), below_put3 HC.out.bel (by omega) v⟩
      simp [results, Tryz.results43, go_sem, x0, x1, x2]
end Go.Proofs.YtmalopciboikhaaGreatDoor.Ls
end
section
namespace Go.Proofs.YtmalopciboikhaaGreatDoor
open Go.RowKit
set_option maxRecDepth 100000

/-- A slice is not in that block. -/
def Out (g : Nat) (v : Ls.Sl) : Prop := 0 < v.n → ∀ x, v.a = some x → ¬ x.block = g
/-- A copy was returned; its cards are in a block of their own. -/
def FreshOut (w : World) (s : Hs) (d : Hd_) (e : Ending) (w' : World) : Prop :=
  ∃ t : Hs, e = .returned (.agg #[.slice t.w.a t.w.n t.w.c, .slice t.p.a t.p.n t.p.c, .slice (t.u 0).a (t.u 0).n (t.u 0).c, .slice (t.u 1).a (t.u 1).n (t.u 1).c, .slice (t.u 2).a (t.u 2).n (t.u 2).c, .slice t.c.a t.c.n t.c.c]) ∧ Hp w' w'.heap.size t d ∧ Lens s t ∧ News w.heap.size t ∧ t.p.n ≤ t.p.c ∧ Below w.heap.size w w' ∧
    ∃ g c, t.c = ⟨some ⟨g, 0, none⟩, s.c.n, c⟩ ∧ (∀ i, w'.frozen? ⟨g, i, none⟩ = false) ∧ w.heap.size + 2 ≤ g ∧ g < w'.heap.size ∧ Out g t.w ∧ Out g t.p ∧ ∀ j, j < 3 → Out g (t.u j)
/-- The boxes of the argument and of the result. -/
structure Fr (w W : World) (s : Hs) : Prop where
  bel : Below w.heap.size w W
  box : HBox W w.heap.size s
  res : ∀ j, j < 6 → ∃ v, W.cell? ⟨w.heap.size + 1, j, none⟩ = some v
  free : ∀ j, W.frozen? ⟨w.heap.size + 1, j, none⟩ = false
  lt : w.heap.size + 1 < W.heap.size
section
variable {w W W' : World} {s : Hs} {d : Hd_}
theorem Fr.next (h : Fr w W s) (hb : Below W.heap.size W W') : Fr w W' s :=
  ⟨h.bel.trans (hb.mono h.bel.size), h.box.next hb, fun j hj => by obtain ⟨v, e⟩ := h.res j hj; exact ⟨v, (hb.cell (p := ⟨w.heap.size + 1, j, none⟩) h.lt).trans e⟩, fun j => (hb.frozen (p := ⟨w.heap.size + 1, j, none⟩) h.lt).trans (h.free j), Nat.lt_of_lt_of_le h.lt hb.size⟩
theorem fr_start {t1 t2 : TypeId} (hW : W = (w.alloc (.cells #[.slice s.w.a s.w.n s.w.c, .slice s.p.a s.p.n s.p.c, .slice (s.u 0).a (s.u 0).n (s.u 0).c, .slice (s.u 1).a (s.u 1).n (s.u 1).c, .slice (s.u 2).a (s.u 2).n (s.u 2).c, .slice s.c.a s.c.n s.c.c] t1)).alloc (.cells #[.slice none 0 0, .slice none 0 0, .slice none 0 0, .slice none 0 0, .slice none 0 0, .slice none 0 0] t2)) : Fr w W s := by
  have b1 := HBox.new w s t1
  have b2 : Below (w.alloc (.cells #[.slice s.w.a s.w.n s.w.c, .slice s.p.a s.p.n s.p.c, .slice (s.u 0).a (s.u 0).n (s.u 0).c, .slice (s.u 1).a (s.u 1).n (s.u 1).c, .slice (s.u 2).a (s.u 2).n (s.u 2).c, .slice s.c.a s.c.n s.c.c] t1)).heap.size (w.alloc (.cells #[.slice s.w.a s.w.n s.w.c, .slice s.p.a s.p.n s.p.c, .slice (s.u 0).a (s.u 0).n (s.u 0).c, .slice (s.u 1).a (s.u 1).n (s.u 1).c, .slice (s.u 2).a (s.u 2).n (s.u 2).c, .slice s.c.a s.c.n s.c.c] t1)) W := by rw [hW]; exact (Below.refl _ _).alloc (Nat.le_refl _) _
  refine ⟨by rw [hW]; exact ((Below.refl _ _).alloc (Nat.le_refl _) _).alloc (by simp) _, b1.next b2, fun j hj => ?_, fun j => by rw [hW]; simp [go_sem], by rw [hW]; simp⟩
  match j, hj with
  | 0, _ => exact ⟨_, by rw [hW]; simp [go_sem]; rfl⟩
  | 1, _ => exact ⟨_, by rw [hW]; simp [go_sem]; rfl⟩
  | 2, _ => exact ⟨_, by rw [hW]; simp [go_sem]; rfl⟩
  | 3, _ => exact ⟨_, by rw [hW]; simp [go_sem]; rfl⟩
  | 4, _ => exact ⟨_, by rw [hW]; simp [go_sem]; rfl⟩
  | 5, _ => exact ⟨_, by rw [hW]; simp [go_sem]; rfl⟩
theorem fr_keep (h : Fr w W s ∧ True) (hb : Below W.heap.size W W') : (Fr w W' s ∧ True) ∧ w.heap.size < W'.heap.size ∧ W'.cell? ⟨w.heap.size, 0, none⟩ = some (.slice s.w.a s.w.n s.w.c) ∧ W'.cell? ⟨w.heap.size, 1, none⟩ = some (.slice s.p.a s.p.n s.p.c) ∧ W'.cell? ⟨w.heap.size, 2, none⟩ = some (.slice (s.u 0).a (s.u 0).n (s.u 0).c) ∧ W'.cell? ⟨w.heap.size, 3, none⟩ = some (.slice (s.u 1).a (s.u 1).n (s.u 1).c) ∧ W'.cell? ⟨w.heap.size, 4, none⟩ = some (.slice (s.u 2).a (s.u 2).n (s.u 2).c) ∧ W'.cell? ⟨w.heap.size, 5, none⟩ = some (.slice s.c.a s.c.n s.c.c) := by
  have g := h.1.next hb
  exact ⟨⟨g, trivial⟩, g.box.lt, g.box.c0, g.box.c1, g.box.c2, g.box.c3, g.box.c4, g.box.c5⟩
theorem Fr.put (h : Fr w W s) (v0 v1 v2 v3 v4 v5 : Value) : Fr w (put6 W (w.heap.size + 1) v0 v1 v2 v3 v4 v5) s := by
  have hz := put6_size W (w.heap.size + 1) v0 v1 v2 v3 v4 v5
  obtain ⟨x0, h0⟩ := h.res 0 (by decide)
  obtain ⟨x1, h1⟩ := h.res 1 (by decide)
  obtain ⟨x2, h2⟩ := h.res 2 (by decide)
  obtain ⟨x3, h3⟩ := h.res 3 (by decide)
  obtain ⟨x4, h4⟩ := h.res 4 (by decide)
  obtain ⟨x5, h5⟩ := h.res 5 (by decide)
  refine ⟨below_put6 h.bel (by omega) _ _ _ _ _ _, h.box.same (put6_other _ _ _ _ _ _ _ _ (by omega)) (by rw [hz]; exact Nat.le_refl _), fun j hj => ?_, fun j => ?_, by rw [hz]; exact h.lt⟩
  · match j, hj with
    | 0, _ => exact ⟨v0, by simp [put6, go_sem, h0]⟩
    | 1, _ => exact ⟨v1, by simp [put6, go_sem, h1]⟩
    | 2, _ => exact ⟨v2, by simp [put6, go_sem, h2]⟩
    | 3, _ => exact ⟨v3, by simp [put6, go_sem, h3]⟩
    | 4, _ => exact ⟨v4, by simp [put6, go_sem, h4]⟩
    | 5, _ => exact ⟨v5, by simp [put6, go_sem, h5]⟩
  · unfold put6
    simp only [World.frozen?_setCell]
    exact h.free j
theorem fr_put (h : Fr w W s ∧ True) (v0 v1 v2 v3 v4 v5 : Value) : (Fr w ((((((W.setCell ⟨w.heap.size + 1, 0, none⟩ v0).setCell ⟨w.heap.size + 1, 1, none⟩ v1).setCell ⟨w.heap.size + 1, 2, none⟩ v2).setCell ⟨w.heap.size + 1, 3, none⟩ v3).setCell ⟨w.heap.size + 1, 4, none⟩ v4).setCell ⟨w.heap.size + 1, 5, none⟩ v5) s ∧ True) ∧ w.heap.size < ((((((W.setCell ⟨w.heap.size + 1, 0, none⟩ v0).setCell ⟨w.heap.size + 1, 1, none⟩ v1).setCell ⟨w.heap.size + 1, 2, none⟩ v2).setCell ⟨w.heap.size + 1, 3, none⟩ v3).setCell ⟨w.heap.size + 1, 4, none⟩ v4).setCell ⟨w.heap.size + 1, 5, none⟩ v5).heap.size ∧ ((((((W.setCell ⟨w.heap.size + 1, 0, none⟩ v0).setCell ⟨w.heap.size + 1, 1, none⟩ v1).setCell ⟨w.heap.size + 1, 2, none⟩ v2).setCell ⟨w.heap.size + 1, 3, none⟩ v3).setCell ⟨w.heap.size + 1, 4, none⟩ v4).setCell ⟨w.heap.size + 1, 5, none⟩ v5).cell? ⟨w.heap.size, 0, none⟩ = some (.slice s.w.a s.w.n s.w.c) ∧ ((((((W.setCell ⟨w.heap.size + 1, 0, none⟩ v0).setCell ⟨w.heap.size + 1, 1, none⟩ v1).setCell ⟨w.heap.size + 1, 2, none⟩ v2).setCell ⟨w.heap.size + 1, 3, none⟩ v3).setCell ⟨w.heap.size + 1, 4, none⟩ v4).setCell ⟨w.heap.size + 1, 5, none⟩ v5).cell? ⟨w.heap.size, 1, none⟩ = some (.slice s.p.a s.p.n s.p.c) ∧ ((((((W.setCell ⟨w.heap.size + 1, 0, none⟩ v0).setCell ⟨w.heap.size + 1, 1, none⟩ v1).setCell ⟨w.heap.size + 1, 2, none⟩ v2).setCell ⟨w.heap.size + 1, 3, none⟩ v3).setCell ⟨w.heap.size + 1, 4, none⟩ v4).setCell ⟨w.heap.size + 1, 5, none⟩ v5).cell? ⟨w.heap.size, 2, none⟩ = some (.slice (s.u 0).a (s.u 0).n (s.u 0).c) ∧ ((((((W.setCell ⟨w.heap.size + 1, 0, none⟩ v0).setCell ⟨w.heap.size + 1, 1, none⟩ v1).setCell ⟨w.heap.size + 1, 2, none⟩ v2).setCell ⟨w.heap.size + 1, 3, none⟩ v3).setCell ⟨w.heap.size + 1, 4, none⟩ v4).setCell ⟨w.heap.size + 1, 5, none⟩ v5).cell? ⟨w.heap.size, 3, none⟩ = some (.slice (s.u 1).a (s.u 1).n (s.u 1).c) ∧ ((((((W.setCell ⟨w.heap.size + 1, 0, none⟩ v0).setCell ⟨w.heap.size + 1, 1, none⟩ v1).setCell ⟨w.heap.size + 1, 2, none⟩ v2).setCell ⟨w.heap.size + 1, 3, none⟩ v3).setCell ⟨w.heap.size + 1, 4, none⟩ v4).setCell ⟨w.heap.size + 1, 5, none⟩ v5).cell? ⟨w.heap.size, 4, none⟩ = some (.slice (s.u 2).a (s.u 2).n (s.u 2).c) ∧ ((((((W.setCell ⟨w.heap.size + 1, 0, none⟩ v0).setCell ⟨w.heap.size + 1, 1, none⟩ v1).setCell ⟨w.heap.size + 1, 2, none⟩ v2).setCell ⟨w.heap.size + 1, 3, none⟩ v3).setCell ⟨w.heap.size + 1, 4, none⟩ v4).setCell ⟨w.heap.size + 1, 5, none⟩ v5).cell? ⟨w.heap.size, 5, none⟩ = some (.slice s.c.a s.c.n s.c.c) := by
  have g := h.1.put v0 v1 v2 v3 v4 v5
  exact ⟨⟨g, trivial⟩, g.box.lt, g.box.c0, g.box.c1, g.box.c2, g.box.c3, g.box.c4, g.box.c5⟩
/-- What has been copied so far, slice by slice. -/
def RowN (w W : World) (v : Ls.Sl) (xs : List Int) : Prop := Row W W.heap.size v.a v.n xs ∧ v.n ≤ v.c ∧ v.c ≤ maxLen ∧ New (w.heap.size + 2) v
theorem RowN.next {v : Ls.Sl} {xs : List Int} (h : RowN w W v xs) (hb : Below W.heap.size W W') : RowN w W' v xs := ⟨(h.1.below hb).more hb.size, h.2⟩
theorem rown_of {v : Ls.Sl} {xs : List Int} (h : Fr w W s) (ho : W'.ownsRow W.heap.size 3 1 (.slice v.a v.n v.c) v.n (xs.map (Value.int .i64))) : RowN w W' v xs := by
  have hl := h.lt
  obtain ⟨h1, h2, h3, _, _⟩ := own_off ho (b := w.heap.size) (by omega)
  refine ⟨h1, h2, h3, fun _ x hx => ?_⟩
  have := (ho.lt x.block (by rw [Ls.ownBlock_slice, hx]; rfl)).1
  omega
def PgN (w W : World) (g n c : Nat) (f : Nat → Int × Int) : Prop := Cl.PRow W W.heap.size (some ⟨g, 0, none⟩) n f ∧ w.heap.size + 2 ≤ g ∧ n ≤ c
theorem PgN.next {g n c : Nat} {f : Nat → Int × Int} (h : PgN w W g n c f) (hb : Below W.heap.size W W') : PgN w W' g n c f := ⟨prow_more (h.1.below hb) hb.size, h.2⟩
theorem pgn_of {g n c : Nat} {f : Nat → Int × Int} {ty : TypeId} (h : Fr w W s) (hm : Cl.PMine W' W.heap.size ty g n c f) : PgN w W' g n c f := by
  have hl := h.lt
  exact ⟨hm.row, by have := hm.2.1; omega, hm.2.2.2.1⟩
def LsN (w W : World) (v : Nat → Ls.Sl) (F : Nat → List Int) : Prop := Ls.L3 W W.heap.size v F ∧ ∀ j, j < 3 → New (w.heap.size + 2) (v j)
theorem LsN.next {v : Nat → Ls.Sl} {F : Nat → List Int} (h : LsN w W v F) (hb : Below W.heap.size W W') : LsN w W' v F := ⟨h.1.next hb, h.2⟩
theorem lsn_of {v : Nat → Ls.Sl} {F : Nat → List Int} (h : Fr w W s) (ho : Ls.Own3 W' W.heap.size v F) : LsN w W' v F := by
  have hl := h.lt
  exact ⟨ho.l3, fun j hj _ x hx => by have := (ho.block j hj hx).1; omega⟩
theorem row_out {n g : Nat} {v : Ls.Sl} {xs : List Int} (h : Row W n v.a v.n xs) (hg : n ≤ g) : Out g v := fun h0 x hx => by
  obtain ⟨b', off, e, hlt, _⟩ := h.2 h0
  rw [hx] at e
  cases e
  show ¬ b' = g
  omega
theorem fresh_end {V : World} {v : Ls.Sl} {vu : Nat → Ls.Sl} {g6 c6 g8 c8 : Nat} (v0 v1 v2 v3 v4 v5 : Value) (hl : Hid (Lens s s ∧ s.w.n = d.ws.length ∧ ∀ j, j < 3 → (s.u j).n = (d.F j).length)) (hF : Fr w W s) (hV : Fr w V s) (hr' : RowN w V v d.ws) (hp' : PgN w V g6 s.p.n c6 d.f) (hu' : LsN w V vu d.F) (hb : Below V.heap.size V W) (hc : ∀ i, i < s.c.n → W.cell? ⟨g8, i, none⟩ = some (.bool (d.cs i))) (hz : ∀ i, W.frozen? ⟨g8, i, none⟩ = false) (hg8 : V.heap.size ≤ g8 ∧ g8 < W.heap.size) :
    FreshOut w s d (.returned (.agg #[.slice (⟨v, ⟨some ⟨g6, 0, none⟩, s.p.n, c6⟩, vu, ⟨some ⟨g8, 0, none⟩, s.c.n, c8⟩⟩ : Hs).w.a (⟨v, ⟨some ⟨g6, 0, none⟩, s.p.n, c6⟩, vu, ⟨some ⟨g8, 0, none⟩, s.c.n, c8⟩⟩ : Hs).w.n (⟨v, ⟨some ⟨g6, 0, none⟩, s.p.n, c6⟩, vu, ⟨some ⟨g8, 0, none⟩, s.c.n, c8⟩⟩ : Hs).w.c, .slice (⟨v, ⟨some ⟨g6, 0, none⟩, s.p.n, c6⟩, vu, ⟨some ⟨g8, 0, none⟩, s.c.n, c8⟩⟩ : Hs).p.a (⟨v, ⟨some ⟨g6, 0, none⟩, s.p.n, c6⟩, vu, ⟨some ⟨g8, 0, none⟩, s.c.n, c8⟩⟩ : Hs).p.n (⟨v, ⟨some ⟨g6, 0, none⟩, s.p.n, c6⟩, vu, ⟨some ⟨g8, 0, none⟩, s.c.n, c8⟩⟩ : Hs).p.c, .slice ((⟨v, ⟨some ⟨g6, 0, none⟩, s.p.n, c6⟩, vu, ⟨some ⟨g8, 0, none⟩, s.c.n, c8⟩⟩ : Hs).u 0).a ((⟨v, ⟨some ⟨g6, 0, none⟩, s.p.n, c6⟩, vu, ⟨some ⟨g8, 0, none⟩, s.c.n, c8⟩⟩ : Hs).u 0).n ((⟨v, ⟨some ⟨g6, 0, none⟩, s.p.n, c6⟩, vu, ⟨some ⟨g8, 0, none⟩, s.c.n, c8⟩⟩ : Hs).u 0).c, .slice ((⟨v, ⟨some ⟨g6, 0, none⟩, s.p.n, c6⟩, vu, ⟨some ⟨g8, 0, none⟩, s.c.n, c8⟩⟩ : Hs).u 1).a ((⟨v, ⟨some ⟨g6, 0, none⟩, s.p.n, c6⟩, vu, ⟨some ⟨g8, 0, none⟩, s.c.n, c8⟩⟩ : Hs).u 1).n ((⟨v, ⟨some ⟨g6, 0, none⟩, s.p.n, c6⟩, vu, ⟨some ⟨g8, 0, none⟩, s.c.n, c8⟩⟩ : Hs).u 1).c, .slice ((⟨v, ⟨some ⟨g6, 0, none⟩, s.p.n, c6⟩, vu, ⟨some ⟨g8, 0, none⟩, s.c.n, c8⟩⟩ : Hs).u 2).a ((⟨v, ⟨some ⟨g6, 0, none⟩, s.p.n, c6⟩, vu, ⟨some ⟨g8, 0, none⟩, s.c.n, c8⟩⟩ : Hs).u 2).n ((⟨v, ⟨some ⟨g6, 0, none⟩, s.p.n, c6⟩, vu, ⟨some ⟨g8, 0, none⟩, s.c.n, c8⟩⟩ : Hs).u 2).c, .slice (⟨v, ⟨some ⟨g6, 0, none⟩, s.p.n, c6⟩, vu, ⟨some ⟨g8, 0, none⟩, s.c.n, c8⟩⟩ : Hs).c.a (⟨v, ⟨some ⟨g6, 0, none⟩, s.p.n, c6⟩, vu, ⟨some ⟨g8, 0, none⟩, s.c.n, c8⟩⟩ : Hs).c.n (⟨v, ⟨some ⟨g6, 0, none⟩, s.p.n, c6⟩, vu, ⟨some ⟨g8, 0, none⟩, s.c.n, c8⟩⟩ : Hs).c.c])) (put6 W (w.heap.size + 1) v0 v1 v2 v3 v4 v5) := by
  have hr := hr'.next hb
  have hp := hp'.next hb
  have hu := hu'.next hb
  have hg2 : w.heap.size + 2 ≤ g8 := by have := hV.lt; omega
  have hn : News (w.heap.size + 2) ⟨v, ⟨some ⟨g6, 0, none⟩, s.p.n, c6⟩, vu, ⟨some ⟨g8, 0, none⟩, s.c.n, c8⟩⟩ := ⟨hr.2.2.2, fun _ x hx => by cases hx; exact hp.2.1, hu.2, fun _ x hx => by cases hx; exact hg2⟩
  have hW : Hp W W.heap.size ⟨v, ⟨some ⟨g6, 0, none⟩, s.p.n, c6⟩, vu, ⟨some ⟨g8, 0, none⟩, s.c.n, c8⟩⟩ d := ⟨hr.1, hp.1, hu.1, fun _ => ⟨g8, 0, rfl, hg8.2, fun i hi => by rw [Nat.zero_add]; exact hc i hi⟩⟩
  refine ⟨⟨v, ⟨some ⟨g6, 0, none⟩, s.p.n, c6⟩, vu, ⟨some ⟨g8, 0, none⟩, s.c.n, c8⟩⟩, rfl, hn.kept hW (fun k h1 _ => put6_other _ _ _ _ _ _ _ _ (by omega)) (by rw [put6_size]; exact Nat.le_refl _), ⟨?_, rfl, fun j hj => ?_, rfl⟩, ?_, hp.2.2, below_put6 hF.bel (by omega) _ _ _ _ _ _, g8, c8, rfl, fun i => (World.frozen?_of_block (a := ⟨g8, i, none⟩) (put6_other _ _ _ _ _ _ _ _ (show ¬ g8 = w.heap.size + 1 by omega))).trans (hz i), hg2, by rw [put6_size]; exact hg8.2, row_out hr'.1 hg8.1, ?_, fun j hj => row_out (hu'.1 j hj).1 hg8.1⟩
  · have h1 := hr.1.1
    have h2 := hl.out.2.1
    show v.n = _
    omega
  · have h1 := hu.1.len j hj
    have h2 := hl.out.2.2 j hj
    show (vu j).n = _
    omega
  · exact ⟨fun h0 x hx => by have := hn.w h0 x hx; omega, fun h0 x hx => by have := hn.p h0 x hx; omega, fun j hj h0 x hx => by have := hn.u j hj h0 x hx; omega, fun h0 x hx => by have := hn.c h0 x hx; omega⟩
  · intro h0 x hx
    obtain ⟨b', off, e, hlt, _⟩ := hp'.1 h0
    dsimp only at hx
    rw [hx] at e
    cases e
    show ¬ b' = g8
    omega
end
theorem res_fresh {W : World} {b : Nat} {tm : Array Value} {v0 v1 v2 v3 v4 v5 : Value} (ht : tm[2]? = some (.pointer (some ⟨b, 0, none⟩))) (k0 : W.cell? ⟨b, 0, none⟩ = some v0) (k1 : W.cell? ⟨b, 1, none⟩ = some v1) (k2 : W.cell? ⟨b, 2, none⟩ = some v2) (k3 : W.cell? ⟨b, 3, none⟩ = some v3) (k4 : W.cell? ⟨b, 4, none⟩ = some v4) (k5 : W.cell? ⟨b, 5, none⟩ = some v5) :
    (results Tryz.f42 tm).run Tryz.prog W = .ok (.agg #[v0, v1, v2, v3, v4, v5]) W := by
  simp [results, Tryz.results42, go_sem, ht, k0, k1, k2, k3, k4, k5]
theorem put6_ex {w W : World} {s : Hs} (h : Fr w W s) (v0 v1 v2 v3 v4 v5 : Value) :
    (put6 W (w.heap.size + 1) v0 v1 v2 v3 v4 v5).cell? ⟨w.heap.size + 1, 0, none⟩ = some v0 ∧ (put6 W (w.heap.size + 1) v0 v1 v2 v3 v4 v5).cell? ⟨w.heap.size + 1, 1, none⟩ = some v1 ∧ (put6 W (w.heap.size + 1) v0 v1 v2 v3 v4 v5).cell? ⟨w.heap.size + 1, 2, none⟩ = some v2 ∧
    (put6 W (w.heap.size + 1) v0 v1 v2 v3 v4 v5).cell? ⟨w.heap.size + 1, 3, none⟩ = some v3 ∧ (put6 W (w.heap.size + 1) v0 v1 v2 v3 v4 v5).cell? ⟨w.heap.size + 1, 4, none⟩ = some v4 ∧ (put6 W (w.heap.size + 1) v0 v1 v2 v3 v4 v5).cell? ⟨w.heap.size + 1, 5, none⟩ = some v5 := by
  obtain ⟨x0, h0⟩ := h.res 0 (by decide)
  obtain ⟨x1, h1⟩ := h.res 1 (by decide)
  obtain ⟨x2, h2⟩ := h.res 2 (by decide)
  obtain ⟨x3, h3⟩ := h.res 3 (by decide)
  obtain ⟨x4, h4⟩ := h.res 4 (by decide)
  obtain ⟨x5, h5⟩ := h.res 5 (by decide)
  exact ⟨by simp [put6, go_sem, h0], by simp [put6, go_sem, h1], by simp [put6, go_sem, h2], by simp [put6, go_sem, h3], by simp [put6, go_sem, h4], by simp [put6, go_sem, h5]⟩
set_option maxHeartbeats 4000000 in
theorem fresh_any (s : Hs) (d : Hd_) (w : World) (hp : Hp w w.heap.size s d) (hf : Fine s d) (hfb : firstB s d = true) : Calls Tryz.prog 42 #[(.agg #[.slice s.w.a s.w.n s.w.c, .slice s.p.a s.p.n s.p.c, .slice (s.u 0).a (s.u 0).n (s.u 0).c, .slice (s.u 1).a (s.u 1).n (s.u 1).c, .slice (s.u 2).a (s.u 2).n (s.u 2).c, .slice s.c.a s.c.n s.c.c])] w (FreshOut w s d) := by
  have hpos : 0 < s.p.n ∧ 0 < s.c.n := by
    unfold firstB at hfb
    simp only [Bool.and_eq_true, decide_eq_true_eq] at hfb
    have := ((Cl.mayB_iff _ _).1 hfb.2.1).1
    omega
  have hun : ∀ j, j < 3 → (s.u j).n ≤ 2000000 := fun j hj => by
    have h1 := hf.len
    rw [show (Ls.upTo d.F 3).length = (d.F 0).length + (d.F 1).length + (d.F 2).length by simp [Ls.upTo, List.range_succ]; omega] at h1
    have h2 := hp.free.len j hj
    rcases (show j = 0 ∨ j = 1 ∨ j = 2 by omega) with rfl | rfl | rfl <;> omega
  have C1 := Lib.hid (fun W (h : Below w.heap.size w W) => iclone_any w.heap.size s.w.a s.w.n s.w.c d.ws W (by have := hf.wn; omega) h.size (hp.words.below h))
  have C2 := Lib.hid (fun W (h : Below w.heap.size w W) => Cl.pclone_ok w.heap.size s.p.a s.p.n s.p.c d.f W hpos.1 (by have := hf.pn; omega) (hp.pages.below h))
  have C3 := Lib.hid (fun W (h : Below w.heap.size w W) => Ls.aown_any w.heap.size s.u d.F W (hp.free.below h) h.size hun)
  have C4 := Lib.hid (fun W (h : Below w.heap.size w W) => bclone_ok w.heap.size s.c.a s.c.n s.c.c d.cs W hpos.2 (by have := hf.cn; omega) (hp.cards.below h))
  have HL : Hid (Lens s s ∧ s.w.n = d.ws.length ∧ ∀ j, j < 3 → (s.u j).n = (d.F j).length) := Lib.hid ⟨⟨rfl, rfl, fun _ _ => rfl, rfl⟩, hp.words.1.symm, hp.free.len⟩
  clear hp hf hfb hpos hun
  go_enter Tryz.func42, Tryz.ntmps42
  go_wp2_with fail
  obtain ⟨W0, hW0⟩ : ∃ W0, W0 = (w.alloc (.cells #[.slice s.w.a s.w.n s.w.c, .slice s.p.a s.p.n s.p.c, .slice (s.u 0).a (s.u 0).n (s.u 0).c, .slice (s.u 1).a (s.u 1).n (s.u 1).c, .slice (s.u 2).a (s.u 2).n (s.u 2).c, .slice s.c.a s.c.n s.c.c] 28)).alloc (.cells #[.slice none 0 0, .slice none 0 0, .slice none 0 0, .slice none 0 0, .slice none 0 0, .slice none 0 0] 28) := ⟨_, rfl⟩
  have K0 := Lib.hid (And.intro (fr_start hW0) True.intro)
  rw [← hW0]
  clear hW0
  go_region_held3 (fun W => (Fr w W s ∧ True) ∧ w.heap.size < W.heap.size ∧ W.cell? ⟨w.heap.size, 0, none⟩ = some (.slice s.w.a s.w.n s.w.c) ∧ W.cell? ⟨w.heap.size, 1, none⟩ = some (.slice s.p.a s.p.n s.p.c) ∧ W.cell? ⟨w.heap.size, 2, none⟩ = some (.slice (s.u 0).a (s.u 0).n (s.u 0).c) ∧ W.cell? ⟨w.heap.size, 3, none⟩ = some (.slice (s.u 1).a (s.u 1).n (s.u 1).c) ∧ W.cell? ⟨w.heap.size, 4, none⟩ = some (.slice (s.u 2).a (s.u 2).n (s.u 2).c) ∧ W.cell? ⟨w.heap.size, 5, none⟩ = some (.slice s.c.a s.c.n s.c.c)) (first
    | with_reducible exact fr_put (‹(Fr w _ s ∧ _) ∧ _›).1 _ _ _ _ _ _
    | with_reducible exact fr_keep (‹(Fr w _ s ∧ _) ∧ _›).1 ‹Below _ _ _›
    | with_reducible exact fr_keep K0.out (Below.refl _ _)
    | exact fr_keep K0.out (below_drawn' (Below.refl _ _) 1)) (first
    | ((go_at_call 89; refine (C1.out _ (‹(Fr w _ s ∧ _) ∧ _›).1.1.bel).mono ?_; rintro e w5 ⟨v5, rfl, ho5, hb5⟩; have R5 := Lib.hid (rown_of (‹(Fr w _ s ∧ _) ∧ _›).1.1 ho5); clear ho5))
    | ((go_at_call 90; refine (C2.out _ (‹(Fr w _ s ∧ _) ∧ _›).1.1.bel).mono ?_; rintro e w6 ⟨g6, c6, rfl, hm6, hb6⟩; have R6 := Lib.hid (And.intro (R5.out.next hb6) (pgn_of (‹(Fr w _ s ∧ _) ∧ _›).1.1 hm6)); clear hm6))
    | ((go_at_call 43; refine (C3.out _ (‹(Fr w _ s ∧ _) ∧ _›).1.1.bel).mono ?_; rintro e w7 ⟨v7, rfl, ho7, hb7⟩; have R7 := Lib.hid (And.intro (R6.out.1.next hb7) (And.intro (R6.out.2.next hb7) (lsn_of (‹(Fr w _ s ∧ _) ∧ _›).1.1 ho7))); clear ho7))
    | ((go_at_call 91; refine (C4.out _ (‹(Fr w _ s ∧ _) ∧ _›).1.1.bel).mono ?_; rintro e w8 ⟨g8, c8, rfl, hm8, hz8, hg8, hl8, hb8⟩; have F8 := Lib.hid ((‹(Fr w _ s ∧ _) ∧ _›).1.1.next hb8); have F7 := Lib.hid (‹(Fr w w7 s ∧ _) ∧ _›).1.1; have R8 := Lib.hid (And.intro R7.out (And.intro hb8 (And.intro hm8 (And.intro hz8 (And.intro hg8 hl8))))); obtain ⟨x0, h0⟩ := F8.out.res 0 (by decide); obtain ⟨x1, h1⟩ := F8.out.res 1 (by decide); obtain ⟨x2, h2⟩ := F8.out.res 2 (by decide); obtain ⟨x3, h3⟩ := F8.out.res 3 (by decide); obtain ⟨x4, h4⟩ := F8.out.res 4 (by decide); obtain ⟨x5, h5⟩ := F8.out.res 5 (by decide); have y0 := F8.out.free 0; have y1 := F8.out.free 1; have y2 := F8.out.free 2; have y3 := F8.out.free 3; have y4 := F8.out.free 4; have y5 := F8.out.free 5; have yl := F8.out.lt; clear hm8 hz8 hg8 hl8)))
  go_wp2
  refine bodyPost_ret (v := (.agg #[.slice (⟨v5, ⟨some ⟨g6, 0, none⟩, s.p.n, c6⟩, v7, ⟨some ⟨g8, 0, none⟩, s.c.n, c8⟩⟩ : Hs).w.a (⟨v5, ⟨some ⟨g6, 0, none⟩, s.p.n, c6⟩, v7, ⟨some ⟨g8, 0, none⟩, s.c.n, c8⟩⟩ : Hs).w.n (⟨v5, ⟨some ⟨g6, 0, none⟩, s.p.n, c6⟩, v7, ⟨some ⟨g8, 0, none⟩, s.c.n, c8⟩⟩ : Hs).w.c, .slice (⟨v5, ⟨some ⟨g6, 0, none⟩, s.p.n, c6⟩, v7, ⟨some ⟨g8, 0, none⟩, s.c.n, c8⟩⟩ : Hs).p.a (⟨v5, ⟨some ⟨g6, 0, none⟩, s.p.n, c6⟩, v7, ⟨some ⟨g8, 0, none⟩, s.c.n, c8⟩⟩ : Hs).p.n (⟨v5, ⟨some ⟨g6, 0, none⟩, s.p.n, c6⟩, v7, ⟨some ⟨g8, 0, none⟩, s.c.n, c8⟩⟩ : Hs).p.c, .slice ((⟨v5, ⟨some ⟨g6, 0, none⟩, s.p.n, c6⟩, v7, ⟨some ⟨g8, 0, none⟩, s.c.n, c8⟩⟩ : Hs).u 0).a ((⟨v5, ⟨some ⟨g6, 0, none⟩, s.p.n, c6⟩, v7, ⟨some ⟨g8, 0, none⟩, s.c.n, c8⟩⟩ : Hs).u 0).n ((⟨v5, ⟨some ⟨g6, 0, none⟩, s.p.n, c6⟩, v7, ⟨some ⟨g8, 0, none⟩, s.c.n, c8⟩⟩ : Hs).u 0).c, .slice ((⟨v5, ⟨some ⟨g6, 0, none⟩, s.p.n, c6⟩, v7, ⟨some ⟨g8, 0, none⟩, s.c.n, c8⟩⟩ : Hs).u 1).a ((⟨v5, ⟨some ⟨g6, 0, none⟩, s.p.n, c6⟩, v7, ⟨some ⟨g8, 0, none⟩, s.c.n, c8⟩⟩ : Hs).u 1).n ((⟨v5, ⟨some ⟨g6, 0, none⟩, s.p.n, c6⟩, v7, ⟨some ⟨g8, 0, none⟩, s.c.n, c8⟩⟩ : Hs).u 1).c, .slice ((⟨v5, ⟨some ⟨g6, 0, none⟩, s.p.n, c6⟩, v7, ⟨some ⟨g8, 0, none⟩, s.c.n, c8⟩⟩ : Hs).u 2).a ((⟨v5, ⟨some ⟨g6, 0, none⟩, s.p.n, c6⟩, v7, ⟨some ⟨g8, 0, none⟩, s.c.n, c8⟩⟩ : Hs).u 2).n ((⟨v5, ⟨some ⟨g6, 0, none⟩, s.p.n, c6⟩, v7, ⟨some ⟨g8, 0, none⟩, s.c.n, c8⟩⟩ : Hs).u 2).c, .slice (⟨v5, ⟨some ⟨g6, 0, none⟩, s.p.n, c6⟩, v7, ⟨some ⟨g8, 0, none⟩, s.c.n, c8⟩⟩ : Hs).c.a (⟨v5, ⟨some ⟨g6, 0, none⟩, s.p.n, c6⟩, v7, ⟨some ⟨g8, 0, none⟩, s.c.n, c8⟩⟩ : Hs).c.n (⟨v5, ⟨some ⟨g6, 0, none⟩, s.p.n, c6⟩, v7, ⟨some ⟨g8, 0, none⟩, s.c.n, c8⟩⟩ : Hs).c.c])) ?_ rfl (fresh_end _ _ _ _ _ _ HL F8.out F7.out R8.out.1.1 R8.out.1.2.1 R8.out.1.2.2 R8.out.2.1 R8.out.2.2.1 R8.out.2.2.2.1 R8.out.2.2.2.2)
  obtain ⟨k0, k1, k2, k3, k4, k5⟩ := put6_ex F8.out (.slice v5.a v5.n v5.c) (.slice (some ⟨g6, 0, none⟩) s.p.n c6) (.slice (v7 0).a (v7 0).n (v7 0).c) (.slice (v7 1).a (v7 1).n (v7 1).c) (.slice (v7 2).a (v7 2).n (v7 2).c) (.slice (some ⟨g8, 0, none⟩) s.c.n c8)
  exact res_fresh rfl k0 k1 k2 k3 k4 k5
end Go.Proofs.YtmalopciboikhaaGreatDoor
end
section
namespace Go.Proofs.YtmalopciboikhaaGreatDoor.Ck
open Go.Proofs.YtmalopciboikhaaGreatDoor
open Go.RowKit
set_option maxRecDepth 100000

/-- The boxes of a call's heap and of its result. -/
structure Bx (w W : World) (s : Hs) (d : Hd_) : Prop where
  bel : Below w.heap.size w W
  hb : HBox W w.heap.size s
  rb : Box6 W (w.heap.size + 1) noHs
  hp : Hp W W.heap.size s d
section
variable {w W W' : World} {s t : Hs} {d : Hd_}
theorem Bx.next (h : Bx w W s d) (hb : Below W.heap.size W W') : Bx w W' s d := ⟨h.bel.trans (hb.mono h.bel.size), h.hb.next hb, h.rb.next hb, h.hp.next hb⟩
theorem bx_start {t1 t2 : TypeId} (hp : Hp w w.heap.size s d) (hW : W = (w.alloc (.cells #[.slice s.w.a s.w.n s.w.c, .slice s.p.a s.p.n s.p.c, .slice (s.u 0).a (s.u 0).n (s.u 0).c, .slice (s.u 1).a (s.u 1).n (s.u 1).c, .slice (s.u 2).a (s.u 2).n (s.u 2).c, .slice s.c.a s.c.n s.c.c] t1)).alloc (.cells #[.slice none 0 0, .slice none 0 0, .slice none 0 0, .slice none 0 0, .slice none 0 0, .slice none 0 0] t2)) : Bx w W s d := by
  have b2 : Below w.heap.size w W := by rw [hW]; exact ((Below.refl _ _).alloc (Nat.le_refl _) _).alloc (by simp) _
  have bx : Below (w.alloc (.cells #[.slice s.w.a s.w.n s.w.c, .slice s.p.a s.p.n s.p.c, .slice (s.u 0).a (s.u 0).n (s.u 0).c, .slice (s.u 1).a (s.u 1).n (s.u 1).c, .slice (s.u 2).a (s.u 2).n (s.u 2).c, .slice s.c.a s.c.n s.c.c] t1)).heap.size (w.alloc (.cells #[.slice s.w.a s.w.n s.w.c, .slice s.p.a s.p.n s.p.c, .slice (s.u 0).a (s.u 0).n (s.u 0).c, .slice (s.u 1).a (s.u 1).n (s.u 1).c, .slice (s.u 2).a (s.u 2).n (s.u 2).c, .slice s.c.a s.c.n s.c.c] t1)) W := by rw [hW]; exact (Below.refl _ _).alloc (Nat.le_refl _) _
  have z := HBox.new (w.alloc (.cells #[.slice s.w.a s.w.n s.w.c, .slice s.p.a s.p.n s.p.c, .slice (s.u 0).a (s.u 0).n (s.u 0).c, .slice (s.u 1).a (s.u 1).n (s.u 1).c, .slice (s.u 2).a (s.u 2).n (s.u 2).c, .slice s.c.a s.c.n s.c.c] t1)) noHs t2
  rw [World.size_alloc] at z
  refine ⟨b2, (HBox.new w s t1).next bx, ?_, hp.next b2⟩
  rw [hW]
  exact ⟨z, fun j => by simp [go_sem]⟩
/-- The card is turned in the copy. -/
theorem hp_turnc {g c k : Nat} {b : Bool} {tw tp : Ls.Sl} {tu : Nat → Ls.Sl} {n : Nat} (h : Hp W W.heap.size ⟨tw, tp, tu, ⟨some ⟨g, 0, none⟩, n, c⟩⟩ d) (hg : g < W.heap.size) (o1 : Out g tw) (o2 : Out g tp) (o3 : ∀ j, j < 3 → Out g (tu j)) (hs : ∀ i, ¬ i = g → i < W.heap.size → W'.heap[i]? = W.heap[i]?) (hc : ∀ i, i < n → W'.cell? ⟨g, i, none⟩ = some (.bool (if i = k then b else d.cs i))) (hz : W.heap.size ≤ W'.heap.size) :
    Hp W' W'.heap.size ⟨tw, tp, tu, ⟨some ⟨g, 0, none⟩, n, c⟩⟩ (ck d k b) := by
  have rowS : ∀ {v : Ls.Sl} {xs : List Int}, Out g v → Row W W.heap.size v.a v.n xs → Row W' W.heap.size v.a v.n xs := fun {v} {xs} ho hr => row_same hr fun h0 x hx => by
    obtain ⟨b', off, e, hlt, _⟩ := hr.2 h0
    have hne := ho h0 x hx
    rw [hx] at e
    cases e
    exact hs _ hne hlt
  refine Hp.more (⟨rowS o1 h.words, fun h0 => ?_, fun j hj => ⟨rowS (o3 j hj) (h.free j hj).1, (h.free j hj).2⟩, fun _ => ⟨g, 0, rfl, hg, fun i hi => by rw [Nat.zero_add]; exact hc i hi⟩⟩ : Hp W' W.heap.size _ (ck d k b)) hz
  obtain ⟨b', off, e, hlt, hcs⟩ := h.pages h0
  have hb' := hs b' (o2 h0 _ e) hlt
  exact ⟨b', off, e, hlt, fun i hi => ⟨(World.cell?_of_block (a := ⟨b', off + i * 2, none⟩) hb').trans (hcs i hi).1, (World.cell?_of_block (a := ⟨b', off + i * 2 + 1, none⟩) hb').trans (hcs i hi).2⟩⟩
end
/-- A heap in new memory was returned. -/
def MarkOut (w : World) (s : Hs) (d' : Hd_) (e : Ending) (w' : World) : Prop :=
  ∃ t : Hs, e = .returned (.agg #[.slice t.w.a t.w.n t.w.c, .slice t.p.a t.p.n t.p.c, .slice (t.u 0).a (t.u 0).n (t.u 0).c, .slice (t.u 1).a (t.u 1).n (t.u 1).c, .slice (t.u 2).a (t.u 2).n (t.u 2).c, .slice t.c.a t.c.n t.c.c]) ∧ Hp w' w'.heap.size t d' ∧ Lens s t ∧ News w.heap.size t ∧ Below w.heap.size w w'
theorem mark_end {w W0 w1 W3 : World} {s : Hs} {d : Hd_} {g c k : Nat} {b : Bool} {tw tp : Ls.Sl} {tu : Nat → Ls.Sl} {ob : Obj} (v0 v1 v2 v3 v4 v5 : Value) (h0 : Bx w W0 s d) (hb1 : Below W0.heap.size W0 w1) (h : Hp w1 w1.heap.size ⟨tw, tp, tu, ⟨some ⟨g, 0, none⟩, s.c.n, c⟩⟩ d) (hk : k < s.c.n) (hl : Lens s ⟨tw, tp, tu, ⟨some ⟨g, 0, none⟩, s.c.n, c⟩⟩) (hn : News W0.heap.size ⟨tw, tp, tu, ⟨some ⟨g, 0, none⟩, s.c.n, c⟩⟩) (hg2 : g < w1.heap.size) (hg1 : W0.heap.size ≤ g) (o1 : Out g tw) (o2 : Out g tp) (o3 : ∀ j, j < 3 → Out g (tu j))
    (hW : W3 = (w1.alloc ob).setCell ⟨g, k, none⟩ (.bool b)) : MarkOut w s (ck d k b) (.returned (.agg #[.slice (⟨tw, tp, tu, ⟨some ⟨g, 0, none⟩, s.c.n, c⟩⟩ : Hs).w.a (⟨tw, tp, tu, ⟨some ⟨g, 0, none⟩, s.c.n, c⟩⟩ : Hs).w.n (⟨tw, tp, tu, ⟨some ⟨g, 0, none⟩, s.c.n, c⟩⟩ : Hs).w.c, .slice (⟨tw, tp, tu, ⟨some ⟨g, 0, none⟩, s.c.n, c⟩⟩ : Hs).p.a (⟨tw, tp, tu, ⟨some ⟨g, 0, none⟩, s.c.n, c⟩⟩ : Hs).p.n (⟨tw, tp, tu, ⟨some ⟨g, 0, none⟩, s.c.n, c⟩⟩ : Hs).p.c, .slice ((⟨tw, tp, tu, ⟨some ⟨g, 0, none⟩, s.c.n, c⟩⟩ : Hs).u 0).a ((⟨tw, tp, tu, ⟨some ⟨g, 0, none⟩, s.c.n, c⟩⟩ : Hs).u 0).n ((⟨tw, tp, tu, ⟨some ⟨g, 0, none⟩, s.c.n, c⟩⟩ : Hs).u 0).c, .slice ((⟨tw, tp, tu, ⟨some ⟨g, 0, none⟩, s.c.n, c⟩⟩ : Hs).u 1).a ((⟨tw, tp, tu, ⟨some ⟨g, 0, none⟩, s.c.n, c⟩⟩ : Hs).u 1).n ((⟨tw, tp, tu, ⟨some ⟨g, 0, none⟩, s.c.n, c⟩⟩ : Hs).u 1).c, .slice ((⟨tw, tp, tu, ⟨some ⟨g, 0, none⟩, s.c.n, c⟩⟩ : Hs).u 2).a ((⟨tw, tp, tu, ⟨some ⟨g, 0, none⟩, s.c.n, c⟩⟩ : Hs).u 2).n ((⟨tw, tp, tu, ⟨some ⟨g, 0, none⟩, s.c.n, c⟩⟩ : Hs).u 2).c, .slice (⟨tw, tp, tu, ⟨some ⟨g, 0, none⟩, s.c.n, c⟩⟩ : Hs).c.a (⟨tw, tp, tu, ⟨some ⟨g, 0, none⟩, s.c.n, c⟩⟩ : Hs).c.n (⟨tw, tp, tu, ⟨some ⟨g, 0, none⟩, s.c.n, c⟩⟩ : Hs).c.c])) (put6 W3 (w.heap.size + 1) v0 v1 v2 v3 v4 v5) := by
  have hr0 := h0.rb.box.lt
  have hs1 := hb1.size
  have hsz : W3.heap.size = w1.heap.size + 1 := by rw [hW]; simp [World.setCell]
  have hold : ∀ i, ¬ i = g → i < w1.heap.size → W3.heap[i]? = w1.heap[i]? := fun i hi hlt => by
    rw [hW]
    exact (Below.heap_setCell _ _ _ _ hi).trans (Below.heap_alloc _ _ _ hlt)
  obtain ⟨b', off, e, hlt, hcs⟩ := h.cards (by show 0 < s.c.n; omega)
  cases e
  have hc : ∀ i, i < s.c.n → W3.cell? ⟨g, i, none⟩ = some (.bool (if i = k then b else d.cs i)) := fun i hi => by
    have hi0 := hcs i hi
    rw [Nat.zero_add] at hi0
    have hi1 : (w1.alloc ob).cell? ⟨g, i, none⟩ = some (.bool (d.cs i)) := (World.cell?_of_block (a := ⟨g, i, none⟩) (Below.heap_alloc _ _ _ hg2)).trans hi0
    rw [hW]
    by_cases e : i = k
    · subst e
      rw [if_pos rfl]
      exact World.cell?_setCell_same' _ _ _ (by rw [hi1]; rfl)
    · rw [if_neg e, World.cell?_setCell_other _ _ _ _ (by intro hh; simp only [Addr.mk.injEq, true_and, and_true] at hh; omega)]
      exact hi1
  have h3 := hp_turnc (b := b) h hg2 o1 o2 o3 hold hc (by omega)
  have hbel : Below w.heap.size w W3 := by
    rw [hW]
    exact ((h0.bel.trans (hb1.mono h0.bel.size)).alloc (by have := h0.bel.size; omega) ob).setCell (p := ⟨g, k, none⟩) (by show w.heap.size ≤ g; omega) _
  exact ⟨_, rfl, hn.kept h3 (fun i h1 h2 => put6_other _ _ _ _ _ _ _ _ (by omega)) (by rw [put6_size]; exact Nat.le_refl _), hl, ⟨fun h0 x hx => by have := hn.w h0 x hx; omega, fun h0 x hx => by have := hn.p h0 x hx; omega, fun j hj h0 x hx => by have := hn.u j hj h0 x hx; omega, fun h0 x hx => by have := hn.c h0 x hx; omega⟩, below_put6 hbel (by omega) _ _ _ _ _ _⟩
theorem res_marked {W : World} {b : Nat} {tm : Array Value} {v0 v1 v2 v3 v4 v5 : Value} (ht : tm[6]? = some (.pointer (some ⟨b, 0, none⟩))) (k0 : W.cell? ⟨b, 0, none⟩ = some v0) (k1 : W.cell? ⟨b, 1, none⟩ = some v1) (k2 : W.cell? ⟨b, 2, none⟩ = some v2) (k3 : W.cell? ⟨b, 3, none⟩ = some v3) (k4 : W.cell? ⟨b, 4, none⟩ = some v4) (k5 : W.cell? ⟨b, 5, none⟩ = some v5) :
    (results Tryz.f71 tm).run Tryz.prog W = .ok (.agg #[v0, v1, v2, v3, v4, v5]) W := by
  simp [results, Tryz.results71, go_sem, ht, k0, k1, k2, k3, k4, k5]
set_option maxHeartbeats 1000000 in
theorem marked_any (s : Hs) (d : Hd_) (k : Nat) (b : Bool) (w : World) (hp : Hp w w.heap.size s d) (hf : Fine s d) (hfb : firstB s d = true) (hk : k < s.c.n) : Calls Tryz.prog 71 #[(.agg #[.slice s.w.a s.w.n s.w.c, .slice s.p.a s.p.n s.p.c, .slice (s.u 0).a (s.u 0).n (s.u 0).c, .slice (s.u 1).a (s.u 1).n (s.u 1).c, .slice (s.u 2).a (s.u 2).n (s.u 2).c, .slice s.c.a s.c.n s.c.c]), .int .i64 (k : Int), .bool b] w (MarkOut w s (ck d k b)) := by
  have HP := Lib.hid hp
  have HF := Lib.hid hf
  have HFB := Lib.hid hfb
  have hcn := hf.cn
  clear hp hf hfb
  go_enter Tryz.func71, Tryz.ntmps71
  go_wp2_with fail
  obtain ⟨W0, hW0⟩ : ∃ W0, W0 = (w.alloc (.cells #[.slice s.w.a s.w.n s.w.c, .slice s.p.a s.p.n s.p.c, .slice (s.u 0).a (s.u 0).n (s.u 0).c, .slice (s.u 1).a (s.u 1).n (s.u 1).c, .slice (s.u 2).a (s.u 2).n (s.u 2).c, .slice s.c.a s.c.n s.c.c] 28)).alloc (.cells #[.slice none 0 0, .slice none 0 0, .slice none 0 0, .slice none 0 0, .slice none 0 0, .slice none 0 0] 28) := ⟨_, rfl⟩
  have K0 := Lib.hid (bx_start HP.out hW0)
  rw [← hW0]
  clear hW0
  refine (fresh_any s d W0 K0.out.hp HF.out HFB.out).mono ?_
  rintro e w1 ⟨⟨tw, tp, tu, tc⟩, rfl, ht, hl, hn, _, hb1, g, c, hc, hz, hg1, hg2, o1, o2, o3⟩
  dsimp only at hc
  subst hc
  have K1 := Lib.hid (K0.out.next hb1)
  have T1 := Lib.hid (And.intro ht (And.intro hl (And.intro hn (And.intro hb1 (And.intro (show W0.heap.size ≤ g by omega) (And.intro hg2 (And.intro o1 (And.intro o2 o3))))))))
  have HZ := Lib.hid hz
  have bo := HBox.new w1 ⟨tw, tp, tu, ⟨some ⟨g, 0, none⟩, s.c.n, c⟩⟩ 28
  have q0 := bo.c0
  have q1 := bo.c1
  have q2 := bo.c2
  have q3 := bo.c3
  have q4 := bo.c4
  have q5 := bo.c5
  have ql := bo.lt
  dsimp only at q0 q1 q2 q3 q4 q5
  obtain ⟨b', off, e, hlt, hcs⟩ := ht.cards (by show 0 < s.c.n; omega)
  cases e
  have kc := hcs k hk
  rw [Nat.zero_add] at kc
  have kf := hz k
  have hne : ¬ g = w1.heap.size := by omega
  clear ht hl hn hb1 hz hg1 o1 o2 o3 hcs hlt bo
  go_upto_region 2 with fail
  obtain ⟨ob, hob⟩ : ∃ ob : Obj, ob = .cells #[.slice (⟨tw, tp, tu, ⟨some ⟨g, 0, none⟩, s.c.n, c⟩⟩ : Hs).w.a (⟨tw, tp, tu, ⟨some ⟨g, 0, none⟩, s.c.n, c⟩⟩ : Hs).w.n (⟨tw, tp, tu, ⟨some ⟨g, 0, none⟩, s.c.n, c⟩⟩ : Hs).w.c, .slice (⟨tw, tp, tu, ⟨some ⟨g, 0, none⟩, s.c.n, c⟩⟩ : Hs).p.a (⟨tw, tp, tu, ⟨some ⟨g, 0, none⟩, s.c.n, c⟩⟩ : Hs).p.n (⟨tw, tp, tu, ⟨some ⟨g, 0, none⟩, s.c.n, c⟩⟩ : Hs).p.c, .slice ((⟨tw, tp, tu, ⟨some ⟨g, 0, none⟩, s.c.n, c⟩⟩ : Hs).u 0).a ((⟨tw, tp, tu, ⟨some ⟨g, 0, none⟩, s.c.n, c⟩⟩ : Hs).u 0).n ((⟨tw, tp, tu, ⟨some ⟨g, 0, none⟩, s.c.n, c⟩⟩ : Hs).u 0).c, .slice ((⟨tw, tp, tu, ⟨some ⟨g, 0, none⟩, s.c.n, c⟩⟩ : Hs).u 1).a ((⟨tw, tp, tu, ⟨some ⟨g, 0, none⟩, s.c.n, c⟩⟩ : Hs).u 1).n ((⟨tw, tp, tu, ⟨some ⟨g, 0, none⟩, s.c.n, c⟩⟩ : Hs).u 1).c, .slice ((⟨tw, tp, tu, ⟨some ⟨g, 0, none⟩, s.c.n, c⟩⟩ : Hs).u 2).a ((⟨tw, tp, tu, ⟨some ⟨g, 0, none⟩, s.c.n, c⟩⟩ : Hs).u 2).n ((⟨tw, tp, tu, ⟨some ⟨g, 0, none⟩, s.c.n, c⟩⟩ : Hs).u 2).c, .slice (⟨tw, tp, tu, ⟨some ⟨g, 0, none⟩, s.c.n, c⟩⟩ : Hs).c.a (⟨tw, tp, tu, ⟨some ⟨g, 0, none⟩, s.c.n, c⟩⟩ : Hs).c.n (⟨tw, tp, tu, ⟨some ⟨g, 0, none⟩, s.c.n, c⟩⟩ : Hs).c.c] 28 := ⟨_, rfl⟩
  dsimp only at hob
  rw [← hob] at q0 q1 q2 q3 q4 q5 ql
  rw [← hob]
  have kc' : (w1.alloc ob).cell? ⟨g, k, none⟩ = some (.bool (d.cs k)) := (World.cell?_of_block (a := ⟨g, k, none⟩) (Below.heap_alloc _ _ _ hg2)).trans kc
  have kf' : (w1.alloc ob).frozen? ⟨g, k, none⟩ = false := (World.frozen?_of_block (a := ⟨g, k, none⟩) (Below.heap_alloc _ _ _ hg2)).trans kf
  have kl' : g < (w1.alloc ob).heap.size := by simp; omega
  have K2 := Lib.hid (K1.out.next ((Below.refl _ _).alloc (Nat.le_refl _) ob))
  clear kc kf hob K1
  obtain ⟨W2, hW2⟩ : ∃ W2, W2 = w1.alloc ob := ⟨_, rfl⟩
  obtain ⟨bo, hbo⟩ : ∃ bo, bo = w1.heap.size := ⟨_, rfl⟩
  rw [← hW2, ← hbo] at q0 q1 q2 q3 q4 q5 ql
  rw [← hW2] at kc' kf' kl' K2
  rw [← hbo] at hne
  rw [← hW2, ← hbo]
  have HW2 := Lib.hid hW2
  clear hW2 hbo
  go_upto_region 3 with fail
  obtain ⟨W3, hW3⟩ : ∃ W3, W3 = W2.setCell ⟨g, k, none⟩ (.bool b) := ⟨_, rfl⟩
  have hoth : ∀ i, ¬ i = g → W3.heap[i]? = W2.heap[i]? := fun i hi => by rw [hW3]; exact Below.heap_setCell _ _ _ _ hi
  have hsz : W3.heap.size = W2.heap.size := by rw [hW3]; simp [World.setCell]
  have p0 := (World.cell?_of_block (a := ⟨bo, 0, none⟩) (hoth bo (fun e => hne e.symm))).trans q0
  have p1 := (World.cell?_of_block (a := ⟨bo, 1, none⟩) (hoth bo (fun e => hne e.symm))).trans q1
  have p2 := (World.cell?_of_block (a := ⟨bo, 2, none⟩) (hoth bo (fun e => hne e.symm))).trans q2
  have p3 := (World.cell?_of_block (a := ⟨bo, 3, none⟩) (hoth bo (fun e => hne e.symm))).trans q3
  have p4 := (World.cell?_of_block (a := ⟨bo, 4, none⟩) (hoth bo (fun e => hne e.symm))).trans q4
  have p5 := (World.cell?_of_block (a := ⟨bo, 5, none⟩) (hoth bo (fun e => hne e.symm))).trans q5
  have pl : bo < W3.heap.size := by omega
  have R3 : Hid (Box6 W3 (w.heap.size + 1) noHs) := Lib.hid (K2.out.rb.same (hoth _ (by have h1 := K0.out.rb.box.lt; have h2 := T1.out.2.2.2.2.1; omega)) (Nat.le_of_eq hsz.symm))
  have x0 := (R3.out.box).c0
  have x1 := (R3.out.box).c1
  have x2 := (R3.out.box).c2
  have x3 := (R3.out.box).c3
  have x4 := (R3.out.box).c4
  have x5 := (R3.out.box).c5
  have xl := (R3.out.box).lt
  have y0 := (R3.out).free 0
  have y1 := (R3.out).free 1
  have y2 := (R3.out).free 2
  have y3 := (R3.out).free 3
  have y4 := (R3.out).free 4
  have y5 := (R3.out).free 5
  dsimp only [noHs, Ls.noSl] at x0 x1 x2 x3 x4 x5
  rw [← hW3]
  have HW3 := Lib.hid hW3
  clear q0 q1 q2 q3 q4 q5 ql kc' kf' kl' hW3 hoth hsz K2
  go_wp2
  refine bodyPost_ret (v := (.agg #[.slice (⟨tw, tp, tu, ⟨some ⟨g, 0, none⟩, s.c.n, c⟩⟩ : Hs).w.a (⟨tw, tp, tu, ⟨some ⟨g, 0, none⟩, s.c.n, c⟩⟩ : Hs).w.n (⟨tw, tp, tu, ⟨some ⟨g, 0, none⟩, s.c.n, c⟩⟩ : Hs).w.c, .slice (⟨tw, tp, tu, ⟨some ⟨g, 0, none⟩, s.c.n, c⟩⟩ : Hs).p.a (⟨tw, tp, tu, ⟨some ⟨g, 0, none⟩, s.c.n, c⟩⟩ : Hs).p.n (⟨tw, tp, tu, ⟨some ⟨g, 0, none⟩, s.c.n, c⟩⟩ : Hs).p.c, .slice ((⟨tw, tp, tu, ⟨some ⟨g, 0, none⟩, s.c.n, c⟩⟩ : Hs).u 0).a ((⟨tw, tp, tu, ⟨some ⟨g, 0, none⟩, s.c.n, c⟩⟩ : Hs).u 0).n ((⟨tw, tp, tu, ⟨some ⟨g, 0, none⟩, s.c.n, c⟩⟩ : Hs).u 0).c, .slice ((⟨tw, tp, tu, ⟨some ⟨g, 0, none⟩, s.c.n, c⟩⟩ : Hs).u 1).a ((⟨tw, tp, tu, ⟨some ⟨g, 0, none⟩, s.c.n, c⟩⟩ : Hs).u 1).n ((⟨tw, tp, tu, ⟨some ⟨g, 0, none⟩, s.c.n, c⟩⟩ : Hs).u 1).c, .slice ((⟨tw, tp, tu, ⟨some ⟨g, 0, none⟩, s.c.n, c⟩⟩ : Hs).u 2).a ((⟨tw, tp, tu, ⟨some ⟨g, 0, none⟩, s.c.n, c⟩⟩ : Hs).u 2).n ((⟨tw, tp, tu, ⟨some ⟨g, 0, none⟩, s.c.n, c⟩⟩ : Hs).u 2).c, .slice (⟨tw, tp, tu, ⟨some ⟨g, 0, none⟩, s.c.n, c⟩⟩ : Hs).c.a (⟨tw, tp, tu, ⟨some ⟨g, 0, none⟩, s.c.n, c⟩⟩ : Hs).c.n (⟨tw, tp, tu, ⟨some ⟨g, 0, none⟩, s.c.n, c⟩⟩ : Hs).c.c])) ?_ rfl (mark_end _ _ _ _ _ _ K0.out T1.out.2.2.2.1 T1.out.1 hk T1.out.2.1 T1.out.2.2.1 T1.out.2.2.2.2.2.1 T1.out.2.2.2.2.1 T1.out.2.2.2.2.2.2.1 T1.out.2.2.2.2.2.2.2.1 T1.out.2.2.2.2.2.2.2.2 (by rw [HW3.out, HW2.out]))
  obtain ⟨k0, k1, k2, k3, k4, k5⟩ := put6_at R3.out (.slice tw.a tw.n tw.c) (.slice tp.a tp.n tp.c) (.slice (tu 0).a (tu 0).n (tu 0).c) (.slice (tu 1).a (tu 1).n (tu 1).c) (.slice (tu 2).a (tu 2).n (tu 2).c) (.slice (some ⟨g, 0, none⟩) s.c.n c)
  exact res_marked rfl k0 k1 k2 k3 k4 k5
end Go.Proofs.YtmalopciboikhaaGreatDoor.Ck
end
section
namespace Go.Proofs.YtmalopciboikhaaGreatDoor.Ck
open Go.Proofs.YtmalopciboikhaaGreatDoor
open Go.RowKit
set_option maxRecDepth 100000

/-- What Dirty and Clean tell: a heap, its lengths, an error. -/
structure Rz where
  d : Hd_
  wn : Nat
  pn : Nat
  cn : Nat
  er : Int
def dN : Hd_ := ⟨[], fun _ => (0, 0), Ls.noLists, fun _ => false⟩
def dirR (s : Hs) (d : Hd_) (a : Int) : Rz := if ofE s d a = 0 then ⟨ck d (ofK a) true, s.w.n, s.p.n, s.c.n, 0⟩ else ⟨dN, 0, 0, 0, ofE s d a⟩
def clR (s : Hs) (d : Hd_) (k : Int) : Rz := if clE s d k = 0 then ⟨ck d k.toNat false, s.w.n, s.p.n, s.c.n, 0⟩ else ⟨dN, 0, 0, 0, clE s d k⟩
def HOut (w : World) (r : Rz) (e : Ending) (w' : World) : Prop :=
  ∃ t : Hs, e = .returned (.tuple #[(.agg #[.slice t.w.a t.w.n t.w.c, .slice t.p.a t.p.n t.p.c, .slice (t.u 0).a (t.u 0).n (t.u 0).c, .slice (t.u 1).a (t.u 1).n (t.u 1).c, .slice (t.u 2).a (t.u 2).n (t.u 2).c, .slice t.c.a t.c.n t.c.c]), .int .i64 r.er]) ∧ Hp w' w'.heap.size t r.d ∧ (t.w.n = r.wn ∧ t.p.n = r.pn ∧ t.c.n = r.cn) ∧ Below w.heap.size w w'
theorem hp_none (w : World) (B : Nat) : Hp w B noHs dN := ⟨⟨rfl, fun h => absurd h (by decide)⟩, fun h => absurd h (by decide), Ls.L3.none_ _ _, fun h => absurd h (by decide)⟩
theorem hout_no {w W : World} {s : Hs} {d : Hd_} (h : Bx w W s d) (er : Int) (v0 v1 v2 v3 v4 v5 : Value) : HOut w ⟨dN, 0, 0, 0, er⟩ (.returned (.tuple #[(.agg #[.slice noHs.w.a noHs.w.n noHs.w.c, .slice noHs.p.a noHs.p.n noHs.p.c, .slice (noHs.u 0).a (noHs.u 0).n (noHs.u 0).c, .slice (noHs.u 1).a (noHs.u 1).n (noHs.u 1).c, .slice (noHs.u 2).a (noHs.u 2).n (noHs.u 2).c, .slice noHs.c.a noHs.c.n noHs.c.c]), .int .i64 er])) (put6 W (w.heap.size + 1) v0 v1 v2 v3 v4 v5) :=
  ⟨noHs, rfl, hp_none _ _, ⟨rfl, rfl, rfl⟩, below_put6 h.bel (by omega) _ _ _ _ _ _⟩
theorem hout_ok {w w2 : World} {s t : Hs} {d' : Hd_} (hp : Hp w2 w2.heap.size t d') (hl : Lens s t) (hn : News (w.heap.size + 2) t) (hb : Below w.heap.size w w2) (v0 v1 v2 v3 v4 v5 : Value) : HOut w ⟨d', s.w.n, s.p.n, s.c.n, 0⟩ (.returned (.tuple #[(.agg #[.slice t.w.a t.w.n t.w.c, .slice t.p.a t.p.n t.p.c, .slice (t.u 0).a (t.u 0).n (t.u 0).c, .slice (t.u 1).a (t.u 1).n (t.u 1).c, .slice (t.u 2).a (t.u 2).n (t.u 2).c, .slice t.c.a t.c.n t.c.c]), .int .i64 0])) (put6 w2 (w.heap.size + 1) v0 v1 v2 v3 v4 v5) :=
  ⟨t, rfl, hn.kept hp (fun i h1 h2 => put6_other _ _ _ _ _ _ _ _ (by omega)) (by rw [put6_size]; exact Nat.le_refl _), ⟨hl.1, hl.2.1, hl.2.2.2⟩, below_put6 hb (by omega) _ _ _ _ _ _⟩
theorem res_dirty {W : World} {b : Nat} {er : Value} {tm : Array Value} {v0 v1 v2 v3 v4 v5 : Value} (ht : tm[4]? = some (.pointer (some ⟨b, 0, none⟩))) (h5 : tm[5]? = some er) (k0 : W.cell? ⟨b, 0, none⟩ = some v0) (k1 : W.cell? ⟨b, 1, none⟩ = some v1) (k2 : W.cell? ⟨b, 2, none⟩ = some v2) (k3 : W.cell? ⟨b, 3, none⟩ = some v3) (k4 : W.cell? ⟨b, 4, none⟩ = some v4) (k5 : W.cell? ⟨b, 5, none⟩ = some v5) :
    (results Tryz.f25 tm).run Tryz.prog W = .ok (.tuple #[.agg #[v0, v1, v2, v3, v4, v5], er]) W := by
  simp [results, Tryz.results25, go_sem, ht, h5, k0, k1, k2, k3, k4, k5]
theorem res_clean {W : World} {b : Nat} {er : Value} {tm : Array Value} {v0 v1 v2 v3 v4 v5 : Value} (ht : tm[4]? = some (.pointer (some ⟨b, 0, none⟩))) (h5 : tm[5]? = some er) (k0 : W.cell? ⟨b, 0, none⟩ = some v0) (k1 : W.cell? ⟨b, 1, none⟩ = some v1) (k2 : W.cell? ⟨b, 2, none⟩ = some v2) (k3 : W.cell? ⟨b, 3, none⟩ = some v3) (k4 : W.cell? ⟨b, 4, none⟩ = some v4) (k5 : W.cell? ⟨b, 5, none⟩ = some v5) :
    (results Tryz.f27 tm).run Tryz.prog W = .ok (.tuple #[.agg #[v0, v1, v2, v3, v4, v5], er]) W := by
  simp [results, Tryz.results27, go_sem, ht, h5, k0, k1, k2, k3, k4, k5]
section
variable (s : Hs) (d : Hd_) (w : World)
set_option maxHeartbeats 1000000 in
theorem dirty_no (a n er : Int) (h0 : ¬ er = 0) (hp : Hp w w.heap.size s d) (hO : ∀ W, Bx w W s d → Calls Tryz.prog 23 #[(.agg #[.slice s.w.a s.w.n s.w.c, .slice s.p.a s.p.n s.p.c, .slice (s.u 0).a (s.u 0).n (s.u 0).c, .slice (s.u 1).a (s.u 1).n (s.u 1).c, .slice (s.u 2).a (s.u 2).n (s.u 2).c, .slice s.c.a s.c.n s.c.c]), .int .i64 a] W fun e w' => e = .returned (.tuple #[.int .i64 n, .int .i64 er]) ∧ Below W.heap.size W w') : Calls Tryz.prog 25 #[(.agg #[.slice s.w.a s.w.n s.w.c, .slice s.p.a s.p.n s.p.c, .slice (s.u 0).a (s.u 0).n (s.u 0).c, .slice (s.u 1).a (s.u 1).n (s.u 1).c, .slice (s.u 2).a (s.u 2).n (s.u 2).c, .slice s.c.a s.c.n s.c.c]), .int .i64 a] w (HOut w ⟨dN, 0, 0, 0, er⟩) := by
  have HP := Lib.hid hp
  have H0 := Lib.hid hO
  have d1 : (er != 0) = true := by simp [h0]
  clear hp hO h0
  go_enter Tryz.func25, Tryz.ntmps25
  go_wp2_with fail
  obtain ⟨W0, hW0⟩ : ∃ W0, W0 = (w.alloc (.cells #[.slice s.w.a s.w.n s.w.c, .slice s.p.a s.p.n s.p.c, .slice (s.u 0).a (s.u 0).n (s.u 0).c, .slice (s.u 1).a (s.u 1).n (s.u 1).c, .slice (s.u 2).a (s.u 2).n (s.u 2).c, .slice s.c.a s.c.n s.c.c] 28)).alloc (.cells #[.slice none 0 0, .slice none 0 0, .slice none 0 0, .slice none 0 0, .slice none 0 0, .slice none 0 0] 28) := ⟨_, rfl⟩
  have K0 := Lib.hid (bx_start HP.out hW0)
  rw [← hW0]
  clear hW0
  refine (H0.out W0 K0.out).mono ?_
  rintro e w1 ⟨rfl, hb1⟩
  have K1 := Lib.hid (K0.out.next hb1)
  have x0 := (K1.out.rb.box).c0
  have x1 := (K1.out.rb.box).c1
  have x2 := (K1.out.rb.box).c2
  have x3 := (K1.out.rb.box).c3
  have x4 := (K1.out.rb.box).c4
  have x5 := (K1.out.rb.box).c5
  have xl := (K1.out.rb.box).lt
  have y0 := (K1.out.rb).free 0
  have y1 := (K1.out.rb).free 1
  have y2 := (K1.out.rb).free 2
  have y3 := (K1.out.rb).free 3
  have y4 := (K1.out.rb).free 4
  have y5 := (K1.out.rb).free 5
  dsimp only [noHs, Ls.noSl] at x0 x1 x2 x3 x4 x5
  clear hb1 K0 H0 HP
  go_wp2
  refine bodyPost_ret (v := .tuple #[(.agg #[.slice noHs.w.a noHs.w.n noHs.w.c, .slice noHs.p.a noHs.p.n noHs.p.c, .slice (noHs.u 0).a (noHs.u 0).n (noHs.u 0).c, .slice (noHs.u 1).a (noHs.u 1).n (noHs.u 1).c, .slice (noHs.u 2).a (noHs.u 2).n (noHs.u 2).c, .slice noHs.c.a noHs.c.n noHs.c.c]), .int .i64 er]) ?_ rfl (hout_no K1.out er _ _ _ _ _ _)
  obtain ⟨k0, k1, k2, k3, k4, k5⟩ := put6_at K1.out.rb (.slice none 0 0) (.slice none 0 0) (.slice none 0 0) (.slice none 0 0) (.slice none 0 0) (.slice none 0 0)
  exact res_dirty rfl rfl k0 k1 k2 k3 k4 k5
set_option maxHeartbeats 1000000 in
theorem dirty_ok (a : Int) (k : Nat) (hp : Hp w w.heap.size s d) (hf : Fine s d) (hfb : firstB s d = true) (hk : k < s.c.n) (hO : ∀ W, Bx w W s d → Calls Tryz.prog 23 #[(.agg #[.slice s.w.a s.w.n s.w.c, .slice s.p.a s.p.n s.p.c, .slice (s.u 0).a (s.u 0).n (s.u 0).c, .slice (s.u 1).a (s.u 1).n (s.u 1).c, .slice (s.u 2).a (s.u 2).n (s.u 2).c, .slice s.c.a s.c.n s.c.c]), .int .i64 a] W fun e w' => e = .returned (.tuple #[.int .i64 (k : Int), .int .i64 0]) ∧ Below W.heap.size W w') : Calls Tryz.prog 25 #[(.agg #[.slice s.w.a s.w.n s.w.c, .slice s.p.a s.p.n s.p.c, .slice (s.u 0).a (s.u 0).n (s.u 0).c, .slice (s.u 1).a (s.u 1).n (s.u 1).c, .slice (s.u 2).a (s.u 2).n (s.u 2).c, .slice s.c.a s.c.n s.c.c]), .int .i64 a] w (HOut w ⟨ck d k true, s.w.n, s.p.n, s.c.n, 0⟩) := by
  have HP := Lib.hid hp
  have HF := Lib.hid hf
  have HFB := Lib.hid hfb
  have H0 := Lib.hid hO
  clear hp hO hf hfb
  go_enter Tryz.func25, Tryz.ntmps25
  go_wp2_with fail
  obtain ⟨W0, hW0⟩ : ∃ W0, W0 = (w.alloc (.cells #[.slice s.w.a s.w.n s.w.c, .slice s.p.a s.p.n s.p.c, .slice (s.u 0).a (s.u 0).n (s.u 0).c, .slice (s.u 1).a (s.u 1).n (s.u 1).c, .slice (s.u 2).a (s.u 2).n (s.u 2).c, .slice s.c.a s.c.n s.c.c] 28)).alloc (.cells #[.slice none 0 0, .slice none 0 0, .slice none 0 0, .slice none 0 0, .slice none 0 0, .slice none 0 0] 28) := ⟨_, rfl⟩
  have K0 := Lib.hid (bx_start HP.out hW0)
  rw [← hW0]
  clear hW0
  refine (H0.out W0 K0.out).mono ?_
  rintro e w1 ⟨rfl, hb1⟩
  have K1 := Lib.hid (K0.out.next hb1)
  have q0 := (K1.out.hb).c0
  have q1 := (K1.out.hb).c1
  have q2 := (K1.out.hb).c2
  have q3 := (K1.out.hb).c3
  have q4 := (K1.out.hb).c4
  have q5 := (K1.out.hb).c5
  have ql := (K1.out.hb).lt
  clear hb1 K0 H0 HP
  go_wp2_with fail
  refine (marked_any s d k true w1 K1.out.hp HF.out HFB.out hk).mono ?_
  rintro e w2 ⟨t, rfl, ht, hl, hn, hb2⟩
  have K2 := Lib.hid (K1.out.next hb2)
  have T2 := Lib.hid (And.intro ht (And.intro hl hn))
  have x0 := (K2.out.rb.box).c0
  have x1 := (K2.out.rb.box).c1
  have x2 := (K2.out.rb.box).c2
  have x3 := (K2.out.rb.box).c3
  have x4 := (K2.out.rb.box).c4
  have x5 := (K2.out.rb.box).c5
  have xl := (K2.out.rb.box).lt
  have y0 := (K2.out.rb).free 0
  have y1 := (K2.out.rb).free 1
  have y2 := (K2.out.rb).free 2
  have y3 := (K2.out.rb).free 3
  have y4 := (K2.out.rb).free 4
  have y5 := (K2.out.rb).free 5
  dsimp only [noHs, Ls.noSl] at x0 x1 x2 x3 x4 x5
  have NS : Hid (News (w.heap.size + 2) t) := Lib.hid (by
    have h1 := K1.out.rb.box.lt
    have h2 := T2.out.2.2
    exact ⟨fun h0 x hx => by have := h2.w h0 x hx; omega, fun h0 x hx => by have := h2.p h0 x hx; omega, fun j hj h0 x hx => by have := h2.u j hj h0 x hx; omega, fun h0 x hx => by have := h2.c h0 x hx; omega⟩)
  clear hb2 ht hl hn q0 q1 q2 q3 q4 q5 ql
  go_wp2
  refine bodyPost_ret (v := .tuple #[(.agg #[.slice t.w.a t.w.n t.w.c, .slice t.p.a t.p.n t.p.c, .slice (t.u 0).a (t.u 0).n (t.u 0).c, .slice (t.u 1).a (t.u 1).n (t.u 1).c, .slice (t.u 2).a (t.u 2).n (t.u 2).c, .slice t.c.a t.c.n t.c.c]), .int .i64 0]) ?_ rfl (hout_ok T2.out.1 T2.out.2.1 NS.out K2.out.bel _ _ _ _ _ _)
  obtain ⟨k0, k1, k2, k3, k4, k5⟩ := put6_at K2.out.rb (.slice t.w.a t.w.n t.w.c) (.slice t.p.a t.p.n t.p.c) (.slice (t.u 0).a (t.u 0).n (t.u 0).c) (.slice (t.u 1).a (t.u 1).n (t.u 1).c) (.slice (t.u 2).a (t.u 2).n (t.u 2).c) (.slice t.c.a t.c.n t.c.c)
  exact res_dirty rfl rfl k0 k1 k2 k3 k4 k5
theorem dirty_any (a : Int) (hp : Hp w w.heap.size s d) (hz : Cl.Sz w) (hf : Fine s d) (ha : a ≤ 9223372036854775807) : Calls Tryz.prog 25 #[(.agg #[.slice s.w.a s.w.n s.w.c, .slice s.p.a s.p.n s.p.c, .slice (s.u 0).a (s.u 0).n (s.u 0).c, .slice (s.u 1).a (s.u 1).n (s.u 1).c, .slice (s.u 2).a (s.u 2).n (s.u 2).c, .slice s.c.a s.c.n s.c.c]), .int .i64 a] w (HOut w (dirR s d a)) := by
  have hz0 := hz.pos
  have hO := fun (W : World) (h : Bx w W s d) => of_any s d W a h.hp (hz.over h.bel hz0) hf ha
  unfold dirR
  split
  · next e =>
    obtain ⟨h1, _, _, h4, h5⟩ := ofE_is e
    rw [e, h4] at hO
    exact dirty_ok s d w a (ofK a) hp hf (mayH_all h1).1 h5 hO
  · next e => exact dirty_no s d w a _ _ e hp hO
set_option maxHeartbeats 1000000 in
theorem clean_may (k : Int) (hp : Hp w w.heap.size s d) (hz : Cl.Sz w) (hf : Fine s d) (hm : mayB0 s d = false) : Calls Tryz.prog 27 #[(.agg #[.slice s.w.a s.w.n s.w.c, .slice s.p.a s.p.n s.p.c, .slice (s.u 0).a (s.u 0).n (s.u 0).c, .slice (s.u 1).a (s.u 1).n (s.u 1).c, .slice (s.u 2).a (s.u 2).n (s.u 2).c, .slice s.c.a s.c.n s.c.c]), .int .i64 k] w (HOut w ⟨dN, 0, 0, 0, 1⟩) := by
  have HP := Lib.hid hp
  have HZ := Lib.hid hz
  have HF := Lib.hid hf
  have HM := Lib.hid hm
  have hz0 := hz.pos
  clear hp hz hf hm
  go_enter Tryz.func27, Tryz.ntmps27
  go_wp2_with fail
  obtain ⟨W0, hW0⟩ : ∃ W0, W0 = (w.alloc (.cells #[.slice s.w.a s.w.n s.w.c, .slice s.p.a s.p.n s.p.c, .slice (s.u 0).a (s.u 0).n (s.u 0).c, .slice (s.u 1).a (s.u 1).n (s.u 1).c, .slice (s.u 2).a (s.u 2).n (s.u 2).c, .slice s.c.a s.c.n s.c.c] 28)).alloc (.cells #[.slice none 0 0, .slice none 0 0, .slice none 0 0, .slice none 0 0, .slice none 0 0, .slice none 0 0] 28) := ⟨_, rfl⟩
  have K0 := Lib.hid (bx_start HP.out hW0)
  rw [← hW0]
  clear hW0
  refine (pmay0_any s d W0 K0.out.hp (HZ.out.over K0.out.bel hz0) HF.out).mono ?_
  rw [HM.out]
  rintro e w1 ⟨rfl, hb1⟩
  have K1 := Lib.hid (K0.out.next hb1)
  have x0 := (K1.out.rb.box).c0
  have x1 := (K1.out.rb.box).c1
  have x2 := (K1.out.rb.box).c2
  have x3 := (K1.out.rb.box).c3
  have x4 := (K1.out.rb.box).c4
  have x5 := (K1.out.rb.box).c5
  have xl := (K1.out.rb.box).lt
  have y0 := (K1.out.rb).free 0
  have y1 := (K1.out.rb).free 1
  have y2 := (K1.out.rb).free 2
  have y3 := (K1.out.rb).free 3
  have y4 := (K1.out.rb).free 4
  have y5 := (K1.out.rb).free 5
  dsimp only [noHs, Ls.noSl] at x0 x1 x2 x3 x4 x5
  clear hb1 K0 HP
  go_wp2
  refine bodyPost_ret (v := .tuple #[(.agg #[.slice noHs.w.a noHs.w.n noHs.w.c, .slice noHs.p.a noHs.p.n noHs.p.c, .slice (noHs.u 0).a (noHs.u 0).n (noHs.u 0).c, .slice (noHs.u 1).a (noHs.u 1).n (noHs.u 1).c, .slice (noHs.u 2).a (noHs.u 2).n (noHs.u 2).c, .slice noHs.c.a noHs.c.n noHs.c.c]), .int .i64 1]) ?_ rfl (hout_no K1.out 1 _ _ _ _ _ _)
  obtain ⟨k0, k1, k2, k3, k4, k5⟩ := put6_at K1.out.rb (.slice none 0 0) (.slice none 0 0) (.slice none 0 0) (.slice none 0 0) (.slice none 0 0) (.slice none 0 0)
  exact res_clean rfl rfl k0 k1 k2 k3 k4 k5
set_option maxHeartbeats 1000000 in
theorem clean_none (k : Int) (hp : Hp w w.heap.size s d) (hz : Cl.Sz w) (hf : Fine s d) (hm : mayB0 s d = true) (hk : ¬ (0 ≤ k ∧ k < (s.c.n : Int))) : Calls Tryz.prog 27 #[(.agg #[.slice s.w.a s.w.n s.w.c, .slice s.p.a s.p.n s.p.c, .slice (s.u 0).a (s.u 0).n (s.u 0).c, .slice (s.u 1).a (s.u 1).n (s.u 1).c, .slice (s.u 2).a (s.u 2).n (s.u 2).c, .slice s.c.a s.c.n s.c.c]), .int .i64 k] w (HOut w ⟨dN, 0, 0, 0, 3⟩) := by
  have HP := Lib.hid hp
  have HZ := Lib.hid hz
  have HF := Lib.hid hf
  have HM := Lib.hid hm
  have HH := Lib.hid (fun W => has_any s k W)
  rw [decide_eq_false hk] at HH
  have hz0 := hz.pos
  clear hp hz hf hm hk
  go_enter Tryz.func27, Tryz.ntmps27
  go_wp2_with fail
  obtain ⟨W0, hW0⟩ : ∃ W0, W0 = (w.alloc (.cells #[.slice s.w.a s.w.n s.w.c, .slice s.p.a s.p.n s.p.c, .slice (s.u 0).a (s.u 0).n (s.u 0).c, .slice (s.u 1).a (s.u 1).n (s.u 1).c, .slice (s.u 2).a (s.u 2).n (s.u 2).c, .slice s.c.a s.c.n s.c.c] 28)).alloc (.cells #[.slice none 0 0, .slice none 0 0, .slice none 0 0, .slice none 0 0, .slice none 0 0, .slice none 0 0] 28) := ⟨_, rfl⟩
  have K0 := Lib.hid (bx_start HP.out hW0)
  rw [← hW0]
  clear hW0
  refine (pmay0_any s d W0 K0.out.hp (HZ.out.over K0.out.bel hz0) HF.out).mono ?_
  rw [HM.out]
  rintro e w1 ⟨rfl, hb1⟩
  have K1 := Lib.hid (K0.out.next hb1)
  have q0 := (K1.out.hb).c0
  have q1 := (K1.out.hb).c1
  have q2 := (K1.out.hb).c2
  have q3 := (K1.out.hb).c3
  have q4 := (K1.out.hb).c4
  have q5 := (K1.out.hb).c5
  have ql := (K1.out.hb).lt
  clear hb1 K0 HP
  go_wp2_with fail
  refine (HH.out w1).mono ?_
  rintro e w2 ⟨rfl, hb2⟩
  have K2 := Lib.hid (K1.out.next hb2)
  have x0 := (K2.out.rb.box).c0
  have x1 := (K2.out.rb.box).c1
  have x2 := (K2.out.rb.box).c2
  have x3 := (K2.out.rb.box).c3
  have x4 := (K2.out.rb.box).c4
  have x5 := (K2.out.rb.box).c5
  have xl := (K2.out.rb.box).lt
  have y0 := (K2.out.rb).free 0
  have y1 := (K2.out.rb).free 1
  have y2 := (K2.out.rb).free 2
  have y3 := (K2.out.rb).free 3
  have y4 := (K2.out.rb).free 4
  have y5 := (K2.out.rb).free 5
  dsimp only [noHs, Ls.noSl] at x0 x1 x2 x3 x4 x5
  clear hb2 K1 q0 q1 q2 q3 q4 q5 ql
  go_wp2
  refine bodyPost_ret (v := .tuple #[(.agg #[.slice noHs.w.a noHs.w.n noHs.w.c, .slice noHs.p.a noHs.p.n noHs.p.c, .slice (noHs.u 0).a (noHs.u 0).n (noHs.u 0).c, .slice (noHs.u 1).a (noHs.u 1).n (noHs.u 1).c, .slice (noHs.u 2).a (noHs.u 2).n (noHs.u 2).c, .slice noHs.c.a noHs.c.n noHs.c.c]), .int .i64 3]) ?_ rfl (hout_no K2.out 3 _ _ _ _ _ _)
  obtain ⟨k0, k1, k2, k3, k4, k5⟩ := put6_at K2.out.rb (.slice none 0 0) (.slice none 0 0) (.slice none 0 0) (.slice none 0 0) (.slice none 0 0) (.slice none 0 0)
  exact res_clean rfl rfl k0 k1 k2 k3 k4 k5
set_option maxHeartbeats 1000000 in
theorem clean_ok (k : Nat) (hp : Hp w w.heap.size s d) (hz : Cl.Sz w) (hf : Fine s d) (hm : mayB0 s d = true) (hk : k < s.c.n) : Calls Tryz.prog 27 #[(.agg #[.slice s.w.a s.w.n s.w.c, .slice s.p.a s.p.n s.p.c, .slice (s.u 0).a (s.u 0).n (s.u 0).c, .slice (s.u 1).a (s.u 1).n (s.u 1).c, .slice (s.u 2).a (s.u 2).n (s.u 2).c, .slice s.c.a s.c.n s.c.c]), .int .i64 (k : Int)] w (HOut w ⟨ck d k false, s.w.n, s.p.n, s.c.n, 0⟩) := by
  have HP := Lib.hid hp
  have HZ := Lib.hid hz
  have HF := Lib.hid hf
  have HM := Lib.hid hm
  have HFB := Lib.hid (mayH_all hm).1
  have HH := Lib.hid (fun W => has_any s (k : Int) W)
  rw [decide_eq_true (show 0 ≤ (k : Int) ∧ (k : Int) < (s.c.n : Int) by omega)] at HH
  have hz0 := hz.pos
  clear hp hz hf hm
  go_enter Tryz.func27, Tryz.ntmps27
  go_wp2_with fail
  obtain ⟨W0, hW0⟩ : ∃ W0, W0 = (w.alloc (.cells #[.slice s.w.a s.w.n s.w.c, .slice s.p.a s.p.n s.p.c, .slice (s.u 0).a (s.u 0).n (s.u 0).c, .slice (s.u 1).a (s.u 1).n (s.u 1).c, .slice (s.u 2).a (s.u 2).n (s.u 2).c, .slice s.c.a s.c.n s.c.c] 28)).alloc (.cells #[.slice none 0 0, .slice none 0 0, .slice none 0 0, .slice none 0 0, .slice none 0 0, .slice none 0 0] 28) := ⟨_, rfl⟩
  have K0 := Lib.hid (bx_start HP.out hW0)
  rw [← hW0]
  clear hW0
  refine (pmay0_any s d W0 K0.out.hp (HZ.out.over K0.out.bel hz0) HF.out).mono ?_
  rw [HM.out]
  rintro e w1 ⟨rfl, hb1⟩
  have K1 := Lib.hid (K0.out.next hb1)
  have q0 := (K1.out.hb).c0
  have q1 := (K1.out.hb).c1
  have q2 := (K1.out.hb).c2
  have q3 := (K1.out.hb).c3
  have q4 := (K1.out.hb).c4
  have q5 := (K1.out.hb).c5
  have ql := (K1.out.hb).lt
  clear hb1 K0 HP
  go_wp2_with fail
  refine (HH.out w1).mono ?_
  rintro e w2 ⟨rfl, hb2⟩
  have K2 := Lib.hid (K1.out.next hb2)
  clear hb2 K1 q0 q1 q2 q3 q4 q5 ql
  have q0 := (K2.out.hb).c0
  have q1 := (K2.out.hb).c1
  have q2 := (K2.out.hb).c2
  have q3 := (K2.out.hb).c3
  have q4 := (K2.out.hb).c4
  have q5 := (K2.out.hb).c5
  have ql := (K2.out.hb).lt
  go_wp2_with fail
  refine (marked_any s d k false w2 K2.out.hp HF.out HFB.out hk).mono ?_
  rintro e w3 ⟨t, rfl, ht, hl, hn, hb3⟩
  have K3 := Lib.hid (K2.out.next hb3)
  have T2 := Lib.hid (And.intro ht (And.intro hl hn))
  have x0 := (K3.out.rb.box).c0
  have x1 := (K3.out.rb.box).c1
  have x2 := (K3.out.rb.box).c2
  have x3 := (K3.out.rb.box).c3
  have x4 := (K3.out.rb.box).c4
  have x5 := (K3.out.rb.box).c5
  have xl := (K3.out.rb.box).lt
  have y0 := (K3.out.rb).free 0
  have y1 := (K3.out.rb).free 1
  have y2 := (K3.out.rb).free 2
  have y3 := (K3.out.rb).free 3
  have y4 := (K3.out.rb).free 4
  have y5 := (K3.out.rb).free 5
  dsimp only [noHs, Ls.noSl] at x0 x1 x2 x3 x4 x5
  have NS : Hid (News (w.heap.size + 2) t) := Lib.hid (by
    have h1 := K2.out.rb.box.lt
    have h2 := T2.out.2.2
    exact ⟨fun h0 x hx => by have := h2.w h0 x hx; omega, fun h0 x hx => by have := h2.p h0 x hx; omega, fun j hj h0 x hx => by have := h2.u j hj h0 x hx; omega, fun h0 x hx => by have := h2.c h0 x hx; omega⟩)
  clear hb3 ht hl hn K2 q0 q1 q2 q3 q4 q5 ql
  go_wp2
  refine bodyPost_ret (v := .tuple #[(.agg #[.slice t.w.a t.w.n t.w.c, .slice t.p.a t.p.n t.p.c, .slice (t.u 0).a (t.u 0).n (t.u 0).c, .slice (t.u 1).a (t.u 1).n (t.u 1).c, .slice (t.u 2).a (t.u 2).n (t.u 2).c, .slice t.c.a t.c.n t.c.c]), .int .i64 0]) ?_ rfl (hout_ok T2.out.1 T2.out.2.1 NS.out K3.out.bel _ _ _ _ _ _)
  obtain ⟨k0, k1, k2, k3, k4, k5⟩ := put6_at K3.out.rb (.slice t.w.a t.w.n t.w.c) (.slice t.p.a t.p.n t.p.c) (.slice (t.u 0).a (t.u 0).n (t.u 0).c) (.slice (t.u 1).a (t.u 1).n (t.u 1).c) (.slice (t.u 2).a (t.u 2).n (t.u 2).c) (.slice t.c.a t.c.n t.c.c)
  exact res_clean rfl rfl k0 k1 k2 k3 k4 k5
theorem clean_any (k : Int) (hp : Hp w w.heap.size s d) (hz : Cl.Sz w) (hf : Fine s d) : Calls Tryz.prog 27 #[(.agg #[.slice s.w.a s.w.n s.w.c, .slice s.p.a s.p.n s.p.c, .slice (s.u 0).a (s.u 0).n (s.u 0).c, .slice (s.u 1).a (s.u 1).n (s.u 1).c, .slice (s.u 2).a (s.u 2).n (s.u 2).c, .slice s.c.a s.c.n s.c.c]), .int .i64 k] w (HOut w (clR s d k)) := by
  unfold clR
  split
  · next e =>
    obtain ⟨h1, h2, h3⟩ := clE_is e
    obtain ⟨i, rfl⟩ : ∃ i : Nat, k = i := ⟨k.toNat, by omega⟩
    exact clean_ok s d w i hp hz hf h1 (by omega)
  · next e =>
    cases hm : mayB0 s d
    · rw [show clE s d k = 1 from if_pos hm]
      exact clean_may s d w k hp hz hf hm
    · by_cases h : 0 ≤ k ∧ k < (s.c.n : Int)
      · exact absurd (show clE s d k = 0 by unfold clE; rw [if_neg (by rw [hm]; decide), if_pos h]) e
      · rw [show clE s d k = 3 by unfold clE; rw [if_neg (by rw [hm]; decide), if_neg h]]
        exact clean_none s d w k hp hz hf hm h
end
theorem is_no (s : Hs) (d : Hd_) (w : World) (a n er : Int) (h0 : ¬ er = 0) (hp : Hp w w.heap.size s d) (hO : ∀ W, HNow w W s d → Calls Tryz.prog 23 #[(.agg #[.slice s.w.a s.w.n s.w.c, .slice s.p.a s.p.n s.p.c, .slice (s.u 0).a (s.u 0).n (s.u 0).c, .slice (s.u 1).a (s.u 1).n (s.u 1).c, .slice (s.u 2).a (s.u 2).n (s.u 2).c, .slice s.c.a s.c.n s.c.c]), .int .i64 a] W fun e w' => e = .returned (.tuple #[.int .i64 n, .int .i64 er]) ∧ Below W.heap.size W w') : Calls Tryz.prog 34 #[(.agg #[.slice s.w.a s.w.n s.w.c, .slice s.p.a s.p.n s.p.c, .slice (s.u 0).a (s.u 0).n (s.u 0).c, .slice (s.u 1).a (s.u 1).n (s.u 1).c, .slice (s.u 2).a (s.u 2).n (s.u 2).c, .slice s.c.a s.c.n s.c.c]), .int .i64 a] w fun e w' => e = .returned (.bool false) ∧ Below w.heap.size w w' := by
  have HP := Lib.hid hp
  have H0 := Lib.hid hO
  have d1 : (er == 0) = false := by simp [h0]
  have b0 := (Below.refl w.heap.size w).alloc (Nat.le_refl _) (.cells #[.slice s.w.a s.w.n s.w.c, .slice s.p.a s.p.n s.p.c, .slice (s.u 0).a (s.u 0).n (s.u 0).c, .slice (s.u 1).a (s.u 1).n (s.u 1).c, .slice (s.u 2).a (s.u 2).n (s.u 2).c, .slice s.c.a s.c.n s.c.c] 28)
  clear hp hO h0
  go_enter Tryz.func34, Tryz.ntmps34
  go_wp2_with fail
  refine (H0.out _ ⟨HBox.new w s 28, b0, HP.out.below b0⟩).mono ?_
  rintro e w1 ⟨rfl, hb1⟩
  have B1 := Lib.hid (b0.trans (hb1.mono b0.size))
  have bx := (HBox.new w s 28).next hb1
  have q5 := bx.c5
  have ql := bx.lt
  clear hb1 b0 bx
  go_wp2
  go_ret
  exact ⟨rfl, B1.out⟩
theorem is_ok (s : Hs) (d : Hd_) (w : World) (a : Int) (k : Nat) (hk : k < s.c.n) (hcn : s.c.n ≤ 100000) (hp : Hp w w.heap.size s d) (hO : ∀ W, HNow w W s d → Calls Tryz.prog 23 #[(.agg #[.slice s.w.a s.w.n s.w.c, .slice s.p.a s.p.n s.p.c, .slice (s.u 0).a (s.u 0).n (s.u 0).c, .slice (s.u 1).a (s.u 1).n (s.u 1).c, .slice (s.u 2).a (s.u 2).n (s.u 2).c, .slice s.c.a s.c.n s.c.c]), .int .i64 a] W fun e w' => e = .returned (.tuple #[.int .i64 (k : Int), .int .i64 0]) ∧ Below W.heap.size W w') : Calls Tryz.prog 34 #[(.agg #[.slice s.w.a s.w.n s.w.c, .slice s.p.a s.p.n s.p.c, .slice (s.u 0).a (s.u 0).n (s.u 0).c, .slice (s.u 1).a (s.u 1).n (s.u 1).c, .slice (s.u 2).a (s.u 2).n (s.u 2).c, .slice s.c.a s.c.n s.c.c]), .int .i64 a] w fun e w' => e = .returned (.bool (d.cs k)) ∧ Below w.heap.size w w' := by
  obtain ⟨sw, sp, su, ⟨ca, cn, cc⟩⟩ := s
  dsimp only at hk hcn
  obtain ⟨b, off, e, hlt, hc⟩ := hp.cards (by show 0 < cn; omega)
  dsimp only at e
  subst e
  have HP := Lib.hid hp
  have H0 := Lib.hid hO
  have b0 := (Below.refl w.heap.size w).alloc (Nat.le_refl _) (.cells #[.slice (⟨sw, sp, su, ⟨some ⟨b, off, none⟩, cn, cc⟩⟩ : Hs).w.a (⟨sw, sp, su, ⟨some ⟨b, off, none⟩, cn, cc⟩⟩ : Hs).w.n (⟨sw, sp, su, ⟨some ⟨b, off, none⟩, cn, cc⟩⟩ : Hs).w.c, .slice (⟨sw, sp, su, ⟨some ⟨b, off, none⟩, cn, cc⟩⟩ : Hs).p.a (⟨sw, sp, su, ⟨some ⟨b, off, none⟩, cn, cc⟩⟩ : Hs).p.n (⟨sw, sp, su, ⟨some ⟨b, off, none⟩, cn, cc⟩⟩ : Hs).p.c, .slice ((⟨sw, sp, su, ⟨some ⟨b, off, none⟩, cn, cc⟩⟩ : Hs).u 0).a ((⟨sw, sp, su, ⟨some ⟨b, off, none⟩, cn, cc⟩⟩ : Hs).u 0).n ((⟨sw, sp, su, ⟨some ⟨b, off, none⟩, cn, cc⟩⟩ : Hs).u 0).c, .slice ((⟨sw, sp, su, ⟨some ⟨b, off, none⟩, cn, cc⟩⟩ : Hs).u 1).a ((⟨sw, sp, su, ⟨some ⟨b, off, none⟩, cn, cc⟩⟩ : Hs).u 1).n ((⟨sw, sp, su, ⟨some ⟨b, off, none⟩, cn, cc⟩⟩ : Hs).u 1).c, .slice ((⟨sw, sp, su, ⟨some ⟨b, off, none⟩, cn, cc⟩⟩ : Hs).u 2).a ((⟨sw, sp, su, ⟨some ⟨b, off, none⟩, cn, cc⟩⟩ : Hs).u 2).n ((⟨sw, sp, su, ⟨some ⟨b, off, none⟩, cn, cc⟩⟩ : Hs).u 2).c, .slice (⟨sw, sp, su, ⟨some ⟨b, off, none⟩, cn, cc⟩⟩ : Hs).c.a (⟨sw, sp, su, ⟨some ⟨b, off, none⟩, cn, cc⟩⟩ : Hs).c.n (⟨sw, sp, su, ⟨some ⟨b, off, none⟩, cn, cc⟩⟩ : Hs).c.c] 28)
  have hcc := hc k hk
  clear hp hO hc
  go_enter Tryz.func34, Tryz.ntmps34
  go_wp2_with fail
  refine (H0.out _ ⟨HBox.new w ⟨sw, sp, su, ⟨some ⟨b, off, none⟩, cn, cc⟩⟩ 28, b0, HP.out.below b0⟩).mono ?_
  rintro e w1 ⟨rfl, hb1⟩
  have B1 := Lib.hid (b0.trans (hb1.mono b0.size))
  have bx := (HBox.new w ⟨sw, sp, su, ⟨some ⟨b, off, none⟩, cn, cc⟩⟩ 28).next hb1
  have q5 := bx.c5
  have ql := bx.lt
  dsimp only at q5
  have kc := (B1.out.cell (p := ⟨b, off + k, none⟩) hlt).trans hcc
  have kl : b < w1.heap.size := Nat.lt_of_lt_of_le hlt B1.out.size
  clear hb1 b0 bx hcc
  go_wp2
  go_ret
  exact ⟨rfl, B1.out⟩
theorem is_any (s : Hs) (d : Hd_) (w : World) (a : Int) (hp : Hp w w.heap.size s d) (hz : Cl.Sz w) (hf : Fine s d) (ha : a ≤ 9223372036854775807) : Calls Tryz.prog 34 #[(.agg #[.slice s.w.a s.w.n s.w.c, .slice s.p.a s.p.n s.p.c, .slice (s.u 0).a (s.u 0).n (s.u 0).c, .slice (s.u 1).a (s.u 1).n (s.u 1).c, .slice (s.u 2).a (s.u 2).n (s.u 2).c, .slice s.c.a s.c.n s.c.c]), .int .i64 a] w fun e w' => e = .returned (.bool (isB s d a)) ∧ Below w.heap.size w w' := by
  have hz0 := hz.pos
  have hO := fun (W : World) (h : HNow w W s d) => of_any s d W a h.all (hz.over h.bel hz0) hf ha
  unfold isB
  by_cases e : ofE s d a = 0
  · obtain ⟨h1, _, _, h4, h5⟩ := ofE_is e
    rw [e, h4] at hO
    rw [e]
    exact is_ok s d w a (ofK a) h5 hf.cn hp hO
  · rw [decide_eq_false e, Bool.false_and]
    exact is_no s d w a _ _ e hp hO
end Go.Proofs.YtmalopciboikhaaGreatDoor.Ck
end
