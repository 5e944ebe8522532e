/-
  Merged texts: PgFill, HpClone, HpCp, HpSetP, Zero, AlTakeP, AlTake, AlBase, RpP, HpSlab.
-/
import Derived.Test.YtmalopciboikhaaGreatDoorHpRG
import Derived.Lib.SliceRun
import Derived.Test.YtmalopciboikhaaGreatDoorHpRF
section
namespace Go.Proofs.YtmalopciboikhaaGreatDoor.Cl
open Go.Proofs.YtmalopciboikhaaGreatDoor
set_option maxRecDepth 100000
open Go.RowKit

theorem info_page : (Tryz.prog.info? 76).map (fun i => (i.zero, i.size, i.bytes)) = some (some (.agg #[.int .i64 0, .int .i64 0]), 2, 16) := by kernel_rfl

/-- The row's block is as it was. -/
theorem PMine.kept {w w' : World} {base e g n c : Nat} {f : Nat → Int × Int} (h : PMine w base e g n c f) (hg : w'.heap[g]? = w.heap[g]?) (hs : w.heap.size ≤ w'.heap.size) : PMine w' base e g n c f := by
  obtain ⟨⟨h1, h2⟩, h3, h4, h5⟩ := h
  refine ⟨⟨h1, ?_⟩, h3, by omega, h5⟩
  rcases h2 with h2 | ⟨g', cap, cur, hv, hb, hh, hr⟩
  · exact .inl h2
  · simp only [Value.slice.injEq, Option.some.injEq, Addr.mk.injEq, and_true, true_and] at hv
    obtain ⟨rfl, rfl⟩ := hv
    exact .inr ⟨g, c, cur, rfl, hb, hg.trans hh, hr⟩
theorem PMine.alloc {w : World} {base e g n c : Nat} {f : Nat → Int × Int} (h : PMine w base e g n c f) (o : Obj) : PMine (w.alloc o) base e g n c f :=
  h.kept (Below.heap_alloc w o g h.2.2.1) (by simp)
theorem PMine.below {w w' : World} {base e g n c B : Nat} {f : Nat → Int × Int} (h : PMine w base e g n c f) (hb : Below B w w') (hg : g < B) : PMine w' base e g n c f :=
  h.kept (hb.block g hg) hb.size

/-- Pages a to a + m are p. -/
def fillF (f : Nat → Int × Int) (a m : Nat) (p : Int × Int) : Nat → Int × Int := fun j => if a ≤ j ∧ j < a + m then p else f j
theorem fillF_zero (f : Nat → Int × Int) (a : Nat) (p : Int × Int) : fillF f a 0 p = f := by
  funext j
  exact if_neg (by omega)
theorem fillF_succ (f : Nat → Int × Int) (a m : Nat) (p : Int × Int) : put (fillF f a m p) (a + m) p = fillF f a (m + 1) p := by
  funext j
  unfold put fillF
  by_cases e : j = a + m
  · rw [if_pos e, if_pos (by omega)]
  · rw [if_neg e]
    by_cases h : a ≤ j ∧ j < a + m
    · rw [if_pos h, if_pos (by omega)]
    · rw [if_neg h, if_neg (by omega)]

/-- A copy of the call's own was returned; all that was there is as it was. -/
def PMade (w : World) (n : Nat) (f : Nat → Int × Int) (e : Ending) (w' : World) : Prop :=
  ∃ g c, e = .returned (.slice (some ⟨g, 0, none⟩) n c) ∧ PMine w' w.heap.size 76 g n c f ∧ Below w.heap.size w w'

theorem pcells_of {w : World} {b off n : Nat} {f : Nat → Int × Int} (hc : ∀ i, i < n → w.cell? ⟨b, off + i * 2, none⟩ = some (.int .i64 (f i).1) ∧ w.cell? ⟨b, off + i * 2 + 1, none⟩ = some (.int .i64 (f i).2))
    (j : Nat) (u : Value) (hj : (pcells f n)[j]? = some u) : w.cell? ⟨b, off + j, none⟩ = some u := by
  have hjn : j < n * 2 := by
    have := (List.getElem?_eq_some_iff.1 hj).1
    rwa [pcells_length] at this
  rw [pcells_at f n j hjn] at hj
  obtain rfl := Option.some.inj hj
  by_cases hm : j % 2 = 0
  · have := (hc (j / 2) (by omega)).1
    rw [show off + j / 2 * 2 = off + j by omega] at this
    rw [this]
    simp [pcell, hm]
  · have := (hc (j / 2) (by omega)).2
    rw [show off + j / 2 * 2 + 1 = off + j by omega] at this
    rw [this]
    simp [pcell, hm]
theorem pcells_one {f : Nat → Int × Int} {n : Nat} : ∀ u ∈ pcells f n, u.oneCell' = true := by
  intro u hu
  obtain ⟨x, _, rfl⟩ := List.mem_map.1 hu
  rfl

theorem pclone_ok (B : Nat) (A : Option Addr) (n c : Nat) (f : Nat → Int × Int) (w : World) (hn : 0 < n) (hbig : n ≤ 1000) (hr : PRow w B A n f) :
    Calls Tryz.prog 90 #[.slice A n c] w (PMade w n f) := by
  obtain ⟨i0, hi, hz0, hz1, hz2⟩ := info_parts info_page
  obtain ⟨b, off, rfl, _, hc⟩ := hr hn
  have HC := Lib.hid hc
  have q22 : ∀ (w : World) (a : Option Addr) (n c n' c' : Nat), (binOp .eql 23 (.slice a n c) (.slice none n' c')).run Tryz.prog w = .ok (.bool a.isNone) w := fun w a n c n' c' => Lib.run_eql_slice_nil w _ _ a n c n' c' Tryz.underlying23
  have u22 : ∀ w, Sem.run Tryz.prog (underlying 23) w = .ok (TypeDesc.slice 76) w := run_underlying Tryz.underlying23
  clear hc hr
  go_enter Tryz.func90, Tryz.ntmps90
  go_wp2_with (at_builtin; refine wpList_append_own _ rfl _ _ 23 rfl w.heap.size 76 i0 (.agg #[.int .i64 0, .int .i64 0]) 2 16 Tryz.underlying23 hi hz0 hz1 hz2 rfl (by decide) _ _ _ rfl (World.ownsRow_made w #[] 0 (Nat.le_refl _) (Nat.zero_le _) rfl) ⟨b, off, none⟩ n c (pcells f n) rfl ?qc1 ?qc2 ?qc3 ?qc4 ?qc5 ?qc6 ?_)
  case qc1 => exact pcells_length f n
  case qc2 =>
    intro j u hj
    rw [Addr.add_lit]
    exact Lib.cell?_alloc_some _ (pcells_of HC.out j u hj)
  case qc3 => exact pcells_one
  case qc4 => unfold maxLen; omega
  case qc5 => omega
  case qc6 => simp
  intro v' w1 hown hgrow hnil
  have hown' : w1.ownsRow w.heap.size 76 2 v' n (pcells f n) := by simpa using hown
  obtain ⟨g, c', rfl, hm⟩ := pmine_of hown' hn
  have HM := Lib.hid hm
  clear hown hown' hnil hm
  go_wp2
  go_ret
  exact ⟨g, c', rfl, HM.out, ((Below.refl _ w).alloc (Nat.le_refl _) _).grown hgrow (by simp) (by intro k hk; simp [Value.ownBlock] at hk; omega)⟩

/-- Pages of a row of the caller's own were filled. -/
def Filled (w : World) (base g n c : Nat) (f : Nat → Int × Int) (e : Ending) (w' : World) : Prop :=
  e = .returned (.tuple #[]) ∧ PMine w' base 76 g n c f ∧ Below base w w'
set_option maxHeartbeats 400000 in
theorem fill_any (base g n c cc a m : Nat) (f : Nat → Int × Int) (p : Int × Int) (w : World) (hn : n ≤ 1000) (ham : a + m ≤ n) (hb0 : base ≤ w.heap.size) (h : PMine w base 76 g n c f) :
    Calls Tryz.prog 140 #[.slice (some ⟨g, a * 2, none⟩) m cc, .agg #[.int .i64 p.1, .int .i64 p.2]] w (Filled w base g n c (fillF f a m p)) := by
  obtain ⟨p0, p1⟩ := p
  have hg := h.2.2.1
  have hbg := h.2.1
  have HM := Lib.hid (h.alloc (.cells #[.int .i64 p0, .int .i64 p1] 76))
  clear h
  go_enter Tryz.func140, Tryz.ntmps140
  go_wp2
  go_loopw [7] (fun i wr => ∃ k : Nat, k ≤ m ∧ i = .int .i64 k ∧ PMine wr base 76 g n c (fillF f a k (p0, p1)) ∧ Below base w wr ∧ w.heap.size < wr.heap.size ∧
    wr.cell? ⟨w.heap.size, 0, none⟩ = some (.int .i64 p0) ∧ wr.cell? ⟨w.heap.size, 1, none⟩ = some (.int .i64 p1)) (fun i _ => m - (intOf i).toNat)
  case atStart => exact ⟨0, Nat.zero_le _, rfl, by rw [fillF_zero]; exact HM.out, (Below.refl _ _).alloc hb0 _, by simp, by simp [go_sem], by simp [go_sem]⟩
  case round =>
    obtain ⟨k, hk, rfl, hm, hb, hsz, c0, c1⟩ := hrel
    have HB := Lib.hid hb
    have HK := Lib.hid hm
    have hz := hb.size
    by_cases hlt : k < m
    · have f0 := hm.free (a * 2 + k * 2)
      have f1 := hm.free (a * 2 + k * 2 + 1)
      have hgr := hm.2.2.1
      obtain ⟨d0, d1⟩ := hm.cells (a + k) (by omega)
      rw [show (a + k) * 2 = a * 2 + k * 2 by omega] at d0 d1
      clear hm hb
      go_wp2
      go_roundw
      case rel =>
        refine ⟨k + 1, by omega, by go_num, ?_, ?_, ?_, ?_, ?_⟩
        · have := HK.out.stored (a + k) (p0, p1)
          rw [show (a + k) * 2 = a * 2 + k * 2 by omega, fillF_succ] at this
          exact this
        · exact (HB.out.setCell (by simpa using hbg) _).setCell (by simpa using hbg) _
        · simpa using hsz
        · simp [go_sem, c0]
        · simp [go_sem, c1]
      case measure => simp [intOf]; omega
    · obtain rfl : k = m := by omega
      clear hm hb
      go_wp2
      go_end0
      exact ⟨rfl, HK.out, HB.out⟩
end Go.Proofs.YtmalopciboikhaaGreatDoor.Cl
end
section
namespace Go.Proofs.YtmalopciboikhaaGreatDoor
open Go.RowKit
set_option maxRecDepth 100000

theorem iclone_any (B : Nat) (A : Option Addr) (n c : Nat) (xs : List Int) (w : World) (hn : n ≤ 2000000) (hB : B ≤ w.heap.size) (hr : Row w B A n xs) :
    Calls Tryz.prog 89 #[.slice A n c] w (Ls.AllOut w xs) := by
  have HR := Lib.hid hr
  have q22 : ∀ (w : World) (a : Option Addr) (n c n' c' : Nat), (binOp .eql 22 (.slice a n c) (.slice none n' c')).run Tryz.prog w = .ok (.bool a.isNone) w := fun w a n c n' c' => Lib.run_eql_slice_nil w _ _ a n c n' c' Tryz.underlying22
  have hl := hr.1
  have hA : A = none → n = 0 ∧ xs = [] := fun e => by
    by_cases h0 : n = 0
    · exact ⟨h0, List.eq_nil_of_length_eq_zero (by omega)⟩
    · obtain ⟨b, off, e', _⟩ := hr.2 (by omega)
      rw [e] at e'
      cases e'
  clear hr hl
  cases A with
  | none =>
    obtain ⟨rfl, rfl⟩ := hA rfl
    clear hA
    go_enter Tryz.func89, Tryz.ntmps89
    go_wp2
    go_ret
    exact ⟨⟨none, 0, 0⟩, rfl, World.ownsRow_nil _ _ _ _, Below.refl _ _⟩
  | some x =>
    clear hA
    go_enter Tryz.func89, Tryz.ntmps89
    go_wp2_with (at_builtin; refine Ls.list_cat rfl (.tmp 5) (.tmp 6) rfl rfl rfl (xs := []) (World.ownsRow_made w #[] 0 (Nat.le_refl _) (Nat.zero_le _) rfl) (HR.out.below ((Below.refl B w).alloc hB _)) (by simp) (by omega) ?_)
    intro p' cp' w1 hcat
    have ho := hcat.own
    have hg := hcat.grown
    have HO := Lib.hid ho
    have HG := Lib.hid hg
    clear hcat ho hg
    go_wp2
    go_ret
    exact ⟨⟨p', n, cp'⟩, rfl, HO.out, ((Below.refl _ w).alloc (Nat.le_refl _) _).grown HG.out (by simp) (by intro k hk; simp [Value.ownBlock] at hk; omega)⟩

def bcells (f : Nat → Bool) (n : Nat) : List Value := (List.range n).map fun i => .bool (f i)
theorem bcells_at (f : Nat → Bool) (n i : Nat) (h : i < n) : (bcells f n)[i]? = some (.bool (f i)) := by simp [bcells, h]
theorem info_boolC : (Tryz.prog.info? 4).map (fun i => (i.zero, i.size, i.bytes)) = some (some (.bool false), 1, 1) := by kernel_rfl
/-- A row of truth values in a block of the call's own. -/
def BMade (w : World) (n : Nat) (f : Nat → Bool) (e : Ending) (w' : World) : Prop :=
  ∃ g c, e = .returned (.slice (some ⟨g, 0, none⟩) n c) ∧ (∀ i, i < n → w'.cell? ⟨g, i, none⟩ = some (.bool (f i))) ∧ (∀ i, w'.frozen? ⟨g, i, none⟩ = false) ∧ w.heap.size ≤ g ∧ g < w'.heap.size ∧ Below w.heap.size w w'
theorem bmade_of {w w1 : World} {v : Value} {n : Nat} {f : Nat → Bool} (h : w1.ownsRow w.heap.size 4 1 v n (bcells f n)) (hn : 0 < n) :
    ∃ g c, v = .slice (some ⟨g, 0, none⟩) n c ∧ (∀ i, i < n → w1.cell? ⟨g, i, none⟩ = some (.bool (f i))) ∧ w.heap.size ≤ g ∧ g < w1.heap.size := by
  rcases h.2 with ⟨rfl, h0⟩ | ⟨g, c, cur, rfl, hb, hh, hnc, hcm, _⟩
  · omega
  · exact ⟨g, c, rfl, fun i hi => (h.cellAt i (by omega)).trans (bcells_at f n i hi), hb, (Array.getElem?_eq_some_iff.1 hh).1⟩
theorem bclone_ok (B : Nat) (A : Option Addr) (n c : Nat) (f : Nat → Bool) (w : World) (hn : 0 < n) (hbig : n ≤ 1000000) (hr : BRow w B A n f) :
    Calls Tryz.prog 91 #[.slice A n c] w (BMade w n f) := by
  obtain ⟨i0, hi, hz0, hz1, hz2⟩ := info_parts info_boolC
  obtain ⟨b, off, rfl, _, hc⟩ := hr hn
  have HC := Lib.hid hc
  have q22 : ∀ (w : World) (a : Option Addr) (n c n' c' : Nat), (binOp .eql 26 (.slice a n c) (.slice none n' c')).run Tryz.prog w = .ok (.bool a.isNone) w := fun w a n c n' c' => Lib.run_eql_slice_nil w _ _ a n c n' c' Tryz.underlying26
  have u22 : ∀ w, Sem.run Tryz.prog (underlying 26) w = .ok (TypeDesc.slice 4) w := run_underlying Tryz.underlying26
  clear hc hr
  go_enter Tryz.func91, Tryz.ntmps91
  go_wp2_with (at_builtin; refine wpList_append_own _ rfl _ _ 26 rfl w.heap.size 4 i0 (.bool false) 1 1 Tryz.underlying26 hi hz0 hz1 hz2 rfl (by decide) _ _ _ rfl (World.ownsRow_made w #[] 0 (Nat.le_refl _) (Nat.zero_le _) rfl) ⟨b, off, none⟩ n c (bcells f n) rfl ?qc1 ?qc2 ?qc3 ?qc4 ?qc5 ?qc6 ?_)
  case qc1 => simp [bcells]
  case qc2 =>
    intro j u hj
    rw [Addr.add_lit]
    have hjn : j < n := by
      have := (List.getElem?_eq_some_iff.1 hj).1
      simpa [bcells] using this
    rw [bcells_at f n j hjn] at hj
    rw [← hj]
    exact Lib.cell?_alloc_some _ (HC.out j hjn)
  case qc3 =>
    intro u hu
    obtain ⟨x, _, rfl⟩ := List.mem_map.1 hu
    rfl
  case qc4 => unfold maxLen; omega
  case qc5 => omega
  case qc6 => simp
  intro v' w1 hown hgrow hnil
  have hown' : w1.ownsRow w.heap.size 4 1 v' n (bcells f n) := by simpa using hown
  obtain ⟨g, c', rfl, hm, hb, hl⟩ := bmade_of hown' hn
  have HM := Lib.hid hm
  have HFZ : Hid (∀ i, w1.frozen? ⟨g, i, none⟩ = false) := Lib.hid fun i => hown'.frozenAt i
  clear hown hown' hnil hm
  go_wp2
  go_ret
  exact ⟨g, c', rfl, HM.out, HFZ.out, hb, hl, ((Below.refl _ w).alloc (Nat.le_refl _) _).grown hgrow (by simp) (by intro k hk; simp [Value.ownBlock] at hk; omega)⟩
end Go.Proofs.YtmalopciboikhaaGreatDoor
end
section
namespace Go.Proofs.YtmalopciboikhaaGreatDoor
open Go.RowKit
set_option maxRecDepth 100000

/-- A box of six cells that are not frozen. -/
structure Box6 (W : World) (b : Nat) (t : Hs) : Prop where
  box : HBox W b t
  free : ∀ j, W.frozen? ⟨b, j, none⟩ = false
/-- Of such a heap's slices none lies in the two boxes. -/
def Off (b : Nat) (v : Ls.Sl) : Prop := 0 < v.n → ∀ x, v.a = some x → ¬ x.block = b ∧ ¬ x.block = b + 1
/-- A slice in new memory. -/
def New (b : Nat) (v : Ls.Sl) : Prop := 0 < v.n → ∀ x, v.a = some x → b ≤ x.block
/-- A heap that is being copied: what the box holds so far. -/
structure Cp (w W : World) (t : Hs) (d : Hd_) : Prop where
  bel : Below w.heap.size w W
  hp : Hp W W.heap.size t d
  ow : Off w.heap.size t.w
  op : Off w.heap.size t.p
  ou : ∀ j, j < 3 → Off w.heap.size (t.u j)
  oc : Off w.heap.size t.c
  box : Box6 W w.heap.size t
  res : Box6 W (w.heap.size + 1) noHs
theorem Box6.next {W W' : World} {b : Nat} {t : Hs} (h : Box6 W b t) (hb : Below W.heap.size W W') : Box6 W' b t := ⟨h.box.next hb, fun j => (hb.frozen (p := ⟨b, j, none⟩) h.box.lt).trans (h.free j)⟩
theorem Box6.same {W W' : World} {b : Nat} {t : Hs} (h : Box6 W b t) (hs : W'.heap[b]? = W.heap[b]?) (hl : W.heap.size ≤ W'.heap.size) : Box6 W' b t :=
  ⟨⟨(World.cell?_of_block (a := ⟨b, 0, none⟩) hs).trans h.box.c0, (World.cell?_of_block (a := ⟨b, 1, none⟩) hs).trans h.box.c1, (World.cell?_of_block (a := ⟨b, 2, none⟩) hs).trans h.box.c2, (World.cell?_of_block (a := ⟨b, 3, none⟩) hs).trans h.box.c3, (World.cell?_of_block (a := ⟨b, 4, none⟩) hs).trans h.box.c4, (World.cell?_of_block (a := ⟨b, 5, none⟩) hs).trans h.box.c5, Nat.lt_of_lt_of_le h.box.lt hl⟩,
   fun j => (World.frozen?_of_block (a := ⟨b, j, none⟩) hs).trans (h.free j)⟩
theorem Cp.next {w W W' : World} {t : Hs} {d : Hd_} (h : Cp w W t d) (hb : Below W.heap.size W W') : Cp w W' t d :=
  ⟨h.bel.trans (hb.mono h.bel.size), h.hp.next hb, h.ow, h.op, h.ou, h.oc, h.box.next hb, h.res.next hb⟩
/-- All slices stand where only the first box is turned. -/
theorem hp_off {W W' : World} {b : Nat} {t : Hs} {d : Hd_} (h : Hp W W.heap.size t d) (ow : Off b t.w) (op : Off b t.p) (ou : ∀ j, j < 3 → Off b (t.u j)) (oc : Off b t.c) (hs : ∀ k, ¬ k = b → ¬ k = b + 1 → W'.heap[k]? = W.heap[k]?) (hl : W.heap.size = W'.heap.size) : Hp W' W'.heap.size t d := by
  rw [← hl]
  refine ⟨row_same h.words fun hn x hx => hs _ (ow hn x hx).1 (ow hn x hx).2, fun hn => ?_, fun j hj => ⟨row_same (h.free j hj).1 fun hn x hx => hs _ (ou j hj hn x hx).1 (ou j hj hn x hx).2, (h.free j hj).2⟩, fun hn => ?_⟩
  · obtain ⟨b', off, e, hlt, hc⟩ := h.pages hn
    refine ⟨b', off, e, hlt, fun i hi => ?_⟩
    have hb' := hs b' (op hn _ e).1 (op hn _ e).2
    exact ⟨(World.cell?_of_block (a := ⟨b', off + i * 2, none⟩) hb').trans (hc i hi).1, (World.cell?_of_block (a := ⟨b', off + i * 2 + 1, none⟩) hb').trans (hc i hi).2⟩
  · obtain ⟨b', off, e, hlt, hc⟩ := h.cards hn
    refine ⟨b', off, e, hlt, fun i hi => ?_⟩
    exact (World.cell?_of_block (a := ⟨b', off + i, none⟩) (hs b' (oc hn _ e).1 (oc hn _ e).2)).trans (hc i hi)
theorem frozen_set {W : World} {b k : Nat} {v : Value} (h : ∀ j, W.frozen? ⟨b, j, none⟩ = false) : ∀ j, (W.setCell ⟨b, k, none⟩ v).frozen? ⟨b, j, none⟩ = false := fun j => by rw [World.frozen?_setCell]; exact h j
theorem cell_set {W : World} {b k j : Nat} {v x y : Value} (h : W.cell? ⟨b, j, none⟩ = some x) (hy : y = if j = k then v else x) : (W.setCell ⟨b, k, none⟩ v).cell? ⟨b, j, none⟩ = some y := by
  subst hy
  by_cases e : j = k
  · subst e
    rw [if_pos rfl]
    exact World.cell?_setCell_same' _ _ _ (by rw [h]; rfl)
  · rw [if_neg e, World.cell?_setCell_other _ _ _ _ (by intro hh; simp only [Addr.mk.injEq, true_and, and_true] at hh; omega)]
    exact h
/-- One cell of the box is turned: the heap with that slice in the place of the old one. -/
theorem Cp.set {w W : World} {t t' : Hs} {d : Hd_} (h : Cp w W t d) (k : Nat) (v : Value) (hp : Hp W W.heap.size t' d) (ow : Off w.heap.size t'.w) (op : Off w.heap.size t'.p) (ou : ∀ j, j < 3 → Off w.heap.size (t'.u j)) (oc : Off w.heap.size t'.c)
    (e0 : Value.slice t'.w.a t'.w.n t'.w.c = if 0 = k then v else .slice t.w.a t.w.n t.w.c) (e1 : Value.slice t'.p.a t'.p.n t'.p.c = if 1 = k then v else .slice t.p.a t.p.n t.p.c)
    (e2 : Value.slice (t'.u 0).a (t'.u 0).n (t'.u 0).c = if 2 = k then v else .slice (t.u 0).a (t.u 0).n (t.u 0).c) (e3 : Value.slice (t'.u 1).a (t'.u 1).n (t'.u 1).c = if 3 = k then v else .slice (t.u 1).a (t.u 1).n (t.u 1).c)
    (e4 : Value.slice (t'.u 2).a (t'.u 2).n (t'.u 2).c = if 4 = k then v else .slice (t.u 2).a (t.u 2).n (t.u 2).c) (e5 : Value.slice t'.c.a t'.c.n t'.c.c = if 5 = k then v else .slice t.c.a t.c.n t.c.c) :
    Cp w (W.setCell ⟨w.heap.size, k, none⟩ v) t' d := by
  have hsz : W.heap.size = (W.setCell ⟨w.heap.size, k, none⟩ v).heap.size := by simp [World.setCell]
  have hoth : ∀ j, ¬ j = w.heap.size → (W.setCell ⟨w.heap.size, k, none⟩ v).heap[j]? = W.heap[j]? := fun j hj => Below.heap_setCell _ _ _ _ hj
  exact ⟨h.bel.setCell (Nat.le_refl _) _, hp_off hp ow op ou oc (fun j hj _ => hoth j hj) hsz, ow, op, ou, oc,
    ⟨⟨cell_set h.box.box.c0 e0, cell_set h.box.box.c1 e1, cell_set h.box.box.c2 e2, cell_set h.box.box.c3 e3, cell_set h.box.box.c4 e4, cell_set h.box.box.c5 e5, by rw [← hsz]; exact h.box.box.lt⟩, frozen_set h.box.free⟩,
    h.res.same (hoth _ (by omega)) (Nat.le_of_eq hsz)⟩
theorem Cp.drew {w W : World} {t : Hs} {d : Hd_} (h : Cp w W t d) : Cp w W.drew t d := h.next (below_drawn' (Below.refl _ _) 1)
theorem off_old {w : World} {b : Nat} {v : Ls.Sl} {xs : List Int} (h : Row w b v.a v.n xs) : Off b v := fun hn x hx => by
  obtain ⟨b', off, e, hlt, _⟩ := h.2 hn
  rw [hx] at e
  cases e
  exact ⟨by show ¬ b' = b; omega, by show ¬ b' = b + 1; omega⟩
/-- A slice that a call made, as a row, and apart from the boxes. -/
theorem own_off {b base : Nat} {W : World} {v : Ls.Sl} {xs : List Int} (ho : W.ownsRow base 3 1 (.slice v.a v.n v.c) v.n (xs.map (Value.int .i64))) (hb : b + 2 ≤ base) : Row W W.heap.size v.a v.n xs ∧ v.n ≤ v.c ∧ v.c ≤ maxLen ∧ Off b v ∧ New b v := by
  obtain ⟨a, c, e, hr, h1, h2⟩ := Ls.owns_row ho
  simp only [Value.slice.injEq, true_and] at e
  obtain ⟨rfl, rfl⟩ := e
  refine ⟨hr, h1, h2, fun _ x hx => ?_, fun _ x hx => ?_⟩
  · have := (ho.lt x.block (by rw [Ls.ownBlock_slice, hx]; rfl)).1
    exact ⟨by omega, by omega⟩
  · have := (ho.lt x.block (by rw [Ls.ownBlock_slice, hx]; rfl)).1
    omega
/-- What copied leaves: the same heap, in memory of its own. -/
structure News (b : Nat) (t : Hs) : Prop where
  w : New b t.w
  p : New b t.p
  u : ∀ j, j < 3 → New b (t.u j)
  c : New b t.c
/-- A heap in new memory stands where nothing of that is turned. -/
theorem News.kept {b : Nat} {t : Hs} {d : Hd_} {W W' : World} (hn : News b t) (h : Hp W W.heap.size t d) (hs : ∀ k, b ≤ k → k < W.heap.size → W'.heap[k]? = W.heap[k]?) (hl : W.heap.size ≤ W'.heap.size) : Hp W' W'.heap.size t d := by
  refine Hp.more ?_ hl
  refine ⟨row_same h.words fun h0 x hx => ?_, fun h0 => ?_, fun j hj => ⟨row_same (h.free j hj).1 fun h0 x hx => ?_, (h.free j hj).2⟩, fun h0 => ?_⟩
  · obtain ⟨b', off, e, hlt, _⟩ := h.words.2 h0
    rw [hx] at e
    cases e
    exact hs _ (hn.w h0 _ hx) hlt
  · obtain ⟨b', off, e, hlt, hc⟩ := h.pages h0
    have hb' := hs b' (hn.p h0 _ e) hlt
    exact ⟨b', off, e, hlt, fun i hi => ⟨(World.cell?_of_block (a := ⟨b', off + i * 2, none⟩) hb').trans (hc i hi).1, (World.cell?_of_block (a := ⟨b', off + i * 2 + 1, none⟩) hb').trans (hc i hi).2⟩⟩
  · obtain ⟨b', off, e, hlt, _⟩ := (h.free j hj).1.2 h0
    rw [hx] at e
    cases e
    exact hs _ (hn.u j hj h0 _ hx) hlt
  · obtain ⟨b', off, e, hlt, hc⟩ := h.cards h0
    exact ⟨b', off, e, hlt, fun i hi => (World.cell?_of_block (a := ⟨b', off + i, none⟩) (hs b' (hn.c h0 _ e) hlt)).trans (hc i hi)⟩
/-- Words, pages and cards are turned at once. -/
theorem Cp.three {w W : World} {s t : Hs} {d : Hd_} (h : Cp w W s d) (hp : Hp W W.heap.size t d) (ow : Off w.heap.size t.w) (op : Off w.heap.size t.p) (oc : Off w.heap.size t.c) (eu : t.u = s.u) :
    Cp w (((W.setCell ⟨w.heap.size, 0, none⟩ (.slice t.w.a t.w.n t.w.c)).setCell ⟨w.heap.size, 1, none⟩ (.slice t.p.a t.p.n t.p.c)).setCell ⟨w.heap.size, 5, none⟩ (.slice t.c.a t.c.n t.c.c)) t d := by
  have hsz : W.heap.size = (((W.setCell ⟨w.heap.size, 0, none⟩ (.slice t.w.a t.w.n t.w.c)).setCell ⟨w.heap.size, 1, none⟩ (.slice t.p.a t.p.n t.p.c)).setCell ⟨w.heap.size, 5, none⟩ (.slice t.c.a t.c.n t.c.c)).heap.size := by simp [World.setCell]
  have hoth : ∀ j, ¬ j = w.heap.size → (((W.setCell ⟨w.heap.size, 0, none⟩ (.slice t.w.a t.w.n t.w.c)).setCell ⟨w.heap.size, 1, none⟩ (.slice t.p.a t.p.n t.p.c)).setCell ⟨w.heap.size, 5, none⟩ (.slice t.c.a t.c.n t.c.c)).heap[j]? = W.heap[j]? := fun j hj => (Below.heap_setCell _ _ _ _ hj).trans ((Below.heap_setCell _ _ _ _ hj).trans (Below.heap_setCell _ _ _ _ hj))
  have ou : ∀ j, j < 3 → Off w.heap.size (t.u j) := by rw [eu]; exact h.ou
  refine ⟨((h.bel.setCell (p := ⟨w.heap.size, 0, none⟩) (Nat.le_refl _) _).setCell (p := ⟨w.heap.size, 1, none⟩) (Nat.le_refl _) _).setCell (p := ⟨w.heap.size, 5, none⟩) (Nat.le_refl _) _, hp_off hp ow op ou oc (fun j hj _ => hoth j hj) hsz, ow, op, ou, oc,
    ⟨⟨?_, ?_, ?_, ?_, ?_, ?_, by rw [← hsz]; exact h.box.box.lt⟩, frozen_set (frozen_set (frozen_set h.box.free))⟩, h.res.same (hoth _ (by omega)) (Nat.le_of_eq hsz)⟩
  · exact cell_set (cell_set (cell_set h.box.box.c0 rfl) rfl) rfl
  · exact cell_set (cell_set (cell_set h.box.box.c1 rfl) rfl) rfl
  · rw [eu]; exact cell_set (cell_set (cell_set h.box.box.c2 rfl) rfl) rfl
  · rw [eu]; exact cell_set (cell_set (cell_set h.box.box.c3 rfl) rfl) rfl
  · rw [eu]; exact cell_set (cell_set (cell_set h.box.box.c4 rfl) rfl) rfl
  · exact cell_set (cell_set (cell_set h.box.box.c5 rfl) rfl) rfl
/-- One of the lists is turned. -/
theorem Cp.list {w W : World} {t : Hs} {d : Hd_} (h : Cp w W t d) {k : Nat} (hk : k < 3) (v : Ls.Sl) (hr : Row W W.heap.size v.a v.n (d.F k)) (h1 : v.n ≤ v.c) (h2 : v.c ≤ maxLen) (ho : Off w.heap.size v) :
    Cp w (W.setCell ⟨w.heap.size, 2 + k, none⟩ (.slice v.a v.n v.c)) ⟨t.w, t.p, Ls.upd t.u k v, t.c⟩ d := by
  have hp : Hp W W.heap.size ⟨t.w, t.p, Ls.upd t.u k v, t.c⟩ d := ⟨h.hp.words, h.hp.pages, by
    have := h.hp.free.set k v (d.F k) hr h1 h2
    rwa [show Ls.upd d.F k (d.F k) = d.F by funext j; by_cases e : j = k <;> simp [Ls.upd, e]] at this, h.hp.cards⟩
  have ou : ∀ j, j < 3 → Off w.heap.size (Ls.upd t.u k v j) := fun j hj => by
    by_cases e : j = k
    · subst e; rw [Ls.upd_same]; exact ho
    · rw [Ls.upd_other _ _ e]; exact h.ou j hj
  refine h.set (2 + k) _ hp h.ow h.op ou h.oc ?_ ?_ ?_ ?_ ?_ ?_
  · rw [if_neg (by omega)]
  · rw [if_neg (by omega)]
  · by_cases e : k = 0
    · subst e; rfl
    · rw [if_neg (by omega)]
      dsimp only
      rw [Ls.upd_other _ _ (by omega)]
  · by_cases e : k = 1
    · subst e; rfl
    · rw [if_neg (by omega)]
      dsimp only
      rw [Ls.upd_other _ _ (by omega)]
  · by_cases e : k = 2
    · subst e; rfl
    · rw [if_neg (by omega)]
      dsimp only
      rw [Ls.upd_other _ _ (by omega)]
  · rw [if_neg (by omega)]
theorem prow_more {w : World} {B C n : Nat} {a : Option Addr} {f : Nat → Int × Int} (h : Cl.PRow w B a n f) (hB : B ≤ C) : Cl.PRow w C a n f := fun hn => by
  obtain ⟨b, off, e, hlt, hc⟩ := h hn
  exact ⟨b, off, e, Nat.lt_of_lt_of_le hlt hB, hc⟩
def Lens (s t : Hs) : Prop := t.w.n = s.w.n ∧ t.p.n = s.p.n ∧ (∀ j, j < 3 → (t.u j).n = (s.u j).n) ∧ t.c.n = s.c.n
theorem cp_start {w W0 : World} {s : Hs} {d : Hd_} (hp : Hp w w.heap.size s d) (h : W0 = (w.alloc (.cells #[.slice s.w.a s.w.n s.w.c, .slice s.p.a s.p.n s.p.c, .slice (s.u 0).a (s.u 0).n (s.u 0).c, .slice (s.u 1).a (s.u 1).n (s.u 1).c, .slice (s.u 2).a (s.u 2).n (s.u 2).c, .slice s.c.a s.c.n s.c.c] 28)).alloc (.cells #[.slice none 0 0, .slice none 0 0, .slice none 0 0, .slice none 0 0, .slice none 0 0, .slice none 0 0] 28)) : Cp w W0 s d := by
  have hb : Below w.heap.size w W0 := by rw [h]; exact ((Below.refl _ _).alloc (Nat.le_refl _) _).alloc (by simp) _
  have b1 := HBox.new w s 28
  have bb : Below (w.alloc (.cells #[.slice s.w.a s.w.n s.w.c, .slice s.p.a s.p.n s.p.c, .slice (s.u 0).a (s.u 0).n (s.u 0).c, .slice (s.u 1).a (s.u 1).n (s.u 1).c, .slice (s.u 2).a (s.u 2).n (s.u 2).c, .slice s.c.a s.c.n s.c.c] 28)).heap.size (w.alloc (.cells #[.slice s.w.a s.w.n s.w.c, .slice s.p.a s.p.n s.p.c, .slice (s.u 0).a (s.u 0).n (s.u 0).c, .slice (s.u 1).a (s.u 1).n (s.u 1).c, .slice (s.u 2).a (s.u 2).n (s.u 2).c, .slice s.c.a s.c.n s.c.c] 28)) W0 := by rw [h]; exact (Below.refl _ _).alloc (Nat.le_refl _) _
  refine ⟨hb, hp.next hb, off_old hp.words, fun hn x hx => ?_, fun j hj => off_old (hp.free j hj).1, fun hn x hx => ?_, Box6.next ⟨b1, fun j => by simp [go_sem]⟩ bb, ?_⟩
  · obtain ⟨b', off, e, hlt, _⟩ := hp.pages hn
    rw [hx] at e
    cases e
    exact ⟨by show ¬ b' = _; omega, by show ¬ b' = _; omega⟩
  · obtain ⟨b', off, e, hlt, _⟩ := hp.cards hn
    rw [hx] at e
    cases e
    exact ⟨by show ¬ b' = _; omega, by show ¬ b' = _; omega⟩
  · have b2 := HBox.new (w.alloc (.cells #[.slice s.w.a s.w.n s.w.c, .slice s.p.a s.p.n s.p.c, .slice (s.u 0).a (s.u 0).n (s.u 0).c, .slice (s.u 1).a (s.u 1).n (s.u 1).c, .slice (s.u 2).a (s.u 2).n (s.u 2).c, .slice s.c.a s.c.n s.c.c] 28)) noHs 28
    rw [World.size_alloc] at b2
    rw [h]
    exact ⟨b2, fun j => by simp [go_sem]⟩
theorem put6_at {W : World} {b : Nat} {t : Hs} (h : Box6 W b t) (v0 v1 v2 v3 v4 v5 : Value) :
    (put6 W b v0 v1 v2 v3 v4 v5).cell? ⟨b, 0, none⟩ = some v0 ∧ (put6 W b v0 v1 v2 v3 v4 v5).cell? ⟨b, 1, none⟩ = some v1 ∧ (put6 W b v0 v1 v2 v3 v4 v5).cell? ⟨b, 2, none⟩ = some v2 ∧
    (put6 W b v0 v1 v2 v3 v4 v5).cell? ⟨b, 3, none⟩ = some v3 ∧ (put6 W b v0 v1 v2 v3 v4 v5).cell? ⟨b, 4, none⟩ = some v4 ∧ (put6 W b v0 v1 v2 v3 v4 v5).cell? ⟨b, 5, none⟩ = some v5 := by
  have h0 := h.box.c0
  have h1 := h.box.c1
  have h2 := h.box.c2
  have h3 := h.box.c3
  have h4 := h.box.c4
  have h5 := h.box.c5
  refine ⟨?_, ?_, ?_, ?_, ?_, ?_⟩ <;> simp [put6, go_sem, h0, h1, h2, h3, h4, h5]
end Go.Proofs.YtmalopciboikhaaGreatDoor
end
section
namespace Go.Proofs.YtmalopciboikhaaGreatDoor
open Go.RowKit
set_option maxRecDepth 100000

/-- Another head with as many fields stands at a; all else is as it was. -/
structure Turned (s t : Hs) (d d' : Hd_) (a : Int) : Prop where
  len : Lens s t
  f : d'.f = d.f
  F : d'.F = d.F
  oth : ∀ y, 16 ≤ y → ¬ y = a → wd d' y = wd d y
  w1 : Hd.isWord (wd d' a) = true ∧ wd d' a % 2 = 1
  w2 : Hd.isWord (wd d a) = true ∧ wd d a % 2 = 1
  n : nOf (wd d' a) = nOf (wd d a)
section
variable {s t : Hs} {d d' : Hd_} {a : Int}
theorem Turned.word (h : Turned s t d d' a) {y : Int} (hy : 16 ≤ y) : Hd.isWord (wd d' y) = Hd.isWord (wd d y) ∧ (wd d' y % 2 = 1 ↔ wd d y % 2 = 1) ∧ nOf (wd d' y) = nOf (wd d y) ∧ (wd d' y = 0 ↔ wd d y = 0) := by
  by_cases e : y = a
  · subst e
    have h1 := h.w1
    have h2 := h.w2
    exact ⟨h1.1.trans h2.1.symm, ⟨fun _ => h2.2, fun _ => h1.2⟩, h.n, ⟨fun e => by omega, fun e => by omega⟩⟩
  · rw [h.oth y hy e]
    exact ⟨rfl, Iff.rfl, rfl, Iff.rfl⟩
theorem Turned.cell (h : Turned s t d d' a) {y : Int} (hy : 16 ≤ y) : cellAt d' y = cellAt d y := by
  obtain ⟨h1, h2, h3, _⟩ := h.word hy
  unfold cellAt cellB
  rw [h.f, show d'.ws.getD (y - 16).toNat 0 = wd d' y from rfl, show d.ws.getD (y - 16).toNat 0 = wd d y from rfl]
  by_cases hc : Hd.isWord (wd d y) = true ∧ wd d y % 2 = 1
  · have hc' : Hd.isWord (wd d' y) = true ∧ wd d' y % 2 = 1 := ⟨h1.trans hc.1, h2.2 hc.2⟩
    rw [if_pos hc, if_pos hc', h3]
  · have hc' : ¬ (Hd.isWord (wd d' y) = true ∧ wd d' y % 2 = 1) := fun e => hc ⟨h1.symm.trans e.1, h2.1 e.2⟩
    rw [if_neg hc, if_neg hc', h1]
theorem bg_in16 {f : Nat → Int × Int} {n : Nat} {y : Int} (h : ¬ Cl.bg f n y = 0) : 16 ≤ y :=
  Classical.byContradiction fun hn => h (Cl.bg_no fun e => hn e.2.1)
theorem Turned.freeH (h : Turned s t d d' a) (n : Nat) (y c : Int) : freeH d' n y c = Go.Proofs.YtmalopciboikhaaGreatDoor.freeH d n y c := by
  unfold Go.Proofs.YtmalopciboikhaaGreatDoor.freeH
  rw [h.f]
  by_cases hb : Cl.bg d.f n y = 0
  · rw [if_pos hb, if_pos hb]
  · rw [if_neg hb, if_neg hb]
    have h4 := (h.word (bg_in16 hb)).2.2.2
    rw [show d'.ws.getD (y - 16).toNat 0 = wd d' y from rfl, show d.ws.getD (y - 16).toNat 0 = wd d y from rfl]
    congr 1
    rw [Bool.eq_iff_iff, beq_iff_eq, beq_iff_eq]
    exact h4
theorem Turned.may (h : Turned s t d d' a) (m : Nat) (F : Nat → Nat → List Int) : mayH t d' m F = mayH s d m F := by
  unfold mayH firstB freeAll
  rw [h.len.1, h.len.2.1, h.len.2.2.2, h.f, h.F, all_congr fun y hy => h.cell (allS_in hy).1]
  simp only [h.freeH]
theorem Turned.may0 (h : Turned s t d d' a) : mayB0 t d' = mayB0 s d := h.may 0 noCaches
theorem Turned.used (h : Turned s t d d' a) : usedL t d' = usedL s d := by
  unfold usedL usedF
  rw [h.may0, h.f, h.len.2.1]
  split
  · refine List.filter_congr fun y hy => ?_
    rw [decide_eq_decide]
    exact (h.word (allS_in hy).1).2.1
  · rfl
theorem Turned.whole (h : Turned s t d d' a) (m : Nat) (F : Nat → Nat → List Int) : wholeH t d' m F = wholeH s d m F := by
  unfold wholeH
  rw [h.may, h.f, h.F, h.len.2.1]
  congr 1
  refine all_congr fun y hy => ?_
  congr 2
  rw [Bool.eq_iff_iff, beq_iff_eq, beq_iff_eq]
  exact (h.word (allS_in hy).1).2.2.2
theorem Turned.headE (h : Turned s t d d' a) (y : Int) : headE t d' y = Go.Proofs.YtmalopciboikhaaGreatDoor.headE s d y := by
  unfold Go.Proofs.YtmalopciboikhaaGreatDoor.headE
  rw [h.may0, h.f, h.len.2.1]
  by_cases hm : mayB0 s d = false
  · rw [if_pos hm, if_pos hm]
  · rw [if_neg hm, if_neg hm]
    by_cases hb : Cl.bg d.f s.p.n y = 0
    · rw [if_pos (Or.inl hb), if_pos (Or.inl hb)]
    · have h4 := (h.word (bg_in16 hb)).2.2.2
      by_cases hw : wd d y = 0
      · rw [if_pos (Or.inr hw), if_pos (Or.inr (h4.2 hw))]
      · rw [if_neg (by rintro (e | e); exact hb e; exact hw (h4.1 e)), if_neg (by rintro (e | e); exact hb e; exact hw e)]
theorem Turned.headV (h : Turned s t d d' a) {y : Int} (hy : ¬ y = a) : headV t d' y = Go.Proofs.YtmalopciboikhaaGreatDoor.headV s d y := by
  unfold Go.Proofs.YtmalopciboikhaaGreatDoor.headV
  rw [h.headE]
  split
  · next he =>
    unfold Go.Proofs.YtmalopciboikhaaGreatDoor.headE at he
    split at he
    · omega
    · split at he
      · omega
      · next hn => rw [h.oth y (bg_in16 fun e => hn (.inl e)) hy]
  · rfl
end
end Go.Proofs.YtmalopciboikhaaGreatDoor
end
section

namespace Go.Proofs.YtmalopciboikhaaGreatDoor.Ar
open Go.Proofs.YtmalopciboikhaaGreatDoor
set_option maxRecDepth 100000
open Go.RowKit

/-- The list with noughts at k places from o on. -/
def wipe (xs : List Int) : Nat → Nat → List Int
  | _, 0 => xs
  | o, k + 1 => wipe (xs.set o 0) (o + 1) k
theorem wipe_length : ∀ (k o : Nat) (xs : List Int), (wipe xs o k).length = xs.length
  | 0, _, _ => rfl
  | k + 1, o, xs => by rw [wipe, wipe_length k, List.length_set]
theorem wipe_snoc : ∀ (k o : Nat) (xs : List Int), (wipe xs o k).set (o + k) 0 = wipe xs o (k + 1)
  | 0, _, _ => rfl
  | k + 1, o, xs => by
    rw [wipe, show o + (k + 1) = o + 1 + k by omega, wipe_snoc k (o + 1) (xs.set o 0)]
    rfl
theorem wipe_getD : ∀ (k o : Nat) (xs : List Int) (j : Nat), o + k ≤ xs.length → (wipe xs o k).getD j 0 = if o ≤ j ∧ j < o + k then 0 else xs.getD j 0
  | 0, o, xs, j, _ => by rw [wipe, if_neg (by omega)]
  | k + 1, o, xs, j, h => by
    rw [wipe, wipe_getD k (o + 1) (xs.set o 0) j (by rw [List.length_set]; omega)]
    by_cases h1 : o + 1 ≤ j ∧ j < o + 1 + k
    · rw [if_pos h1, if_pos (by omega)]
    · rw [if_neg h1]
      by_cases h2 : o = j
      · subst h2
        rw [if_pos (by omega)]
        simp [List.getD, show o < xs.length by omega]
      · rw [if_neg (by omega)]
        simp [List.getD, List.getElem?_set_ne h2]

theorem _root_.Go.Proofs.YtmalopciboikhaaGreatDoor.Mine.wiped {base e g c n : Nat} : ∀ (k o : Nat) (w : World) (xs : List Int), Mine w base e g n c xs → Mine (w.setCells g o (List.replicate k (.int .i64 0))) base e g n c (wipe xs o k)
  | 0, _, _, _, h => h
  | k + 1, o, w, xs, h => by
    rw [List.replicate_succ, World.setCells, wipe]
    exact Mine.wiped k (o + 1) _ _ (h.stored o 0)
theorem below_wiped {B g : Nat} {a : World} (hB : B ≤ g) : ∀ (vs : List Value) (o : Nat) (w : World), Below B a w → Below B a (w.setCells g o vs)
  | [], _, _, h => h
  | v :: r, o, w, h => by
    rw [World.setCells]
    exact below_wiped hB r (o + 1) _ (h.setCell (by simpa using hB) v)

theorem zero_ok (B : Nat) (A : Option Addr) (n c : Nat) (xs : List Int) (i m : Nat) (w : World) (h : mayB n = true) (h0 : 0 < m) (h1 : i + m ≤ n) (hr : Row w B A n xs) :
    Calls Tryz.prog 60 #[.slice A n c, .int .i64 (16 + i), .int .i64 m] w (Made w n (wipe xs i m)) := by
  have hn := (mayB_iff.1 h).2.1
  have hn0 := (mayB_iff.1 h).1
  have EI : (16 : Int) + i - 16 = i := by omega
  have H := Lib.hid h
  have HR := Lib.hid hr
  clear h hr
  have HS : Calls Tryz.prog 107 #[.slice A n c, .int .i64 (16 + i), .int .i64 m] w fun e w' => e = .returned (.tuple #[.int .i64 i, .int .i64 (i + m), .int .i64 0]) ∧ w = w' := by
    have := span_ok A n c (16 + i) m w H.out (by omega) (by omega) (by omega)
    rw [EI] at this
    exact this
  have HT := Lib.hid HS
  clear EI HS
  go_enter Tryz.func60, Tryz.ntmps60
  go_wp2_with fail
  refine (HT.out).mono ?_
  rintro e w' ⟨rfl, rfl⟩
  go_wp2_with fail
  refine (clone_ok _ _ _ _ _ _ (by omega) (by omega) HR.out).mono ?_
  rintro e w1 ⟨g, c', rfl, hm, hb⟩
  have HM := Lib.hid hm
  have hcm := hm.2.2.2.2
  have hnc := hm.2.2.2.1
  have hg := hm.2.1
  unfold maxLen at hcm
  have hcl : ∀ c ty, (Builtin.clear_ #[22] ty #[.slice (some ⟨g, i, none⟩) m c]).run Tryz.prog w1 = .ok (.tuple #[]) (w1.setCells g i (List.replicate m (.int .i64 0))) :=
    fun c ty => Lib.run_clear_slice w1 22 3 ty (.int .i64 0) Tryz.underlying22 zero_int rfl rfl g i m c h0 (fun j hj => by rw [HM.out.cell (i + j) (by omega)]; rfl) (fun j hj => HM.out.free _)
  clear hm
  go_wp2
  go_ret2
  exact ⟨g, c', rfl, HM.out.wiped _ _ _ _, below_wiped hg _ _ _ hb⟩
end Go.Proofs.YtmalopciboikhaaGreatDoor.Ar
end
section
namespace Go.Proofs.YtmalopciboikhaaGreatDoor
open Go.RowKit
set_option maxRecDepth 100000

/-- The first words of some cells are noughts. -/
def zeroAt (ws xs : List Int) : List Int := xs.foldl (fun l a => l.set (a - 16).toNat 0) ws
theorem zeroAt_snoc (ws xs : List Int) (a : Int) : zeroAt ws (xs ++ [a]) = (zeroAt ws xs).set (a - 16).toNat 0 := by simp [zeroAt]
theorem zeroAt_len : ∀ (xs ws : List Int), (zeroAt ws xs).length = ws.length
  | [], _ => rfl
  | a :: xs, ws => by
    show (zeroAt (ws.set (a - 16).toNat 0) xs).length = _
    rw [zeroAt_len xs, List.length_set]
theorem getD_set (ws : List Int) (i j : Nat) (v : Int) : (ws.set i v).getD j 0 = if i = j ∧ j < ws.length then v else ws.getD j 0 := by
  by_cases e : i = j
  · subst e
    by_cases h : i < ws.length
    · rw [if_pos ⟨rfl, h⟩]; simp [List.getD, h]
    · rw [if_neg (fun c => h c.2)]; simp [List.getD, h]
  · rw [if_neg (fun c => e c.1)]
    simp [List.getD, List.getElem?_set_ne e]
theorem zeroAt_get : ∀ (xs ws : List Int) (j : Nat), (∀ a ∈ xs, 16 ≤ a) → (zeroAt ws xs).getD j 0 = if (16 + (j : Int)) ∈ xs then 0 else ws.getD j 0
  | [], _, _, _ => rfl
  | a :: xs, ws, j, h => by
    show (zeroAt (ws.set (a - 16).toNat 0) xs).getD j 0 = _
    rw [zeroAt_get xs _ j (fun b hb => h b (List.mem_cons_of_mem _ hb)), getD_set]
    have ha := h a List.mem_cons_self
    by_cases hx : (16 + (j : Int)) ∈ xs
    · rw [if_pos hx, if_pos (List.mem_cons_of_mem _ hx)]
    · rw [if_neg hx]
      by_cases e : 16 + (j : Int) = a
      · rw [if_pos (show (16 + (j : Int)) ∈ a :: xs by rw [e]; exact List.mem_cons_self)]
        split
        · rfl
        · next hn =>
          have : ¬ j < ws.length := fun hl => hn ⟨by omega, hl⟩
          simp [List.getD, this]
      · rw [if_neg (show ¬ (16 + (j : Int)) ∈ a :: xs from fun hm => (List.mem_cons.1 hm).elim e hx), if_neg (by omega)]
/-- A page is split for a class. -/
def splitD (d : Hd_) (n k p : Nat) : Hd_ := ⟨zeroAt d.ws (Cl.onS (Cl.put d.f p (1, k)) n p), Cl.put d.f p (1, k), Ls.upd d.F k (d.F k ++ (Cl.onS (Cl.put d.f p (1, k)) n p).reverse), d.cs⟩
/-- Two of a class's free cells are moved. -/
def fillD (d : Hd_) (k : Nat) : Hd_ := ⟨d.ws, d.f, Ls.upd d.F k ((d.F k).take ((d.F k).length - 2)), d.cs⟩
def fillG (F G : Nat → List Int) (k : Nat) : Nat → List Int := Ls.upd G k (G k ++ ((F k).drop ((F k).length - 2)).reverse)
def popG (G : Nat → List Int) (k : Nat) : Nat → List Int := Ls.upd G k ((G k).take ((G k).length - 1))
def popA (G : Nat → List Int) (k : Nat) : Int := (G k).getD ((G k).length - 1) 0
/-- A head's word at a; all else of the cell is noughts. -/
def beginD (d : Hd_) (n : Nat) (a x : Int) : Hd_ := ⟨(Ar.wipe d.ws (a - 16).toNat (Cl.bg d.f n a).toNat).set (a - 16).toNat x, d.f, d.F, d.cs⟩
def largeD (d : Hd_) (p : Nat) (m : Int) : Hd_ := ⟨d.ws, Cl.large d.f p m, d.F, d.cs⟩
/-- What is told of as free: how often an address is told. -/
def told (d : Hd_) (G : Nat → List Int) (r : Nat) (R : Nat → Nat → List Int) (x : Int) : Nat := (Ls.upTo d.F 3).count x + (Ls.upTo G 3).count x + (Ls.allOf R r).count x
structure OkayBut (n : Nat) (a : Int) (d : Hd_) (G : Nat → List Int) (r : Nat) (R : Nat → Nat → List Int) : Prop where
  may : Cl.mayB d.f n = true
  cell : ∀ y, ¬ Cl.bg d.f n y = 0 → ¬ y = a → cellAt d y = true
  fF : ∀ j, j < 3 → ∀ x ∈ d.F j, freeH d n x (j : Nat) = true
  fG : ∀ j, j < 3 → ∀ x ∈ G j, freeH d n x (j : Nat) = true
  fR : ∀ k, k < r → ∀ j, j < 3 → ∀ x ∈ R k j, freeH d n x (j : Nat) = true
  one : ∀ x, told d G r R x ≤ 1
def Okay (n : Nat) (d : Hd_) (G : Nat → List Int) (r : Nat) (R : Nat → Nat → List Int) : Prop := OkayBut n 0 d G r R
def Full (n : Nat) (a : Int) (d : Hd_) (G : Nat → List Int) (r : Nat) (R : Nat → Nat → List Int) : Prop := ∀ y, ¬ Cl.bg d.f n y = 0 → ¬ y = a → wd d y = 0 → 0 < told d G r R y
theorem ahead_all (g : Nat → List Int) (F : Nat → Nat → List Int) : ∀ m, Ls.allOf (ahead g F) (1 + m) = Ls.upTo g 3 ++ Ls.allOf F m
  | 0 => by simp [Ls.allOf, ahead]
  | m + 1 => by rw [all_ahead, ahead_all g F m, Ls.allOf_succ, List.append_assoc]
theorem count_upTo (g : Nat → List Int) (x : Int) : (Ls.upTo g 3).count x = (g 0).count x + (g 1).count x + (g 2).count x := by
  simp [Ls.upTo, List.range_succ, List.count_append]; omega
theorem told_all (d : Hd_) (G : Nat → List Int) (r : Nat) (R : Nat → Nat → List Int) (x : Int) : (Ls.allOf (ahead d.F (ahead G R)) (1 + (1 + r))).count x = told d G r R x := by
  rw [ahead_all, ahead_all, List.count_append, List.count_append]
  unfold told
  omega
theorem bg_zero (f : Nat → Int × Int) (n : Nat) {a : Int} (h : ¬ Cl.bg f n a = 0) : ¬ a = 0 := fun e => by have := bg_in16 h; omega
theorem okay_iff {s : Hs} {d : Hd_} {G : Nat → List Int} {r : Nat} {R : Nat → Nat → List Int} : mayH s d (1 + r) (ahead G R) = true ↔ firstB s d = true ∧ Okay s.p.n d G r R := by
  constructor
  · intro h
    obtain ⟨h1, h2, h3, h4⟩ := mayH_all h
    have hf : ∀ k, k < 1 + (1 + r) → ∀ j, j < 3 → ∀ x ∈ ahead d.F (ahead G R) k j, freeH d s.p.n x (j : Nat) = true := fun k hk j hj => by
      have h5 := List.all_eq_true.1 h3 k (List.mem_range.2 hk)
      have h6 := List.all_eq_true.1 h5 j (List.mem_range.2 hj)
      exact List.all_eq_true.1 h6
    refine ⟨h1, ?_, fun y hy _ => List.all_eq_true.1 h2 y (mem_allS.2 hy), fun j hj => hf 0 (by omega) j hj, fun j hj => hf 1 (by omega) j hj, fun k hk j hj => hf (k + 2) (by omega) j hj, fun x => ?_⟩
    · unfold firstB at h1
      simp only [Bool.and_eq_true] at h1
      exact h1.2.1
    · rw [← told_all]
      exact List.nodup_iff_count.1 h4 x
  · rintro ⟨h1, h⟩
    have e2 : (Cl.allS d.f s.p.n).all (cellAt d) = true := List.all_eq_true.2 fun y hy => h.cell y (mem_allS.1 hy) (bg_zero _ _ (mem_allS.1 hy))
    have e3 : freeAll d s.p.n (1 + (1 + r)) (ahead d.F (ahead G R)) = true := List.all_eq_true.2 fun k hk => List.all_eq_true.2 fun j hj => List.all_eq_true.2 fun x hx => by
      have hk := List.mem_range.1 hk
      have hj := List.mem_range.1 hj
      match k, hx, hk with
      | 0, hx, _ => exact h.fF j hj x hx
      | 1, hx, _ => exact h.fG j hj x hx
      | k + 2, hx, hk => exact h.fR k (by omega) j hj x hx
    have e4 : (Ls.allOf (ahead d.F (ahead G R)) (1 + (1 + r))).Nodup := List.nodup_iff_count.2 fun x => by rw [told_all]; exact h.one x
    simp [mayH, h1, e2, e3, e4]
section
variable {n r : Nat} {a : Int} {d d' : Hd_} {G : Nat → List Int} {R : Nat → Nat → List Int}
theorem cell_local {y : Int} (hw : wd d' y = wd d y) (hf : pgAt d' y = pgAt d y) : cellAt d' y = cellAt d y := by
  unfold cellAt
  rw [show d'.ws.getD (y - 16).toNat 0 = wd d' y from rfl, show d.ws.getD (y - 16).toNat 0 = wd d y from rfl, show d'.f (y / 16 - 1).toNat = pgAt d' y from rfl, show d.f (y / 16 - 1).toNat = pgAt d y from rfl, hw, hf]
theorem bg_local {f g : Nat → Int × Int} {y : Int} (h1 : Cl.mayB f n = true) (h2 : Cl.mayB g n = true) (e : g (y / 16 - 1).toNat = f (y / 16 - 1).toNat) : Cl.bg g n y = Cl.bg f n y := by
  unfold Cl.bg
  rw [h1, h2, e]
theorem free_local {y c : Int} (h1 : Cl.mayB d.f n = true) (h2 : Cl.mayB d'.f n = true) (hw : wd d' y = wd d y) (hf : pgAt d' y = pgAt d y) : freeH d' n y c = freeH d n y c := by
  unfold freeH
  rw [bg_local h1 h2 hf, show d'.ws.getD (y - 16).toNat 0 = wd d' y from rfl, show d.ws.getD (y - 16).toNat 0 = wd d y from rfl, show d'.f (y / 16 - 1).toNat = pgAt d' y from rfl, show d.f (y / 16 - 1).toNat = pgAt d y from rfl, hw, hf]
theorem free_facts {y c : Int} (h : freeH d n y c = true) : ¬ Cl.bg d.f n y = 0 ∧ pgAt d y = (1, c) ∧ wd d y = 0 := by
  unfold freeH at h
  split at h
  · cases h
  · next hb =>
    simp only [Bool.and_eq_true, decide_eq_true_eq, beq_iff_eq] at h
    exact ⟨hb, Prod.ext h.1.1 h.1.2, h.2⟩
theorem free_mk {y c : Int} (h1 : ¬ Cl.bg d.f n y = 0) (h2 : pgAt d y = (1, c)) (h3 : wd d y = 0) : freeH d n y c = true := by
  unfold freeH
  rw [if_neg h1, show d.ws.getD (y - 16).toNat 0 = wd d y from rfl, show d.f (y / 16 - 1).toNat = pgAt d y from rfl, h2, h3]
  simp
theorem upd_mem {F : Nat → List Int} {k j : Nat} {xs : List Int} {x : Int} (h : x ∈ Ls.upd F k xs j) : (j = k ∧ x ∈ xs) ∨ (¬ j = k ∧ x ∈ F j) := by
  unfold Ls.upd at h
  split at h
  · next e => exact .inl ⟨e, h⟩
  · next e => exact .inr ⟨e, h⟩
theorem upd_count {F : Nat → List Int} {k : Nat} {xs : List Int} {x : Int} (hk : k < 3) : (Ls.upTo (Ls.upd F k xs) 3).count x + (F k).count x = (Ls.upTo F 3).count x + xs.count x := by
  rw [count_upTo, count_upTo]
  rcases (show k = 0 ∨ k = 1 ∨ k = 2 by omega) with rfl | rfl | rfl
  · rw [Ls.upd_same, Ls.upd_other _ _ (by decide), Ls.upd_other _ _ (by decide)]; omega
  · rw [Ls.upd_same, Ls.upd_other _ _ (by decide), Ls.upd_other _ _ (by decide)]; omega
  · rw [Ls.upd_same, Ls.upd_other _ _ (by decide), Ls.upd_other _ _ (by decide)]; omega
/-- Two cells are moved. -/
theorem told_fill (k : Nat) (hk : k < 3) (x : Int) : told (fillD d k) (fillG d.F G k) r R x = told d G r R x := by
  have h1 := upd_count (F := d.F) (xs := (d.F k).take ((d.F k).length - 2)) (x := x) hk
  have h2 := upd_count (F := G) (xs := G k ++ ((d.F k).drop ((d.F k).length - 2)).reverse) (x := x) hk
  have h3 : (d.F k).count x = ((d.F k).take ((d.F k).length - 2)).count x + ((d.F k).drop ((d.F k).length - 2)).count x := by
    rw [← List.count_append, List.take_append_drop]
  rw [List.count_append, List.count_reverse] at h2
  unfold told fillD fillG
  simp only
  omega
theorem Okay.fill (h : Okay n d G r R) {k : Nat} (hk : k < 3) : Okay n (fillD d k) (fillG d.F G k) r R := by
  refine ⟨h.may, h.cell, fun j hj x hx => ?_, fun j hj x hx => ?_, h.fR, fun x => by rw [told_fill k hk]; exact h.one x⟩
  · rcases upd_mem hx with ⟨rfl, hx⟩ | ⟨_, hx⟩
    · exact h.fF _ hj x (List.mem_of_mem_take hx)
    · exact h.fF _ hj x hx
  · rcases upd_mem hx with ⟨rfl, hx⟩ | ⟨_, hx⟩
    · rcases List.mem_append.1 hx with hx | hx
      · exact h.fG _ hj x hx
      · exact h.fF _ hj x (List.mem_of_mem_drop (List.mem_reverse.1 hx))
    · exact h.fG _ hj x hx
theorem Full.fill (h : Full n a d G r R) {k : Nat} (hk : k < 3) : Full n a (fillD d k) (fillG d.F G k) r R := fun y h1 h2 h3 => by
  rw [told_fill k hk]
  exact h y h1 h2 h3
/-- The last cell of the cache is taken. -/
theorem told_pop {k : Nat} (hk : k < 3) (hg : 0 < (G k).length) (x : Int) : told d (popG G k) r R x + (if x = popA G k then 1 else 0) = told d G r R x := by
  have h1 := upd_count (F := G) (xs := (G k).take ((G k).length - 1)) (x := x) hk
  have h2 : G k = (G k).take ((G k).length - 1) ++ [popA G k] := by
    have := Ls.take_next (xs := G k) rfl (show (G k).length - 1 < (G k).length by omega)
    rwa [show (G k).length - 1 + 1 = (G k).length by omega, List.take_length] at this
  have h3 : (G k).count x = ((G k).take ((G k).length - 1)).count x + (if x = popA G k then 1 else 0) := by
    have h4 := congrArg (List.count x) h2
    rw [List.count_append] at h4
    rw [h4]
    congr 1
    by_cases e : x = popA G k
    · rw [if_pos e, e]; simp
    · rw [if_neg e]; simp [Ne.symm e]
  unfold told popG
  omega
theorem pop_free (h : Okay n d G r R) {k : Nat} (hk : k < 3) (hg : 0 < (G k).length) : freeH d n (popA G k) (k : Nat) = true := by
  exact h.fG k hk _ (getD_mem (by omega))
/-- .. and told of no more. -/
theorem pop_gone (h : Okay n d G r R) {k : Nat} (hk : k < 3) (hg : 0 < (G k).length) : told d (popG G k) r R (popA G k) = 0 := by
  have h1 := told_pop (d := d) (r := r) (R := R) hk hg (popA G k)
  have h2 := h.one (popA G k)
  rw [if_pos rfl] at h1
  omega
theorem Okay.pop (h : Okay n d G r R) {k : Nat} (hk : k < 3) (hg : 0 < (G k).length) : OkayBut n (popA G k) d (popG G k) r R := by
  refine ⟨h.may, fun y hy _ => h.cell y hy (bg_zero _ _ hy), h.fF, fun j hj x hx => ?_, h.fR, fun x => ?_⟩
  · rcases upd_mem hx with ⟨rfl, hx⟩ | ⟨_, hx⟩
    · exact h.fG _ hj x (List.mem_of_mem_take hx)
    · exact h.fG _ hj x hx
  · have h1 := told_pop (d := d) (r := r) (R := R) hk hg x
    have h2 := h.one x
    omega
theorem Full.pop (h : Full n 0 d G r R) {k : Nat} (hk : k < 3) (hg : 0 < (G k).length) : Full n (popA G k) d (popG G k) r R := fun y h1 h2 h3 => by
  have h4 := told_pop (d := d) (r := r) (R := R) hk hg y
  have h5 := h y h1 (bg_zero _ _ h1) h3
  rw [if_neg h2] at h4
  omega
end
section
variable {n r k p : Nat} {a : Int} {d : Hd_} {G : Nat → List Int} {R : Nat → Nat → List Int}
/-- What is told of is free. -/
theorem told_free (h : OkayBut n a d G r R) {x : Int} (hx : 0 < told d G r R x) : ∃ c : Int, freeH d n x c = true := by
  unfold told at hx
  have hc : 0 < (Ls.upTo d.F 3).count x ∨ 0 < (Ls.upTo G 3).count x ∨ 0 < (Ls.allOf R r).count x := by omega
  rcases hc with h1 | h1 | h1
  · obtain ⟨j, hj, hm⟩ := mem_upTo3.1 (List.count_pos_iff.1 h1)
    exact ⟨_, h.fF j hj x hm⟩
  · obtain ⟨j, hj, hm⟩ := mem_upTo3.1 (List.count_pos_iff.1 h1)
    exact ⟨_, h.fG j hj x hm⟩
  · obtain ⟨i, j, hi, hj, hm⟩ := mem_allOf.1 (List.count_pos_iff.1 h1)
    exact ⟨_, h.fR i hi j hj x hm⟩
theorem pg_none (y : Int) : Cl.pg (0, 0) y = 0 := by simp [Cl.pg]
theorem pg_rest (y : Int) : Cl.pg (3, 0) y = 0 := by simp [Cl.pg]
theorem bg_page {f : Nat → Int × Int} {y : Int} (h : ¬ Cl.bg f n y = 0) : Cl.mayB f n = true ∧ 16 ≤ y ∧ y < 16 + 16 * (n : Int) ∧ Cl.bg f n y = Cl.pg (f (y / 16 - 1).toNat) y := by
  unfold Cl.bg at h ⊢
  split at h
  · next hc => rw [if_pos hc]; exact ⟨hc.1, hc.2.1, hc.2.2, rfl⟩
  · exact absurd rfl h
/-- A cell's page is not one that is free. -/
theorem cell_off {f : Nat → Int × Int} {y : Int} {q : Nat} (h : ¬ Cl.bg f n y = 0) (hq : f q = (0, 0)) : ¬ (y / 16 - 1).toNat = q := fun e => by
  have h1 := bg_page h
  rw [h1.2.2.2, e, hq, pg_none] at h
  exact h rfl
theorem page_toNat {y : Int} (h : 16 ≤ y) (q : Nat) : (y / 16 - 1).toNat = q ↔ y / 16 - 1 = (q : Int) := by omega
theorem mem_on {f : Nat → Int × Int} {y : Int} : y ∈ Cl.onS f n p ↔ ¬ Cl.bg f n y = 0 ∧ (y / 16 - 1).toNat = p := by
  rw [← Cl.filter_allS, List.mem_filter, mem_allS, beq_iff_eq]
  constructor
  · rintro ⟨h1, h2⟩; exact ⟨h1, (page_toNat (bg_in16 h1) p).2 h2⟩
  · rintro ⟨h1, h2⟩; exact ⟨h1, (page_toNat (bg_in16 h1) p).1 h2⟩
theorem on_in16 {f : Nat → Int × Int} {q : Int} : ∀ y ∈ Cl.onS f n q, 16 ≤ y := fun y hy => by
  rw [← Cl.filter_allS, List.mem_filter, mem_allS] at hy
  exact bg_in16 hy.1
theorem on_nodup (f : Nat → Int × Int) (n : Nat) (q : Int) : (Cl.onS f n q).Nodup := by
  rw [← Cl.filter_allS]
  exact ((allS_lt f n).sublist List.filter_sublist).imp fun h => by omega
theorem on_short (f : Nat → Int × Int) (n : Nat) (q : Int) : (Cl.onS f n q).length ≤ 8 := by
  unfold Cl.onS
  split
  · next h => rw [List.length_map, Cl.pageL_length]; exact (Cl.num_room (Cl.may_pm h.1 (by omega))).1
  · simp
theorem wd_split {y : Int} (hy : 16 ≤ y) : wd (splitD d n k p) y = if y ∈ Cl.onS (Cl.put d.f p (1, k)) n p then 0 else wd d y := by
  unfold wd splitD
  simp only
  rw [zeroAt_get _ _ _ on_in16, show (16 + ((y - 16).toNat : Int)) = y by omega]
theorem find_one (h : Cl.findO d.f n 1 = some p) : Cl.mayB d.f n = true ∧ p < n ∧ (d.f p).1 = 0 := by
  obtain ⟨h1, _, h3, h4, _⟩ := Cl.findO_some.1 h
  have h5 := (Cl.freeB_iff _ _ _).1 h4 0 (by decide)
  exact ⟨h1, by have : (1 : Int).toNat = 1 := rfl; omega, by simpa using h5⟩
theorem told_split (hk : k < 3) (x : Int) : told (splitD d n k p) G r R x = told d G r R x + (Cl.onS (Cl.put d.f p (1, k)) n p).count x := by
  have h1 := upd_count (F := d.F) (xs := d.F k ++ (Cl.onS (Cl.put d.f p (1, k)) n p).reverse) (x := x) hk
  rw [List.count_append, List.count_reverse] at h1
  unfold told splitD
  simp only
  omega
theorem split_may (h : Cl.findO d.f n 1 = some p) (hk : k < 3) : Cl.mayB (Cl.put d.f p (1, (k : Int))) n = true := by
  obtain ⟨h1, h2, h3⟩ := find_one h
  exact Cl.small_may h1 h2 h3 (by omega) (by omega)
/-- A cell of another page, behind the split. -/
theorem split_other (h : Cl.findO d.f n 1 = some p) (hk : k < 3) {y : Int} (h16 : 16 ≤ y) (hy : ¬ (y / 16 - 1).toNat = p) : wd (splitD d n k p) y = wd d y ∧ pgAt (splitD d n k p) y = pgAt d y ∧ Cl.bg (splitD d n k p).f n y = Cl.bg d.f n y := by
  have h1 : pgAt (splitD d n k p) y = pgAt d y := Cl.put_ne hy
  refine ⟨?_, h1, bg_local (find_one h).1 (split_may h hk) h1⟩
  rw [wd_split h16, if_neg fun hm => hy (mem_on.1 hm).2]
theorem split_on {y : Int} (hy : y ∈ Cl.onS (Cl.put d.f p (1, (k : Int))) n p) : freeH (splitD d n k p) n y (k : Nat) = true := by
  obtain ⟨h1, h2⟩ := mem_on.1 hy
  refine free_mk h1 ?_ (by rw [wd_split (bg_in16 h1), if_pos hy])
  show Cl.put d.f p (1, (k : Int)) _ = _
  rw [h2, Cl.put_eq]
theorem split_keeps (h : Cl.findO d.f n 1 = some p) (hk : k < 3) {x c : Int} (hx : freeH d n x c = true) : freeH (splitD d n k p) n x c = true := by
  obtain ⟨h1, h2, h3⟩ := find_one h
  have hb := (free_facts hx).1
  have ho := split_other h hk (bg_in16 hb) (cell_off hb (Cl.free_zero h1 h2 h3).1)
  rw [free_local (d := d) (d' := splitD d n k p) h1 (split_may h hk) ho.1 ho.2.1]
  exact hx
theorem Okay.split (h : Okay n d G r R) (hf : Cl.findO d.f n 1 = some p) (hk : k < 3) : Okay n (splitD d n k p) G r R := by
  obtain ⟨h1, h2, h3⟩ := find_one hf
  have hz := (Cl.free_zero h1 h2 h3).1
  refine ⟨split_may hf hk, fun y hy _ => ?_, fun j hj x hx => ?_, fun j hj x hx => split_keeps hf hk (h.fG j hj x hx), fun i hi j hj x hx => split_keeps hf hk (h.fR i hi j hj x hx), fun x => ?_⟩
  · have h16 := bg_in16 hy
    by_cases hp : (y / 16 - 1).toNat = p
    · have hon : y ∈ Cl.onS (Cl.put d.f p (1, (k : Int))) n p := mem_on.2 ⟨hy, hp⟩
      obtain ⟨_, e2, e3⟩ := free_facts (split_on hon)
      unfold cellAt
      rw [show (splitD d n k p).ws.getD (y - 16).toNat 0 = wd (splitD d n k p) y from rfl, show (splitD d n k p).f (y / 16 - 1).toNat = pgAt (splitD d n k p) y from rfl, e2, e3]
      rfl
    · obtain ⟨e1, e2, e3⟩ := split_other hf hk h16 hp
      rw [cell_local e1 e2]
      rw [e3] at hy
      exact h.cell y hy (bg_zero _ _ hy)
  · rcases upd_mem hx with ⟨rfl, hx⟩ | ⟨_, hx⟩
    · rcases List.mem_append.1 hx with hx | hx
      · exact split_keeps hf hk (h.fF _ hj x hx)
      · exact split_on (List.mem_reverse.1 hx)
    · exact split_keeps hf hk (h.fF _ hj x hx)
  · rw [told_split hk]
    have h4 := h.one x
    have h5 := List.nodup_iff_count.1 (on_nodup (Cl.put d.f p (1, (k : Int))) n p) x
    by_cases hm : x ∈ Cl.onS (Cl.put d.f p (1, (k : Int))) n p
    · have h6 : told d G r R x = 0 := Nat.eq_zero_of_not_pos fun hc => by
        obtain ⟨c, hc⟩ := told_free h hc
        exact cell_off (free_facts hc).1 hz (mem_on.1 hm).2
      omega
    · have h7 := List.count_eq_zero_of_not_mem hm
      omega
theorem Full.split (hF : Full n 0 d G r R) (hf : Cl.findO d.f n 1 = some p) (hk : k < 3) : Full n 0 (splitD d n k p) G r R := fun y hy _ h0 => by
  rw [told_split hk]
  by_cases hp : (y / 16 - 1).toNat = p
  · have hon : y ∈ Cl.onS (Cl.put d.f p (1, (k : Int))) n p := mem_on.2 ⟨hy, hp⟩
    have := List.count_pos_iff.2 hon
    omega
  · obtain ⟨e1, e2, e3⟩ := split_other hf hk (bg_in16 hy) hp
    rw [e3] at hy
    rw [e1] at h0
    have := hF y hy (bg_zero _ _ hy) h0
    omega
/-- Pages for a large one. -/
theorem find_run {m : Int} (h : Cl.findO d.f n m = some p) : Cl.mayB d.f n = true ∧ 1 ≤ m ∧ m ≤ 4 ∧ (p : Int) + m ≤ n ∧ Cl.freeB d.f p m.toNat = true := by
  obtain ⟨h1, h2, h3, h4, _⟩ := Cl.findO_some.1 h
  have h5 := (Cl.runB_iff m).1 h2
  exact ⟨h1, h5.1, h5.2, by omega, h4⟩
theorem large_in {f : Nat → Int × Int} {m : Int} {q : Nat} : (q = p → Cl.large f p m q = (2, m)) ∧ (p < q → (q : Int) < p + m → Cl.large f p m q = (3, 0)) ∧ (q < p ∨ (p : Int) + m ≤ q → 1 ≤ m → Cl.large f p m q = f q) := by
  unfold Cl.large
  refine ⟨fun e => if_pos e, fun h1 h2 => ?_, fun h1 h2 => ?_⟩
  · rw [if_neg (by omega), if_pos ⟨h1, h2⟩]
  · rw [if_neg (by omega), if_neg (by omega)]
theorem large_free {m : Int} (h : Cl.findO d.f n m = some p) {q : Nat} (h1 : p ≤ q) (h2 : (q : Int) < p + m) : d.f q = (0, 0) := by
  obtain ⟨g1, g2, g3, g4, g5⟩ := find_run h
  have h3 := (Cl.freeB_iff _ _ _).1 g5 (q - p) (by omega)
  rw [show p + (q - p) = q by omega] at h3
  exact (Cl.free_zero g1 (by omega) h3).1
theorem large_off {m : Int} (h : Cl.findO d.f n m = some p) {y : Int} (hy : ¬ Cl.bg d.f n y = 0) : (y / 16 - 1).toNat < p ∨ (p : Int) + m ≤ (y / 16 - 1).toNat := by
  rcases Nat.lt_or_ge (y / 16 - 1).toNat p with h1 | h1
  · exact .inl h1
  · by_cases h2 : (((y / 16 - 1).toNat : Nat) : Int) < p + m
    · exact absurd rfl (cell_off hy (large_free h h1 h2))
    · exact .inr (by omega)
theorem large_mayB {m : Int} (h : Cl.findO d.f n m = some p) : Cl.mayB (Cl.large d.f p m) n = true := by
  obtain ⟨g1, g2, g3, g4, g5⟩ := find_run h
  exact Cl.large_may g1 g2 g3 g4 g5
theorem large_other {m : Int} (h : Cl.findO d.f n m = some p) {y : Int} (hy : ¬ Cl.bg d.f n y = 0) : pgAt (largeD d p m) y = pgAt d y ∧ Cl.bg (largeD d p m).f n y = Cl.bg d.f n y := by
  have h1 : pgAt (largeD d p m) y = pgAt d y := large_in.2.2 (large_off h hy) (find_run h).2.1
  exact ⟨h1, bg_local (find_run h).1 (large_mayB h) h1⟩
theorem large_cell {m : Int} (h : Cl.findO d.f n m = some p) {y : Int} (hy : ¬ Cl.bg (largeD d p m).f n y = 0) : y = 16 + 16 * (p : Int) ∨ ¬ Cl.bg d.f n y = 0 := by
  obtain ⟨g1, g2, g3, g4, g5⟩ := find_run h
  have h1 := bg_page hy
  have h2 := h1.2.2.2
  have h16 := h1.2.1
  rw [h2] at hy
  rcases Nat.lt_trichotomy (y / 16 - 1).toNat p with h3 | h3 | h3
  · have e : (largeD d p m).f (y / 16 - 1).toNat = d.f (y / 16 - 1).toNat := large_in.2.2 (.inl h3) g2
    rw [← bg_local g1 (large_mayB h) e, show Cl.large d.f p m = (largeD d p m).f from rfl, h2]
    exact .inr hy
  · have e : (largeD d p m).f (y / 16 - 1).toNat = (2, m) := large_in.1 h3
    rw [e] at hy
    left
    have h4 : y % 16 = 0 := Classical.byContradiction fun hn => hy (by simp [Cl.pg, hn])
    have h5 := (page_toNat h16 p).1 h3
    omega
  · by_cases h4 : (((y / 16 - 1).toNat : Nat) : Int) < p + m
    · have e : (largeD d p m).f (y / 16 - 1).toNat = (3, 0) := large_in.2.1 h3 h4
      rw [e, pg_rest] at hy
      exact absurd rfl hy
    · have e : (largeD d p m).f (y / 16 - 1).toNat = d.f (y / 16 - 1).toNat := large_in.2.2 (.inr (by omega)) g2
      rw [← bg_local g1 (large_mayB h) e, show Cl.large d.f p m = (largeD d p m).f from rfl, h2]
      exact .inr hy
theorem large_at {m : Int} (h : Cl.findO d.f n m = some p) : Cl.bg (largeD d p m).f n (16 + 16 * (p : Int)) = 16 * m ∧ pgAt (largeD d p m) (16 + 16 * (p : Int)) = (2, m) ∧ Cl.bg d.f n (16 + 16 * (p : Int)) = 0 := by
  obtain ⟨g1, g2, g3, g4, g5⟩ := find_run h
  have e1 : ((16 + 16 * (p : Int)) / 16 - 1).toNat = p := by omega
  have e2 : (16 + 16 * (p : Int)) / 16 - 1 = p := by omega
  have e3 : pgAt (largeD d p m) (16 + 16 * (p : Int)) = (2, m) := by
    unfold pgAt
    rw [e1]
    exact large_in.1 rfl
  refine ⟨?_, e3, ?_⟩
  · show Cl.bg (Cl.large d.f p m) n (16 + 16 * (p : Int)) = 16 * m
    rw [Cl.bg_in (k := p) (large_mayB h) (by omega) (by omega) e2, show (Cl.large d.f p m) p = (2, m) from large_in.1 rfl]
    unfold Cl.pg
    rw [if_pos ⟨rfl, by omega⟩]
  · rw [Cl.bg_in (k := p) g1 (by omega) (by omega) e2, large_free h (Nat.le_refl _) (by omega), pg_none]
theorem large_keeps {m : Int} (h : Cl.findO d.f n m = some p) {x c : Int} (hx : freeH d n x c = true) : freeH (largeD d p m) n x c = true := by
  have ho := large_other h (free_facts hx).1
  rw [free_local (d := d) (d' := largeD d p m) (find_run h).1 (large_mayB h) rfl ho.1]
  exact hx
theorem Okay.large {m : Int} (h : Okay n d G r R) (hf : Cl.findO d.f n m = some p) : OkayBut n (16 + 16 * (p : Int)) (largeD d p m) G r R := by
  refine ⟨large_mayB hf, fun y hy hne => ?_, fun j hj x hx => large_keeps hf (h.fF j hj x hx), fun j hj x hx => large_keeps hf (h.fG j hj x hx), fun i hi j hj x hx => large_keeps hf (h.fR i hi j hj x hx), h.one⟩
  have hb := (large_cell hf hy).resolve_left hne
  rw [cell_local (d := d) (d' := largeD d p m) rfl (large_other hf hb).1]
  exact h.cell y hb (bg_zero _ _ hb)
theorem Full.large {m : Int} (hF : Full n 0 d G r R) (hf : Cl.findO d.f n m = some p) : Full n (16 + 16 * (p : Int)) (largeD d p m) G r R := fun y hy hne h0 => by
  have hb := (large_cell hf hy).resolve_left hne
  exact hF y hb (bg_zero _ _ hb) h0
theorem large_gone {m : Int} (h : Okay n d G r R) (hf : Cl.findO d.f n m = some p) : told (largeD d p m) G r R (16 + 16 * (p : Int)) = 0 := Nat.eq_zero_of_not_pos fun hc => by
  obtain ⟨c, hc⟩ := told_free h (x := 16 + 16 * (p : Int)) hc
  exact (free_facts hc).1 (large_at hf).2.2
/-- A cell's words lie apart from every other one's. -/
theorem cells_off {f : Nat → Int × Int} {x y : Int} (hx : ¬ Cl.bg f n x = 0) (hy : ¬ Cl.bg f n y = 0) (hne : ¬ y = x) : ¬ (x ≤ y ∧ y < x + Cl.bg f n x) := fun hc => by
  have h1 := (Cl.bg_nonneg f n y).1
  refine hne (cov_one (a := y) (mem_allS.2 hy) (mem_allS.2 hx) ?_ ?_)
  · unfold cov; simp only [Bool.and_eq_true, decide_eq_true_eq]; omega
  · unfold cov; simp only [Bool.and_eq_true, decide_eq_true_eq]; exact hc
theorem cell_end {f : Nat → Int × Int} {x : Int} (hx : ¬ Cl.bg f n x = 0) : 16 ≤ x ∧ 2 ≤ Cl.bg f n x ∧ x + Cl.bg f n x ≤ 16 + 16 * (n : Int) := by
  obtain ⟨c, hc, rfl⟩ := List.mem_map.1 (mem_allS.2 hx)
  rw [Cl.bg_cell hc]
  have h1 := (Cl.allL_apart f n).2 c hc
  exact ⟨h1.1, h1.2, (Cl.allL_end hc).2⟩
theorem wd_begin {x : Int} (hb : ¬ Cl.bg d.f n a = 0) (hl : d.ws.length = 16 * n) {y : Int} (hy : 16 ≤ y) : wd (beginD d n a x) y = if y = a then x else if a ≤ y ∧ y < a + Cl.bg d.f n a then 0 else wd d y := by
  have h1 := cell_end hb
  unfold wd beginD
  simp only
  rw [getD_set, Ar.wipe_length, Ar.wipe_getD _ _ _ _ (by omega)]
  by_cases e : y = a
  · rw [if_pos ⟨by omega, by omega⟩, if_pos e]
  · rw [if_neg (by omega), if_neg e]
    by_cases e2 : a ≤ y ∧ y < a + Cl.bg d.f n a
    · rw [if_pos e2, if_pos ⟨by omega, by omega⟩]
    · rw [if_neg e2, if_neg (by omega)]
theorem begin_other {x : Int} (hb : ¬ Cl.bg d.f n a = 0) (hl : d.ws.length = 16 * n) {y : Int} (hy : ¬ Cl.bg d.f n y = 0) (hne : ¬ y = a) : wd (beginD d n a x) y = wd d y := by
  rw [wd_begin hb hl (bg_in16 hy), if_neg hne, if_neg (cells_off hb hy hne)]
theorem begin_at {x : Int} (hb : ¬ Cl.bg d.f n a = 0) (hl : d.ws.length = 16 * n) : wd (beginD d n a x) a = x := by
  rw [wd_begin hb hl (bg_in16 hb), if_pos rfl]
theorem begin_keeps {x : Int} (hm : Cl.mayB d.f n = true) (hb : ¬ Cl.bg d.f n a = 0) (hl : d.ws.length = 16 * n) {y c : Int} (hne : ¬ y = a) (hy : freeH d n y c = true) : freeH (beginD d n a x) n y c = true := by
  rw [free_local (d' := beginD d n a x) hm hm (begin_other hb hl (free_facts hy).1 hne) rfl]
  exact hy
theorem OkayBut.begin {x : Int} (h : OkayBut n a d G r R) (hg : told d G r R a = 0) (hb : ¬ Cl.bg d.f n a = 0) (hl : d.ws.length = 16 * n) (hx : cellB x (pgAt d a) = true) : Okay n (beginD d n a x) G r R := by
  have hne : ∀ y, 0 < told d G r R y → ¬ y = a := fun y hy e => by rw [e] at hy; omega
  have t1 : ∀ j, j < 3 → ∀ y ∈ d.F j, ¬ y = a := fun j hj y hy => hne y (by have := List.count_pos_iff.2 (mem_upTo3.2 ⟨j, hj, hy⟩); unfold told; omega)
  have t2 : ∀ j, j < 3 → ∀ y ∈ G j, ¬ y = a := fun j hj y hy => hne y (by have := List.count_pos_iff.2 (mem_upTo3.2 ⟨j, hj, hy⟩); unfold told; omega)
  have t3 : ∀ i, i < r → ∀ j, j < 3 → ∀ y ∈ R i j, ¬ y = a := fun i hi j hj y hy => hne y (by have := List.count_pos_iff.2 (mem_allOf.2 ⟨i, j, hi, hj, hy⟩); unfold told; omega)
  refine ⟨h.may, fun y hy _ => ?_, fun j hj y hy => begin_keeps h.may hb hl (t1 j hj y hy) (h.fF j hj y hy), fun j hj y hy => begin_keeps h.may hb hl (t2 j hj y hy) (h.fG j hj y hy), fun i hi j hj y hy => begin_keeps h.may hb hl (t3 i hi j hj y hy) (h.fR i hi j hj y hy), h.one⟩
  by_cases e : y = a
  · subst e
    unfold cellAt
    rw [show (beginD d n y x).ws.getD (y - 16).toNat 0 = wd (beginD d n y x) y from rfl, begin_at hb hl]
    exact hx
  · rw [cell_local (d' := beginD d n a x) (begin_other hb hl hy e) rfl]
    exact h.cell y hy e
theorem Full.begin {x : Int} (h : Full n a d G r R) (hb : ¬ Cl.bg d.f n a = 0) (hl : d.ws.length = 16 * n) (hx : ¬ x = 0) : Full n 0 (beginD d n a x) G r R := fun y hy _ h0 => by
  by_cases e : y = a
  · subst e
    rw [begin_at hb hl] at h0
    exact absurd h0 hx
  · rw [begin_other hb hl hy e] at h0
    exact h y hy e h0
end
end Go.Proofs.YtmalopciboikhaaGreatDoor
end
section
namespace Go.Proofs.YtmalopciboikhaaGreatDoor
open Go.RowKit
set_option maxRecDepth 100000

/-- The cache has a cell of the class, behind this. -/
def smallO (d : Hd_) (n : Nat) (G : Nat → List Int) (k : Nat) : Option (Hd_ × (Nat → List Int)) :=
  if 0 < (G k).length then some (d, G)
  else if 0 < (d.F k).length then some (fillD d k, fillG d.F G k)
  else match Cl.findO d.f n 1 with
    | some p => some (fillD (splitD d n k p) k, fillG (splitD d n k p).F G k)
    | none => none
/-- A cell is taken for N fields: what is left, and where it begins. -/
def takeO (d : Hd_) (n : Nat) (G : Nat → List Int) (N : Int) : Option (Hd_ × (Nat → List Int) × Int) :=
  if Cl.classOf N = 3 then (match Cl.findO d.f n (Cl.runOf N) with
    | some p => some (largeD d p (Cl.runOf N), G, 16 + 16 * (p : Int))
    | none => none)
  else match smallO d n G (Cl.classOf N).toNat with
    | some q => some (q.1, popG q.2 (Cl.classOf N).toNat, popA q.2 (Cl.classOf N).toNat)
    | none => none
/-- What is told. -/
structure Tk where
  er : Int
  wn : Nat
  pn : Nat
  cn : Nat
  d : Hd_
  G : Nat → List Int
  a : Int
def dNone : Hd_ := ⟨[], fun _ => (0, 0), Ls.noLists, fun _ => false⟩
def tkNo (er : Int) : Tk := ⟨er, 0, 0, 0, dNone, Ls.noLists, 0⟩
def argE (s : Hs) (d : Hd_) (G : Nat → List Int) (u o e : Bool) (N b m : Int) : Int := if mayH s d 1 (fun _ => G) = true ∧ Hd.mayB u o e N b m = true ∧ u = true then Cl.classErr N else 1
def tkR (s : Hs) (d : Hd_) (G : Nat → List Int) (u o e : Bool) (N b m : Int) : Tk :=
  if argE s d G u o e N b m = 0 then (match takeO d s.p.n G N with
    | some q => ⟨0, s.w.n, s.p.n, s.c.n, beginD q.1 s.p.n q.2.2 (Hd.word u o e N b m), q.2.1, q.2.2⟩
    | none => tkNo 4)
  else tkNo (argE s d G u o e N b m)
theorem class_cases {N : Int} (h : Cl.classErr N = 0) : 1 ≤ N ∧ N ≤ 63 := by
  unfold Cl.classErr at h
  split at h
  · omega
  · split at h <;> omega
theorem class_small {N : Int} (h3 : ¬ Cl.classOf N = 3) : 0 ≤ Cl.classOf N ∧ Cl.classOf N ≤ 2 := by
  unfold Cl.classOf at h3 ⊢
  repeat' split
  all_goals first | omega | (simp_all)
theorem class_large {N : Int} (h : Cl.classErr N = 0) (h3 : Cl.classOf N = 3) : Cl.runErr N = 0 ∧ 1 ≤ Cl.runOf N ∧ Cl.runOf N ≤ 4 := by
  have h1 := class_cases h
  unfold Cl.classOf at h3
  unfold Cl.runErr Cl.runOf
  repeat' split at h3
  all_goals first | omega | skip
  repeat' split
  all_goals omega
section
variable {n r : Nat} {d : Hd_} {G : Nat → List Int} {R : Nat → Nat → List Int}
theorem split_len (f : Nat → Int × Int) {n k p : Nat} (h : Cl.mayB (Cl.put f p (1, (k : Int))) n = true) (hp : p < n) (hk : k < 3) : 2 ≤ (Cl.onS (Cl.put f p (1, (k : Int))) n p).length := by
  unfold Cl.onS
  rw [if_pos ⟨h, by omega, by omega⟩, List.length_map, Cl.pageL_length, Int.toNat_natCast, Cl.put_eq]
  rcases (show k = 0 ∨ k = 1 ∨ k = 2 by omega) with rfl | rfl | rfl <;> decide
/-- What the cache is filled with. -/
theorem smallO_some {k : Nat} (hk : k < 3) {q : Hd_ × (Nat → List Int)} (h : smallO d n G k = some q) : 0 < (q.2 k).length ∧ (Okay n d G r R → Okay n q.1 q.2 r R) ∧ (Full n 0 d G r R → Full n 0 q.1 q.2 r R) ∧ q.1.ws.length = d.ws.length := by
  have hfl : ∀ F : Nat → List Int, 0 < (F k).length → 0 < (fillG F G k k).length := fun F hF => by
    unfold fillG
    rw [Ls.upd_same, List.length_append, List.length_reverse, List.length_drop]
    omega
  unfold smallO at h
  split at h
  · next h1 => cases h; exact ⟨h1, id, id, rfl⟩
  · split at h
    · next h2 => cases h; exact ⟨hfl _ h2, fun h => h.fill hk, fun h => h.fill hk, rfl⟩
    · split at h
      · next p hp =>
        cases h
        refine ⟨hfl _ ?_, fun h => (h.split hp hk).fill hk, fun h => (h.split hp hk).fill hk, zeroAt_len _ _⟩
        unfold splitD
        simp only
        rw [Ls.upd_same, List.length_append, List.length_reverse]
        have := split_len d.f (split_may hp hk) (find_one hp).2.1 hk
        omega
      · cases h
/-- What is taken. -/
structure Taken (n : Nat) (d : Hd_) (G : Nat → List Int) (r : Nat) (R : Nat → Nat → List Int) (N : Int) (d' : Hd_) (G' : Nat → List Int) (a : Int) : Prop where
  okay : Okay n d G r R → OkayBut n a d' G' r R
  full : Full n 0 d G r R → Full n a d' G' r R
  gone : Okay n d G r R → told d' G' r R a = 0
  cell : Okay n d G r R → ¬ Cl.bg d'.f n a = 0
  fits : Okay n d G r R → (pgAt d' a = (1, Cl.classOf N) ∧ ¬ Cl.classOf N = 3) ∨ (pgAt d' a = (2, Cl.runOf N) ∧ Cl.classOf N = 3)
  len : d'.ws.length = d.ws.length
theorem takeO_some {N : Int} {q : Hd_ × (Nat → List Int) × Int} (h : takeO d n G N = some q) : Taken n d G r R N q.1 q.2.1 q.2.2 := by
  unfold takeO at h
  split at h
  · next h3 =>
    split at h
    · next p hp =>
      cases h
      exact ⟨fun h => h.large hp, fun h => h.large hp, fun h => large_gone h hp, fun _ => by rw [(large_at hp).1]; have := (find_run hp).2.1; omega, fun _ => .inr ⟨(large_at hp).2.1, h3⟩, rfl⟩
    · cases h
  · next h3 =>
    have hc := class_small h3
    have hk : (Cl.classOf N).toNat < 3 := by omega
    split at h
    · next q' hq =>
      cases h
      obtain ⟨h1, h2, h4, h5⟩ := smallO_some (r := r) (R := R) hk hq
      refine ⟨fun h => (h2 h).pop hk h1, fun h => (h4 h).pop hk h1, fun h => pop_gone (h2 h) hk h1, fun h => (free_facts (pop_free (h2 h) hk h1)).1, fun h => .inl ⟨?_, h3⟩, h5⟩
      rw [(free_facts (pop_free (h2 h) hk h1)).2.1]
      have : (((Cl.classOf N).toNat : Nat) : Int) = Cl.classOf N := by omega
      rw [this]
    · cases h
end
end Go.Proofs.YtmalopciboikhaaGreatDoor
end
section
namespace Go.Proofs.YtmalopciboikhaaGreatDoor
open Go.RowKit
set_option maxRecDepth 100000

/-- How many words, pages and cards there are stays. -/
def Same3 (t t' : Hs) : Prop := t'.w.n = t.w.n ∧ t'.p.n = t.p.n ∧ t'.c.n = t.c.n
/-- What room is taken from may be, as far as sizes go. -/
structure Fit (t : Hs) : Prop where
  w : Ar.mayB t.w.n = true
  wp : t.w.n = 16 * t.p.n
  p : t.p.n ≤ 64
theorem fit_first {s : Hs} {d : Hd_} (h : firstB s d = true) : Fit s := by
  unfold firstB wordsB at h
  simp only [Bool.and_eq_true, decide_eq_true_eq] at h
  have := ((Cl.mayB_iff _ _).1 h.2.1)
  exact ⟨Ar.mayB_iff.2 h.1, h.2.2.1, this.2.1⟩
/-- A cell's room, page and words are as they were. -/
structure Same4 (n : Nat) (d d' : Hd_) (y : Int) : Prop where
  bg : Cl.bg d'.f n y = Cl.bg d.f n y
  pg : pgAt d' y = pgAt d y
  wd : ∀ z, y ≤ z → z < y + Cl.bg d.f n y → wd d' z = wd d z
theorem Same4.trans {n : Nat} {d d' d2 : Hd_} {y : Int} (h : Same4 n d d' y) (k : Same4 n d' d2 y) : Same4 n d d2 y := ⟨k.bg.trans h.bg, k.pg.trans h.pg, fun z h1 h2 => (k.wd z h1 (by rw [h.bg]; exact h2)).trans (h.wd z h1 h2)⟩
theorem Same4.refl (n : Nat) (d : Hd_) (y : Int) : Same4 n d d y := ⟨rfl, rfl, fun _ _ _ => rfl⟩
/-- A word lies in one cell. -/
theorem word_one {n : Nat} {f : Nat → Int × Int} {x y z : Int} (hx : ¬ Cl.bg f n x = 0) (hy : ¬ Cl.bg f n y = 0) (h1 : x ≤ z ∧ z < x + Cl.bg f n x) (h2 : y ≤ z ∧ z < y + Cl.bg f n y) : x = y :=
  cov_one (a := z) (mem_allS.2 hx) (mem_allS.2 hy) (by unfold cov; simp only [Bool.and_eq_true, decide_eq_true_eq]; exact h1) (by unfold cov; simp only [Bool.and_eq_true, decide_eq_true_eq]; exact h2)
theorem firstB_of {s t : Hs} {d d' : Hd_} (h : firstB s d = true) (hm : Cl.mayB d'.f s.p.n = true) (h1 : t.w.n = s.w.n) (h2 : t.p.n = s.p.n) (h3 : t.c.n = s.c.n) : firstB t d' = true := by
  unfold firstB at h ⊢
  simp only [Bool.and_eq_true, decide_eq_true_eq] at h ⊢
  rw [h1, h2, h3]
  exact ⟨h.1, hm, h.2.2⟩
/-- What is handed to Take is not too great. -/
structure FineT (s : Hs) (d : Hd_) (u : Nat → Ls.Sl) (G : Nat → List Int) : Prop where
  fine : Fine s d
  lu : ∀ j, j < 3 → (s.u j).n ≤ 1000000
  lg : ∀ j, j < 3 → (u j).n ≤ 1000000
  all : (Ls.allOf (ahead d.F (fun _ => G)) (1 + 1)).length ≤ 2000000
end Go.Proofs.YtmalopciboikhaaGreatDoor
end
section
namespace Go.Proofs.YtmalopciboikhaaGreatDoor
open Go.RowKit
set_option maxRecDepth 100000

/-- The cells of page p that Free tells of. -/
def onFree (d : Hd_) (p : Nat) : List Int := Ls.inOf (16 + 16 * (p : Int)) (32 + 16 * (p : Int)) (d.F (d.f p).2.toNat)
def givenB (d : Hd_) (p : Nat) : Bool := decide ((d.f p).1 = 1) && !decide (((onFree d p).length : Int) < Cl.perPage (d.f p).2)
def gaveD (d : Hd_) (p : Nat) : Hd_ := ⟨d.ws, Cl.drop d.f p, Ls.upd d.F (d.f p).2.toNat (Ls.outOf (16 + 16 * (p : Int)) (32 + 16 * (p : Int)) (d.F (d.f p).2.toNat)), d.cs⟩
/-- A page is given back, if it may be. -/
def backD (d : Hd_) (p : Nat) : Hd_ := if givenB d p = true then gaveD d p else d
def flushTo (d : Hd_) : Nat → Hd_
  | 0 => d
  | k + 1 => backD (flushTo d k) k
def joinTo (d : Hd_) (G : Nat → List Int) (k : Nat) : Hd_ := ⟨d.ws, d.f, fun j => if j < k then d.F j ++ G j else d.F j, d.cs⟩
def joinD (d : Hd_) (G : Nat → List Int) : Hd_ := joinTo d G 3
def flushD (d : Hd_) (n : Nat) (G : Nat → List Int) : Hd_ := flushTo (joinD d G) n
theorem sub_len : ∀ {xs ys : List Int}, xs.Nodup → (∀ x ∈ xs, x ∈ ys) → ys.length ≤ xs.length → ∀ y ∈ ys, y ∈ xs
  | [], ys, _, _, hl, y, hy => by
    have : ys = [] := List.eq_nil_of_length_eq_zero (by simpa using hl)
    rw [this] at hy
    cases hy
  | a :: t, ys, hn, hs, hl, y, hy => by
    obtain ⟨ha, ht⟩ := List.nodup_cons.1 hn
    have ham : a ∈ ys := hs a List.mem_cons_self
    by_cases e : y = a
    · rw [e]; exact List.mem_cons_self
    · have h1 : (ys.erase a).length ≤ t.length := by
        rw [List.length_erase_of_mem ham]
        simp only [List.length_cons] at hl
        omega
      have h2 : ∀ x ∈ t, x ∈ ys.erase a := fun x hx => (List.mem_erase_of_ne (by rintro rfl; exact ha hx)).2 (hs x (List.mem_cons_of_mem _ hx))
      exact List.mem_cons_of_mem _ (sub_len ht h2 h1 y ((List.mem_erase_of_ne e).2 hy))
theorem isIn_iff {l h a : Int} : Ls.isIn l h a = true ↔ l ≤ a ∧ a < h := by simp [Ls.isIn]
theorem mem_inOf {l h x : Int} {xs : List Int} : x ∈ Ls.inOf l h xs ↔ x ∈ xs ∧ l ≤ x ∧ x < h := by
  unfold Ls.inOf
  rw [List.mem_filter, isIn_iff]
theorem mem_outOf {l h x : Int} {xs : List Int} : x ∈ Ls.outOf l h xs ↔ x ∈ xs ∧ ¬ (l ≤ x ∧ x < h) := by
  unfold Ls.outOf
  rw [List.mem_filter, Bool.not_eq_true', Bool.eq_false_iff, ne_eq, isIn_iff]
theorem out_count {l h x : Int} {xs : List Int} : (Ls.outOf l h xs).count x ≤ xs.count x := List.Sublist.count_le x List.filter_sublist
theorem out_same {l h x : Int} {xs : List Int} (hx : ¬ (l ≤ x ∧ x < h)) : (Ls.outOf l h xs).count x = xs.count x := by
  unfold Ls.outOf
  refine List.count_filter ?_
  rw [Bool.not_eq_true', Bool.eq_false_iff, ne_eq, isIn_iff]
  exact hx
theorem drop_one {f : Nat → Int × Int} {p q : Nat} (h : (f p).1 = 1) (hq : ¬ q = p) : Cl.drop f p q = f q := by
  unfold Cl.drop Cl.wide
  rw [if_neg (show ¬ (f p).1 = 2 by omega), if_neg (by omega)]
theorem drop_self {f : Nat → Int × Int} {p : Nat} (h : (f p).1 = 1) : Cl.drop f p p = (0, 0) := by
  unfold Cl.drop Cl.wide
  rw [if_neg (show ¬ (f p).1 = 2 by omega), if_pos (by omega)]
/-- Where a cell lies. -/
theorem page_range {x : Int} {p : Nat} (h : 16 ≤ x) : (x / 16 - 1).toNat = p ↔ 16 + 16 * (p : Int) ≤ x ∧ x < 32 + 16 * (p : Int) := by omega
section
variable {n r p : Nat} {a : Int} {d d' : Hd_} {G : Nat → List Int} {R : Nat → Nat → List Int}
theorem told_le {x : Int} {k : Nat} (hk : k < 3) : (d.F k).count x ≤ told d G r R x := by
  unfold told
  rw [count_upTo]
  rcases (show k = 0 ∨ k = 1 ∨ k = 2 by omega) with rfl | rfl | rfl <;> omega
theorem small_kind (hm : Cl.mayB d.f n = true) (hp : p < n) (h1 : (d.f p).1 = 1) : (d.f p).2.toNat < 3 ∧ d.f p = (1, (((d.f p).2.toNat : Nat) : Int)) := by
  have h := (Cl.pmB_iff _).1 (Cl.may_pm hm hp)
  exact ⟨by omega, Prod.ext h1 (by show (d.f p).2 = _; omega)⟩
theorem on_len (hm : Cl.mayB d.f n = true) (hp : p < n) (h1 : (d.f p).1 = 1) : ((Cl.onS d.f n p).length : Int) = Cl.perPage (d.f p).2 := by
  obtain ⟨hk, e⟩ := small_kind hm hp h1
  unfold Cl.onS
  rw [if_pos ⟨hm, by omega, by omega⟩, List.length_map, Cl.pageL_length, Int.toNat_natCast]
  rw [e]
  generalize (d.f p).2.toNat = k at hk
  rcases (show k = 0 ∨ k = 1 ∨ k = 2 by omega) with rfl | rfl | rfl <;> decide
theorem onFree_nodup (h : OkayBut n a d G r R) (hp : p < n) (h1 : (d.f p).1 = 1) : (onFree d p).Nodup := by
  obtain ⟨hk, _⟩ := small_kind h.may hp h1
  refine List.Nodup.sublist List.filter_sublist (List.nodup_iff_count.2 fun x => ?_)
  have := told_le (d := d) (G := G) (r := r) (R := R) (x := x) hk
  have := h.one x
  omega
theorem onFree_on (h : OkayBut n a d G r R) (hp : p < n) (h1 : (d.f p).1 = 1) {x : Int} (hx : x ∈ onFree d p) : x ∈ Cl.onS d.f n p := by
  obtain ⟨hk, _⟩ := small_kind h.may hp h1
  obtain ⟨h2, h3⟩ := mem_inOf.1 hx
  have hb := (free_facts (h.fF _ hk x h2)).1
  exact mem_on.2 ⟨hb, (page_range (bg_in16 hb)).2 h3⟩
theorem given_parts (hg : givenB d p = true) : (d.f p).1 = 1 ∧ Cl.perPage (d.f p).2 ≤ (onFree d p).length := by
  unfold givenB at hg
  simp only [Bool.and_eq_true, decide_eq_true_eq, Bool.not_eq_true', decide_eq_false_iff_not, Int.not_lt] at hg
  exact hg
/-- All cells of a page that is given back are told of by Free. -/
theorem given_all (h : OkayBut n a d G r R) (hp : p < n) (hg : givenB d p = true) {y : Int} (hy : ¬ Cl.bg d.f n y = 0) (hpg : (y / 16 - 1).toNat = p) : y ∈ d.F (d.f p).2.toNat := by
  obtain ⟨h1, h2⟩ := given_parts hg
  have hl := on_len h.may hp h1
  have := sub_len (onFree_nodup h hp h1) (fun x hx => onFree_on h hp h1 hx) (by omega) y (mem_on.2 ⟨hy, hpg⟩)
  exact (mem_inOf.1 this).1
theorem gave_may (hm : Cl.mayB d.f n = true) (hp : p < n) (hg : givenB d p = true) : Cl.mayB (gaveD d p).f n = true := Cl.drop_may hm hp (.inl (given_parts hg).1)
theorem gave_other (hm : Cl.mayB d.f n = true) (hp : p < n) (hg : givenB d p = true) {y : Int} (hpg : ¬ (y / 16 - 1).toNat = p) : pgAt (gaveD d p) y = pgAt d y ∧ Cl.bg (gaveD d p).f n y = Cl.bg d.f n y := by
  have h1 : pgAt (gaveD d p) y = pgAt d y := drop_one (given_parts hg).1 hpg
  exact ⟨h1, bg_local hm (gave_may hm hp hg) h1⟩
theorem gave_cell (hm : Cl.mayB d.f n = true) (hp : p < n) (hg : givenB d p = true) {y : Int} (hy : ¬ Cl.bg (gaveD d p).f n y = 0) : ¬ (y / 16 - 1).toNat = p ∧ ¬ Cl.bg d.f n y = 0 := by
  have h1 : ¬ (y / 16 - 1).toNat = p := cell_off hy (drop_self (given_parts hg).1)
  rw [(gave_other hm hp hg h1).2] at hy
  exact ⟨h1, hy⟩
theorem gave_keeps (hm : Cl.mayB d.f n = true) (hp : p < n) (hg : givenB d p = true) {x c : Int} (hx : freeH d n x c = true) (hne : ¬ (x / 16 - 1).toNat = p) : freeH (gaveD d p) n x c = true := by
  rw [free_local (d := d) (d' := gaveD d p) hm (gave_may hm hp hg) rfl (gave_other hm hp hg hne).1]
  exact hx
theorem told_gave {x : Int} (hk : (d.f p).2.toNat < 3) : told (gaveD d p) G r R x + (d.F (d.f p).2.toNat).count x = told d G r R x + (Ls.outOf (16 + 16 * (p : Int)) (32 + 16 * (p : Int)) (d.F (d.f p).2.toNat)).count x := by
  have h1 := upd_count (F := d.F) (xs := Ls.outOf (16 + 16 * (p : Int)) (32 + 16 * (p : Int)) (d.F (d.f p).2.toNat)) (x := x) hk
  unfold told gaveD
  simp only
  omega
/-- What caches tell of lies on no page that is given back. -/
theorem given_off (h : OkayBut n a d G r R) (hp : p < n) (hg : givenB d p = true) {x : Int} (hx : 0 < (Ls.upTo G 3).count x + (Ls.allOf R r).count x) : ¬ (x / 16 - 1).toNat = p := fun e => by
  obtain ⟨hk, _⟩ := small_kind h.may hp (given_parts hg).1
  have h0 : 0 < told d G r R x := by unfold told; omega
  obtain ⟨c, hc⟩ := told_free h h0
  have h1 := List.count_pos_iff.2 (given_all h hp hg (free_facts hc).1 e)
  have h2 : (d.F (d.f p).2.toNat).count x + ((Ls.upTo G 3).count x + (Ls.allOf R r).count x) ≤ told d G r R x := by
    unfold told
    rw [count_upTo d.F]
    generalize (d.f p).2.toNat = k at hk
    rcases (show k = 0 ∨ k = 1 ∨ k = 2 by omega) with rfl | rfl | rfl <;> omega
  have := h.one x
  omega
theorem Okay.gave (h : Okay n d G r R) (hp : p < n) (hg : givenB d p = true) : Okay n (gaveD d p) G r R := by
  obtain ⟨hk, e⟩ := small_kind h.may hp (given_parts hg).1
  refine ⟨gave_may h.may hp hg, fun y hy _ => ?_, fun j hj x hx => ?_, fun j hj x hx => ?_, fun i hi j hj x hx => ?_, fun x => ?_⟩
  · obtain ⟨h1, h2⟩ := gave_cell h.may hp hg hy
    rw [cell_local (d := d) (d' := gaveD d p) rfl (gave_other h.may hp hg h1).1]
    exact h.cell y h2 (bg_zero _ _ h2)
  · rcases upd_mem hx with ⟨rfl, hx2⟩ | ⟨hne, hx2⟩
    · obtain ⟨h1, h2⟩ := mem_outOf.1 hx2
      have hf := h.fF _ hj x h1
      exact gave_keeps h.may hp hg hf fun ep => h2 ((page_range (bg_in16 (free_facts hf).1)).1 ep)
    · have hf := h.fF j hj x hx2
      refine gave_keeps h.may hp hg hf fun ep => hne ?_
      have h3 := (free_facts hf).2.1
      unfold pgAt at h3
      rw [ep, e] at h3
      have := (Prod.mk.inj h3).2
      omega
  · exact gave_keeps h.may hp hg (h.fG j hj x hx) (given_off h hp hg (by have := List.count_pos_iff.2 (mem_upTo3.2 ⟨j, hj, hx⟩); omega))
  · exact gave_keeps h.may hp hg (h.fR i hi j hj x hx) (given_off h hp hg (by have := List.count_pos_iff.2 (mem_allOf.2 ⟨i, j, hi, hj, hx⟩); omega))
  · have h1 := told_gave (d := d) (p := p) (G := G) (r := r) (R := R) (x := x) hk
    have h2 := out_count (l := 16 + 16 * (p : Int)) (h := 32 + 16 * (p : Int)) (x := x) (xs := d.F (d.f p).2.toNat)
    have h3 := h.one x
    omega
theorem Full.gave (hF : Full n 0 d G r R) (hm : Cl.mayB d.f n = true) (hp : p < n) (hg : givenB d p = true) : Full n 0 (gaveD d p) G r R := fun y hy _ h0 => by
  obtain ⟨hk, _⟩ := small_kind hm hp (given_parts hg).1
  obtain ⟨h1, h2⟩ := gave_cell hm hp hg hy
  have h3 := hF y h2 (bg_zero _ _ h2) h0
  have h4 := told_gave (d := d) (p := p) (G := G) (r := r) (R := R) (x := y) hk
  rw [out_same fun hc => h1 ((page_range (bg_in16 h2)).2 hc)] at h4
  omega
end
/-- Pages may be given back: each object stays, and none is new. -/
structure Kept9 (n : Nat) (d d' : Hd_) : Prop where
  same : ∀ y, ¬ Cl.bg d.f n y = 0 → ¬ wd d y = 0 → Same4 n d d' y
  none : ∀ y, ¬ Cl.bg d'.f n y = 0 → ¬ Cl.bg d.f n y = 0
  ws : d'.ws = d.ws
  cs : d'.cs = d.cs
theorem Kept9.refl (n : Nat) (d : Hd_) : Kept9 n d d := ⟨fun _ _ _ => Same4.refl _ _ _, fun _ h => h, rfl, rfl⟩
theorem Kept9.word {n : Nat} {d d' : Hd_} (h : Kept9 n d d') (y : Int) : wd d' y = wd d y := by unfold wd; rw [h.ws]
theorem Kept9.trans {n : Nat} {d d' d2 : Hd_} (h : Kept9 n d d') (k : Kept9 n d' d2) : Kept9 n d d2 :=
  ⟨fun y h1 h2 => (h.same y h1 h2).trans (k.same y (by rw [(h.same y h1 h2).bg]; exact h1) (by rw [h.word]; exact h2)), fun y hy => h.none y (k.none y hy), k.ws.trans h.ws, k.cs.trans h.cs⟩
section
variable {n r p : Nat} {d d' : Hd_} {G : Nat → List Int} {R : Nat → Nat → List Int}
theorem Okay.back (h : Okay n d G r R) (hp : p < n) : Okay n (backD d p) G r R ∧ (Full n 0 d G r R → Full n 0 (backD d p) G r R) ∧ Kept9 n d (backD d p) := by
  unfold backD
  split
  · next hg =>
    refine ⟨h.gave hp hg, fun hF => hF.gave h.may hp hg, ⟨fun y hy hw => ?_, fun y hy => (gave_cell h.may hp hg hy).2, rfl, rfl⟩⟩
    have hne : ¬ (y / 16 - 1).toNat = p := fun e => by
      obtain ⟨hk, _⟩ := small_kind h.may hp (given_parts hg).1
      exact hw (free_facts (h.fF _ hk y (given_all h hp hg hy e))).2.2
    have := gave_other h.may hp hg hne
    exact ⟨this.2, this.1, fun _ _ _ => rfl⟩
  · exact ⟨h, id, Kept9.refl n d⟩
theorem Okay.flushTo (h : Okay n d G r R) : ∀ k, k ≤ n → Okay n (flushTo d k) G r R ∧ (Full n 0 d G r R → Full n 0 (Go.Proofs.YtmalopciboikhaaGreatDoor.flushTo d k) G r R) ∧ Kept9 n d (Go.Proofs.YtmalopciboikhaaGreatDoor.flushTo d k)
  | 0, _ => ⟨h, id, Kept9.refl n d⟩
  | k + 1, hk => by
    obtain ⟨h1, h2, h3⟩ := Okay.flushTo h k (by omega)
    obtain ⟨h4, h5, h6⟩ := h1.back (p := k) (by omega)
    exact ⟨h4, fun hF => h5 (h2 hF), h3.trans h6⟩
theorem told_join {x : Int} : told (joinD d G) Ls.noLists r R x = told d G r R x := by
  unfold told joinD joinTo
  rw [count_upTo, count_upTo, count_upTo, count_upTo]
  simp only [Ls.noLists, List.count_nil, if_pos (show 0 < 3 by decide), if_pos (show 1 < 3 by decide), if_pos (show 2 < 3 by decide), List.count_append]
  omega
theorem Okay.join (h : Okay n d G r R) : Okay n (joinD d G) Ls.noLists r R ∧ (Full n 0 d G r R → Full n 0 (joinD d G) Ls.noLists r R) ∧ Kept9 n d (joinD d G) := by
  refine ⟨⟨h.may, h.cell, fun j hj x hx => ?_, fun j hj x hx => (by cases hx), h.fR, fun x => by rw [told_join]; exact h.one x⟩, fun hF y h1 h2 h3 => by rw [told_join]; exact hF y h1 h2 h3, ⟨fun y _ _ => ⟨rfl, rfl, fun _ _ _ => rfl⟩, fun y hy => hy, rfl, rfl⟩⟩
  have hx' : x ∈ d.F j ++ G j := by
    have e : (joinD d G).F j = d.F j ++ G j := if_pos hj
    rwa [e] at hx
  rcases List.mem_append.1 hx' with hx | hx
  · exact h.fF j hj x hx
  · exact h.fG j hj x hx
/-- A cache is flushed. -/
theorem Okay.flush (h : Okay n d G r R) : Okay n (flushD d n G) Ls.noLists r R ∧ (Full n 0 d G r R → Full n 0 (flushD d n G) Ls.noLists r R) ∧ Kept9 n d (flushD d n G) := by
  obtain ⟨h1, h2, h3⟩ := h.join
  obtain ⟨h4, h5, h6⟩ := h1.flushTo n (Nat.le_refl _)
  exact ⟨h4, fun hF => h5 (h2 hF), h3.trans h6⟩
end
/-- A cell's words are noughts, and Free tells of it. -/
def pushD (d : Hd_) (n : Nat) (a : Int) : Hd_ := ⟨Ar.wipe d.ws (a - 16).toNat (Cl.bg d.f n a).toNat, d.f, Ls.upd d.F (pgAt d a).2.toNat (d.F (pgAt d a).2.toNat ++ [a]), d.cs⟩
def dropD (d : Hd_) (n : Nat) (a : Int) : Hd_ := ⟨Ar.wipe d.ws (a - 16).toNat (Cl.bg d.f n a).toNat, Cl.drop d.f (a / 16 - 1).toNat, d.F, d.cs⟩
/-- An object is given back. -/
def freedD (d : Hd_) (n : Nat) (a : Int) : Hd_ := if (pgAt d a).1 = 1 then backD (pushD d n a) (a / 16 - 1).toNat else dropD d n a
/-- What an object that is given back leaves. -/
structure Freed (n : Nat) (d : Hd_) (a : Int) (d' : Hd_) : Prop where
  okay : ∀ r G R, Okay n d G r R → Okay n d' G r R
  full : ∀ r G R, Okay n d G r R → Full n 0 d G r R → Full n 0 d' G r R
  keeps : ∀ y, ¬ Cl.bg d.f n y = 0 → ¬ wd d y = 0 → ¬ y = a → Same4 n d d' y
  none : ∀ y, ¬ Cl.bg d'.f n y = 0 → ¬ y = a → ¬ Cl.bg d.f n y = 0 ∧ wd d' y = wd d y
  gone : Cl.bg d'.f n a = 0 ∨ wd d' a = 0
  len : d'.ws.length = d.ws.length
  cs : d'.cs = d.cs
section
variable {n : Nat} {a : Int} {d : Hd_}
theorem wd_wiped {f : Nat → Int × Int} {F : Nat → List Int} {cs : Nat → Bool} (hb : ¬ Cl.bg d.f n a = 0) (hl : d.ws.length = 16 * n) {y : Int} (hy : 16 ≤ y) : wd ⟨Ar.wipe d.ws (a - 16).toNat (Cl.bg d.f n a).toNat, f, F, cs⟩ y = if a ≤ y ∧ y < a + Cl.bg d.f n a then 0 else wd d y := by
  have h1 := cell_end hb
  unfold wd
  simp only
  rw [Ar.wipe_getD _ _ _ _ (by omega)]
  by_cases e2 : a ≤ y ∧ y < a + Cl.bg d.f n a
  · rw [if_pos e2, if_pos ⟨by omega, by omega⟩]
  · rw [if_neg e2, if_neg (by omega)]
theorem wiped_other {f : Nat → Int × Int} {F : Nat → List Int} {cs : Nat → Bool} (hb : ¬ Cl.bg d.f n a = 0) (hl : d.ws.length = 16 * n) {y : Int} (hy : ¬ Cl.bg d.f n y = 0) (hne : ¬ y = a) : ∀ z, y ≤ z → z < y + Cl.bg d.f n y → wd ⟨Ar.wipe d.ws (a - 16).toNat (Cl.bg d.f n a).toNat, f, F, cs⟩ z = wd d z := fun z h1 h2 => by
  rw [wd_wiped hb hl (by have := bg_in16 hy; omega), if_neg]
  exact fun hc => hne (word_one hy hb ⟨h1, h2⟩ hc)
theorem wiped_at {f : Nat → Int × Int} {F : Nat → List Int} {cs : Nat → Bool} (hb : ¬ Cl.bg d.f n a = 0) (hl : d.ws.length = 16 * n) : wd ⟨Ar.wipe d.ws (a - 16).toNat (Cl.bg d.f n a).toNat, f, F, cs⟩ a = 0 := by
  have := cell_end hb
  rw [wd_wiped hb hl (by omega), if_pos ⟨by omega, by omega⟩]
theorem bg_self {y : Int} (hy : ¬ Cl.bg d.f n y = 0) : y < y + Cl.bg d.f n y := by have := cell_end hy; omega
theorem used_untold {r : Nat} {G : Nat → List Int} {R : Nat → Nat → List Int} (h : Okay n d G r R) (hw : ¬ wd d a = 0) : told d G r R a = 0 := Nat.eq_zero_of_not_pos fun hc => by
  obtain ⟨c, hc⟩ := told_free h hc
  exact hw (free_facts hc).2.2
theorem push_okay {r : Nat} {G : Nat → List Int} {R : Nat → Nat → List Int} (h : Okay n d G r R) (hb : ¬ Cl.bg d.f n a = 0) (hw : ¬ wd d a = 0) (hl : d.ws.length = 16 * n) (h1 : (pgAt d a).1 = 1) : Okay n (pushD d n a) G r R ∧ (Full n 0 d G r R → Full n 0 (pushD d n a) G r R) := by
  have hp := bg_page hb
  have hpn : (a / 16 - 1).toNat < n := by have := hp.2.1; have := hp.2.2.1; omega
  obtain ⟨hk, e⟩ := small_kind h.may hpn h1
  have hk' : (pgAt d a).2.toNat < 3 := hk
  have e' : pgAt d a = (1, (((pgAt d a).2.toNat : Nat) : Int)) := e
  have ht := used_untold h hw
  have hkeep : ∀ {x c : Int}, freeH d n x c = true → freeH (pushD d n a) n x c = true := fun {x c} hx => by
    have hf := free_facts hx
    have hne : ¬ x = a := fun e0 => hw (by rw [← e0]; exact hf.2.2)
    exact free_mk hf.1 hf.2.1 ((wiped_other hb hl hf.1 hne x (Int.le_refl _) (bg_self hf.1)).trans hf.2.2)
  have htold : ∀ x, told (pushD d n a) G r R x = told d G r R x + [a].count x := fun x => by
    have h2 := upd_count (F := d.F) (xs := d.F (pgAt d a).2.toNat ++ [a]) (x := x) hk'
    rw [List.count_append] at h2
    unfold told pushD
    simp only
    omega
  refine ⟨⟨h.may, fun y hy _ => ?_, fun j hj x hx => ?_, fun j hj x hx => hkeep (h.fG j hj x hx), fun i hi j hj x hx => hkeep (h.fR i hi j hj x hx), fun x => ?_⟩, fun hF y hy h0 hz => ?_⟩
  · by_cases ey : y = a
    · subst ey
      have hw0 : wd (pushD d n y) y = 0 := wiped_at hb hl
      unfold cellAt
      rw [show (pushD d n y).ws.getD (y - 16).toNat 0 = wd (pushD d n y) y from rfl, hw0, show (pushD d n y).f (y / 16 - 1).toNat = pgAt d y from rfl, e']
      rfl
    · have hy' : ¬ Cl.bg d.f n y = 0 := hy
      rw [cell_local (d := d) (d' := pushD d n a) (wiped_other hb hl hy' ey y (Int.le_refl _) (bg_self hy')) rfl]
      exact h.cell y hy' (bg_zero _ _ hy')
  · rcases upd_mem hx with ⟨rfl, hx2⟩ | ⟨_, hx2⟩
    · rcases List.mem_append.1 hx2 with hx3 | hx3
      · exact hkeep (h.fF _ hj x hx3)
      · obtain rfl := List.mem_singleton.1 hx3
        exact free_mk hb e' (wiped_at hb hl)
    · exact hkeep (h.fF j hj x hx2)
  · rw [htold]
    have := h.one x
    by_cases ex : x = a
    · subst ex
      rw [ht]
      simp
    · rw [List.count_eq_zero_of_not_mem (by simpa using ex)]
      omega
  · rw [htold]
    by_cases ey : y = a
    · subst ey
      simp
    · have hy' : ¬ Cl.bg d.f n y = 0 := hy
      have := hF y hy' (bg_zero _ _ hy') ((wiped_other (f := d.f) (F := Ls.upd d.F (pgAt d a).2.toNat (d.F (pgAt d a).2.toNat ++ [a])) (cs := d.cs) hb hl hy' ey y (Int.le_refl _) (bg_self hy')).symm.trans hz)
      omega
/-- A large object's pages. -/
theorem large_page (hb : ¬ Cl.bg d.f n a = 0) (h2 : (pgAt d a).1 = 2) : a = 16 + 16 * (((a / 16 - 1).toNat : Nat) : Int) := by
  have hp := bg_page hb
  rw [hp.2.2.2] at hb
  have h16 := hp.2.1
  have hm : a % 16 = 0 := Classical.byContradiction fun hn => hb (by
    unfold Cl.pg
    rw [if_neg (fun hc => hn hc.2), if_neg (fun hc => by have : (pgAt d a).1 = 1 := hc.1; omega)])
  omega
theorem dropL_off (hb : ¬ Cl.bg d.f n a = 0) (h2 : (pgAt d a).1 = 2) {y : Int} (hy : ¬ Cl.bg d.f n y = 0) (hne : ¬ y = a) : Cl.drop d.f (a / 16 - 1).toNat (y / 16 - 1).toNat = d.f (y / 16 - 1).toNat := by
  have hp := bg_page hb
  have hpn : (a / 16 - 1).toNat < n := by have := hp.2.1; have := hp.2.2.1; omega
  obtain ⟨w1, w4, wn, _, hj⟩ := Cl.wide_facts hp.1 hpn (.inr h2)
  have ea := large_page hb h2
  unfold Cl.drop
  rw [if_neg]
  rintro ⟨h3, h4⟩
  by_cases e : (y / 16 - 1).toNat = (a / 16 - 1).toNat
  · have hpy : (pgAt d y).1 = 2 := by unfold pgAt; rw [e]; exact h2
    have ey := large_page hy hpy
    rw [e] at ey
    omega
  · have h5 := (hj ((y / 16 - 1).toNat - (a / 16 - 1).toNat) (by omega)).2 (by omega)
    rw [show (a / 16 - 1).toNat + ((y / 16 - 1).toNat - (a / 16 - 1).toNat) = (y / 16 - 1).toNat by omega] at h5
    have hq := bg_page hy
    rw [hq.2.2.2, h5, pg_rest] at hy
    exact hy rfl
theorem dropL_cell (hb : ¬ Cl.bg d.f n a = 0) (h2 : (pgAt d a).1 = 2) {y : Int} (hy : ¬ Cl.bg (dropD d n a).f n y = 0) : ¬ y = a ∧ ¬ Cl.bg d.f n y = 0 := by
  have hp := bg_page hb
  have hpn : (a / 16 - 1).toNat < n := by have := hp.2.1; have := hp.2.2.1; omega
  have hmay : Cl.mayB (dropD d n a).f n = true := Cl.drop_may hp.1 hpn (.inr h2)
  by_cases hin : (a / 16 - 1).toNat ≤ (y / 16 - 1).toNat ∧ (((y / 16 - 1).toNat : Nat) : Int) < (a / 16 - 1).toNat + Cl.wide d.f (a / 16 - 1).toNat
  · exact absurd rfl (cell_off hy (show (dropD d n a).f (y / 16 - 1).toNat = (0, 0) from if_pos hin))
  · have e : (dropD d n a).f (y / 16 - 1).toNat = d.f (y / 16 - 1).toNat := if_neg hin
    rw [bg_local hp.1 hmay e] at hy
    refine ⟨fun e0 => hin ?_, hy⟩
    subst e0
    have := (Cl.wide_facts hp.1 hpn (.inr h2)).1
    omega
theorem Freed.large (hb : ¬ Cl.bg d.f n a = 0) (hw : ¬ wd d a = 0) (hl : d.ws.length = 16 * n) (h2 : (pgAt d a).1 = 2) : Freed n d a (dropD d n a) := by
  have hp := bg_page hb
  have hpn : (a / 16 - 1).toNat < n := by have := hp.2.1; have := hp.2.2.1; omega
  have hmay : Cl.mayB (dropD d n a).f n = true := Cl.drop_may hp.1 hpn (.inr h2)
  have hbg : ∀ {y : Int}, ¬ Cl.bg d.f n y = 0 → ¬ y = a → Cl.bg (dropD d n a).f n y = Cl.bg d.f n y := fun {y} hy hne => bg_local hp.1 hmay (dropL_off hb h2 hy hne)
  have hwd : ∀ {y : Int}, ¬ Cl.bg d.f n y = 0 → ¬ y = a → wd (dropD d n a) y = wd d y := fun {y} hy hne => wiped_other hb hl hy hne y (Int.le_refl _) (bg_self hy)
  have hkeep : ∀ {x c : Int}, freeH d n x c = true → freeH (dropD d n a) n x c = true := fun {x c} hx => by
    have hf := free_facts hx
    have hne : ¬ x = a := fun e0 => hw (by rw [← e0]; exact hf.2.2)
    exact free_mk (by rw [hbg hf.1 hne]; exact hf.1) ((dropL_off hb h2 hf.1 hne).trans hf.2.1) ((hwd hf.1 hne).trans hf.2.2)
  refine ⟨fun r G R h => ⟨hmay, fun y hy _ => ?_, fun j hj x hx => hkeep (h.fF j hj x hx), fun j hj x hx => hkeep (h.fG j hj x hx), fun i hi j hj x hx => hkeep (h.fR i hi j hj x hx), h.one⟩, fun r G R h hF y hy _ h0 => ?_, fun y hy _ hne => ⟨hbg hy hne, dropL_off hb h2 hy hne, wiped_other hb hl hy hne⟩, fun y hy hne => ?_, .inl ?_, Ar.wipe_length _ _ _, rfl⟩
  · obtain ⟨hne, hy'⟩ := dropL_cell hb h2 hy
    rw [cell_local (d := d) (d' := dropD d n a) (hwd hy' hne) (dropL_off hb h2 hy' hne)]
    exact h.cell y hy' (bg_zero _ _ hy')
  · obtain ⟨hne, hy'⟩ := dropL_cell hb h2 hy
    exact hF y hy' (bg_zero _ _ hy') ((hwd hy' hne).symm.trans h0)
  · obtain ⟨_, hy'⟩ := dropL_cell hb h2 hy
    exact ⟨hy', hwd hy' hne⟩
  · exact Classical.byContradiction fun hc => (dropL_cell hb h2 hc).1 rfl
theorem Freed.small {r0 : Nat} {G0 : Nat → List Int} {R0 : Nat → Nat → List Int} (h0 : Okay n d G0 r0 R0) (hb : ¬ Cl.bg d.f n a = 0) (hw : ¬ wd d a = 0) (hl : d.ws.length = 16 * n) (h1 : (pgAt d a).1 = 1) : Freed n d a (backD (pushD d n a) (a / 16 - 1).toNat) := by
  have hp := bg_page hb
  have hpn : (a / 16 - 1).toNat < n := by have := hp.2.1; have := hp.2.2.1; omega
  have hP := push_okay h0 hb hw hl h1
  obtain ⟨_, _, K⟩ := hP.1.back (p := (a / 16 - 1).toNat) hpn
  have hwd : ∀ {y : Int}, ¬ Cl.bg d.f n y = 0 → ¬ y = a → wd (pushD d n a) y = wd d y := fun {y} hy hne => wiped_other hb hl hy hne y (Int.le_refl _) (bg_self hy)
  have hs : ∀ {y : Int}, ¬ Cl.bg d.f n y = 0 → ¬ y = a → Same4 n d (pushD d n a) y := fun {y} hy hne => ⟨rfl, rfl, wiped_other hb hl hy hne⟩
  refine ⟨fun r G R h => ?_, fun r G R h hF => ?_, fun y hy hwy hne => (hs hy hne).trans (K.same y hy (by rw [hwd hy hne]; exact hwy)), fun y hy hne => ?_, .inr ?_, ?_, K.cs⟩
  · exact ((push_okay h hb hw hl h1).1.back hpn).1
  · have := push_okay h hb hw hl h1
    exact (this.1.back hpn).2.1 (this.2 hF)
  · have hy' : ¬ Cl.bg d.f n y = 0 := K.none y hy
    exact ⟨hy', by rw [K.word]; exact hwd hy' hne⟩
  · rw [K.word]; exact wiped_at hb hl
  · rw [K.ws]; exact Ar.wipe_length _ _ _
theorem kind_of (hb : ¬ Cl.bg d.f n a = 0) : (pgAt d a).1 = 1 ∨ (pgAt d a).1 = 2 := by
  have := page_of (d := d) (mem_allS.2 hb)
  omega
/-- An object is given back. -/
theorem freed {r : Nat} {G : Nat → List Int} {R : Nat → Nat → List Int} (h : Okay n d G r R) (hb : ¬ Cl.bg d.f n a = 0) (hw : ¬ wd d a = 0) (hl : d.ws.length = 16 * n) : Freed n d a (freedD d n a) := by
  unfold freedD
  rcases kind_of hb with h1 | h2
  · rw [if_pos h1]
    exact Freed.small h hb hw hl h1
  · rw [if_neg (by omega)]
    exact Freed.large hb hw hl h2
end
end Go.Proofs.YtmalopciboikhaaGreatDoor
end
section
namespace Go.Proofs.YtmalopciboikhaaGreatDoor
open Go.RowKit
set_option maxRecDepth 100000

theorem hbox_same {W W' : World} {b : Nat} {t : Hs} (h : HBox W b t) (hs : W'.heap[b]? = W.heap[b]?) (hl : W.heap.size ≤ W'.heap.size) : HBox W' b t :=
  ⟨(World.cell?_of_block (a := ⟨b, 0, none⟩) hs).trans h.c0, (World.cell?_of_block (a := ⟨b, 1, none⟩) hs).trans h.c1, (World.cell?_of_block (a := ⟨b, 2, none⟩) hs).trans h.c2, (World.cell?_of_block (a := ⟨b, 3, none⟩) hs).trans h.c3, (World.cell?_of_block (a := ⟨b, 4, none⟩) hs).trans h.c4, (World.cell?_of_block (a := ⟨b, 5, none⟩) hs).trans h.c5, Nat.lt_of_lt_of_le h.lt hl⟩
/-- All cells of a block hold slices. -/
def Slices (W : World) (b : Nat) : Prop := ∀ j v, W.cell? ⟨b, j, none⟩ = some v → ∃ a n c, v = .slice a n c
theorem Slices.row {W : World} {b B n : Nat} {a : Option Addr} {xs : List Int} (h : Slices W b) (hr : Row W B a n xs) : 0 < n → ∀ x, a = some x → ¬ x.block = b := fun hn x hx e => by
  obtain ⟨b', off, e', _, hc⟩ := hr.2 hn
  rw [hx] at e'
  cases e'
  subst e
  obtain ⟨_, _, _, hv⟩ := h _ _ (hc 0 hn)
  cases hv
theorem Slices.prow {W : World} {b B n : Nat} {a : Option Addr} {f : Nat → Int × Int} (h : Slices W b) (hr : Cl.PRow W B a n f) : 0 < n → ∀ x, a = some x → ¬ x.block = b := fun hn x hx e => by
  obtain ⟨b', off, e', _, hc⟩ := hr hn
  rw [hx] at e'
  cases e'
  subst e
  obtain ⟨_, _, _, hv⟩ := h _ _ (hc 0 hn).1
  cases hv
theorem Slices.brow {W : World} {b B n : Nat} {a : Option Addr} {f : Nat → Bool} (h : Slices W b) (hr : BRow W B a n f) : 0 < n → ∀ x, a = some x → ¬ x.block = b := fun hn x hx e => by
  obtain ⟨b', off, e', _, hc⟩ := hr hn
  rw [hx] at e'
  cases e'
  subst e
  obtain ⟨_, _, _, hv⟩ := h _ _ (hc 0 hn)
  cases hv
theorem Slices.same {W W' : World} {b : Nat} (h : Slices W b) (hs : W'.heap[b]? = W.heap[b]?) : Slices W' b := fun j v hv => h j v ((World.cell?_of_block (a := ⟨b, j, none⟩) hs).symm.trans hv)
theorem cell_set_none {W : World} {b j : Nat} {v : Value} (h : W.cell? ⟨b, j, none⟩ = none) : (W.setCell ⟨b, j, none⟩ v).cell? ⟨b, j, none⟩ = none := by
  unfold World.cell? at h ⊢
  unfold World.setCell
  simp only [Array.getElem?_modify, if_true]
  cases hb : W.heap[b]? with
  | none => rfl
  | some o =>
    cases o with
    | cells c e f =>
      rw [hb] at h
      simp at h
      simp [h]
    | _ => rfl
theorem Slices.set {W : World} {b k : Nat} {a : Option Addr} {n c : Nat} (h : Slices W b) : Slices (W.setCell ⟨b, k, none⟩ (.slice a n c)) b := fun j v hv => by
  by_cases e : j = k
  · subst e
    cases hc : W.cell? ⟨b, j, none⟩ with
    | none => rw [cell_set_none hc] at hv; cases hv
    | some x =>
      rw [World.cell?_setCell_same' _ _ _ (by rw [hc]; rfl)] at hv
      cases hv
      exact ⟨a, n, c, rfl⟩
  · rw [World.cell?_setCell_other _ _ _ _ (by intro hh; simp only [Addr.mk.injEq, true_and, and_true] at hh; omega)] at hv
    exact h j v hv
/-- Rows stand where another block alone is turned. -/
theorem l3_turn {W W' : World} {b : Nat} {u : Nat → Ls.Sl} {F : Nat → List Int} (hS : Slices W b) (h : Ls.L3 W W.heap.size u F) (hs : ∀ i, ¬ i = b → W'.heap[i]? = W.heap[i]?) (hl : W.heap.size = W'.heap.size) : Ls.L3 W' W'.heap.size u F := fun j hj => by
  rw [← hl]
  exact ⟨row_same (h j hj).1 fun hn x hx => hs _ (hS.row (h j hj).1 hn x hx), (h j hj).2⟩
theorem hp_turn {W W' : World} {b : Nat} {t : Hs} {d : Hd_} (hS : Slices W b) (h : Hp W W.heap.size t d) (hs : ∀ i, ¬ i = b → W'.heap[i]? = W.heap[i]?) (hl : W.heap.size = W'.heap.size) : Hp W' W'.heap.size t d := by
  refine ⟨?_, fun hn => ?_, l3_turn hS h.free hs hl, fun hn => ?_⟩
  · rw [← hl]
    exact row_same h.words fun hn x hx => hs _ (hS.row h.words hn x hx)
  · obtain ⟨b', off, e, hlt, hc⟩ := h.pages hn
    rw [← hl]
    refine ⟨b', off, e, hlt, fun i hi => ?_⟩
    have hb' := hs b' (hS.prow h.pages hn _ e)
    exact ⟨(World.cell?_of_block (a := ⟨b', off + i * 2, none⟩) hb').trans (hc i hi).1, (World.cell?_of_block (a := ⟨b', off + i * 2 + 1, none⟩) hb').trans (hc i hi).2⟩
  · obtain ⟨b', off, e, hlt, hc⟩ := h.cards hn
    rw [← hl]
    refine ⟨b', off, e, hlt, fun i hi => ?_⟩
    exact (World.cell?_of_block (a := ⟨b', off + i, none⟩) (hs b' (hS.brow h.cards hn _ e))).trans (hc i hi)
theorem set_others {W : World} {b k : Nat} {v : Value} : ∀ i, ¬ i = b → (W.setCell ⟨b, k, none⟩ v).heap[i]? = W.heap[i]? := fun _ hi => Below.heap_setCell _ _ _ _ hi
theorem set3_others {W : World} {b k0 k1 k2 : Nat} {v0 v1 v2 : Value} : ∀ i, ¬ i = b → (((W.setCell ⟨b, k0, none⟩ v0).setCell ⟨b, k1, none⟩ v1).setCell ⟨b, k2, none⟩ v2).heap[i]? = W.heap[i]? := fun i hi => ((set_others i hi).trans (set_others i hi)).trans (set_others i hi)
theorem set_size {W : World} {p : Addr} {v : Value} : (W.setCell p v).heap.size = W.heap.size := by simp [World.setCell]
theorem slices6 (w : World) (t : Hs) (ty : TypeId) : Slices (w.alloc (.cells #[.slice t.w.a t.w.n t.w.c, .slice t.p.a t.p.n t.p.c, .slice (t.u 0).a (t.u 0).n (t.u 0).c, .slice (t.u 1).a (t.u 1).n (t.u 1).c, .slice (t.u 2).a (t.u 2).n (t.u 2).c, .slice t.c.a t.c.n t.c.c] ty)) w.heap.size := fun j v hv => by
  rcases j with _ | _ | _ | _ | _ | _ | j
  · simp [go_sem] at hv; exact ⟨_, _, _, hv.symm⟩
  · simp [go_sem] at hv; exact ⟨_, _, _, hv.symm⟩
  · simp [go_sem] at hv; exact ⟨_, _, _, hv.symm⟩
  · simp [go_sem] at hv; exact ⟨_, _, _, hv.symm⟩
  · simp [go_sem] at hv; exact ⟨_, _, _, hv.symm⟩
  · simp [go_sem] at hv; exact ⟨_, _, _, hv.symm⟩
  · simp [go_sem] at hv
/-- A box of a heap, or of what is made of one. -/
structure Rm (W : World) (b : Nat) (t : Hs) : Prop where
  box : Box6 W b t
  sl : Slices W b
section
variable {w W W' : World} {b : Nat} {t t' : Hs} {d d' : Hd_}
theorem Rm.same (h : Rm W b t) (hs : W'.heap[b]? = W.heap[b]?) (hl : W.heap.size ≤ W'.heap.size) : Rm W' b t := ⟨h.box.same hs hl, h.sl.same hs⟩
theorem Rm.next (h : Rm W b t) (hb : Below W.heap.size W W') : Rm W' b t := h.same (hb.block b h.box.box.lt) hb.size
theorem Rm.new (w : World) (t : Hs) (ty : TypeId) : Rm (w.alloc (.cells #[.slice t.w.a t.w.n t.w.c, .slice t.p.a t.p.n t.p.c, .slice (t.u 0).a (t.u 0).n (t.u 0).c, .slice (t.u 1).a (t.u 1).n (t.u 1).c, .slice (t.u 2).a (t.u 2).n (t.u 2).c, .slice t.c.a t.c.n t.c.c] ty)) w.heap.size t :=
  ⟨⟨HBox.new w t ty, fun j => by simp [go_sem]⟩, slices6 w t ty⟩
theorem Rm.set (h : Rm W b t) (k : Nat) (a : Option Addr) (n c : Nat)
    (e0 : Value.slice t'.w.a t'.w.n t'.w.c = if 0 = k then .slice a n c else .slice t.w.a t.w.n t.w.c) (e1 : Value.slice t'.p.a t'.p.n t'.p.c = if 1 = k then .slice a n c else .slice t.p.a t.p.n t.p.c)
    (e2 : Value.slice (t'.u 0).a (t'.u 0).n (t'.u 0).c = if 2 = k then .slice a n c else .slice (t.u 0).a (t.u 0).n (t.u 0).c) (e3 : Value.slice (t'.u 1).a (t'.u 1).n (t'.u 1).c = if 3 = k then .slice a n c else .slice (t.u 1).a (t.u 1).n (t.u 1).c)
    (e4 : Value.slice (t'.u 2).a (t'.u 2).n (t'.u 2).c = if 4 = k then .slice a n c else .slice (t.u 2).a (t.u 2).n (t.u 2).c) (e5 : Value.slice t'.c.a t'.c.n t'.c.c = if 5 = k then .slice a n c else .slice t.c.a t.c.n t.c.c) : Rm (W.setCell ⟨b, k, none⟩ (.slice a n c)) b t' :=
  ⟨⟨⟨cell_set h.box.box.c0 e0, cell_set h.box.box.c1 e1, cell_set h.box.box.c2 e2, cell_set h.box.box.c3 e3, cell_set h.box.box.c4 e4, cell_set h.box.box.c5 e5, by simpa [World.setCell] using h.box.box.lt⟩, frozen_set h.box.free⟩, h.sl.set⟩
/-- A box, and the heap that it holds, in the midst of a call. -/
structure Ro (w W : World) (b : Nat) (t : Hs) (d : Hd_) : Prop where
  bel : Below w.heap.size w W
  hi : w.heap.size ≤ b
  rm : Rm W b t
  hp : Hp W W.heap.size t d
theorem Ro.next (h : Ro w W b t d) (hb : Below W.heap.size W W') : Ro w W' b t d := ⟨h.bel.trans (hb.mono h.bel.size), h.hi, h.rm.next hb, h.hp.next hb⟩
theorem Ro.drew (h : Ro w W b t d) : Ro w W.drew b t d := h.next (below_drawn' (Below.refl _ _) 1)
/-- The box is turned, to what lies in memory already. -/
theorem Ro.turn (h : Ro w W b t d) (hr : Rm W' b t') (hb : Below w.heap.size w W') (hs : ∀ i, ¬ i = b → W'.heap[i]? = W.heap[i]?) (hl : W.heap.size = W'.heap.size) (hp : Hp W W.heap.size t' d') : Ro w W' b t' d' :=
  ⟨hb, h.hi, hr, hp_turn h.rm.sl hp hs hl⟩
theorem Ro.words (h : Ro w W b t d) (v : Ls.Sl) (ws : List Int) (hr : Row W W.heap.size v.a v.n ws) : Ro w (W.setCell ⟨b, 0, none⟩ (.slice v.a v.n v.c)) b ⟨v, t.p, t.u, t.c⟩ ⟨ws, d.f, d.F, d.cs⟩ :=
  h.turn (h.rm.set 0 _ _ _ rfl rfl rfl rfl rfl rfl) (h.bel.setCell (p := ⟨b, 0, none⟩) h.hi _) set_others set_size.symm ⟨hr, h.hp.pages, h.hp.free, h.hp.cards⟩
theorem Ro.pages (h : Ro w W b t d) (v : Ls.Sl) (f : Nat → Int × Int) (hr : Cl.PRow W W.heap.size v.a v.n f) : Ro w (W.setCell ⟨b, 1, none⟩ (.slice v.a v.n v.c)) b ⟨t.w, v, t.u, t.c⟩ ⟨d.ws, f, d.F, d.cs⟩ :=
  h.turn (h.rm.set 1 _ _ _ rfl rfl rfl rfl rfl rfl) (h.bel.setCell (p := ⟨b, 1, none⟩) h.hi _) set_others set_size.symm ⟨h.hp.words, hr, h.hp.free, h.hp.cards⟩
theorem Ro.cards (h : Ro w W b t d) (v : Ls.Sl) (cs : Nat → Bool) (hr : BRow W W.heap.size v.a v.n cs) : Ro w (W.setCell ⟨b, 5, none⟩ (.slice v.a v.n v.c)) b ⟨t.w, t.p, t.u, v⟩ ⟨d.ws, d.f, d.F, cs⟩ :=
  h.turn (h.rm.set 5 _ _ _ rfl rfl rfl rfl rfl rfl) (h.bel.setCell (p := ⟨b, 5, none⟩) h.hi _) set_others set_size.symm ⟨h.hp.words, h.hp.pages, h.hp.free, hr⟩
def triS (a b c : Ls.Sl) : Nat → Ls.Sl := fun | 0 => a | 1 => b | _ => c
theorem Rm.free3 (h : Rm W b t) (v : Nat → Ls.Sl) : Rm (((W.setCell ⟨b, 2, none⟩ (.slice (v 0).a (v 0).n (v 0).c)).setCell ⟨b, 3, none⟩ (.slice (v 1).a (v 1).n (v 1).c)).setCell ⟨b, 4, none⟩ (.slice (v 2).a (v 2).n (v 2).c)) b ⟨t.w, t.p, v, t.c⟩ := by
  have h1 := h.set (t' := ⟨t.w, t.p, triS (v 0) (t.u 1) (t.u 2), t.c⟩) 2 (v 0).a (v 0).n (v 0).c rfl rfl rfl rfl rfl rfl
  have h2 := h1.set (t' := ⟨t.w, t.p, triS (v 0) (v 1) (t.u 2), t.c⟩) 3 (v 1).a (v 1).n (v 1).c rfl rfl rfl rfl rfl rfl
  exact h2.set (t' := ⟨t.w, t.p, v, t.c⟩) 4 (v 2).a (v 2).n (v 2).c rfl rfl rfl rfl rfl rfl
theorem Ro.free3 (h : Ro w W b t d) (v : Nat → Ls.Sl) (F : Nat → List Int) (hl : Ls.L3 W W.heap.size v F) : Ro w (((W.setCell ⟨b, 2, none⟩ (.slice (v 0).a (v 0).n (v 0).c)).setCell ⟨b, 3, none⟩ (.slice (v 1).a (v 1).n (v 1).c)).setCell ⟨b, 4, none⟩ (.slice (v 2).a (v 2).n (v 2).c)) b ⟨t.w, t.p, v, t.c⟩ ⟨d.ws, d.f, F, d.cs⟩ :=
  h.turn (h.rm.free3 v) (((h.bel.setCell (p := ⟨b, 2, none⟩) h.hi _).setCell (p := ⟨b, 3, none⟩) h.hi _).setCell (p := ⟨b, 4, none⟩) h.hi _) set3_others (by simp) ⟨h.hp.words, h.hp.pages, hl, h.hp.cards⟩
/-- A whole heap is stored into the box. -/
theorem Rm.put (h : Rm W b t) (t' : Hs) : Rm (put6 W b (.slice t'.w.a t'.w.n t'.w.c) (.slice t'.p.a t'.p.n t'.p.c) (.slice (t'.u 0).a (t'.u 0).n (t'.u 0).c) (.slice (t'.u 1).a (t'.u 1).n (t'.u 1).c) (.slice (t'.u 2).a (t'.u 2).n (t'.u 2).c) (.slice t'.c.a t'.c.n t'.c.c)) b t' := by
  have h1 := h.set (t' := ⟨t'.w, t.p, t.u, t.c⟩) 0 t'.w.a t'.w.n t'.w.c rfl rfl rfl rfl rfl rfl
  have h2 := h1.set (t' := ⟨t'.w, t'.p, t.u, t.c⟩) 1 t'.p.a t'.p.n t'.p.c rfl rfl rfl rfl rfl rfl
  have h3 := h2.free3 t'.u
  exact h3.set (t' := t') 5 t'.c.a t'.c.n t'.c.c rfl rfl rfl rfl rfl rfl
theorem Ro.put (h : Ro w W b t d) (hp : Hp W W.heap.size t' d') : Ro w (put6 W b (.slice t'.w.a t'.w.n t'.w.c) (.slice t'.p.a t'.p.n t'.p.c) (.slice (t'.u 0).a (t'.u 0).n (t'.u 0).c) (.slice (t'.u 1).a (t'.u 1).n (t'.u 1).c) (.slice (t'.u 2).a (t'.u 2).n (t'.u 2).c) (.slice t'.c.a t'.c.n t'.c.c)) b t' d' :=
  h.turn (h.rm.put t') (below_put6 h.bel h.hi _ _ _ _ _ _) (fun _ hi => put6_other _ _ _ _ _ _ _ _ hi) (put6_size _ _ _ _ _ _ _ _).symm hp
/-- The result's cell is turned: all else stands. -/
theorem Ro.res {rb : Nat} {t0 : Hs} (h : Ro w W b t d) (hr : Rm W rb t0) (hi : w.heap.size ≤ rb) (t' : Hs) : Hp (put6 W rb (.slice t'.w.a t'.w.n t'.w.c) (.slice t'.p.a t'.p.n t'.p.c) (.slice (t'.u 0).a (t'.u 0).n (t'.u 0).c) (.slice (t'.u 1).a (t'.u 1).n (t'.u 1).c) (.slice (t'.u 2).a (t'.u 2).n (t'.u 2).c) (.slice t'.c.a t'.c.n t'.c.c)) (put6 W rb (.slice t'.w.a t'.w.n t'.w.c) (.slice t'.p.a t'.p.n t'.p.c) (.slice (t'.u 0).a (t'.u 0).n (t'.u 0).c) (.slice (t'.u 1).a (t'.u 1).n (t'.u 1).c) (.slice (t'.u 2).a (t'.u 2).n (t'.u 2).c) (.slice t'.c.a t'.c.n t'.c.c)).heap.size t d ∧
    Below w.heap.size w (put6 W rb (.slice t'.w.a t'.w.n t'.w.c) (.slice t'.p.a t'.p.n t'.p.c) (.slice (t'.u 0).a (t'.u 0).n (t'.u 0).c) (.slice (t'.u 1).a (t'.u 1).n (t'.u 1).c) (.slice (t'.u 2).a (t'.u 2).n (t'.u 2).c) (.slice t'.c.a t'.c.n t'.c.c)) :=
  ⟨hp_turn hr.sl h.hp (fun _ hi => put6_other _ _ _ _ _ _ _ _ hi) (put6_size _ _ _ _ _ _ _ _).symm, below_put6 h.bel hi _ _ _ _ _ _⟩
theorem ro_start {ty : TypeId} (hp : Hp w w.heap.size t d) : Ro w (w.alloc (.cells #[.slice t.w.a t.w.n t.w.c, .slice t.p.a t.p.n t.p.c, .slice (t.u 0).a (t.u 0).n (t.u 0).c, .slice (t.u 1).a (t.u 1).n (t.u 1).c, .slice (t.u 2).a (t.u 2).n (t.u 2).c, .slice t.c.a t.c.n t.c.c] ty)) w.heap.size t d :=
  have b1 : Below w.heap.size w _ := (Below.refl _ _).alloc (Nat.le_refl _) _
  ⟨b1, Nat.le_refl _, Rm.new w t ty, hp.next b1⟩
end
/-- A heap was returned. -/
def RoOut (w : World) (s : Hs) (d : Hd_) (e : Ending) (w' : World) : Prop :=
  ∃ t : Hs, e = .returned (.agg #[.slice t.w.a t.w.n t.w.c, .slice t.p.a t.p.n t.p.c, .slice (t.u 0).a (t.u 0).n (t.u 0).c, .slice (t.u 1).a (t.u 1).n (t.u 1).c, .slice (t.u 2).a (t.u 2).n (t.u 2).c, .slice t.c.a t.c.n t.c.c]) ∧ Hp w' w'.heap.size t d ∧ (t.w.n = s.w.n ∧ t.p.n = s.p.n ∧ t.c.n = s.c.n) ∧ Below w.heap.size w w'
end Go.Proofs.YtmalopciboikhaaGreatDoor
end
