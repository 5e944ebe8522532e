/-
  Merged texts: PgFill, HpClone, HpCp, HpSetP, Zero, AlTakeP, AlTake, AlBase.
-/
import Derived.Test.YtcbnefjfoeanoaaGreatDoorHpZK
import Derived.Lib.SliceRun
import Derived.Test.YtcbnefjfoeanoaaGreatDoorZHpEvery
import Derived.Test.YtcbnefjfoeanoaaGreatDoorHpZH
section
namespace Go.Proofs.YtcbnefjfoeanoaaGreatDoor.Cl
open Go.Proofs.YtcbnefjfoeanoaaGreatDoor
set_option maxRecDepth 100000
open Go.RowKit

theorem info_page : (Tryz.prog.info? 81).map (fun i => (i.zero, i.size, i.bytes)) = some (some (.agg #[.int .i64 0, .int .i64 0]), 2, 16) := by kernel_rfl

/-- The row's block is as it was. -/
theorem PMine.kept {w w' : World} {base e g n c : Nat} {f : Nat → Int × Int} (h : PMine w base e g n c f) (hg : w'.heap[g]? = w.heap[g]?) (hs : w.heap.size ≤ w'.heap.size) : PMine w' base e g n c f := by
  obtain ⟨⟨h1, h2⟩, h3, h4, h5⟩ := h
  refine ⟨⟨h1, ?_⟩, h3, by omega, h5⟩
  rcases h2 with h2 | ⟨g', cap, cur, hv, hb, hh, hr⟩
  · exact .inl h2
  · simp only [Value.slice.injEq, Option.some.injEq, Addr.mk.injEq, and_true, true_and] at hv
    obtain ⟨rfl, rfl⟩ := hv
    exact .inr ⟨g, c, cur, rfl, hb, hg.trans hh, hr⟩
theorem PMine.alloc {w : World} {base e g n c : Nat} {f : Nat → Int × Int} (h : PMine w base e g n c f) (o : Obj) : PMine (w.alloc o) base e g n c f :=
  h.kept (Below.heap_alloc w o g h.2.2.1) (by simp)
theorem PMine.below {w w' : World} {base e g n c B : Nat} {f : Nat → Int × Int} (h : PMine w base e g n c f) (hb : Below B w w') (hg : g < B) : PMine w' base e g n c f :=
  h.kept (hb.block g hg) hb.size

/-- Pages a to a + m are p. -/
def fillF (f : Nat → Int × Int) (a m : Nat) (p : Int × Int) : Nat → Int × Int := fun j => if a ≤ j ∧ j < a + m then p else f j
theorem fillF_zero (f : Nat → Int × Int) (a : Nat) (p : Int × Int) : fillF f a 0 p = f := by
  funext j
  exact if_neg (by omega)
theorem fillF_succ (f : Nat → Int × Int) (a m : Nat) (p : Int × Int) : put (fillF f a m p) (a + m) p = fillF f a (m + 1) p := by
  funext j
  unfold put fillF
  by_cases e : j = a + m
  · rw [if_pos e, if_pos (by omega)]
  · rw [if_neg e]
    by_cases h : a ≤ j ∧ j < a + m
    · rw [if_pos h, if_pos (by omega)]
    · rw [if_neg h, if_neg (by omega)]

/-- A copy of the call's own was returned; all that was there is as it was. -/
def PMade (w : World) (n : Nat) (f : Nat → Int × Int) (e : Ending) (w' : World) : Prop :=
  ∃ g c, e = .returned (.slice (some ⟨g, 0, none⟩) n c) ∧ PMine w' w.heap.size 81 g n c f ∧ Below w.heap.size w w'

theorem pcells_of {w : World} {b off n : Nat} {f : Nat → Int × Int} (hc : ∀ i, i < n → w.cell? ⟨b, off + i * 2, none⟩ = some (.int .i64 (f i).1) ∧ w.cell? ⟨b, off + i * 2 + 1, none⟩ = some (.int .i64 (f i).2))
    (j : Nat) (u : Value) (hj : (pcells f n)[j]? = some u) : w.cell? ⟨b, off + j, none⟩ = some u := by
  have hjn : j < n * 2 := by
    have := (List.getElem?_eq_some_iff.1 hj).1
    rwa [pcells_length] at this
  rw [pcells_at f n j hjn] at hj
  obtain rfl := Option.some.inj hj
  by_cases hm : j % 2 = 0
  · have := (hc (j / 2) (by omega)).1
    rw [show off + j / 2 * 2 = off + j by omega] at this
    rw [this]
    simp [pcell, hm]
  · have := (hc (j / 2) (by omega)).2
    rw [show off + j / 2 * 2 + 1 = off + j by omega] at this
    rw [this]
    simp [pcell, hm]
theorem pcells_one {f : Nat → Int × Int} {n : Nat} : ∀ u ∈ pcells f n, u.oneCell' = true := by
  intro u hu
  obtain ⟨x, _, rfl⟩ := List.mem_map.1 hu
  rfl

theorem pclone_ok (B : Nat) (A : Option Addr) (n c : Nat) (f : Nat → Int × Int) (w : World) (hn : 0 < n) (hbig : n ≤ 1000) (hr : PRow w B A n f) :
    Calls Tryz.prog 81 #[.slice A n c] w (PMade w n f) := by
  obtain ⟨i0, hi, hz0, hz1, hz2⟩ := info_parts info_page
  obtain ⟨b, off, rfl, _, hc⟩ := hr hn
  have HC := Lib.hid hc
  have q22 : ∀ (w : World) (a : Option Addr) (n c n' c' : Nat), (binOp .eql 23 (.slice a n c) (.slice none n' c')).run Tryz.prog w = .ok (.bool a.isNone) w := fun w a n c n' c' => Lib.run_eql_slice_nil w _ _ a n c n' c' Tryz.underlying23
  have u22 : ∀ w, Sem.run Tryz.prog (underlying 23) w = .ok (TypeDesc.slice 81) w := run_underlying Tryz.underlying23
  clear hc hr
  go_enter Tryz.func81, Tryz.ntmps81
  go_wp2_with (at_builtin; refine wpList_append_own _ rfl _ _ 23 rfl w.heap.size 81 i0 (.agg #[.int .i64 0, .int .i64 0]) 2 16 Tryz.underlying23 hi hz0 hz1 hz2 rfl (by decide) _ _ _ rfl (World.ownsRow_made w #[] 0 (Nat.le_refl _) (Nat.zero_le _) rfl) ⟨b, off, none⟩ n c (pcells f n) rfl ?qc1 ?qc2 ?qc3 ?qc4 ?qc5 ?qc6 ?_)
  case qc1 => exact pcells_length f n
  case qc2 =>
    intro j u hj
    rw [Addr.add_lit]
    exact Lib.cell?_alloc_some _ (pcells_of HC.out j u hj)
  case qc3 => exact pcells_one
  case qc4 => unfold maxLen; omega
  case qc5 => omega
  case qc6 => simp
  intro v' w1 hown hgrow hnil
  have hown' : w1.ownsRow w.heap.size 81 2 v' n (pcells f n) := by simpa using hown
  obtain ⟨g, c', rfl, hm⟩ := pmine_of hown' hn
  have HM := Lib.hid hm
  clear hown hown' hnil hm
  go_wp2
  go_ret
  exact ⟨g, c', rfl, HM.out, ((Below.refl _ w).alloc (Nat.le_refl _) _).grown hgrow (by simp) (by intro k hk; simp [Value.ownBlock] at hk; omega)⟩

/-- Pages of a row of the caller's own were filled. -/
def Filled (w : World) (base g n c : Nat) (f : Nat → Int × Int) (e : Ending) (w' : World) : Prop :=
  e = .returned (.tuple #[]) ∧ PMine w' base 81 g n c f ∧ Below base w w'
set_option maxHeartbeats 400000 in
theorem fill_any (base g n c cc a m : Nat) (f : Nat → Int × Int) (p : Int × Int) (w : World) (hn : n ≤ 1000) (ham : a + m ≤ n) (hb0 : base ≤ w.heap.size) (h : PMine w base 81 g n c f) :
    Calls Tryz.prog 139 #[.slice (some ⟨g, a * 2, none⟩) m cc, .agg #[.int .i64 p.1, .int .i64 p.2]] w (Filled w base g n c (fillF f a m p)) := by
  obtain ⟨p0, p1⟩ := p
  have hg := h.2.2.1
  have hbg := h.2.1
  have HM := Lib.hid (h.alloc (.cells #[.int .i64 p0, .int .i64 p1] 81))
  clear h
  go_enter Tryz.func139, Tryz.ntmps139
  go_wp2
  go_loopw [7] (fun i wr => ∃ k : Nat, k ≤ m ∧ i = .int .i64 k ∧ PMine wr base 81 g n c (fillF f a k (p0, p1)) ∧ Below base w wr ∧ w.heap.size < wr.heap.size ∧
    wr.cell? ⟨w.heap.size, 0, none⟩ = some (.int .i64 p0) ∧ wr.cell? ⟨w.heap.size, 1, none⟩ = some (.int .i64 p1)) (fun i _ => m - (intOf i).toNat)
  case atStart => exact ⟨0, Nat.zero_le _, rfl, by rw [fillF_zero]; exact HM.out, (Below.refl _ _).alloc hb0 _, by simp, by simp [go_sem], by simp [go_sem]⟩
  case round =>
    obtain ⟨k, hk, rfl, hm, hb, hsz, c0, c1⟩ := hrel
    have HB := Lib.hid hb
    have HK := Lib.hid hm
    have hz := hb.size
    by_cases hlt : k < m
    · have f0 := hm.free (a * 2 + k * 2)
      have f1 := hm.free (a * 2 + k * 2 + 1)
      have hgr := hm.2.2.1
      obtain ⟨d0, d1⟩ := hm.cells (a + k) (by omega)
      rw [show (a + k) * 2 = a * 2 + k * 2 by omega] at d0 d1
      clear hm hb
      go_wp2
      go_roundw
      case rel =>
        refine ⟨k + 1, by omega, by go_num, ?_, ?_, ?_, ?_, ?_⟩
        · have := HK.out.stored (a + k) (p0, p1)
          rw [show (a + k) * 2 = a * 2 + k * 2 by omega, fillF_succ] at this
          exact this
        · exact (HB.out.setCell (by simpa using hbg) _).setCell (by simpa using hbg) _
        · simpa using hsz
        · simp [go_sem, c0]
        · simp [go_sem, c1]
      case measure => simp [intOf]; omega
    · obtain rfl : k = m := by omega
      clear hm hb
      go_wp2
      go_end0
      exact ⟨rfl, HK.out, HB.out⟩
end Go.Proofs.YtcbnefjfoeanoaaGreatDoor.Cl
end
section
namespace Go.Proofs.YtcbnefjfoeanoaaGreatDoor
open Go.RowKit
set_option maxRecDepth 100000

theorem iclone_any (B : Nat) (A : Option Addr) (n c : Nat) (xs : List Int) (w : World) (hn : n ≤ 2000000) (hB : B ≤ w.heap.size) (hr : Row w B A n xs) :
    Calls Tryz.prog 80 #[.slice A n c] w (Ls.AllOut w xs) := by
  have HR := Lib.hid hr
  have q22 : ∀ (w : World) (a : Option Addr) (n c n' c' : Nat), (binOp .eql 22 (.slice a n c) (.slice none n' c')).run Tryz.prog w = .ok (.bool a.isNone) w := fun w a n c n' c' => Lib.run_eql_slice_nil w _ _ a n c n' c' Tryz.underlying22
  have hl := hr.1
  have hA : A = none → n = 0 ∧ xs = [] := fun e => by
    by_cases h0 : n = 0
    · exact ⟨h0, List.eq_nil_of_length_eq_zero (by omega)⟩
    · obtain ⟨b, off, e', _⟩ := hr.2 (by omega)
      rw [e] at e'
      cases e'
  clear hr hl
  cases A with
  | none =>
    obtain ⟨rfl, rfl⟩ := hA rfl
    clear hA
    go_enter Tryz.func80, Tryz.ntmps80
    go_wp2
    go_ret
    exact ⟨⟨none, 0, 0⟩, rfl, World.ownsRow_nil _ _ _ _, Below.refl _ _⟩
  | some x =>
    clear hA
    go_enter Tryz.func80, Tryz.ntmps80
    go_wp2_with (at_builtin; refine Ls.list_cat rfl (.tmp 5) (.tmp 6) rfl rfl rfl (xs := []) (World.ownsRow_made w #[] 0 (Nat.le_refl _) (Nat.zero_le _) rfl) (HR.out.below ((Below.refl B w).alloc hB _)) (by simp) (by omega) ?_)
    intro p' cp' w1 hcat
    have ho := hcat.own
    have hg := hcat.grown
    have HO := Lib.hid ho
    have HG := Lib.hid hg
    clear hcat ho hg
    go_wp2
    go_ret
    exact ⟨⟨p', n, cp'⟩, rfl, HO.out, ((Below.refl _ w).alloc (Nat.le_refl _) _).grown HG.out (by simp) (by intro k hk; simp [Value.ownBlock] at hk; omega)⟩

def bcells (f : Nat → Bool) (n : Nat) : List Value := (List.range n).map fun i => .bool (f i)
theorem bcells_at (f : Nat → Bool) (n i : Nat) (h : i < n) : (bcells f n)[i]? = some (.bool (f i)) := by simp [bcells, h]
theorem info_boolC : (Tryz.prog.info? 4).map (fun i => (i.zero, i.size, i.bytes)) = some (some (.bool false), 1, 1) := by kernel_rfl
/-- A row of truth values in a block of the call's own. -/
def BMade (w : World) (n : Nat) (f : Nat → Bool) (e : Ending) (w' : World) : Prop :=
  ∃ g c, e = .returned (.slice (some ⟨g, 0, none⟩) n c) ∧ (∀ i, i < n → w'.cell? ⟨g, i, none⟩ = some (.bool (f i))) ∧ w.heap.size ≤ g ∧ g < w'.heap.size ∧ Below w.heap.size w w'
theorem bmade_of {w w1 : World} {v : Value} {n : Nat} {f : Nat → Bool} (h : w1.ownsRow w.heap.size 4 1 v n (bcells f n)) (hn : 0 < n) :
    ∃ g c, v = .slice (some ⟨g, 0, none⟩) n c ∧ (∀ i, i < n → w1.cell? ⟨g, i, none⟩ = some (.bool (f i))) ∧ w.heap.size ≤ g ∧ g < w1.heap.size := by
  rcases h.2 with ⟨rfl, h0⟩ | ⟨g, c, cur, rfl, hb, hh, hnc, hcm, _⟩
  · omega
  · exact ⟨g, c, rfl, fun i hi => (h.cellAt i (by omega)).trans (bcells_at f n i hi), hb, (Array.getElem?_eq_some_iff.1 hh).1⟩
theorem bclone_ok (B : Nat) (A : Option Addr) (n c : Nat) (f : Nat → Bool) (w : World) (hn : 0 < n) (hbig : n ≤ 1000000) (hr : BRow w B A n f) :
    Calls Tryz.prog 82 #[.slice A n c] w (BMade w n f) := by
  obtain ⟨i0, hi, hz0, hz1, hz2⟩ := info_parts info_boolC
  obtain ⟨b, off, rfl, _, hc⟩ := hr hn
  have HC := Lib.hid hc
  have q22 : ∀ (w : World) (a : Option Addr) (n c n' c' : Nat), (binOp .eql 26 (.slice a n c) (.slice none n' c')).run Tryz.prog w = .ok (.bool a.isNone) w := fun w a n c n' c' => Lib.run_eql_slice_nil w _ _ a n c n' c' Tryz.underlying26
  have u22 : ∀ w, Sem.run Tryz.prog (underlying 26) w = .ok (TypeDesc.slice 4) w := run_underlying Tryz.underlying26
  clear hc hr
  go_enter Tryz.func82, Tryz.ntmps82
  go_wp2_with (at_builtin; refine wpList_append_own _ rfl _ _ 26 rfl w.heap.size 4 i0 (.bool false) 1 1 Tryz.underlying26 hi hz0 hz1 hz2 rfl (by decide) _ _ _ rfl (World.ownsRow_made w #[] 0 (Nat.le_refl _) (Nat.zero_le _) rfl) ⟨b, off, none⟩ n c (bcells f n) rfl ?qc1 ?qc2 ?qc3 ?qc4 ?qc5 ?qc6 ?_)
  case qc1 => simp [bcells]
  case qc2 =>
    intro j u hj
    rw [Addr.add_lit]
    have hjn : j < n := by
      have := (List.getElem?_eq_some_iff.1 hj).1
      simpa [bcells] using this
    rw [bcells_at f n j hjn] at hj
    rw [← hj]
    exact Lib.cell?_alloc_some _ (HC.out j hjn)
  case qc3 =>
    intro u hu
    obtain ⟨x, _, rfl⟩ := List.mem_map.1 hu
    rfl
  case qc4 => unfold maxLen; omega
  case qc5 => omega
  case qc6 => simp
  intro v' w1 hown hgrow hnil
  have hown' : w1.ownsRow w.heap.size 4 1 v' n (bcells f n) := by simpa using hown
  obtain ⟨g, c', rfl, hm, hb, hl⟩ := bmade_of hown' hn
  have HM := Lib.hid hm
  clear hown hown' hnil hm
  go_wp2
  go_ret
  exact ⟨g, c', rfl, HM.out, hb, hl, ((Below.refl _ w).alloc (Nat.le_refl _) _).grown hgrow (by simp) (by intro k hk; simp [Value.ownBlock] at hk; omega)⟩
end Go.Proofs.YtcbnefjfoeanoaaGreatDoor
end
section
namespace Go.Proofs.YtcbnefjfoeanoaaGreatDoor
open Go.RowKit
set_option maxRecDepth 100000

/-- A box of six cells that are not frozen. -/
structure Box6 (W : World) (b : Nat) (t : Hs) : Prop where
  box : HBox W b t
  free : ∀ j, W.frozen? ⟨b, j, none⟩ = false
/-- Of such a heap's slices none lies in the two boxes. -/
def Off (b : Nat) (v : Ls.Sl) : Prop := 0 < v.n → ∀ x, v.a = some x → ¬ x.block = b ∧ ¬ x.block = b + 1
/-- A slice in new memory. -/
def New (b : Nat) (v : Ls.Sl) : Prop := 0 < v.n → ∀ x, v.a = some x → b ≤ x.block
/-- A heap that is being copied: what the box holds so far. -/
structure Cp (w W : World) (t : Hs) (d : Hd_) : Prop where
  bel : Below w.heap.size w W
  hp : Hp W W.heap.size t d
  ow : Off w.heap.size t.w
  op : Off w.heap.size t.p
  ou : ∀ j, j < 3 → Off w.heap.size (t.u j)
  oc : Off w.heap.size t.c
  box : Box6 W w.heap.size t
  res : Box6 W (w.heap.size + 1) noHs
theorem Box6.next {W W' : World} {b : Nat} {t : Hs} (h : Box6 W b t) (hb : Below W.heap.size W W') : Box6 W' b t := ⟨h.box.next hb, fun j => (hb.frozen (p := ⟨b, j, none⟩) h.box.lt).trans (h.free j)⟩
theorem Box6.same {W W' : World} {b : Nat} {t : Hs} (h : Box6 W b t) (hs : W'.heap[b]? = W.heap[b]?) (hl : W.heap.size ≤ W'.heap.size) : Box6 W' b t :=
  ⟨⟨(World.cell?_of_block (a := ⟨b, 0, none⟩) hs).trans h.box.c0, (World.cell?_of_block (a := ⟨b, 1, none⟩) hs).trans h.box.c1, (World.cell?_of_block (a := ⟨b, 2, none⟩) hs).trans h.box.c2, (World.cell?_of_block (a := ⟨b, 3, none⟩) hs).trans h.box.c3, (World.cell?_of_block (a := ⟨b, 4, none⟩) hs).trans h.box.c4, (World.cell?_of_block (a := ⟨b, 5, none⟩) hs).trans h.box.c5, Nat.lt_of_lt_of_le h.box.lt hl⟩,
   fun j => (World.frozen?_of_block (a := ⟨b, j, none⟩) hs).trans (h.free j)⟩
theorem Cp.next {w W W' : World} {t : Hs} {d : Hd_} (h : Cp w W t d) (hb : Below W.heap.size W W') : Cp w W' t d :=
  ⟨h.bel.trans (hb.mono h.bel.size), h.hp.next hb, h.ow, h.op, h.ou, h.oc, h.box.next hb, h.res.next hb⟩
/-- All slices stand where only the first box is turned. -/
theorem hp_off {W W' : World} {b : Nat} {t : Hs} {d : Hd_} (h : Hp W W.heap.size t d) (ow : Off b t.w) (op : Off b t.p) (ou : ∀ j, j < 3 → Off b (t.u j)) (oc : Off b t.c) (hs : ∀ k, ¬ k = b → ¬ k = b + 1 → W'.heap[k]? = W.heap[k]?) (hl : W.heap.size = W'.heap.size) : Hp W' W'.heap.size t d := by
  rw [← hl]
  refine ⟨row_same h.words fun hn x hx => hs _ (ow hn x hx).1 (ow hn x hx).2, fun hn => ?_, fun j hj => ⟨row_same (h.free j hj).1 fun hn x hx => hs _ (ou j hj hn x hx).1 (ou j hj hn x hx).2, (h.free j hj).2⟩, fun hn => ?_⟩
  · obtain ⟨b', off, e, hlt, hc⟩ := h.pages hn
    refine ⟨b', off, e, hlt, fun i hi => ?_⟩
    have hb' := hs b' (op hn _ e).1 (op hn _ e).2
    exact ⟨(World.cell?_of_block (a := ⟨b', off + i * 2, none⟩) hb').trans (hc i hi).1, (World.cell?_of_block (a := ⟨b', off + i * 2 + 1, none⟩) hb').trans (hc i hi).2⟩
  · obtain ⟨b', off, e, hlt, hc⟩ := h.cards hn
    refine ⟨b', off, e, hlt, fun i hi => ?_⟩
    exact (World.cell?_of_block (a := ⟨b', off + i, none⟩) (hs b' (oc hn _ e).1 (oc hn _ e).2)).trans (hc i hi)
theorem frozen_set {W : World} {b k : Nat} {v : Value} (h : ∀ j, W.frozen? ⟨b, j, none⟩ = false) : ∀ j, (W.setCell ⟨b, k, none⟩ v).frozen? ⟨b, j, none⟩ = false := fun j => by rw [World.frozen?_setCell]; exact h j
theorem cell_set {W : World} {b k j : Nat} {v x y : Value} (h : W.cell? ⟨b, j, none⟩ = some x) (hy : y = if j = k then v else x) : (W.setCell ⟨b, k, none⟩ v).cell? ⟨b, j, none⟩ = some y := by
  subst hy
  by_cases e : j = k
  · subst e
    rw [if_pos rfl]
    exact World.cell?_setCell_same' _ _ _ (by rw [h]; rfl)
  · rw [if_neg e, World.cell?_setCell_other _ _ _ _ (by intro hh; simp only [Addr.mk.injEq, true_and, and_true] at hh; omega)]
    exact h
/-- One cell of the box is turned: the heap with that slice in the place of the old one. -/
theorem Cp.set {w W : World} {t t' : Hs} {d : Hd_} (h : Cp w W t d) (k : Nat) (v : Value) (hp : Hp W W.heap.size t' d) (ow : Off w.heap.size t'.w) (op : Off w.heap.size t'.p) (ou : ∀ j, j < 3 → Off w.heap.size (t'.u j)) (oc : Off w.heap.size t'.c)
    (e0 : Value.slice t'.w.a t'.w.n t'.w.c = if 0 = k then v else .slice t.w.a t.w.n t.w.c) (e1 : Value.slice t'.p.a t'.p.n t'.p.c = if 1 = k then v else .slice t.p.a t.p.n t.p.c)
    (e2 : Value.slice (t'.u 0).a (t'.u 0).n (t'.u 0).c = if 2 = k then v else .slice (t.u 0).a (t.u 0).n (t.u 0).c) (e3 : Value.slice (t'.u 1).a (t'.u 1).n (t'.u 1).c = if 3 = k then v else .slice (t.u 1).a (t.u 1).n (t.u 1).c)
    (e4 : Value.slice (t'.u 2).a (t'.u 2).n (t'.u 2).c = if 4 = k then v else .slice (t.u 2).a (t.u 2).n (t.u 2).c) (e5 : Value.slice t'.c.a t'.c.n t'.c.c = if 5 = k then v else .slice t.c.a t.c.n t.c.c) :
    Cp w (W.setCell ⟨w.heap.size, k, none⟩ v) t' d := by
  have hsz : W.heap.size = (W.setCell ⟨w.heap.size, k, none⟩ v).heap.size := by simp [World.setCell]
  have hoth : ∀ j, ¬ j = w.heap.size → (W.setCell ⟨w.heap.size, k, none⟩ v).heap[j]? = W.heap[j]? := fun j hj => Below.heap_setCell _ _ _ _ hj
  exact ⟨h.bel.setCell (Nat.le_refl _) _, hp_off hp ow op ou oc (fun j hj _ => hoth j hj) hsz, ow, op, ou, oc,
    ⟨⟨cell_set h.box.box.c0 e0, cell_set h.box.box.c1 e1, cell_set h.box.box.c2 e2, cell_set h.box.box.c3 e3, cell_set h.box.box.c4 e4, cell_set h.box.box.c5 e5, by rw [← hsz]; exact h.box.box.lt⟩, frozen_set h.box.free⟩,
    h.res.same (hoth _ (by omega)) (Nat.le_of_eq hsz)⟩
theorem Cp.drew {w W : World} {t : Hs} {d : Hd_} (h : Cp w W t d) : Cp w W.drew t d := h.next (below_drawn' (Below.refl _ _) 1)
theorem off_old {w : World} {b : Nat} {v : Ls.Sl} {xs : List Int} (h : Row w b v.a v.n xs) : Off b v := fun hn x hx => by
  obtain ⟨b', off, e, hlt, _⟩ := h.2 hn
  rw [hx] at e
  cases e
  exact ⟨by show ¬ b' = b; omega, by show ¬ b' = b + 1; omega⟩
theorem off_new {b g : Nat} (n c o : Nat) (h : b + 2 ≤ g) : Off b ⟨some ⟨g, o, none⟩, n, c⟩ := fun _ x hx => by
  cases hx
  exact ⟨by show ¬ g = b; omega, by show ¬ g = b + 1; omega⟩
/-- A slice that a call made, as a row, and apart from the boxes. -/
theorem own_off {b base : Nat} {W : World} {v : Ls.Sl} {xs : List Int} (ho : W.ownsRow base 3 1 (.slice v.a v.n v.c) v.n (xs.map (Value.int .i64))) (hb : b + 2 ≤ base) : Row W W.heap.size v.a v.n xs ∧ v.n ≤ v.c ∧ v.c ≤ maxLen ∧ Off b v ∧ New b v := by
  obtain ⟨a, c, e, hr, h1, h2⟩ := Ls.owns_row ho
  simp only [Value.slice.injEq, true_and] at e
  obtain ⟨rfl, rfl⟩ := e
  refine ⟨hr, h1, h2, fun _ x hx => ?_, fun _ x hx => ?_⟩
  · have := (ho.lt x.block (by rw [Ls.ownBlock_slice, hx]; rfl)).1
    exact ⟨by omega, by omega⟩
  · have := (ho.lt x.block (by rw [Ls.ownBlock_slice, hx]; rfl)).1
    omega
theorem new_new {b g : Nat} (n c o : Nat) (h : b + 2 ≤ g) : New b ⟨some ⟨g, o, none⟩, n, c⟩ := fun _ x hx => by
  cases hx
  show b ≤ g
  omega
/-- What copied leaves: the same heap, in memory of its own. -/
structure News (b : Nat) (t : Hs) : Prop where
  w : New b t.w
  p : New b t.p
  u : ∀ j, j < 3 → New b (t.u j)
  c : New b t.c
/-- A heap in new memory stands where nothing of that is turned. -/
theorem News.kept {b : Nat} {t : Hs} {d : Hd_} {W W' : World} (hn : News b t) (h : Hp W W.heap.size t d) (hs : ∀ k, b ≤ k → k < W.heap.size → W'.heap[k]? = W.heap[k]?) (hl : W.heap.size ≤ W'.heap.size) : Hp W' W'.heap.size t d := by
  refine Hp.more ?_ hl
  refine ⟨row_same h.words fun h0 x hx => ?_, fun h0 => ?_, fun j hj => ⟨row_same (h.free j hj).1 fun h0 x hx => ?_, (h.free j hj).2⟩, fun h0 => ?_⟩
  · obtain ⟨b', off, e, hlt, _⟩ := h.words.2 h0
    rw [hx] at e
    cases e
    exact hs _ (hn.w h0 _ hx) hlt
  · obtain ⟨b', off, e, hlt, hc⟩ := h.pages h0
    have hb' := hs b' (hn.p h0 _ e) hlt
    exact ⟨b', off, e, hlt, fun i hi => ⟨(World.cell?_of_block (a := ⟨b', off + i * 2, none⟩) hb').trans (hc i hi).1, (World.cell?_of_block (a := ⟨b', off + i * 2 + 1, none⟩) hb').trans (hc i hi).2⟩⟩
  · obtain ⟨b', off, e, hlt, _⟩ := (h.free j hj).1.2 h0
    rw [hx] at e
    cases e
    exact hs _ (hn.u j hj h0 _ hx) hlt
  · obtain ⟨b', off, e, hlt, hc⟩ := h.cards h0
    exact ⟨b', off, e, hlt, fun i hi => (World.cell?_of_block (a := ⟨b', off + i, none⟩) (hs b' (hn.c h0 _ e) hlt)).trans (hc i hi)⟩
def CopyOut (w : World) (s : Hs) (d : Hd_) (e : Ending) (w' : World) : Prop :=
  ∃ t : Hs, e = .returned (.agg #[.slice t.w.a t.w.n t.w.c, .slice t.p.a t.p.n t.p.c, .slice (t.u 0).a (t.u 0).n (t.u 0).c, .slice (t.u 1).a (t.u 1).n (t.u 1).c, .slice (t.u 2).a (t.u 2).n (t.u 2).c, .slice t.c.a t.c.n t.c.c]) ∧ Hp w' w'.heap.size t d ∧ (t.w.n = s.w.n ∧ t.p.n = s.p.n ∧ (∀ j, j < 3 → (t.u j).n = (s.u j).n) ∧ t.c.n = s.c.n) ∧ News w.heap.size t ∧ Below w.heap.size w w'
/-- Words, pages and cards are turned at once. -/
theorem Cp.three {w W : World} {s t : Hs} {d : Hd_} (h : Cp w W s d) (hp : Hp W W.heap.size t d) (ow : Off w.heap.size t.w) (op : Off w.heap.size t.p) (oc : Off w.heap.size t.c) (eu : t.u = s.u) :
    Cp w (((W.setCell ⟨w.heap.size, 0, none⟩ (.slice t.w.a t.w.n t.w.c)).setCell ⟨w.heap.size, 1, none⟩ (.slice t.p.a t.p.n t.p.c)).setCell ⟨w.heap.size, 5, none⟩ (.slice t.c.a t.c.n t.c.c)) t d := by
  have hsz : W.heap.size = (((W.setCell ⟨w.heap.size, 0, none⟩ (.slice t.w.a t.w.n t.w.c)).setCell ⟨w.heap.size, 1, none⟩ (.slice t.p.a t.p.n t.p.c)).setCell ⟨w.heap.size, 5, none⟩ (.slice t.c.a t.c.n t.c.c)).heap.size := by simp [World.setCell]
  have hoth : ∀ j, ¬ j = w.heap.size → (((W.setCell ⟨w.heap.size, 0, none⟩ (.slice t.w.a t.w.n t.w.c)).setCell ⟨w.heap.size, 1, none⟩ (.slice t.p.a t.p.n t.p.c)).setCell ⟨w.heap.size, 5, none⟩ (.slice t.c.a t.c.n t.c.c)).heap[j]? = W.heap[j]? := fun j hj => (Below.heap_setCell _ _ _ _ hj).trans ((Below.heap_setCell _ _ _ _ hj).trans (Below.heap_setCell _ _ _ _ hj))
  have ou : ∀ j, j < 3 → Off w.heap.size (t.u j) := by rw [eu]; exact h.ou
  refine ⟨((h.bel.setCell (p := ⟨w.heap.size, 0, none⟩) (Nat.le_refl _) _).setCell (p := ⟨w.heap.size, 1, none⟩) (Nat.le_refl _) _).setCell (p := ⟨w.heap.size, 5, none⟩) (Nat.le_refl _) _, hp_off hp ow op ou oc (fun j hj _ => hoth j hj) hsz, ow, op, ou, oc,
    ⟨⟨?_, ?_, ?_, ?_, ?_, ?_, by rw [← hsz]; exact h.box.box.lt⟩, frozen_set (frozen_set (frozen_set h.box.free))⟩, h.res.same (hoth _ (by omega)) (Nat.le_of_eq hsz)⟩
  · exact cell_set (cell_set (cell_set h.box.box.c0 rfl) rfl) rfl
  · exact cell_set (cell_set (cell_set h.box.box.c1 rfl) rfl) rfl
  · rw [eu]; exact cell_set (cell_set (cell_set h.box.box.c2 rfl) rfl) rfl
  · rw [eu]; exact cell_set (cell_set (cell_set h.box.box.c3 rfl) rfl) rfl
  · rw [eu]; exact cell_set (cell_set (cell_set h.box.box.c4 rfl) rfl) rfl
  · exact cell_set (cell_set (cell_set h.box.box.c5 rfl) rfl) rfl
/-- One of the lists is turned. -/
theorem Cp.list {w W : World} {t : Hs} {d : Hd_} (h : Cp w W t d) {k : Nat} (hk : k < 3) (v : Ls.Sl) (hr : Row W W.heap.size v.a v.n (d.F k)) (h1 : v.n ≤ v.c) (h2 : v.c ≤ maxLen) (ho : Off w.heap.size v) :
    Cp w (W.setCell ⟨w.heap.size, 2 + k, none⟩ (.slice v.a v.n v.c)) ⟨t.w, t.p, Ls.upd t.u k v, t.c⟩ d := by
  have hp : Hp W W.heap.size ⟨t.w, t.p, Ls.upd t.u k v, t.c⟩ d := ⟨h.hp.words, h.hp.pages, by
    have := h.hp.free.set k v (d.F k) hr h1 h2
    rwa [show Ls.upd d.F k (d.F k) = d.F by funext j; by_cases e : j = k <;> simp [Ls.upd, e]] at this, h.hp.cards⟩
  have ou : ∀ j, j < 3 → Off w.heap.size (Ls.upd t.u k v j) := fun j hj => by
    by_cases e : j = k
    · subst e; rw [Ls.upd_same]; exact ho
    · rw [Ls.upd_other _ _ e]; exact h.ou j hj
  refine h.set (2 + k) _ hp h.ow h.op ou h.oc ?_ ?_ ?_ ?_ ?_ ?_
  · rw [if_neg (by omega)]
  · rw [if_neg (by omega)]
  · by_cases e : k = 0
    · subst e; rfl
    · rw [if_neg (by omega)]
      dsimp only
      rw [Ls.upd_other _ _ (by omega)]
  · by_cases e : k = 1
    · subst e; rfl
    · rw [if_neg (by omega)]
      dsimp only
      rw [Ls.upd_other _ _ (by omega)]
  · by_cases e : k = 2
    · subst e; rfl
    · rw [if_neg (by omega)]
      dsimp only
      rw [Ls.upd_other _ _ (by omega)]
  · rw [if_neg (by omega)]
theorem prow_more {w : World} {B C n : Nat} {a : Option Addr} {f : Nat → Int × Int} (h : Cl.PRow w B a n f) (hB : B ≤ C) : Cl.PRow w C a n f := fun hn => by
  obtain ⟨b, off, e, hlt, hc⟩ := h hn
  exact ⟨b, off, e, Nat.lt_of_lt_of_le hlt hB, hc⟩
def Lens (s t : Hs) : Prop := t.w.n = s.w.n ∧ t.p.n = s.p.n ∧ (∀ j, j < 3 → (t.u j).n = (s.u j).n) ∧ t.c.n = s.c.n
theorem cp_end {w W : World} {s t : Hs} {d : Hd_} (h : Cp w W t d) (hl : Lens s t) (hn : News w.heap.size t) (v0 v1 v2 v3 v4 v5 : Value) : CopyOut w s d (.returned (.agg #[.slice t.w.a t.w.n t.w.c, .slice t.p.a t.p.n t.p.c, .slice (t.u 0).a (t.u 0).n (t.u 0).c, .slice (t.u 1).a (t.u 1).n (t.u 1).c, .slice (t.u 2).a (t.u 2).n (t.u 2).c, .slice t.c.a t.c.n t.c.c])) (put6 W (w.heap.size + 1) v0 v1 v2 v3 v4 v5) :=
  ⟨t, rfl, hp_off h.hp h.ow h.op h.ou h.oc (fun _ _ hk => put6_other _ _ _ _ _ _ _ _ hk) (put6_size _ _ _ _ _ _ _ _).symm, hl, hn, below_put6 h.bel (by omega) _ _ _ _ _ _⟩
theorem cp_start {w W0 : World} {s : Hs} {d : Hd_} (hp : Hp w w.heap.size s d) (h : W0 = (w.alloc (.cells #[.slice s.w.a s.w.n s.w.c, .slice s.p.a s.p.n s.p.c, .slice (s.u 0).a (s.u 0).n (s.u 0).c, .slice (s.u 1).a (s.u 1).n (s.u 1).c, .slice (s.u 2).a (s.u 2).n (s.u 2).c, .slice s.c.a s.c.n s.c.c] 28)).alloc (.cells #[.slice none 0 0, .slice none 0 0, .slice none 0 0, .slice none 0 0, .slice none 0 0, .slice none 0 0] 28)) : Cp w W0 s d := by
  have hb : Below w.heap.size w W0 := by rw [h]; exact ((Below.refl _ _).alloc (Nat.le_refl _) _).alloc (by simp) _
  have b1 := HBox.new w s 28
  have bb : Below (w.alloc (.cells #[.slice s.w.a s.w.n s.w.c, .slice s.p.a s.p.n s.p.c, .slice (s.u 0).a (s.u 0).n (s.u 0).c, .slice (s.u 1).a (s.u 1).n (s.u 1).c, .slice (s.u 2).a (s.u 2).n (s.u 2).c, .slice s.c.a s.c.n s.c.c] 28)).heap.size (w.alloc (.cells #[.slice s.w.a s.w.n s.w.c, .slice s.p.a s.p.n s.p.c, .slice (s.u 0).a (s.u 0).n (s.u 0).c, .slice (s.u 1).a (s.u 1).n (s.u 1).c, .slice (s.u 2).a (s.u 2).n (s.u 2).c, .slice s.c.a s.c.n s.c.c] 28)) W0 := by rw [h]; exact (Below.refl _ _).alloc (Nat.le_refl _) _
  refine ⟨hb, hp.next hb, off_old hp.words, fun hn x hx => ?_, fun j hj => off_old (hp.free j hj).1, fun hn x hx => ?_, Box6.next ⟨b1, fun j => by simp [go_sem]⟩ bb, ?_⟩
  · obtain ⟨b', off, e, hlt, _⟩ := hp.pages hn
    rw [hx] at e
    cases e
    exact ⟨by show ¬ b' = _; omega, by show ¬ b' = _; omega⟩
  · obtain ⟨b', off, e, hlt, _⟩ := hp.cards hn
    rw [hx] at e
    cases e
    exact ⟨by show ¬ b' = _; omega, by show ¬ b' = _; omega⟩
  · have b2 := HBox.new (w.alloc (.cells #[.slice s.w.a s.w.n s.w.c, .slice s.p.a s.p.n s.p.c, .slice (s.u 0).a (s.u 0).n (s.u 0).c, .slice (s.u 1).a (s.u 1).n (s.u 1).c, .slice (s.u 2).a (s.u 2).n (s.u 2).c, .slice s.c.a s.c.n s.c.c] 28)) noHs 28
    rw [World.size_alloc] at b2
    rw [h]
    exact ⟨b2, fun j => by simp [go_sem]⟩
theorem put6_at {W : World} {b : Nat} {t : Hs} (h : Box6 W b t) (v0 v1 v2 v3 v4 v5 : Value) :
    (put6 W b v0 v1 v2 v3 v4 v5).cell? ⟨b, 0, none⟩ = some v0 ∧ (put6 W b v0 v1 v2 v3 v4 v5).cell? ⟨b, 1, none⟩ = some v1 ∧ (put6 W b v0 v1 v2 v3 v4 v5).cell? ⟨b, 2, none⟩ = some v2 ∧
    (put6 W b v0 v1 v2 v3 v4 v5).cell? ⟨b, 3, none⟩ = some v3 ∧ (put6 W b v0 v1 v2 v3 v4 v5).cell? ⟨b, 4, none⟩ = some v4 ∧ (put6 W b v0 v1 v2 v3 v4 v5).cell? ⟨b, 5, none⟩ = some v5 := by
  have h0 := h.box.c0
  have h1 := h.box.c1
  have h2 := h.box.c2
  have h3 := h.box.c3
  have h4 := h.box.c4
  have h5 := h.box.c5
  refine ⟨?_, ?_, ?_, ?_, ?_, ?_⟩ <;> simp [put6, go_sem, h0, h1, h2, h3, h4, h5]
end Go.Proofs.YtcbnefjfoeanoaaGreatDoor
end
section
namespace Go.Proofs.YtcbnefjfoeanoaaGreatDoor
open Go.RowKit
set_option maxRecDepth 100000

/-- Another head with as many fields stands at a; all else is as it was. -/
structure Turned (s t : Hs) (d d' : Hd_) (a : Int) : Prop where
  len : Lens s t
  f : d'.f = d.f
  F : d'.F = d.F
  oth : ∀ y, 16 ≤ y → ¬ y = a → wd d' y = wd d y
  w1 : Hd.isWord (wd d' a) = true ∧ wd d' a % 2 = 1
  w2 : Hd.isWord (wd d a) = true ∧ wd d a % 2 = 1
  n : nOf (wd d' a) = nOf (wd d a)
section
variable {s t : Hs} {d d' : Hd_} {a : Int}
theorem Turned.word (h : Turned s t d d' a) {y : Int} (hy : 16 ≤ y) : Hd.isWord (wd d' y) = Hd.isWord (wd d y) ∧ (wd d' y % 2 = 1 ↔ wd d y % 2 = 1) ∧ nOf (wd d' y) = nOf (wd d y) ∧ (wd d' y = 0 ↔ wd d y = 0) := by
  by_cases e : y = a
  · subst e
    have h1 := h.w1
    have h2 := h.w2
    exact ⟨h1.1.trans h2.1.symm, ⟨fun _ => h2.2, fun _ => h1.2⟩, h.n, ⟨fun e => by omega, fun e => by omega⟩⟩
  · rw [h.oth y hy e]
    exact ⟨rfl, Iff.rfl, rfl, Iff.rfl⟩
theorem Turned.cell (h : Turned s t d d' a) {y : Int} (hy : 16 ≤ y) : cellAt d' y = cellAt d y := by
  obtain ⟨h1, h2, h3, _⟩ := h.word hy
  unfold cellAt cellB
  rw [h.f, show d'.ws.getD (y - 16).toNat 0 = wd d' y from rfl, show d.ws.getD (y - 16).toNat 0 = wd d y from rfl]
  by_cases hc : Hd.isWord (wd d y) = true ∧ wd d y % 2 = 1
  · have hc' : Hd.isWord (wd d' y) = true ∧ wd d' y % 2 = 1 := ⟨h1.trans hc.1, h2.2 hc.2⟩
    rw [if_pos hc, if_pos hc', h3]
  · have hc' : ¬ (Hd.isWord (wd d' y) = true ∧ wd d' y % 2 = 1) := fun e => hc ⟨h1.symm.trans e.1, h2.1 e.2⟩
    rw [if_neg hc, if_neg hc', h1]
theorem bg_in16 {f : Nat → Int × Int} {n : Nat} {y : Int} (h : ¬ Cl.bg f n y = 0) : 16 ≤ y :=
  Classical.byContradiction fun hn => h (Cl.bg_no fun e => hn e.2.1)
theorem Turned.freeH (h : Turned s t d d' a) (n : Nat) (y c : Int) : freeH d' n y c = Go.Proofs.YtcbnefjfoeanoaaGreatDoor.freeH d n y c := by
  unfold Go.Proofs.YtcbnefjfoeanoaaGreatDoor.freeH
  rw [h.f]
  by_cases hb : Cl.bg d.f n y = 0
  · rw [if_pos hb, if_pos hb]
  · rw [if_neg hb, if_neg hb]
    have h4 := (h.word (bg_in16 hb)).2.2.2
    rw [show d'.ws.getD (y - 16).toNat 0 = wd d' y from rfl, show d.ws.getD (y - 16).toNat 0 = wd d y from rfl]
    congr 1
    rw [Bool.eq_iff_iff, beq_iff_eq, beq_iff_eq]
    exact h4
theorem Turned.may (h : Turned s t d d' a) (m : Nat) (F : Nat → Nat → List Int) : mayH t d' m F = mayH s d m F := by
  unfold mayH firstB freeAll
  rw [h.len.1, h.len.2.1, h.len.2.2.2, h.f, h.F, all_congr fun y hy => h.cell (allS_in hy).1]
  simp only [h.freeH]
theorem Turned.may0 (h : Turned s t d d' a) : mayB0 t d' = mayB0 s d := h.may 0 noCaches
theorem Turned.used (h : Turned s t d d' a) : usedL t d' = usedL s d := by
  unfold usedL usedF
  rw [h.may0, h.f, h.len.2.1]
  split
  · refine List.filter_congr fun y hy => ?_
    rw [decide_eq_decide]
    exact (h.word (allS_in hy).1).2.1
  · rfl
theorem Turned.whole (h : Turned s t d d' a) (m : Nat) (F : Nat → Nat → List Int) : wholeH t d' m F = wholeH s d m F := by
  unfold wholeH
  rw [h.may, h.f, h.F, h.len.2.1]
  congr 1
  refine all_congr fun y hy => ?_
  congr 2
  rw [Bool.eq_iff_iff, beq_iff_eq, beq_iff_eq]
  exact (h.word (allS_in hy).1).2.2.2
theorem Turned.headE (h : Turned s t d d' a) (y : Int) : headE t d' y = Go.Proofs.YtcbnefjfoeanoaaGreatDoor.headE s d y := by
  unfold Go.Proofs.YtcbnefjfoeanoaaGreatDoor.headE
  rw [h.may0, h.f, h.len.2.1]
  by_cases hm : mayB0 s d = false
  · rw [if_pos hm, if_pos hm]
  · rw [if_neg hm, if_neg hm]
    by_cases hb : Cl.bg d.f s.p.n y = 0
    · rw [if_pos (Or.inl hb), if_pos (Or.inl hb)]
    · have h4 := (h.word (bg_in16 hb)).2.2.2
      by_cases hw : wd d y = 0
      · rw [if_pos (Or.inr hw), if_pos (Or.inr (h4.2 hw))]
      · rw [if_neg (by rintro (e | e); exact hb e; exact hw (h4.1 e)), if_neg (by rintro (e | e); exact hb e; exact hw e)]
theorem Turned.headV (h : Turned s t d d' a) {y : Int} (hy : ¬ y = a) : headV t d' y = Go.Proofs.YtcbnefjfoeanoaaGreatDoor.headV s d y := by
  unfold Go.Proofs.YtcbnefjfoeanoaaGreatDoor.headV
  rw [h.headE]
  split
  · next he =>
    unfold Go.Proofs.YtcbnefjfoeanoaaGreatDoor.headE at he
    split at he
    · omega
    · split at he
      · omega
      · next hn => rw [h.oth y (bg_in16 fun e => hn (.inl e)) hy]
  · rfl
end
/-- The heap with the head's word at a. -/
def dSet (d : Hd_) (a : Int) (o e : Bool) (n b m : Int) : Hd_ := ⟨d.ws.set (a - 16).toNat (Hd.word true o e n b m), d.f, d.F, d.cs⟩
theorem turned_set {s t : Hs} {d : Hd_} {a : Int} {o e : Bool} {n b m : Int} (hl : Lens s t) (hm : mayB0 s d = true) (hlen : d.ws.length = s.w.n) (he : headE s d a = 0) (hx : Hd.mayB true o e n b m = true) (hn : n = nOf (wd d a)) : Turned s t d (dSet d a o e n b m) a ∧ headV t (dSet d a o e n b m) a = .agg #[.bool true, .bool o, .bool e, .int .i64 n, .int .i64 b, .int .i64 m] := by
  have hb : ¬ Cl.bg d.f s.p.n a = 0 ∧ ¬ wd d a = 0 := by
    unfold headE at he
    rw [if_neg (by rw [hm]; decide)] at he
    split at he
    · omega
    · next h => exact ⟨fun e => h (.inl e), fun e => h (.inr e)⟩
  have hw := may0_word hm hb.1
  have hwd : Hd.isWord (wd d a) = true := hw.2.2.2
  have hodd : wd d a % 2 = 1 := Classical.byContradiction fun hn => hb.2 (Hd.isWord_even hwd hn)
  have hat : wd (dSet d a o e n b m) a = Hd.word true o e n b m := by
    unfold wd dSet
    have : (a - 16).toNat < d.ws.length := by omega
    simp [List.getD, this]
  obtain ⟨p1, p2, p3, p4, p5, p6⟩ := Hd.word_parts hx
  have hT : Turned s t d (dSet d a o e n b m) a := ⟨hl, rfl, rfl, fun y hy hne => by
    unfold wd dSet
    have : ¬ (a - 16).toNat = (y - 16).toNat := by omega
    simp [List.getD, List.getElem?_set_ne this], by rw [hat]; exact ⟨Hd.isWord_word hx, p1⟩, ⟨hwd, hodd⟩, by rw [hat, ← hn]; exact p4⟩
  refine ⟨hT, ?_⟩
  unfold headV
  rw [hT.headE, if_pos he, hat, headOf_yes (Hd.isWord_word hx), decide_eq_true p1]
  have e1 : decide (Hd.word true o e n b m / 2 % 2 = 1) = o := by cases o <;> simp [p2]
  have e2 : decide (Hd.word true o e n b m / 4 % 2 = 1) = e := by cases e <;> simp [p3]
  rw [e1, e2, show nOf (Hd.word true o e n b m) = n from p4, p5, p6]
end Go.Proofs.YtcbnefjfoeanoaaGreatDoor
end
section

namespace Go.Proofs.YtcbnefjfoeanoaaGreatDoor.Ar
open Go.Proofs.YtcbnefjfoeanoaaGreatDoor
set_option maxRecDepth 100000
open Go.RowKit

/-- The list with noughts at k places from o on. -/
def wipe (xs : List Int) : Nat → Nat → List Int
  | _, 0 => xs
  | o, k + 1 => wipe (xs.set o 0) (o + 1) k
theorem wipe_length : ∀ (k o : Nat) (xs : List Int), (wipe xs o k).length = xs.length
  | 0, _, _ => rfl
  | k + 1, o, xs => by rw [wipe, wipe_length k, List.length_set]
theorem wipe_snoc : ∀ (k o : Nat) (xs : List Int), (wipe xs o k).set (o + k) 0 = wipe xs o (k + 1)
  | 0, _, _ => rfl
  | k + 1, o, xs => by
    rw [wipe, show o + (k + 1) = o + 1 + k by omega, wipe_snoc k (o + 1) (xs.set o 0)]
    rfl
theorem wipe_getD : ∀ (k o : Nat) (xs : List Int) (j : Nat), o + k ≤ xs.length → (wipe xs o k).getD j 0 = if o ≤ j ∧ j < o + k then 0 else xs.getD j 0
  | 0, o, xs, j, _ => by rw [wipe, if_neg (by omega)]
  | k + 1, o, xs, j, h => by
    rw [wipe, wipe_getD k (o + 1) (xs.set o 0) j (by rw [List.length_set]; omega)]
    by_cases h1 : o + 1 ≤ j ∧ j < o + 1 + k
    · rw [if_pos h1, if_pos (by omega)]
    · rw [if_neg h1]
      by_cases h2 : o = j
      · subst h2
        rw [if_pos (by omega)]
        simp [List.getD, show o < xs.length by omega]
      · rw [if_neg (by omega)]
        simp [List.getD, List.getElem?_set_ne h2]

theorem _root_.Go.Proofs.YtcbnefjfoeanoaaGreatDoor.Mine.wiped {base e g c n : Nat} : ∀ (k o : Nat) (w : World) (xs : List Int), Mine w base e g n c xs → Mine (w.setCells g o (List.replicate k (.int .i64 0))) base e g n c (wipe xs o k)
  | 0, _, _, _, h => h
  | k + 1, o, w, xs, h => by
    rw [List.replicate_succ, World.setCells, wipe]
    exact Mine.wiped k (o + 1) _ _ (h.stored o 0)
theorem below_wiped {B g : Nat} {a : World} (hB : B ≤ g) : ∀ (vs : List Value) (o : Nat) (w : World), Below B a w → Below B a (w.setCells g o vs)
  | [], _, _, h => h
  | v :: r, o, w, h => by
    rw [World.setCells]
    exact below_wiped hB r (o + 1) _ (h.setCell (by simpa using hB) v)

theorem zero_nil (B : Nat) (A : Option Addr) (n c : Nat) (xs : List Int) (a : Int) (w : World) (h : mayB n = true) (hr : Row w B A n xs) :
    Calls Tryz.prog 64 #[.slice A n c, .int .i64 a, .int .i64 0] w (Made w n xs) := by
  have hn := (mayB_iff.1 h).2.1
  have hn0 := (mayB_iff.1 h).1
  have H := Lib.hid h
  have HR := Lib.hid hr
  have hcl : ∀ (wx : World) (A : Option Addr) (c : Nat) ty, (Builtin.clear_ #[22] ty #[.slice A 0 c]).run Tryz.prog wx = .ok (.tuple #[]) wx := fun wx A c ty => by
    cases A <;> simp [Builtin.clear_, run_underlying Tryz.underlying22]
  clear h hr
  go_enter Tryz.func64, Tryz.ntmps64
  go_wp2_with fail
  refine (span_zero _ _ _ _ _ H.out).mono ?_
  rintro e w' ⟨rfl, rfl⟩
  go_wp2_with fail
  refine (clone_ok _ _ _ _ _ _ (by omega) (by omega) HR.out).mono ?_
  rintro e w1 ⟨g, c', rfl, hm, hb⟩
  have HM := Lib.hid hm
  have hcm := hm.2.2.2.2
  have hnc := hm.2.2.2.1
  unfold maxLen at hcm
  clear hm
  go_wp2
  go_ret2
  exact ⟨g, c', rfl, HM.out, hb⟩

theorem zero_ok (B : Nat) (A : Option Addr) (n c : Nat) (xs : List Int) (i m : Nat) (w : World) (h : mayB n = true) (h0 : 0 < m) (h1 : i + m ≤ n) (hr : Row w B A n xs) :
    Calls Tryz.prog 64 #[.slice A n c, .int .i64 (16 + i), .int .i64 m] w (Made w n (wipe xs i m)) := by
  have hn := (mayB_iff.1 h).2.1
  have hn0 := (mayB_iff.1 h).1
  have EI : (16 : Int) + i - 16 = i := by omega
  have H := Lib.hid h
  have HR := Lib.hid hr
  clear h hr
  have HS : Calls Tryz.prog 101 #[.slice A n c, .int .i64 (16 + i), .int .i64 m] w fun e w' => e = .returned (.tuple #[.int .i64 i, .int .i64 (i + m), .int .i64 0]) ∧ w = w' := by
    have := span_ok A n c (16 + i) m w H.out (by omega) (by omega) (by omega)
    rw [EI] at this
    exact this
  have HT := Lib.hid HS
  clear EI HS
  go_enter Tryz.func64, Tryz.ntmps64
  go_wp2_with fail
  refine (HT.out).mono ?_
  rintro e w' ⟨rfl, rfl⟩
  go_wp2_with fail
  refine (clone_ok _ _ _ _ _ _ (by omega) (by omega) HR.out).mono ?_
  rintro e w1 ⟨g, c', rfl, hm, hb⟩
  have HM := Lib.hid hm
  have hcm := hm.2.2.2.2
  have hnc := hm.2.2.2.1
  have hg := hm.2.1
  unfold maxLen at hcm
  have hcl : ∀ c ty, (Builtin.clear_ #[22] ty #[.slice (some ⟨g, i, none⟩) m c]).run Tryz.prog w1 = .ok (.tuple #[]) (w1.setCells g i (List.replicate m (.int .i64 0))) :=
    fun c ty => Lib.run_clear_slice w1 22 3 ty (.int .i64 0) Tryz.underlying22 zero_int rfl rfl g i m c h0 (fun j hj => by rw [HM.out.cell (i + j) (by omega)]; rfl) (fun j hj => HM.out.free _)
  clear hm
  go_wp2
  go_ret2
  exact ⟨g, c', rfl, HM.out.wiped _ _ _ _, below_wiped hg _ _ _ hb⟩
end Go.Proofs.YtcbnefjfoeanoaaGreatDoor.Ar
end
section
namespace Go.Proofs.YtcbnefjfoeanoaaGreatDoor
open Go.RowKit
set_option maxRecDepth 100000

/-- The first words of some cells are noughts. -/
def zeroAt (ws xs : List Int) : List Int := xs.foldl (fun l a => l.set (a - 16).toNat 0) ws
theorem zeroAt_snoc (ws xs : List Int) (a : Int) : zeroAt ws (xs ++ [a]) = (zeroAt ws xs).set (a - 16).toNat 0 := by simp [zeroAt]
theorem zeroAt_len : ∀ (xs ws : List Int), (zeroAt ws xs).length = ws.length
  | [], _ => rfl
  | a :: xs, ws => by
    show (zeroAt (ws.set (a - 16).toNat 0) xs).length = _
    rw [zeroAt_len xs, List.length_set]
theorem getD_set (ws : List Int) (i j : Nat) (v : Int) : (ws.set i v).getD j 0 = if i = j ∧ j < ws.length then v else ws.getD j 0 := by
  by_cases e : i = j
  · subst e
    by_cases h : i < ws.length
    · rw [if_pos ⟨rfl, h⟩]; simp [List.getD, h]
    · rw [if_neg (fun c => h c.2)]; simp [List.getD, h]
  · rw [if_neg (fun c => e c.1)]
    simp [List.getD, List.getElem?_set_ne e]
theorem zeroAt_get : ∀ (xs ws : List Int) (j : Nat), (∀ a ∈ xs, 16 ≤ a) → (zeroAt ws xs).getD j 0 = if (16 + (j : Int)) ∈ xs then 0 else ws.getD j 0
  | [], _, _, _ => rfl
  | a :: xs, ws, j, h => by
    show (zeroAt (ws.set (a - 16).toNat 0) xs).getD j 0 = _
    rw [zeroAt_get xs _ j (fun b hb => h b (List.mem_cons_of_mem _ hb)), getD_set]
    have ha := h a List.mem_cons_self
    by_cases hx : (16 + (j : Int)) ∈ xs
    · rw [if_pos hx, if_pos (List.mem_cons_of_mem _ hx)]
    · rw [if_neg hx]
      by_cases e : 16 + (j : Int) = a
      · rw [if_pos (show (16 + (j : Int)) ∈ a :: xs by rw [e]; exact List.mem_cons_self)]
        split
        · rfl
        · next hn =>
          have : ¬ j < ws.length := fun hl => hn ⟨by omega, hl⟩
          simp [List.getD, this]
      · rw [if_neg (show ¬ (16 + (j : Int)) ∈ a :: xs from fun hm => (List.mem_cons.1 hm).elim e hx), if_neg (by omega)]
theorem list_getD {xs ys : List Int} (hl : xs.length = ys.length) (h : ∀ j, xs.getD j 0 = ys.getD j 0) : xs = ys := by
  refine List.ext_getElem hl fun j h1 h2 => ?_
  have := h j
  simpa [List.getD, h1, h2] using this
theorem zeroAt_rev {xs : List Int} (ws : List Int) (h : ∀ a ∈ xs, 16 ≤ a) : zeroAt ws xs.reverse = zeroAt ws xs :=
  list_getD (by rw [zeroAt_len, zeroAt_len]) fun j => by
    rw [zeroAt_get _ _ _ (fun a ha => h a (List.mem_reverse.1 ha)), zeroAt_get _ _ _ h]
    simp only [List.mem_reverse]
/-- A page is split for a class. -/
def splitD (d : Hd_) (n k p : Nat) : Hd_ := ⟨zeroAt d.ws (Cl.onS (Cl.put d.f p (1, k)) n p), Cl.put d.f p (1, k), Ls.upd d.F k (d.F k ++ (Cl.onS (Cl.put d.f p (1, k)) n p).reverse), d.cs⟩
/-- Two of a class's free cells are moved. -/
def fillD (d : Hd_) (k : Nat) : Hd_ := ⟨d.ws, d.f, Ls.upd d.F k ((d.F k).take ((d.F k).length - 2)), d.cs⟩
def fillG (F G : Nat → List Int) (k : Nat) : Nat → List Int := Ls.upd G k (G k ++ ((F k).drop ((F k).length - 2)).reverse)
def popG (G : Nat → List Int) (k : Nat) : Nat → List Int := Ls.upd G k ((G k).take ((G k).length - 1))
def popA (G : Nat → List Int) (k : Nat) : Int := (G k).getD ((G k).length - 1) 0
/-- A head's word at a; all else of the cell is noughts. -/
def beginD (d : Hd_) (n : Nat) (a x : Int) : Hd_ := ⟨(Ar.wipe d.ws (a - 16).toNat (Cl.bg d.f n a).toNat).set (a - 16).toNat x, d.f, d.F, d.cs⟩
def largeD (d : Hd_) (p : Nat) (m : Int) : Hd_ := ⟨d.ws, Cl.large d.f p m, d.F, d.cs⟩
/-- What is told of as free: how often an address is told. -/
def told (d : Hd_) (G : Nat → List Int) (r : Nat) (R : Nat → Nat → List Int) (x : Int) : Nat := (Ls.upTo d.F 3).count x + (Ls.upTo G 3).count x + (Ls.allOf R r).count x
structure OkayBut (n : Nat) (a : Int) (d : Hd_) (G : Nat → List Int) (r : Nat) (R : Nat → Nat → List Int) : Prop where
  may : Cl.mayB d.f n = true
  cell : ∀ y, ¬ Cl.bg d.f n y = 0 → ¬ y = a → cellAt d y = true
  fF : ∀ j, j < 3 → ∀ x ∈ d.F j, freeH d n x (j : Nat) = true
  fG : ∀ j, j < 3 → ∀ x ∈ G j, freeH d n x (j : Nat) = true
  fR : ∀ k, k < r → ∀ j, j < 3 → ∀ x ∈ R k j, freeH d n x (j : Nat) = true
  one : ∀ x, told d G r R x ≤ 1
def Okay (n : Nat) (d : Hd_) (G : Nat → List Int) (r : Nat) (R : Nat → Nat → List Int) : Prop := OkayBut n 0 d G r R
def Full (n : Nat) (a : Int) (d : Hd_) (G : Nat → List Int) (r : Nat) (R : Nat → Nat → List Int) : Prop := ∀ y, ¬ Cl.bg d.f n y = 0 → ¬ y = a → wd d y = 0 → 0 < told d G r R y
theorem ahead_all (g : Nat → List Int) (F : Nat → Nat → List Int) : ∀ m, Ls.allOf (ahead g F) (1 + m) = Ls.upTo g 3 ++ Ls.allOf F m
  | 0 => by simp [Ls.allOf, ahead]
  | m + 1 => by rw [all_ahead, ahead_all g F m, Ls.allOf_succ, List.append_assoc]
theorem count_upTo (g : Nat → List Int) (x : Int) : (Ls.upTo g 3).count x = (g 0).count x + (g 1).count x + (g 2).count x := by
  simp [Ls.upTo, List.range_succ, List.count_append]; omega
theorem told_all (d : Hd_) (G : Nat → List Int) (r : Nat) (R : Nat → Nat → List Int) (x : Int) : (Ls.allOf (ahead d.F (ahead G R)) (1 + (1 + r))).count x = told d G r R x := by
  rw [ahead_all, ahead_all, List.count_append, List.count_append]
  unfold told
  omega
theorem bg_zero (f : Nat → Int × Int) (n : Nat) {a : Int} (h : ¬ Cl.bg f n a = 0) : ¬ a = 0 := fun e => by have := bg_in16 h; omega
theorem okay_iff {s : Hs} {d : Hd_} {G : Nat → List Int} {r : Nat} {R : Nat → Nat → List Int} : mayH s d (1 + r) (ahead G R) = true ↔ firstB s d = true ∧ Okay s.p.n d G r R := by
  constructor
  · intro h
    obtain ⟨h1, h2, h3, h4⟩ := mayH_all h
    have hf : ∀ k, k < 1 + (1 + r) → ∀ j, j < 3 → ∀ x ∈ ahead d.F (ahead G R) k j, freeH d s.p.n x (j : Nat) = true := fun k hk j hj => by
      have h5 := List.all_eq_true.1 h3 k (List.mem_range.2 hk)
      have h6 := List.all_eq_true.1 h5 j (List.mem_range.2 hj)
      exact List.all_eq_true.1 h6
    refine ⟨h1, ?_, fun y hy _ => List.all_eq_true.1 h2 y (mem_allS.2 hy), fun j hj => hf 0 (by omega) j hj, fun j hj => hf 1 (by omega) j hj, fun k hk j hj => hf (k + 2) (by omega) j hj, fun x => ?_⟩
    · unfold firstB at h1
      simp only [Bool.and_eq_true] at h1
      exact h1.2.1
    · rw [← told_all]
      exact List.nodup_iff_count.1 h4 x
  · rintro ⟨h1, h⟩
    have e2 : (Cl.allS d.f s.p.n).all (cellAt d) = true := List.all_eq_true.2 fun y hy => h.cell y (mem_allS.1 hy) (bg_zero _ _ (mem_allS.1 hy))
    have e3 : freeAll d s.p.n (1 + (1 + r)) (ahead d.F (ahead G R)) = true := List.all_eq_true.2 fun k hk => List.all_eq_true.2 fun j hj => List.all_eq_true.2 fun x hx => by
      have hk := List.mem_range.1 hk
      have hj := List.mem_range.1 hj
      match k, hx, hk with
      | 0, hx, _ => exact h.fF j hj x hx
      | 1, hx, _ => exact h.fG j hj x hx
      | k + 2, hx, hk => exact h.fR k (by omega) j hj x hx
    have e4 : (Ls.allOf (ahead d.F (ahead G R)) (1 + (1 + r))).Nodup := List.nodup_iff_count.2 fun x => by rw [told_all]; exact h.one x
    simp [mayH, h1, e2, e3, e4]
theorem whole_iff {s : Hs} {d : Hd_} {G : Nat → List Int} {r : Nat} {R : Nat → Nat → List Int} : wholeH s d (1 + r) (ahead G R) = true ↔ firstB s d = true ∧ Okay s.p.n d G r R ∧ Full s.p.n 0 d G r R := by
  have key : ((Cl.allS d.f s.p.n).all fun a => !(wd d a == 0) || decide (a ∈ Ls.allOf (ahead d.F (ahead G R)) (1 + (1 + r)))) = true ↔ Full s.p.n 0 d G r R := by
    rw [List.all_eq_true]
    constructor
    · intro h y hy _ h0
      have := h y (mem_allS.2 hy)
      rw [h0] at this
      have hm : y ∈ Ls.allOf (ahead d.F (ahead G R)) (1 + (1 + r)) := by simpa using this
      rw [← told_all]
      exact List.count_pos_iff.2 hm
    · intro h y hy
      have hb := mem_allS.1 hy
      by_cases h0 : wd d y = 0
      · have := h y hb (bg_zero _ _ hb) h0
        rw [← told_all] at this
        have hm := List.count_pos_iff.1 this
        simp [h0, hm]
      · simp [h0]
  unfold wholeH
  rw [Bool.and_eq_true, okay_iff, key, and_assoc]
section
variable {n r : Nat} {a : Int} {d d' : Hd_} {G : Nat → List Int} {R : Nat → Nat → List Int}
theorem cell_local {y : Int} (hw : wd d' y = wd d y) (hf : pgAt d' y = pgAt d y) : cellAt d' y = cellAt d y := by
  unfold cellAt
  rw [show d'.ws.getD (y - 16).toNat 0 = wd d' y from rfl, show d.ws.getD (y - 16).toNat 0 = wd d y from rfl, show d'.f (y / 16 - 1).toNat = pgAt d' y from rfl, show d.f (y / 16 - 1).toNat = pgAt d y from rfl, hw, hf]
theorem bg_local {f g : Nat → Int × Int} {y : Int} (h1 : Cl.mayB f n = true) (h2 : Cl.mayB g n = true) (e : g (y / 16 - 1).toNat = f (y / 16 - 1).toNat) : Cl.bg g n y = Cl.bg f n y := by
  unfold Cl.bg
  rw [h1, h2, e]
theorem free_local {y c : Int} (h1 : Cl.mayB d.f n = true) (h2 : Cl.mayB d'.f n = true) (hw : wd d' y = wd d y) (hf : pgAt d' y = pgAt d y) : freeH d' n y c = freeH d n y c := by
  unfold freeH
  rw [bg_local h1 h2 hf, show d'.ws.getD (y - 16).toNat 0 = wd d' y from rfl, show d.ws.getD (y - 16).toNat 0 = wd d y from rfl, show d'.f (y / 16 - 1).toNat = pgAt d' y from rfl, show d.f (y / 16 - 1).toNat = pgAt d y from rfl, hw, hf]
theorem free_facts {y c : Int} (h : freeH d n y c = true) : ¬ Cl.bg d.f n y = 0 ∧ pgAt d y = (1, c) ∧ wd d y = 0 := by
  unfold freeH at h
  split at h
  · cases h
  · next hb =>
    simp only [Bool.and_eq_true, decide_eq_true_eq, beq_iff_eq] at h
    exact ⟨hb, Prod.ext h.1.1 h.1.2, h.2⟩
theorem free_mk {y c : Int} (h1 : ¬ Cl.bg d.f n y = 0) (h2 : pgAt d y = (1, c)) (h3 : wd d y = 0) : freeH d n y c = true := by
  unfold freeH
  rw [if_neg h1, show d.ws.getD (y - 16).toNat 0 = wd d y from rfl, show d.f (y / 16 - 1).toNat = pgAt d y from rfl, h2, h3]
  simp
theorem upd_mem {F : Nat → List Int} {k j : Nat} {xs : List Int} {x : Int} (h : x ∈ Ls.upd F k xs j) : (j = k ∧ x ∈ xs) ∨ (¬ j = k ∧ x ∈ F j) := by
  unfold Ls.upd at h
  split at h
  · next e => exact .inl ⟨e, h⟩
  · next e => exact .inr ⟨e, h⟩
theorem upd_count {F : Nat → List Int} {k : Nat} {xs : List Int} {x : Int} (hk : k < 3) : (Ls.upTo (Ls.upd F k xs) 3).count x + (F k).count x = (Ls.upTo F 3).count x + xs.count x := by
  rw [count_upTo, count_upTo]
  rcases (show k = 0 ∨ k = 1 ∨ k = 2 by omega) with rfl | rfl | rfl
  · rw [Ls.upd_same, Ls.upd_other _ _ (by decide), Ls.upd_other _ _ (by decide)]; omega
  · rw [Ls.upd_same, Ls.upd_other _ _ (by decide), Ls.upd_other _ _ (by decide)]; omega
  · rw [Ls.upd_same, Ls.upd_other _ _ (by decide), Ls.upd_other _ _ (by decide)]; omega
/-- Two cells are moved. -/
theorem told_fill (k : Nat) (hk : k < 3) (x : Int) : told (fillD d k) (fillG d.F G k) r R x = told d G r R x := by
  have h1 := upd_count (F := d.F) (xs := (d.F k).take ((d.F k).length - 2)) (x := x) hk
  have h2 := upd_count (F := G) (xs := G k ++ ((d.F k).drop ((d.F k).length - 2)).reverse) (x := x) hk
  have h3 : (d.F k).count x = ((d.F k).take ((d.F k).length - 2)).count x + ((d.F k).drop ((d.F k).length - 2)).count x := by
    rw [← List.count_append, List.take_append_drop]
  rw [List.count_append, List.count_reverse] at h2
  unfold told fillD fillG
  simp only
  omega
theorem Okay.fill (h : Okay n d G r R) {k : Nat} (hk : k < 3) : Okay n (fillD d k) (fillG d.F G k) r R := by
  refine ⟨h.may, h.cell, fun j hj x hx => ?_, fun j hj x hx => ?_, h.fR, fun x => by rw [told_fill k hk]; exact h.one x⟩
  · rcases upd_mem hx with ⟨rfl, hx⟩ | ⟨_, hx⟩
    · exact h.fF _ hj x (List.mem_of_mem_take hx)
    · exact h.fF _ hj x hx
  · rcases upd_mem hx with ⟨rfl, hx⟩ | ⟨_, hx⟩
    · rcases List.mem_append.1 hx with hx | hx
      · exact h.fG _ hj x hx
      · exact h.fF _ hj x (List.mem_of_mem_drop (List.mem_reverse.1 hx))
    · exact h.fG _ hj x hx
theorem Full.fill (h : Full n a d G r R) {k : Nat} (hk : k < 3) : Full n a (fillD d k) (fillG d.F G k) r R := fun y h1 h2 h3 => by
  rw [told_fill k hk]
  exact h y h1 h2 h3
/-- The last cell of the cache is taken. -/
theorem told_pop {k : Nat} (hk : k < 3) (hg : 0 < (G k).length) (x : Int) : told d (popG G k) r R x + (if x = popA G k then 1 else 0) = told d G r R x := by
  have h1 := upd_count (F := G) (xs := (G k).take ((G k).length - 1)) (x := x) hk
  have h2 : G k = (G k).take ((G k).length - 1) ++ [popA G k] := by
    have := Ls.take_next (xs := G k) rfl (show (G k).length - 1 < (G k).length by omega)
    rwa [show (G k).length - 1 + 1 = (G k).length by omega, List.take_length] at this
  have h3 : (G k).count x = ((G k).take ((G k).length - 1)).count x + (if x = popA G k then 1 else 0) := by
    have h4 := congrArg (List.count x) h2
    rw [List.count_append] at h4
    rw [h4]
    congr 1
    by_cases e : x = popA G k
    · rw [if_pos e, e]; simp
    · rw [if_neg e]; simp [Ne.symm e]
  unfold told popG
  omega
theorem pop_free (h : Okay n d G r R) {k : Nat} (hk : k < 3) (hg : 0 < (G k).length) : freeH d n (popA G k) (k : Nat) = true := by
  exact h.fG k hk _ (getD_mem (by omega))
/-- .. and told of no more. -/
theorem pop_gone (h : Okay n d G r R) {k : Nat} (hk : k < 3) (hg : 0 < (G k).length) : told d (popG G k) r R (popA G k) = 0 := by
  have h1 := told_pop (d := d) (r := r) (R := R) hk hg (popA G k)
  have h2 := h.one (popA G k)
  rw [if_pos rfl] at h1
  omega
theorem Okay.pop (h : Okay n d G r R) {k : Nat} (hk : k < 3) (hg : 0 < (G k).length) : OkayBut n (popA G k) d (popG G k) r R := by
  refine ⟨h.may, fun y hy _ => h.cell y hy (bg_zero _ _ hy), h.fF, fun j hj x hx => ?_, h.fR, fun x => ?_⟩
  · rcases upd_mem hx with ⟨rfl, hx⟩ | ⟨_, hx⟩
    · exact h.fG _ hj x (List.mem_of_mem_take hx)
    · exact h.fG _ hj x hx
  · have h1 := told_pop (d := d) (r := r) (R := R) hk hg x
    have h2 := h.one x
    omega
theorem Full.pop (h : Full n 0 d G r R) {k : Nat} (hk : k < 3) (hg : 0 < (G k).length) : Full n (popA G k) d (popG G k) r R := fun y h1 h2 h3 => by
  have h4 := told_pop (d := d) (r := r) (R := R) hk hg y
  have h5 := h y h1 (bg_zero _ _ h1) h3
  rw [if_neg h2] at h4
  omega
end
section
variable {n r k p : Nat} {a : Int} {d : Hd_} {G : Nat → List Int} {R : Nat → Nat → List Int}
/-- What is told of is free. -/
theorem told_free (h : OkayBut n a d G r R) {x : Int} (hx : 0 < told d G r R x) : ∃ c : Int, freeH d n x c = true := by
  unfold told at hx
  have hc : 0 < (Ls.upTo d.F 3).count x ∨ 0 < (Ls.upTo G 3).count x ∨ 0 < (Ls.allOf R r).count x := by omega
  rcases hc with h1 | h1 | h1
  · obtain ⟨j, hj, hm⟩ := mem_upTo3.1 (List.count_pos_iff.1 h1)
    exact ⟨_, h.fF j hj x hm⟩
  · obtain ⟨j, hj, hm⟩ := mem_upTo3.1 (List.count_pos_iff.1 h1)
    exact ⟨_, h.fG j hj x hm⟩
  · obtain ⟨i, j, hi, hj, hm⟩ := mem_allOf.1 (List.count_pos_iff.1 h1)
    exact ⟨_, h.fR i hi j hj x hm⟩
theorem pg_none (y : Int) : Cl.pg (0, 0) y = 0 := by simp [Cl.pg]
theorem pg_rest (y : Int) : Cl.pg (3, 0) y = 0 := by simp [Cl.pg]
theorem bg_page {f : Nat → Int × Int} {y : Int} (h : ¬ Cl.bg f n y = 0) : Cl.mayB f n = true ∧ 16 ≤ y ∧ y < 16 + 16 * (n : Int) ∧ Cl.bg f n y = Cl.pg (f (y / 16 - 1).toNat) y := by
  unfold Cl.bg at h ⊢
  split at h
  · next hc => rw [if_pos hc]; exact ⟨hc.1, hc.2.1, hc.2.2, rfl⟩
  · exact absurd rfl h
/-- A cell's page is not one that is free. -/
theorem cell_off {f : Nat → Int × Int} {y : Int} {q : Nat} (h : ¬ Cl.bg f n y = 0) (hq : f q = (0, 0)) : ¬ (y / 16 - 1).toNat = q := fun e => by
  have h1 := bg_page h
  rw [h1.2.2.2, e, hq, pg_none] at h
  exact h rfl
theorem page_toNat {y : Int} (h : 16 ≤ y) (q : Nat) : (y / 16 - 1).toNat = q ↔ y / 16 - 1 = (q : Int) := by omega
theorem mem_on {f : Nat → Int × Int} {y : Int} : y ∈ Cl.onS f n p ↔ ¬ Cl.bg f n y = 0 ∧ (y / 16 - 1).toNat = p := by
  rw [← Cl.filter_allS, List.mem_filter, mem_allS, beq_iff_eq]
  constructor
  · rintro ⟨h1, h2⟩; exact ⟨h1, (page_toNat (bg_in16 h1) p).2 h2⟩
  · rintro ⟨h1, h2⟩; exact ⟨h1, (page_toNat (bg_in16 h1) p).1 h2⟩
theorem on_in16 {f : Nat → Int × Int} {q : Int} : ∀ y ∈ Cl.onS f n q, 16 ≤ y := fun y hy => by
  rw [← Cl.filter_allS, List.mem_filter, mem_allS] at hy
  exact bg_in16 hy.1
theorem on_nodup (f : Nat → Int × Int) (n : Nat) (q : Int) : (Cl.onS f n q).Nodup := by
  rw [← Cl.filter_allS]
  exact ((allS_lt f n).sublist List.filter_sublist).imp fun h => by omega
theorem on_short (f : Nat → Int × Int) (n : Nat) (q : Int) : (Cl.onS f n q).length ≤ 8 := by
  unfold Cl.onS
  split
  · next h => rw [List.length_map, Cl.pageL_length]; exact (Cl.num_room (Cl.may_pm h.1 (by omega))).1
  · simp
theorem wd_split {y : Int} (hy : 16 ≤ y) : wd (splitD d n k p) y = if y ∈ Cl.onS (Cl.put d.f p (1, k)) n p then 0 else wd d y := by
  unfold wd splitD
  simp only
  rw [zeroAt_get _ _ _ on_in16, show (16 + ((y - 16).toNat : Int)) = y by omega]
theorem find_one (h : Cl.findO d.f n 1 = some p) : Cl.mayB d.f n = true ∧ p < n ∧ (d.f p).1 = 0 := by
  obtain ⟨h1, _, h3, h4, _⟩ := Cl.findO_some.1 h
  have h5 := (Cl.freeB_iff _ _ _).1 h4 0 (by decide)
  exact ⟨h1, by have : (1 : Int).toNat = 1 := rfl; omega, by simpa using h5⟩
theorem told_split (hk : k < 3) (x : Int) : told (splitD d n k p) G r R x = told d G r R x + (Cl.onS (Cl.put d.f p (1, k)) n p).count x := by
  have h1 := upd_count (F := d.F) (xs := d.F k ++ (Cl.onS (Cl.put d.f p (1, k)) n p).reverse) (x := x) hk
  rw [List.count_append, List.count_reverse] at h1
  unfold told splitD
  simp only
  omega
theorem split_may (h : Cl.findO d.f n 1 = some p) (hk : k < 3) : Cl.mayB (Cl.put d.f p (1, (k : Int))) n = true := by
  obtain ⟨h1, h2, h3⟩ := find_one h
  exact Cl.small_may h1 h2 h3 (by omega) (by omega)
/-- A cell of another page, behind the split. -/
theorem split_other (h : Cl.findO d.f n 1 = some p) (hk : k < 3) {y : Int} (h16 : 16 ≤ y) (hy : ¬ (y / 16 - 1).toNat = p) : wd (splitD d n k p) y = wd d y ∧ pgAt (splitD d n k p) y = pgAt d y ∧ Cl.bg (splitD d n k p).f n y = Cl.bg d.f n y := by
  have h1 : pgAt (splitD d n k p) y = pgAt d y := Cl.put_ne hy
  refine ⟨?_, h1, bg_local (find_one h).1 (split_may h hk) h1⟩
  rw [wd_split h16, if_neg fun hm => hy (mem_on.1 hm).2]
theorem split_on {y : Int} (hy : y ∈ Cl.onS (Cl.put d.f p (1, (k : Int))) n p) : freeH (splitD d n k p) n y (k : Nat) = true := by
  obtain ⟨h1, h2⟩ := mem_on.1 hy
  refine free_mk h1 ?_ (by rw [wd_split (bg_in16 h1), if_pos hy])
  show Cl.put d.f p (1, (k : Int)) _ = _
  rw [h2, Cl.put_eq]
theorem split_keeps (h : Cl.findO d.f n 1 = some p) (hk : k < 3) {x c : Int} (hx : freeH d n x c = true) : freeH (splitD d n k p) n x c = true := by
  obtain ⟨h1, h2, h3⟩ := find_one h
  have hb := (free_facts hx).1
  have ho := split_other h hk (bg_in16 hb) (cell_off hb (Cl.free_zero h1 h2 h3).1)
  rw [free_local (d := d) (d' := splitD d n k p) h1 (split_may h hk) ho.1 ho.2.1]
  exact hx
theorem Okay.split (h : Okay n d G r R) (hf : Cl.findO d.f n 1 = some p) (hk : k < 3) : Okay n (splitD d n k p) G r R := by
  obtain ⟨h1, h2, h3⟩ := find_one hf
  have hz := (Cl.free_zero h1 h2 h3).1
  refine ⟨split_may hf hk, fun y hy _ => ?_, fun j hj x hx => ?_, fun j hj x hx => split_keeps hf hk (h.fG j hj x hx), fun i hi j hj x hx => split_keeps hf hk (h.fR i hi j hj x hx), fun x => ?_⟩
  · have h16 := bg_in16 hy
    by_cases hp : (y / 16 - 1).toNat = p
    · have hon : y ∈ Cl.onS (Cl.put d.f p (1, (k : Int))) n p := mem_on.2 ⟨hy, hp⟩
      obtain ⟨_, e2, e3⟩ := free_facts (split_on hon)
      unfold cellAt
      rw [show (splitD d n k p).ws.getD (y - 16).toNat 0 = wd (splitD d n k p) y from rfl, show (splitD d n k p).f (y / 16 - 1).toNat = pgAt (splitD d n k p) y from rfl, e2, e3]
      rfl
    · obtain ⟨e1, e2, e3⟩ := split_other hf hk h16 hp
      rw [cell_local e1 e2]
      rw [e3] at hy
      exact h.cell y hy (bg_zero _ _ hy)
  · rcases upd_mem hx with ⟨rfl, hx⟩ | ⟨_, hx⟩
    · rcases List.mem_append.1 hx with hx | hx
      · exact split_keeps hf hk (h.fF _ hj x hx)
      · exact split_on (List.mem_reverse.1 hx)
    · exact split_keeps hf hk (h.fF _ hj x hx)
  · rw [told_split hk]
    have h4 := h.one x
    have h5 := List.nodup_iff_count.1 (on_nodup (Cl.put d.f p (1, (k : Int))) n p) x
    by_cases hm : x ∈ Cl.onS (Cl.put d.f p (1, (k : Int))) n p
    · have h6 : told d G r R x = 0 := Nat.eq_zero_of_not_pos fun hc => by
        obtain ⟨c, hc⟩ := told_free h hc
        exact cell_off (free_facts hc).1 hz (mem_on.1 hm).2
      omega
    · have h7 := List.count_eq_zero_of_not_mem hm
      omega
theorem Full.split (hF : Full n 0 d G r R) (hf : Cl.findO d.f n 1 = some p) (hk : k < 3) : Full n 0 (splitD d n k p) G r R := fun y hy _ h0 => by
  rw [told_split hk]
  by_cases hp : (y / 16 - 1).toNat = p
  · have hon : y ∈ Cl.onS (Cl.put d.f p (1, (k : Int))) n p := mem_on.2 ⟨hy, hp⟩
    have := List.count_pos_iff.2 hon
    omega
  · obtain ⟨e1, e2, e3⟩ := split_other hf hk (bg_in16 hy) hp
    rw [e3] at hy
    rw [e1] at h0
    have := hF y hy (bg_zero _ _ hy) h0
    omega
/-- Pages for a large one. -/
theorem find_run {m : Int} (h : Cl.findO d.f n m = some p) : Cl.mayB d.f n = true ∧ 1 ≤ m ∧ m ≤ 4 ∧ (p : Int) + m ≤ n ∧ Cl.freeB d.f p m.toNat = true := by
  obtain ⟨h1, h2, h3, h4, _⟩ := Cl.findO_some.1 h
  have h5 := (Cl.runB_iff m).1 h2
  exact ⟨h1, h5.1, h5.2, by omega, h4⟩
theorem large_in {f : Nat → Int × Int} {m : Int} {q : Nat} : (q = p → Cl.large f p m q = (2, m)) ∧ (p < q → (q : Int) < p + m → Cl.large f p m q = (3, 0)) ∧ (q < p ∨ (p : Int) + m ≤ q → 1 ≤ m → Cl.large f p m q = f q) := by
  unfold Cl.large
  refine ⟨fun e => if_pos e, fun h1 h2 => ?_, fun h1 h2 => ?_⟩
  · rw [if_neg (by omega), if_pos ⟨h1, h2⟩]
  · rw [if_neg (by omega), if_neg (by omega)]
theorem large_free {m : Int} (h : Cl.findO d.f n m = some p) {q : Nat} (h1 : p ≤ q) (h2 : (q : Int) < p + m) : d.f q = (0, 0) := by
  obtain ⟨g1, g2, g3, g4, g5⟩ := find_run h
  have h3 := (Cl.freeB_iff _ _ _).1 g5 (q - p) (by omega)
  rw [show p + (q - p) = q by omega] at h3
  exact (Cl.free_zero g1 (by omega) h3).1
theorem large_off {m : Int} (h : Cl.findO d.f n m = some p) {y : Int} (hy : ¬ Cl.bg d.f n y = 0) : (y / 16 - 1).toNat < p ∨ (p : Int) + m ≤ (y / 16 - 1).toNat := by
  rcases Nat.lt_or_ge (y / 16 - 1).toNat p with h1 | h1
  · exact .inl h1
  · by_cases h2 : (((y / 16 - 1).toNat : Nat) : Int) < p + m
    · exact absurd rfl (cell_off hy (large_free h h1 h2))
    · exact .inr (by omega)
theorem large_mayB {m : Int} (h : Cl.findO d.f n m = some p) : Cl.mayB (Cl.large d.f p m) n = true := by
  obtain ⟨g1, g2, g3, g4, g5⟩ := find_run h
  exact Cl.large_may g1 g2 g3 g4 g5
theorem large_other {m : Int} (h : Cl.findO d.f n m = some p) {y : Int} (hy : ¬ Cl.bg d.f n y = 0) : pgAt (largeD d p m) y = pgAt d y ∧ Cl.bg (largeD d p m).f n y = Cl.bg d.f n y := by
  have h1 : pgAt (largeD d p m) y = pgAt d y := large_in.2.2 (large_off h hy) (find_run h).2.1
  exact ⟨h1, bg_local (find_run h).1 (large_mayB h) h1⟩
theorem large_cell {m : Int} (h : Cl.findO d.f n m = some p) {y : Int} (hy : ¬ Cl.bg (largeD d p m).f n y = 0) : y = 16 + 16 * (p : Int) ∨ ¬ Cl.bg d.f n y = 0 := by
  obtain ⟨g1, g2, g3, g4, g5⟩ := find_run h
  have h1 := bg_page hy
  have h2 := h1.2.2.2
  have h16 := h1.2.1
  rw [h2] at hy
  rcases Nat.lt_trichotomy (y / 16 - 1).toNat p with h3 | h3 | h3
  · have e : (largeD d p m).f (y / 16 - 1).toNat = d.f (y / 16 - 1).toNat := large_in.2.2 (.inl h3) g2
    rw [← bg_local g1 (large_mayB h) e, show Cl.large d.f p m = (largeD d p m).f from rfl, h2]
    exact .inr hy
  · have e : (largeD d p m).f (y / 16 - 1).toNat = (2, m) := large_in.1 h3
    rw [e] at hy
    left
    have h4 : y % 16 = 0 := Classical.byContradiction fun hn => hy (by simp [Cl.pg, hn])
    have h5 := (page_toNat h16 p).1 h3
    omega
  · by_cases h4 : (((y / 16 - 1).toNat : Nat) : Int) < p + m
    · have e : (largeD d p m).f (y / 16 - 1).toNat = (3, 0) := large_in.2.1 h3 h4
      rw [e, pg_rest] at hy
      exact absurd rfl hy
    · have e : (largeD d p m).f (y / 16 - 1).toNat = d.f (y / 16 - 1).toNat := large_in.2.2 (.inr (by omega)) g2
      rw [← bg_local g1 (large_mayB h) e, show Cl.large d.f p m = (largeD d p m).f from rfl, h2]
      exact .inr hy
theorem large_at {m : Int} (h : Cl.findO d.f n m = some p) : Cl.bg (largeD d p m).f n (16 + 16 * (p : Int)) = 16 * m ∧ pgAt (largeD d p m) (16 + 16 * (p : Int)) = (2, m) ∧ Cl.bg d.f n (16 + 16 * (p : Int)) = 0 := by
  obtain ⟨g1, g2, g3, g4, g5⟩ := find_run h
  have e1 : ((16 + 16 * (p : Int)) / 16 - 1).toNat = p := by omega
  have e2 : (16 + 16 * (p : Int)) / 16 - 1 = p := by omega
  have e3 : pgAt (largeD d p m) (16 + 16 * (p : Int)) = (2, m) := by
    unfold pgAt
    rw [e1]
    exact large_in.1 rfl
  refine ⟨?_, e3, ?_⟩
  · show Cl.bg (Cl.large d.f p m) n (16 + 16 * (p : Int)) = 16 * m
    rw [Cl.bg_in (k := p) (large_mayB h) (by omega) (by omega) e2, show (Cl.large d.f p m) p = (2, m) from large_in.1 rfl]
    unfold Cl.pg
    rw [if_pos ⟨rfl, by omega⟩]
  · rw [Cl.bg_in (k := p) g1 (by omega) (by omega) e2, large_free h (Nat.le_refl _) (by omega), pg_none]
theorem large_keeps {m : Int} (h : Cl.findO d.f n m = some p) {x c : Int} (hx : freeH d n x c = true) : freeH (largeD d p m) n x c = true := by
  have ho := large_other h (free_facts hx).1
  rw [free_local (d := d) (d' := largeD d p m) (find_run h).1 (large_mayB h) rfl ho.1]
  exact hx
theorem Okay.large {m : Int} (h : Okay n d G r R) (hf : Cl.findO d.f n m = some p) : OkayBut n (16 + 16 * (p : Int)) (largeD d p m) G r R := by
  refine ⟨large_mayB hf, fun y hy hne => ?_, fun j hj x hx => large_keeps hf (h.fF j hj x hx), fun j hj x hx => large_keeps hf (h.fG j hj x hx), fun i hi j hj x hx => large_keeps hf (h.fR i hi j hj x hx), h.one⟩
  have hb := (large_cell hf hy).resolve_left hne
  rw [cell_local (d := d) (d' := largeD d p m) rfl (large_other hf hb).1]
  exact h.cell y hb (bg_zero _ _ hb)
theorem Full.large {m : Int} (hF : Full n 0 d G r R) (hf : Cl.findO d.f n m = some p) : Full n (16 + 16 * (p : Int)) (largeD d p m) G r R := fun y hy hne h0 => by
  have hb := (large_cell hf hy).resolve_left hne
  exact hF y hb (bg_zero _ _ hb) h0
theorem large_gone {m : Int} (h : Okay n d G r R) (hf : Cl.findO d.f n m = some p) : told (largeD d p m) G r R (16 + 16 * (p : Int)) = 0 := Nat.eq_zero_of_not_pos fun hc => by
  obtain ⟨c, hc⟩ := told_free h (x := 16 + 16 * (p : Int)) hc
  exact (free_facts hc).1 (large_at hf).2.2
/-- A cell's words lie apart from every other one's. -/
theorem cells_off {f : Nat → Int × Int} {x y : Int} (hx : ¬ Cl.bg f n x = 0) (hy : ¬ Cl.bg f n y = 0) (hne : ¬ y = x) : ¬ (x ≤ y ∧ y < x + Cl.bg f n x) := fun hc => by
  have h1 := (Cl.bg_nonneg f n y).1
  refine hne (cov_one (a := y) (mem_allS.2 hy) (mem_allS.2 hx) ?_ ?_)
  · unfold cov; simp only [Bool.and_eq_true, decide_eq_true_eq]; omega
  · unfold cov; simp only [Bool.and_eq_true, decide_eq_true_eq]; exact hc
theorem cell_end {f : Nat → Int × Int} {x : Int} (hx : ¬ Cl.bg f n x = 0) : 16 ≤ x ∧ 2 ≤ Cl.bg f n x ∧ x + Cl.bg f n x ≤ 16 + 16 * (n : Int) := by
  obtain ⟨c, hc, rfl⟩ := List.mem_map.1 (mem_allS.2 hx)
  rw [Cl.bg_cell hc]
  have h1 := (Cl.allL_apart f n).2 c hc
  exact ⟨h1.1, h1.2, (Cl.allL_end hc).2⟩
theorem wd_begin {x : Int} (hb : ¬ Cl.bg d.f n a = 0) (hl : d.ws.length = 16 * n) {y : Int} (hy : 16 ≤ y) : wd (beginD d n a x) y = if y = a then x else if a ≤ y ∧ y < a + Cl.bg d.f n a then 0 else wd d y := by
  have h1 := cell_end hb
  unfold wd beginD
  simp only
  rw [getD_set, Ar.wipe_length, Ar.wipe_getD _ _ _ _ (by omega)]
  by_cases e : y = a
  · rw [if_pos ⟨by omega, by omega⟩, if_pos e]
  · rw [if_neg (by omega), if_neg e]
    by_cases e2 : a ≤ y ∧ y < a + Cl.bg d.f n a
    · rw [if_pos e2, if_pos ⟨by omega, by omega⟩]
    · rw [if_neg e2, if_neg (by omega)]
theorem begin_other {x : Int} (hb : ¬ Cl.bg d.f n a = 0) (hl : d.ws.length = 16 * n) {y : Int} (hy : ¬ Cl.bg d.f n y = 0) (hne : ¬ y = a) : wd (beginD d n a x) y = wd d y := by
  rw [wd_begin hb hl (bg_in16 hy), if_neg hne, if_neg (cells_off hb hy hne)]
theorem begin_at {x : Int} (hb : ¬ Cl.bg d.f n a = 0) (hl : d.ws.length = 16 * n) : wd (beginD d n a x) a = x := by
  rw [wd_begin hb hl (bg_in16 hb), if_pos rfl]
theorem begin_keeps {x : Int} (hm : Cl.mayB d.f n = true) (hb : ¬ Cl.bg d.f n a = 0) (hl : d.ws.length = 16 * n) {y c : Int} (hne : ¬ y = a) (hy : freeH d n y c = true) : freeH (beginD d n a x) n y c = true := by
  rw [free_local (d' := beginD d n a x) hm hm (begin_other hb hl (free_facts hy).1 hne) rfl]
  exact hy
theorem OkayBut.begin {x : Int} (h : OkayBut n a d G r R) (hg : told d G r R a = 0) (hb : ¬ Cl.bg d.f n a = 0) (hl : d.ws.length = 16 * n) (hx : cellB x (pgAt d a) = true) : Okay n (beginD d n a x) G r R := by
  have hne : ∀ y, 0 < told d G r R y → ¬ y = a := fun y hy e => by rw [e] at hy; omega
  have t1 : ∀ j, j < 3 → ∀ y ∈ d.F j, ¬ y = a := fun j hj y hy => hne y (by have := List.count_pos_iff.2 (mem_upTo3.2 ⟨j, hj, hy⟩); unfold told; omega)
  have t2 : ∀ j, j < 3 → ∀ y ∈ G j, ¬ y = a := fun j hj y hy => hne y (by have := List.count_pos_iff.2 (mem_upTo3.2 ⟨j, hj, hy⟩); unfold told; omega)
  have t3 : ∀ i, i < r → ∀ j, j < 3 → ∀ y ∈ R i j, ¬ y = a := fun i hi j hj y hy => hne y (by have := List.count_pos_iff.2 (mem_allOf.2 ⟨i, j, hi, hj, hy⟩); unfold told; omega)
  refine ⟨h.may, fun y hy _ => ?_, fun j hj y hy => begin_keeps h.may hb hl (t1 j hj y hy) (h.fF j hj y hy), fun j hj y hy => begin_keeps h.may hb hl (t2 j hj y hy) (h.fG j hj y hy), fun i hi j hj y hy => begin_keeps h.may hb hl (t3 i hi j hj y hy) (h.fR i hi j hj y hy), h.one⟩
  by_cases e : y = a
  · subst e
    unfold cellAt
    rw [show (beginD d n y x).ws.getD (y - 16).toNat 0 = wd (beginD d n y x) y from rfl, begin_at hb hl]
    exact hx
  · rw [cell_local (d' := beginD d n a x) (begin_other hb hl hy e) rfl]
    exact h.cell y hy e
theorem Full.begin {x : Int} (h : Full n a d G r R) (hb : ¬ Cl.bg d.f n a = 0) (hl : d.ws.length = 16 * n) (hx : ¬ x = 0) : Full n 0 (beginD d n a x) G r R := fun y hy _ h0 => by
  by_cases e : y = a
  · subst e
    rw [begin_at hb hl] at h0
    exact absurd h0 hx
  · rw [begin_other hb hl hy e] at h0
    exact h y hy e h0
end
end Go.Proofs.YtcbnefjfoeanoaaGreatDoor
end
section
namespace Go.Proofs.YtcbnefjfoeanoaaGreatDoor
open Go.RowKit
set_option maxRecDepth 100000

/-- The cache has a cell of the class, behind this. -/
def smallO (d : Hd_) (n : Nat) (G : Nat → List Int) (k : Nat) : Option (Hd_ × (Nat → List Int)) :=
  if 0 < (G k).length then some (d, G)
  else if 0 < (d.F k).length then some (fillD d k, fillG d.F G k)
  else match Cl.findO d.f n 1 with
    | some p => some (fillD (splitD d n k p) k, fillG (splitD d n k p).F G k)
    | none => none
/-- A cell is taken for N fields: what is left, and where it begins. -/
def takeO (d : Hd_) (n : Nat) (G : Nat → List Int) (N : Int) : Option (Hd_ × (Nat → List Int) × Int) :=
  if Cl.classOf N = 3 then (match Cl.findO d.f n (Cl.runOf N) with
    | some p => some (largeD d p (Cl.runOf N), G, 16 + 16 * (p : Int))
    | none => none)
  else match smallO d n G (Cl.classOf N).toNat with
    | some q => some (q.1, popG q.2 (Cl.classOf N).toNat, popA q.2 (Cl.classOf N).toNat)
    | none => none
/-- What is told. -/
structure Tk where
  er : Int
  wn : Nat
  pn : Nat
  cn : Nat
  d : Hd_
  G : Nat → List Int
  a : Int
def dNone : Hd_ := ⟨[], fun _ => (0, 0), Ls.noLists, fun _ => false⟩
def tkNo (er : Int) : Tk := ⟨er, 0, 0, 0, dNone, Ls.noLists, 0⟩
def argE (s : Hs) (d : Hd_) (G : Nat → List Int) (u o e : Bool) (N b m : Int) : Int := if mayH s d 1 (fun _ => G) = true ∧ Hd.mayB u o e N b m = true ∧ u = true then Cl.classErr N else 1
def tkR (s : Hs) (d : Hd_) (G : Nat → List Int) (u o e : Bool) (N b m : Int) : Tk :=
  if argE s d G u o e N b m = 0 then (match takeO d s.p.n G N with
    | some q => ⟨0, s.w.n, s.p.n, s.c.n, beginD q.1 s.p.n q.2.2 (Hd.word u o e N b m), q.2.1, q.2.2⟩
    | none => tkNo 4)
  else tkNo (argE s d G u o e N b m)
theorem class_cases {N : Int} (h : Cl.classErr N = 0) : 1 ≤ N ∧ N ≤ 63 := by
  unfold Cl.classErr at h
  split at h
  · omega
  · split at h <;> omega
theorem class_small {N : Int} (h3 : ¬ Cl.classOf N = 3) : 0 ≤ Cl.classOf N ∧ Cl.classOf N ≤ 2 := by
  unfold Cl.classOf at h3 ⊢
  repeat' split
  all_goals first | omega | (simp_all)
theorem class_large {N : Int} (h : Cl.classErr N = 0) (h3 : Cl.classOf N = 3) : Cl.runErr N = 0 ∧ 1 ≤ Cl.runOf N ∧ Cl.runOf N ≤ 4 := by
  have h1 := class_cases h
  unfold Cl.classOf at h3
  unfold Cl.runErr Cl.runOf
  repeat' split at h3
  all_goals first | omega | skip
  repeat' split
  all_goals omega
section
variable {n r : Nat} {d : Hd_} {G : Nat → List Int} {R : Nat → Nat → List Int}
theorem split_len (f : Nat → Int × Int) {n k p : Nat} (h : Cl.mayB (Cl.put f p (1, (k : Int))) n = true) (hp : p < n) (hk : k < 3) : 2 ≤ (Cl.onS (Cl.put f p (1, (k : Int))) n p).length := by
  unfold Cl.onS
  rw [if_pos ⟨h, by omega, by omega⟩, List.length_map, Cl.pageL_length, Int.toNat_natCast, Cl.put_eq]
  rcases (show k = 0 ∨ k = 1 ∨ k = 2 by omega) with rfl | rfl | rfl <;> decide
/-- What the cache is filled with. -/
theorem smallO_some {k : Nat} (hk : k < 3) {q : Hd_ × (Nat → List Int)} (h : smallO d n G k = some q) : 0 < (q.2 k).length ∧ (Okay n d G r R → Okay n q.1 q.2 r R) ∧ (Full n 0 d G r R → Full n 0 q.1 q.2 r R) ∧ q.1.ws.length = d.ws.length := by
  have hfl : ∀ F : Nat → List Int, 0 < (F k).length → 0 < (fillG F G k k).length := fun F hF => by
    unfold fillG
    rw [Ls.upd_same, List.length_append, List.length_reverse, List.length_drop]
    omega
  unfold smallO at h
  split at h
  · next h1 => cases h; exact ⟨h1, id, id, rfl⟩
  · split at h
    · next h2 => cases h; exact ⟨hfl _ h2, fun h => h.fill hk, fun h => h.fill hk, rfl⟩
    · split at h
      · next p hp =>
        cases h
        refine ⟨hfl _ ?_, fun h => (h.split hp hk).fill hk, fun h => (h.split hp hk).fill hk, zeroAt_len _ _⟩
        unfold splitD
        simp only
        rw [Ls.upd_same, List.length_append, List.length_reverse]
        have := split_len d.f (split_may hp hk) (find_one hp).2.1 hk
        omega
      · cases h
/-- What is taken. -/
structure Taken (n : Nat) (d : Hd_) (G : Nat → List Int) (r : Nat) (R : Nat → Nat → List Int) (N : Int) (d' : Hd_) (G' : Nat → List Int) (a : Int) : Prop where
  okay : Okay n d G r R → OkayBut n a d' G' r R
  full : Full n 0 d G r R → Full n a d' G' r R
  gone : Okay n d G r R → told d' G' r R a = 0
  cell : Okay n d G r R → ¬ Cl.bg d'.f n a = 0
  fits : Okay n d G r R → (pgAt d' a = (1, Cl.classOf N) ∧ ¬ Cl.classOf N = 3) ∨ (pgAt d' a = (2, Cl.runOf N) ∧ Cl.classOf N = 3)
  len : d'.ws.length = d.ws.length
theorem takeO_some {N : Int} {q : Hd_ × (Nat → List Int) × Int} (h : takeO d n G N = some q) : Taken n d G r R N q.1 q.2.1 q.2.2 := by
  unfold takeO at h
  split at h
  · next h3 =>
    split at h
    · next p hp =>
      cases h
      exact ⟨fun h => h.large hp, fun h => h.large hp, fun h => large_gone h hp, fun _ => by rw [(large_at hp).1]; have := (find_run hp).2.1; omega, fun _ => .inr ⟨(large_at hp).2.1, h3⟩, rfl⟩
    · cases h
  · next h3 =>
    have hc := class_small h3
    have hk : (Cl.classOf N).toNat < 3 := by omega
    split at h
    · next q' hq =>
      cases h
      obtain ⟨h1, h2, h4, h5⟩ := smallO_some (r := r) (R := R) hk hq
      refine ⟨fun h => (h2 h).pop hk h1, fun h => (h4 h).pop hk h1, fun h => pop_gone (h2 h) hk h1, fun h => (free_facts (pop_free (h2 h) hk h1)).1, fun h => .inl ⟨?_, h3⟩, h5⟩
      rw [(free_facts (pop_free (h2 h) hk h1)).2.1]
      have : (((Cl.classOf N).toNat : Nat) : Int) = Cl.classOf N := by omega
      rw [this]
    · cases h
theorem word_fits {o e : Bool} {N b m : Int} (hx : Hd.mayB true o e N b m = true) (hN : Cl.classErr N = 0) {p : Int × Int} (hp : (p = (1, Cl.classOf N) ∧ ¬ Cl.classOf N = 3) ∨ (p = (2, Cl.runOf N) ∧ Cl.classOf N = 3)) : cellB (Hd.word true o e N b m) p = true := by
  obtain ⟨p1, p2, p3, p4, p5, p6⟩ := Hd.word_parts hx
  unfold cellB
  rw [if_pos ⟨Hd.isWord_word hx, p1⟩, show nOf (Hd.word true o e N b m) = N from p4, hN]
  rcases hp with ⟨rfl, h3⟩ | ⟨rfl, h3⟩
  · simp
  · obtain ⟨h1, h2, h4⟩ := class_large hN h3
    simp [h1]
end
/-- All of it: what is taken, behind a Take that tells no error. -/
theorem argE_zero {s : Hs} {d : Hd_} {G : Nat → List Int} {u o e : Bool} {N b m : Int} (h : argE s d G u o e N b m = 0) : mayH s d 1 (fun _ => G) = true ∧ Hd.mayB u o e N b m = true ∧ u = true ∧ Cl.classErr N = 0 := by
  unfold argE at h
  split at h
  · next hc => exact ⟨hc.1, hc.2.1, hc.2.2, h⟩
  · omega
end Go.Proofs.YtcbnefjfoeanoaaGreatDoor
end
section
namespace Go.Proofs.YtcbnefjfoeanoaaGreatDoor
open Go.RowKit
set_option maxRecDepth 100000

/-- How many words, pages and cards there are stays. -/
def Same3 (t t' : Hs) : Prop := t'.w.n = t.w.n ∧ t'.p.n = t.p.n ∧ t'.c.n = t.c.n
/-- What room is taken from may be, as far as sizes go. -/
structure Fit (t : Hs) : Prop where
  w : Ar.mayB t.w.n = true
  wp : t.w.n = 16 * t.p.n
  p : t.p.n ≤ 64
theorem fit_first {s : Hs} {d : Hd_} (h : firstB s d = true) : Fit s := by
  unfold firstB wordsB at h
  simp only [Bool.and_eq_true, decide_eq_true_eq] at h
  have := ((Cl.mayB_iff _ _).1 h.2.1)
  exact ⟨Ar.mayB_iff.2 h.1, h.2.2.1, this.2.1⟩
/-- A cell's room, page and words are as they were. -/
structure Same4 (n : Nat) (d d' : Hd_) (y : Int) : Prop where
  bg : Cl.bg d'.f n y = Cl.bg d.f n y
  pg : pgAt d' y = pgAt d y
  wd : ∀ z, y ≤ z → z < y + Cl.bg d.f n y → wd d' z = wd d z
theorem Same4.trans {n : Nat} {d d' d2 : Hd_} {y : Int} (h : Same4 n d d' y) (k : Same4 n d' d2 y) : Same4 n d d2 y := ⟨k.bg.trans h.bg, k.pg.trans h.pg, fun z h1 h2 => (k.wd z h1 (by rw [h.bg]; exact h2)).trans (h.wd z h1 h2)⟩
theorem Same4.refl (n : Nat) (d : Hd_) (y : Int) : Same4 n d d y := ⟨rfl, rfl, fun _ _ _ => rfl⟩
/-- A word lies in one cell. -/
theorem word_one {n : Nat} {f : Nat → Int × Int} {x y z : Int} (hx : ¬ Cl.bg f n x = 0) (hy : ¬ Cl.bg f n y = 0) (h1 : x ≤ z ∧ z < x + Cl.bg f n x) (h2 : y ≤ z ∧ z < y + Cl.bg f n y) : x = y :=
  cov_one (a := z) (mem_allS.2 hx) (mem_allS.2 hy) (by unfold cov; simp only [Bool.and_eq_true, decide_eq_true_eq]; exact h1) (by unfold cov; simp only [Bool.and_eq_true, decide_eq_true_eq]; exact h2)
theorem firstB_of {s t : Hs} {d d' : Hd_} (h : firstB s d = true) (hm : Cl.mayB d'.f s.p.n = true) (h1 : t.w.n = s.w.n) (h2 : t.p.n = s.p.n) (h3 : t.c.n = s.c.n) : firstB t d' = true := by
  unfold firstB at h ⊢
  simp only [Bool.and_eq_true, decide_eq_true_eq] at h ⊢
  rw [h1, h2, h3]
  exact ⟨h.1, hm, h.2.2⟩
theorem used_iff8 {s : Hs} {d : Hd_} {y : Int} (hm : mayB0 s d = true) : y ∈ usedL s d ↔ ¬ Cl.bg d.f s.p.n y = 0 ∧ ¬ wd d y = 0 := by
  have hall : (Cl.allS d.f s.p.n).all (cellAt d) = true := (mayH_all hm).2.1
  rw [show usedL s d = usedF d (Cl.allS d.f s.p.n) by simp [usedL, hm]]
  unfold usedF
  rw [List.mem_filter, mem_allS, decide_eq_true_eq]
  constructor
  · rintro ⟨h1, h2⟩
    exact ⟨h1, fun e => by rw [e] at h2; omega⟩
  · rintro ⟨h1, h2⟩
    exact ⟨h1, Classical.byContradiction fun hn => h2 ((word_used (List.all_eq_true.1 hall y (mem_allS.2 h1))).2 hn).2⟩
/-- What is handed to Take is not too great. -/
structure FineT (s : Hs) (d : Hd_) (u : Nat → Ls.Sl) (G : Nat → List Int) : Prop where
  fine : Fine s d
  lu : ∀ j, j < 3 → (s.u j).n ≤ 1000000
  lg : ∀ j, j < 3 → (u j).n ≤ 1000000
  all : (Ls.allOf (ahead d.F (fun _ => G)) (1 + 1)).length ≤ 2000000
end Go.Proofs.YtcbnefjfoeanoaaGreatDoor
end
