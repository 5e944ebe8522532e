/-
  Merged texts: TrHr, TrLed, TrKnow, TrE, HpApp, HpSlab.
-/
import Derived.Test.YtccjelpfmkbmiaaGreatDoorHpWJ
import Derived.Test.YtccjelpfmkbmiaaGreatDoorHpWL
import Derived.Test.YtccjelpfmkbmiaaGreatDoorWTrRef
import Derived.Deep.LoopGhost
import Derived.Deep.Cut
import Derived.Deep.CutRange
import Derived.Deep.QuietTactic
import Derived.BigQuiet
import Derived.Test.YtccjelpfmkbmiaaGreatDoorHpWF
import Derived.Test.YtccjelpfmkbmiaaGreatDoorHpWA
section
namespace Go.Proofs.YtccjelpfmkbmiaaGreatDoor.Tr
open Go.Proofs.YtccjelpfmkbmiaaGreatDoor Go.Proofs.YtccjelpfmkbmiaaGreatDoor.Rt
open Go.RowKit
open Go.Proofs.YtccjelpfmkbmiaaGreatDoor.Mu (hv kv w_load w_store w_loadg ldHb ldKb stHb stKb st_int ld_int p_load p_store ev region_plan noHs0 noK0)
open Go.Proofs.YtccjelpfmkbmiaaGreatDoor.Ha (region_planK pl_full putD w_skip)
set_option maxRecDepth 100000

theorem infX : (Tryz.prog.info? 53).map (·.size) = some 6 := by kernel_rfl
def zX : List Value := [.bool false, .bool false, .bool false, .int .i64 0, .int .i64 0, .int .i64 0]
structure Hr (w0 : World) (VS : List Value) (ia is : Nat) (x : Nat) (l : Nat → Bool) (W : World) : Prop where
  bel : Below w0.heap.size w0 W
  box : l ia = true → w0.heap.size ≤ x ∧ Box W x (sel (l is) VS zX)
  k : l is = true → l ia = true
section
variable {w0 W W' : World} {VS : List Value} {ia is x q : Nat} {l : Nat → Bool}
theorem hr_start (w0 : World) (VS : List Value) (ia is x : Nat) : Hr w0 VS ia is x (fun _ => false) w0.drew := ⟨⟨rfl, rfl, rfl, Nat.le_refl _, fun _ _ => rfl⟩, fun e => (by cases e), fun e => (by cases e)⟩
theorem Hr.next (h : Hr w0 VS ia is x l W) (hb : Below W.heap.size W W') : Hr w0 VS ia is x l W' := ⟨h.bel.trans (hb.mono h.bel.size), fun e => ⟨(h.box e).1, (h.box e).2.next hb⟩, h.k⟩
theorem Hr.pure (h : Hr w0 VS ia is x l W) (h1 : ¬ q = ia) (h2 : ¬ q = is) : Hr w0 VS ia is x (Ls.upd l q true) W :=
  ⟨h.bel, by rw [Ls.upd_other _ _ (fun e => h1 e.symm), Ls.upd_other _ _ (fun e => h2 e.symm)]; exact h.box, by rw [Ls.upd_other _ _ (fun e => h1 e.symm), Ls.upd_other _ _ (fun e => h2 e.symm)]; exact h.k⟩
theorem Hr.lay (h : Hr w0 VS ia is x l W) (hl : l ia = false) (hne : ¬ is = ia := by decide) : Hr w0 VS ia is W.heap.size (Ls.upd l ia true) (W.alloc (.cells zX.toArray 53)) := by
  have hs : l is = false := nt fun e => by rw [h.k e] at hl; cases hl
  refine ⟨h.bel.alloc h.bel.size _, fun _ => ⟨h.bel.size, ?_⟩, fun _ => upd_same _ _⟩
  rw [Ls.upd_other _ _ hne, hs]
  exact Box.new W zX _
theorem Hr.box0 (h : Hr w0 VS ia is x l W) (ha : l ia = true) (hs : l is = false) : Box W x zX := by
  have := (h.box ha).2
  rw [hs] at this
  exact this
theorem Hr.run (h : Hr w0 VS ia is x l W) (ha : l ia = true) (hs : l is = false) (hv : VS.length = 6) (h1 : VS.toArray.all (·.oneCell') = true := by kernel_rfl) : (Instr.storeAt 53 (.pointer (some ⟨x, 0, none⟩)) (.agg VS.toArray)).run Tryz.prog W = .ok () (puts x 0 VS W) :=
  Mu.st (h.box0 ha hs) (by rw [hv]; exact Nat.le_refl 6) _ (by rw [hv]; exact infX) h1
theorem Hr.put (h : Hr w0 VS ia is x l W) (ha : l ia = true) (hs : l is = false) (hv : VS.length = 6) (hne : ¬ ia = is := by decide) : Hr w0 VS ia is x (Ls.upd l is true) (puts x 0 VS W) := by
  have hb := Mu.box_all (us := VS) (h.box0 ha hs) (by rw [hv]; rfl)
  refine ⟨below_puts x (h.box ha).1 VS 0 _ h.bel, fun _ => ⟨(h.box ha).1, ?_⟩, fun _ => by rw [Ls.upd_other _ _ hne]; exact ha⟩
  rw [upd_same]
  exact hb
theorem Hr.done (h : Hr w0 VS ia is x l W) (ha : l ia = true) (hs : l is = true) : Below w0.heap.size w0 W ∧ w0.heap.size ≤ x ∧ Box W x VS := by
  have hb := (h.box ha).2
  rw [hs] at hb
  exact ⟨h.bel, (h.box ha).1, hb⟩
end
end Go.Proofs.YtccjelpfmkbmiaaGreatDoor.Tr
end
section
namespace Go.Proofs.YtccjelpfmkbmiaaGreatDoor.Tr
open Go.Proofs.YtccjelpfmkbmiaaGreatDoor Go.Proofs.YtccjelpfmkbmiaaGreatDoor.Rt
open Go.RowKit
open Go.Proofs.YtccjelpfmkbmiaaGreatDoor.Mu (hv kv w_load w_store w_loadg ldHb ldKb stHb stKb st_int ld_int p_load p_store ev region_plan noHs0 noK0)
open Go.Proofs.YtccjelpfmkbmiaaGreatDoor.Ha (region_planK pl_full putD w_skip)
set_option maxRecDepth 100000

end Go.Proofs.YtccjelpfmkbmiaaGreatDoor.Tr
end
section
namespace Go.Proofs.YtccjelpfmkbmiaaGreatDoor.Tr
open Go.Proofs.YtccjelpfmkbmiaaGreatDoor Go.Proofs.YtccjelpfmkbmiaaGreatDoor.Rt
open Go.RowKit
open Go.Proofs.YtccjelpfmkbmiaaGreatDoor.Mu (hv kv w_load w_store w_loadg ldHb ldKb stHb stKb st_int ld_int p_load p_store ev region_plan noHs0 noK0)
set_option maxRecDepth 100000

end Go.Proofs.YtccjelpfmkbmiaaGreatDoor.Tr
end
section
namespace Go.Proofs.YtccjelpfmkbmiaaGreatDoor.Tr
open Go.Proofs.YtccjelpfmkbmiaaGreatDoor Go.Proofs.YtccjelpfmkbmiaaGreatDoor.Sh
set_option maxRecDepth 100000

section
variable {s t : Hs} {d d' : Hd_} {k : Ks} {xs : List Int} {mj : Bool} {ep a y q : Int}
theorem sh_wd (hlen : d.ws.length = s.w.n) (hy : 16 ≤ y) (h : ¬ (isC s d mj ep a 1 = true ∧ y = a)) : wd (shD s d mj ep a) y = wd d y := by
  unfold shD
  split
  · next hc =>
    obtain ⟨h1, h2, _⟩ := isC_iff.1 hc
    exact (hd_turned (lens_refl s) hlen h2 false h1.1 h1.2).oth y hy fun e => h ⟨hc, e⟩
  · rfl
theorem bl_wd (hlen : d.ws.length = s.w.n) (hy : 16 ≤ y) (h : ¬ (isC s d mj ep a 2 = true ∧ y = a)) : wd (blD s d mj ep a) y = wd d y := by
  unfold blD
  split
  · next hc =>
    obtain ⟨_, h2, _⟩ := isC_iff.1 hc
    have p := (obj_of h2).parts
    exact (hd_turned (lens_refl s) hlen h2 true p.2.2.2.2.1 p.2.2.2.2.2).oth y hy fun e => h ⟨hc, e⟩
  · rfl
theorem sh_used (hlen : d.ws.length = s.w.n) (mj : Bool) (ep a : Int) : usedL s (shD s d mj ep a) = usedL s d := (kin_sh (lens_refl s) hlen mj ep a).used
theorem grey_used (h : isC s d mj ep a q = true) : a ∈ usedL s d := (obj_of (isC_iff.1 h).2.1).used
/-- No black object leads to a white one. -/
def Led (s : Hs) (d : Hd_) (mj : Bool) (ep : Int) : Prop := ∀ u, isC s d mj ep u 3 = true → ∀ j, 0 ≤ j → j < nOf (wd d u) → ¬ isC s d mj ep (wd d (u + 1 + j)) 1 = true
/-- What stands between steps. -/
structure Inv (s : Hs) (d : Hd_) (k : Ks) (xs : List Int) : Prop where
  known : Known s d k xs
  led : Led s d k.mj k.ep
  pf : 0 ≤ k.pf
  at_ : isC s d k.mj k.ep k.pa 2 = true → k.pf < nOf (wd d k.pa) ∧ ∀ j, 0 ≤ j → j < k.pf → ¬ isC s d k.mj k.ep (wd d (k.pa + 1 + j)) 1 = true
end
end Go.Proofs.YtccjelpfmkbmiaaGreatDoor.Tr
end
section
namespace Go.Proofs.YtccjelpfmkbmiaaGreatDoor
open Go.RowKit
set_option maxRecDepth 100000

/-- What an append to nothing leaves. -/
structure PNew (w : World) (n : Nat) (f : Nat → Int × Int) (p : Option Addr) (w' : World) : Prop where
  row : Cl.PRow w' w'.heap.size p n f
  bel : Below w.heap.size w w'
  lies : ∀ x, p = some x → w.heap.size ≤ x.block
  high : ∀ x, p = some x → x.block < w'.heap.size
structure BNew (w : World) (n : Nat) (f : Nat → Bool) (p : Option Addr) (w' : World) : Prop where
  row : BRow w' w'.heap.size p n f
  bel : Below w.heap.size w w'
  lies : ∀ x, p = some x → w.heap.size ≤ x.block
  free : ∀ x, p = some x → x = ⟨x.block, 0, none⟩ ∧ (∀ i, w'.frozen? ⟨x.block, i, none⟩ = false) ∧ x.block < w'.heap.size
theorem run_pnew {w : World} {B n c : Nat} {A : Option Addr} {f : Nat → Int × Int} (ty : TypeId) (hr : Cl.PRow w B A n f) (hn : n ≤ 1000) :
    ∃ p cp w', (Builtin.append_ #[23, 23] ty #[.slice none 0 0, .slice A n c]).run Tryz.prog w = .ok (.slice p n cp) w' ∧ PNew w n f p w' := by
  obtain ⟨i0, hi, hz0, hz1, hz2⟩ := info_parts Cl.info_page
  by_cases h0 : n = 0
  · subst h0
    have hsrc : Src Tryz.prog i0.size 23 (.slice A 0 c) 0 [] w := by
      rw [hz1]
      cases A with
      | none => exact Src.ofNil _ Tryz.underlying23 c
      | some a => exact Src.ofSlice _ Tryz.underlying23 a 0 c [] rfl (by simp) (by simp)
    exact ⟨none, 0, w, run_append_nothing w 23 23 ty 81 i0 Tryz.underlying23 hi none 0 0 (Nat.le_refl _) _ hsrc, ⟨fun h => absurd h (by omega), Below.refl _ _, (fun x hx => by cases hx), fun x hx => by cases hx⟩⟩
  · obtain ⟨b, off, rfl, _, hc⟩ := hr (by omega)
    obtain ⟨g, cap, w', hrun, r1, r2, r3, r4⟩ := run_append_lies (P := Tryz.prog) w 23 ty w.heap.size 81 i0 (.agg #[.int .i64 0, .int .i64 0]) 2 16 Tryz.underlying23 hi hz0 hz1 hz2 rfl (by decide) _ _ _ (World.ownsRow_nil w w.heap.size 81 2) ⟨b, off, none⟩ n c (Cl.pcells f n) (Cl.pcells_length f n) (by
      intro j u hj
      rw [Addr.add_lit]
      exact Cl.pcells_of hc j u hj) Cl.pcells_one (by omega) (by unfold maxLen; omega) (by omega) (Nat.le_refl _) w.heap.size rfl
    have hown : w'.ownsRow w.heap.size 81 2 (.slice (some ⟨g, 0, none⟩) n cap) n (Cl.pcells f n) := by simpa using r1
    obtain ⟨g', c', e, hm⟩ := Cl.pmine_of hown (by omega)
    simp only [Value.slice.injEq, Option.some.injEq, Addr.mk.injEq, and_true, true_and] at e
    obtain ⟨rfl, rfl⟩ := e
    refine ⟨some ⟨g, 0, none⟩, cap, w', by simpa using hrun, ⟨hm.row, (Below.refl _ _).grown r2 (Nat.le_refl _) (by intro j hj; cases hj), fun x hx => ?_, fun x hx => ?_⟩⟩
    · cases hx
      exact hm.2.1
    · cases hx
      exact hm.2.2.1
theorem run_bnew {w : World} {B n c : Nat} {A : Option Addr} {f : Nat → Bool} (ty : TypeId) (hr : BRow w B A n f) (hn : n ≤ 1000000) :
    ∃ p cp w', (Builtin.append_ #[26, 26] ty #[.slice none 0 0, .slice A n c]).run Tryz.prog w = .ok (.slice p n cp) w' ∧ BNew w n f p w' := by
  obtain ⟨i0, hi, hz0, hz1, hz2⟩ := info_parts info_boolC
  by_cases h0 : n = 0
  · subst h0
    have hsrc : Src Tryz.prog i0.size 26 (.slice A 0 c) 0 [] w := by
      rw [hz1]
      cases A with
      | none => exact Src.ofNil _ Tryz.underlying26 c
      | some a => exact Src.ofSlice _ Tryz.underlying26 a 0 c [] rfl (by simp) (by simp)
    exact ⟨none, 0, w, run_append_nothing w 26 26 ty 4 i0 Tryz.underlying26 hi none 0 0 (Nat.le_refl _) _ hsrc, ⟨fun h => absurd h (by omega), Below.refl _ _, (fun x hx => by cases hx), fun x hx => by cases hx⟩⟩
  · obtain ⟨b, off, rfl, _, hc⟩ := hr (by omega)
    obtain ⟨g, cap, w', hrun, r1, r2, r3, r4⟩ := run_append_lies (P := Tryz.prog) w 26 ty w.heap.size 4 i0 (.bool false) 1 1 Tryz.underlying26 hi hz0 hz1 hz2 rfl (by decide) _ _ _ (World.ownsRow_nil w w.heap.size 4 1) ⟨b, off, none⟩ n c (bcells f n) (by simp [bcells]) (by
      intro j u hj
      rw [Addr.add_lit]
      have hjn : j < n := by
        have := (List.getElem?_eq_some_iff.1 hj).1
        simpa [bcells] using this
      rw [bcells_at f n j hjn] at hj
      rw [← hj]
      exact hc j hjn) (by
      intro u hu
      obtain ⟨x, _, rfl⟩ := List.mem_map.1 hu
      rfl) (by omega) (by unfold maxLen; omega) (by omega) (Nat.le_refl _) w.heap.size rfl
    have hown : w'.ownsRow w.heap.size 4 1 (.slice (some ⟨g, 0, none⟩) n cap) n (bcells f n) := by simpa using r1
    obtain ⟨g', c', e, hm, hb, hl⟩ := bmade_of hown (by omega)
    simp only [Value.slice.injEq, Option.some.injEq, Addr.mk.injEq, and_true, true_and] at e
    obtain ⟨rfl, rfl⟩ := e
    refine ⟨some ⟨g, 0, none⟩, cap, w', by simpa using hrun, ⟨fun _ => ⟨g, 0, rfl, hl, fun i hi => by rw [Nat.zero_add]; exact hm i hi⟩, (Below.refl _ _).grown r2 (Nat.le_refl _) (by intro j hj; cases hj), fun x hx => ?_, fun x hx => ?_⟩⟩
    · cases hx
      exact hb
    · cases hx
      exact ⟨rfl, fun i => hown.frozenAt i, hl⟩
theorem list_pnew {w : World} {ops : Array Oper} {rest : List Oper} {o : Oper} {a : Act} {Q : Exit → Act → World → Prop} (hgd : o.guard = none) (s x : Operand)
    (ho : o.op = .call { callee := .builtin .append, args := #[s, x], argTypes := #[23, 23] }) {B n c : Nat} {A : Option Addr} {f : Nat → Int × Int}
    (hs : a.eval s = .slice none 0 0) (hx : a.eval x = .slice A n c) (hr : Cl.PRow w B A n f) (hn : n ≤ 1000)
    (hK : ∀ p cp w', PNew w n f p w' → wpList Tryz.prog ops Q rest (a.put o.dst (.slice p n cp)) w') : wpList Tryz.prog ops Q (o :: rest) a w :=
  wpList_plain hgd fun _ hK' => by
    obtain ⟨p, cp, w', hrun, h1⟩ := run_pnew (c := c) o.type hr hn
    unfold Oper.wp execOp
    simp only [ho, resolve, invoke, builtin, Sem.run_bind, Sem.run_pure, Result.andThen_ok, List.map_toArray, List.map_cons, List.map_nil, hs, hx, hrun]
    exact hK' _ _ (hK p cp w' h1)
theorem list_bnew {w : World} {ops : Array Oper} {rest : List Oper} {o : Oper} {a : Act} {Q : Exit → Act → World → Prop} (hgd : o.guard = none) (s x : Operand)
    (ho : o.op = .call { callee := .builtin .append, args := #[s, x], argTypes := #[26, 26] }) {B n c : Nat} {A : Option Addr} {f : Nat → Bool}
    (hs : a.eval s = .slice none 0 0) (hx : a.eval x = .slice A n c) (hr : BRow w B A n f) (hn : n ≤ 1000000)
    (hK : ∀ p cp w', BNew w n f p w' → wpList Tryz.prog ops Q rest (a.put o.dst (.slice p n cp)) w') : wpList Tryz.prog ops Q (o :: rest) a w :=
  wpList_plain hgd fun _ hK' => by
    obtain ⟨p, cp, w', hrun, h1⟩ := run_bnew (c := c) o.type hr hn
    unfold Oper.wp execOp
    simp only [ho, resolve, invoke, builtin, Sem.run_bind, Sem.run_pure, Result.andThen_ok, List.map_toArray, List.map_cons, List.map_nil, hs, hx, hrun]
    exact hK' _ _ (hK p cp w' h1)
/-- Two blocks alone are turned, of those that were there. -/
def Stp (x y : Nat) (w w' : World) : Prop := w.heap.size ≤ w'.heap.size ∧ ∀ k, k < w.heap.size → ¬ k = x → ¬ k = y → w'.heap[k]? = w.heap[k]?
section
variable {x y : Nat} {w w' w'' : World}
theorem Stp.trans (h : Stp x y w w') (h' : Stp x y w' w'') : Stp x y w w'' := ⟨Nat.le_trans h.1 h'.1, fun k hk h1 h2 => (h'.2 k (Nat.lt_of_lt_of_le hk h.1) h1 h2).trans (h.2 k hk h1 h2)⟩
theorem Stp.of_below (h : Below w.heap.size w w') : Stp x y w w' := ⟨h.size, fun k hk _ _ => h.block k hk⟩
theorem Stp.set (j : Nat) (v : Value) : Stp x y w (w.setCell ⟨x, j, none⟩ v) := ⟨by simp [World.setCell], fun _ _ h1 _ => Below.heap_setCell _ _ _ _ h1⟩
theorem Stp.put (v0 v1 v2 v3 v4 v5 : Value) : Stp x y w (put6 w y v0 v1 v2 v3 v4 v5) := ⟨by rw [put6_size]; exact Nat.le_refl _, fun _ _ _ h2 => put6_other _ _ _ _ _ _ _ _ h2⟩
/-- A slice lies in neither. -/
def Out2 (x y : Nat) (v : Ls.Sl) : Prop := 0 < v.n → ∀ z, v.a = some z → ¬ z.block = x ∧ ¬ z.block = y
theorem row_stp {v : Ls.Sl} {xs : List Int} (h : Row w w.heap.size v.a v.n xs) (ho : Out2 x y v) (hs : Stp x y w w') : Row w' w'.heap.size v.a v.n xs := by
  refine (row_same h fun hn z hz => ?_).more hs.1
  obtain ⟨b, off, e, hlt, _⟩ := h.2 hn
  rw [hz] at e
  cases e
  exact hs.2 _ hlt (ho hn _ hz).1 (ho hn _ hz).2
theorem prow_stp {v : Ls.Sl} {f : Nat → Int × Int} (h : Cl.PRow w w.heap.size v.a v.n f) (ho : Out2 x y v) (hs : Stp x y w w') : Cl.PRow w' w'.heap.size v.a v.n f := fun hn => by
  obtain ⟨b, off, e, hlt, hc⟩ := h hn
  have hb := hs.2 b hlt (ho hn _ e).1 (ho hn _ e).2
  exact ⟨b, off, e, Nat.lt_of_lt_of_le hlt hs.1, fun i hi => ⟨(World.cell?_of_block (a := ⟨b, off + i * 2, none⟩) hb).trans (hc i hi).1, (World.cell?_of_block (a := ⟨b, off + i * 2 + 1, none⟩) hb).trans (hc i hi).2⟩⟩
theorem brow_stp {v : Ls.Sl} {f : Nat → Bool} (h : BRow w w.heap.size v.a v.n f) (ho : Out2 x y v) (hs : Stp x y w w') : BRow w' w'.heap.size v.a v.n f := fun hn => by
  obtain ⟨b, off, e, hlt, hc⟩ := h hn
  have hb := hs.2 b hlt (ho hn _ e).1 (ho hn _ e).2
  exact ⟨b, off, e, Nat.lt_of_lt_of_le hlt hs.1, fun i hi => (World.cell?_of_block (a := ⟨b, off + i, none⟩) hb).trans (hc i hi)⟩
end
end Go.Proofs.YtccjelpfmkbmiaaGreatDoor
end
section
namespace Go.Proofs.YtccjelpfmkbmiaaGreatDoor
open Go.RowKit
set_option maxRecDepth 100000

theorem hbox_same {W W' : World} {b : Nat} {t : Hs} (h : HBox W b t) (hs : W'.heap[b]? = W.heap[b]?) (hl : W.heap.size ≤ W'.heap.size) : HBox W' b t :=
  ⟨(World.cell?_of_block (a := ⟨b, 0, none⟩) hs).trans h.c0, (World.cell?_of_block (a := ⟨b, 1, none⟩) hs).trans h.c1, (World.cell?_of_block (a := ⟨b, 2, none⟩) hs).trans h.c2, (World.cell?_of_block (a := ⟨b, 3, none⟩) hs).trans h.c3, (World.cell?_of_block (a := ⟨b, 4, none⟩) hs).trans h.c4, (World.cell?_of_block (a := ⟨b, 5, none⟩) hs).trans h.c5, Nat.lt_of_lt_of_le h.lt hl⟩
/-- All cells of a block hold slices. -/
def Slices (W : World) (b : Nat) : Prop := ∀ j v, W.cell? ⟨b, j, none⟩ = some v → ∃ a n c, v = .slice a n c
theorem Slices.row {W : World} {b B n : Nat} {a : Option Addr} {xs : List Int} (h : Slices W b) (hr : Row W B a n xs) : 0 < n → ∀ x, a = some x → ¬ x.block = b := fun hn x hx e => by
  obtain ⟨b', off, e', _, hc⟩ := hr.2 hn
  rw [hx] at e'
  cases e'
  subst e
  obtain ⟨_, _, _, hv⟩ := h _ _ (hc 0 hn)
  cases hv
theorem Slices.prow {W : World} {b B n : Nat} {a : Option Addr} {f : Nat → Int × Int} (h : Slices W b) (hr : Cl.PRow W B a n f) : 0 < n → ∀ x, a = some x → ¬ x.block = b := fun hn x hx e => by
  obtain ⟨b', off, e', _, hc⟩ := hr hn
  rw [hx] at e'
  cases e'
  subst e
  obtain ⟨_, _, _, hv⟩ := h _ _ (hc 0 hn).1
  cases hv
theorem Slices.brow {W : World} {b B n : Nat} {a : Option Addr} {f : Nat → Bool} (h : Slices W b) (hr : BRow W B a n f) : 0 < n → ∀ x, a = some x → ¬ x.block = b := fun hn x hx e => by
  obtain ⟨b', off, e', _, hc⟩ := hr hn
  rw [hx] at e'
  cases e'
  subst e
  obtain ⟨_, _, _, hv⟩ := h _ _ (hc 0 hn)
  cases hv
theorem Slices.same {W W' : World} {b : Nat} (h : Slices W b) (hs : W'.heap[b]? = W.heap[b]?) : Slices W' b := fun j v hv => h j v ((World.cell?_of_block (a := ⟨b, j, none⟩) hs).symm.trans hv)
theorem cell_set_none {W : World} {b j : Nat} {v : Value} (h : W.cell? ⟨b, j, none⟩ = none) : (W.setCell ⟨b, j, none⟩ v).cell? ⟨b, j, none⟩ = none := by
  unfold World.cell? at h ⊢
  unfold World.setCell
  simp only [Array.getElem?_modify, if_true]
  cases hb : W.heap[b]? with
  | none => rfl
  | some o =>
    cases o with
    | cells c e f =>
      rw [hb] at h
      simp at h
      simp [h]
    | _ => rfl
theorem Slices.set {W : World} {b k : Nat} {a : Option Addr} {n c : Nat} (h : Slices W b) : Slices (W.setCell ⟨b, k, none⟩ (.slice a n c)) b := fun j v hv => by
  by_cases e : j = k
  · subst e
    cases hc : W.cell? ⟨b, j, none⟩ with
    | none => rw [cell_set_none hc] at hv; cases hv
    | some x =>
      rw [World.cell?_setCell_same' _ _ _ (by rw [hc]; rfl)] at hv
      cases hv
      exact ⟨a, n, c, rfl⟩
  · rw [World.cell?_setCell_other _ _ _ _ (by intro hh; simp only [Addr.mk.injEq, true_and, and_true] at hh; omega)] at hv
    exact h j v hv
/-- Rows stand where another block alone is turned. -/
theorem l3_turn {W W' : World} {b : Nat} {u : Nat → Ls.Sl} {F : Nat → List Int} (hS : Slices W b) (h : Ls.L3 W W.heap.size u F) (hs : ∀ i, ¬ i = b → W'.heap[i]? = W.heap[i]?) (hl : W.heap.size = W'.heap.size) : Ls.L3 W' W'.heap.size u F := fun j hj => by
  rw [← hl]
  exact ⟨row_same (h j hj).1 fun hn x hx => hs _ (hS.row (h j hj).1 hn x hx), (h j hj).2⟩
theorem hp_turn {W W' : World} {b : Nat} {t : Hs} {d : Hd_} (hS : Slices W b) (h : Hp W W.heap.size t d) (hs : ∀ i, ¬ i = b → W'.heap[i]? = W.heap[i]?) (hl : W.heap.size = W'.heap.size) : Hp W' W'.heap.size t d := by
  refine ⟨?_, fun hn => ?_, l3_turn hS h.free hs hl, fun hn => ?_⟩
  · rw [← hl]
    exact row_same h.words fun hn x hx => hs _ (hS.row h.words hn x hx)
  · obtain ⟨b', off, e, hlt, hc⟩ := h.pages hn
    rw [← hl]
    refine ⟨b', off, e, hlt, fun i hi => ?_⟩
    have hb' := hs b' (hS.prow h.pages hn _ e)
    exact ⟨(World.cell?_of_block (a := ⟨b', off + i * 2, none⟩) hb').trans (hc i hi).1, (World.cell?_of_block (a := ⟨b', off + i * 2 + 1, none⟩) hb').trans (hc i hi).2⟩
  · obtain ⟨b', off, e, hlt, hc⟩ := h.cards hn
    rw [← hl]
    refine ⟨b', off, e, hlt, fun i hi => ?_⟩
    exact (World.cell?_of_block (a := ⟨b', off + i, none⟩) (hs b' (hS.brow h.cards hn _ e))).trans (hc i hi)
theorem set_others {W : World} {b k : Nat} {v : Value} : ∀ i, ¬ i = b → (W.setCell ⟨b, k, none⟩ v).heap[i]? = W.heap[i]? := fun _ hi => Below.heap_setCell _ _ _ _ hi
theorem set3_others {W : World} {b k0 k1 k2 : Nat} {v0 v1 v2 : Value} : ∀ i, ¬ i = b → (((W.setCell ⟨b, k0, none⟩ v0).setCell ⟨b, k1, none⟩ v1).setCell ⟨b, k2, none⟩ v2).heap[i]? = W.heap[i]? := fun i hi => ((set_others i hi).trans (set_others i hi)).trans (set_others i hi)
theorem set_size {W : World} {p : Addr} {v : Value} : (W.setCell p v).heap.size = W.heap.size := by simp [World.setCell]
theorem slices6 (w : World) (t : Hs) (ty : TypeId) : Slices (w.alloc (.cells #[.slice t.w.a t.w.n t.w.c, .slice t.p.a t.p.n t.p.c, .slice (t.u 0).a (t.u 0).n (t.u 0).c, .slice (t.u 1).a (t.u 1).n (t.u 1).c, .slice (t.u 2).a (t.u 2).n (t.u 2).c, .slice t.c.a t.c.n t.c.c] ty)) w.heap.size := fun j v hv => by
  rcases j with _ | _ | _ | _ | _ | _ | j
  · simp [go_sem] at hv; exact ⟨_, _, _, hv.symm⟩
  · simp [go_sem] at hv; exact ⟨_, _, _, hv.symm⟩
  · simp [go_sem] at hv; exact ⟨_, _, _, hv.symm⟩
  · simp [go_sem] at hv; exact ⟨_, _, _, hv.symm⟩
  · simp [go_sem] at hv; exact ⟨_, _, _, hv.symm⟩
  · simp [go_sem] at hv; exact ⟨_, _, _, hv.symm⟩
  · simp [go_sem] at hv
/-- A box of a heap, or of what is made of one. -/
structure Rm (W : World) (b : Nat) (t : Hs) : Prop where
  box : Box6 W b t
  sl : Slices W b
section
variable {w W W' : World} {b : Nat} {t t' : Hs} {d d' : Hd_}
theorem Rm.same (h : Rm W b t) (hs : W'.heap[b]? = W.heap[b]?) (hl : W.heap.size ≤ W'.heap.size) : Rm W' b t := ⟨h.box.same hs hl, h.sl.same hs⟩
theorem Rm.next (h : Rm W b t) (hb : Below W.heap.size W W') : Rm W' b t := h.same (hb.block b h.box.box.lt) hb.size
theorem Rm.new (w : World) (t : Hs) (ty : TypeId) : Rm (w.alloc (.cells #[.slice t.w.a t.w.n t.w.c, .slice t.p.a t.p.n t.p.c, .slice (t.u 0).a (t.u 0).n (t.u 0).c, .slice (t.u 1).a (t.u 1).n (t.u 1).c, .slice (t.u 2).a (t.u 2).n (t.u 2).c, .slice t.c.a t.c.n t.c.c] ty)) w.heap.size t :=
  ⟨⟨HBox.new w t ty, fun j => by simp [go_sem]⟩, slices6 w t ty⟩
theorem Rm.set (h : Rm W b t) (k : Nat) (a : Option Addr) (n c : Nat)
    (e0 : Value.slice t'.w.a t'.w.n t'.w.c = if 0 = k then .slice a n c else .slice t.w.a t.w.n t.w.c) (e1 : Value.slice t'.p.a t'.p.n t'.p.c = if 1 = k then .slice a n c else .slice t.p.a t.p.n t.p.c)
    (e2 : Value.slice (t'.u 0).a (t'.u 0).n (t'.u 0).c = if 2 = k then .slice a n c else .slice (t.u 0).a (t.u 0).n (t.u 0).c) (e3 : Value.slice (t'.u 1).a (t'.u 1).n (t'.u 1).c = if 3 = k then .slice a n c else .slice (t.u 1).a (t.u 1).n (t.u 1).c)
    (e4 : Value.slice (t'.u 2).a (t'.u 2).n (t'.u 2).c = if 4 = k then .slice a n c else .slice (t.u 2).a (t.u 2).n (t.u 2).c) (e5 : Value.slice t'.c.a t'.c.n t'.c.c = if 5 = k then .slice a n c else .slice t.c.a t.c.n t.c.c) : Rm (W.setCell ⟨b, k, none⟩ (.slice a n c)) b t' :=
  ⟨⟨⟨cell_set h.box.box.c0 e0, cell_set h.box.box.c1 e1, cell_set h.box.box.c2 e2, cell_set h.box.box.c3 e3, cell_set h.box.box.c4 e4, cell_set h.box.box.c5 e5, by simpa [World.setCell] using h.box.box.lt⟩, frozen_set h.box.free⟩, h.sl.set⟩
/-- A box, and the heap that it holds, in the midst of a call. -/
structure Ro (w W : World) (b : Nat) (t : Hs) (d : Hd_) : Prop where
  bel : Below w.heap.size w W
  hi : w.heap.size ≤ b
  rm : Rm W b t
  hp : Hp W W.heap.size t d
theorem Ro.next (h : Ro w W b t d) (hb : Below W.heap.size W W') : Ro w W' b t d := ⟨h.bel.trans (hb.mono h.bel.size), h.hi, h.rm.next hb, h.hp.next hb⟩
theorem Ro.drew (h : Ro w W b t d) : Ro w W.drew b t d := h.next (below_drawn' (Below.refl _ _) 1)
/-- The box is turned, to what lies in memory already. -/
theorem Ro.turn (h : Ro w W b t d) (hr : Rm W' b t') (hb : Below w.heap.size w W') (hs : ∀ i, ¬ i = b → W'.heap[i]? = W.heap[i]?) (hl : W.heap.size = W'.heap.size) (hp : Hp W W.heap.size t' d') : Ro w W' b t' d' :=
  ⟨hb, h.hi, hr, hp_turn h.rm.sl hp hs hl⟩
theorem Ro.words (h : Ro w W b t d) (v : Ls.Sl) (ws : List Int) (hr : Row W W.heap.size v.a v.n ws) : Ro w (W.setCell ⟨b, 0, none⟩ (.slice v.a v.n v.c)) b ⟨v, t.p, t.u, t.c⟩ ⟨ws, d.f, d.F, d.cs⟩ :=
  h.turn (h.rm.set 0 _ _ _ rfl rfl rfl rfl rfl rfl) (h.bel.setCell (p := ⟨b, 0, none⟩) h.hi _) set_others set_size.symm ⟨hr, h.hp.pages, h.hp.free, h.hp.cards⟩
theorem Ro.pages (h : Ro w W b t d) (v : Ls.Sl) (f : Nat → Int × Int) (hr : Cl.PRow W W.heap.size v.a v.n f) : Ro w (W.setCell ⟨b, 1, none⟩ (.slice v.a v.n v.c)) b ⟨t.w, v, t.u, t.c⟩ ⟨d.ws, f, d.F, d.cs⟩ :=
  h.turn (h.rm.set 1 _ _ _ rfl rfl rfl rfl rfl rfl) (h.bel.setCell (p := ⟨b, 1, none⟩) h.hi _) set_others set_size.symm ⟨h.hp.words, hr, h.hp.free, h.hp.cards⟩
theorem Ro.cards (h : Ro w W b t d) (v : Ls.Sl) (cs : Nat → Bool) (hr : BRow W W.heap.size v.a v.n cs) : Ro w (W.setCell ⟨b, 5, none⟩ (.slice v.a v.n v.c)) b ⟨t.w, t.p, t.u, v⟩ ⟨d.ws, d.f, d.F, cs⟩ :=
  h.turn (h.rm.set 5 _ _ _ rfl rfl rfl rfl rfl rfl) (h.bel.setCell (p := ⟨b, 5, none⟩) h.hi _) set_others set_size.symm ⟨h.hp.words, h.hp.pages, h.hp.free, hr⟩
def triS (a b c : Ls.Sl) : Nat → Ls.Sl := fun | 0 => a | 1 => b | _ => c
theorem Rm.free3 (h : Rm W b t) (v : Nat → Ls.Sl) : Rm (((W.setCell ⟨b, 2, none⟩ (.slice (v 0).a (v 0).n (v 0).c)).setCell ⟨b, 3, none⟩ (.slice (v 1).a (v 1).n (v 1).c)).setCell ⟨b, 4, none⟩ (.slice (v 2).a (v 2).n (v 2).c)) b ⟨t.w, t.p, v, t.c⟩ := by
  have h1 := h.set (t' := ⟨t.w, t.p, triS (v 0) (t.u 1) (t.u 2), t.c⟩) 2 (v 0).a (v 0).n (v 0).c rfl rfl rfl rfl rfl rfl
  have h2 := h1.set (t' := ⟨t.w, t.p, triS (v 0) (v 1) (t.u 2), t.c⟩) 3 (v 1).a (v 1).n (v 1).c rfl rfl rfl rfl rfl rfl
  exact h2.set (t' := ⟨t.w, t.p, v, t.c⟩) 4 (v 2).a (v 2).n (v 2).c rfl rfl rfl rfl rfl rfl
theorem Ro.free3 (h : Ro w W b t d) (v : Nat → Ls.Sl) (F : Nat → List Int) (hl : Ls.L3 W W.heap.size v F) : Ro w (((W.setCell ⟨b, 2, none⟩ (.slice (v 0).a (v 0).n (v 0).c)).setCell ⟨b, 3, none⟩ (.slice (v 1).a (v 1).n (v 1).c)).setCell ⟨b, 4, none⟩ (.slice (v 2).a (v 2).n (v 2).c)) b ⟨t.w, t.p, v, t.c⟩ ⟨d.ws, d.f, F, d.cs⟩ :=
  h.turn (h.rm.free3 v) (((h.bel.setCell (p := ⟨b, 2, none⟩) h.hi _).setCell (p := ⟨b, 3, none⟩) h.hi _).setCell (p := ⟨b, 4, none⟩) h.hi _) set3_others (by simp) ⟨h.hp.words, h.hp.pages, hl, h.hp.cards⟩
/-- A whole heap is stored into the box. -/
theorem Rm.put (h : Rm W b t) (t' : Hs) : Rm (put6 W b (.slice t'.w.a t'.w.n t'.w.c) (.slice t'.p.a t'.p.n t'.p.c) (.slice (t'.u 0).a (t'.u 0).n (t'.u 0).c) (.slice (t'.u 1).a (t'.u 1).n (t'.u 1).c) (.slice (t'.u 2).a (t'.u 2).n (t'.u 2).c) (.slice t'.c.a t'.c.n t'.c.c)) b t' := by
  have h1 := h.set (t' := ⟨t'.w, t.p, t.u, t.c⟩) 0 t'.w.a t'.w.n t'.w.c rfl rfl rfl rfl rfl rfl
  have h2 := h1.set (t' := ⟨t'.w, t'.p, t.u, t.c⟩) 1 t'.p.a t'.p.n t'.p.c rfl rfl rfl rfl rfl rfl
  have h3 := h2.free3 t'.u
  exact h3.set (t' := t') 5 t'.c.a t'.c.n t'.c.c rfl rfl rfl rfl rfl rfl
theorem Ro.put (h : Ro w W b t d) (hp : Hp W W.heap.size t' d') : Ro w (put6 W b (.slice t'.w.a t'.w.n t'.w.c) (.slice t'.p.a t'.p.n t'.p.c) (.slice (t'.u 0).a (t'.u 0).n (t'.u 0).c) (.slice (t'.u 1).a (t'.u 1).n (t'.u 1).c) (.slice (t'.u 2).a (t'.u 2).n (t'.u 2).c) (.slice t'.c.a t'.c.n t'.c.c)) b t' d' :=
  h.turn (h.rm.put t') (below_put6 h.bel h.hi _ _ _ _ _ _) (fun _ hi => put6_other _ _ _ _ _ _ _ _ hi) (put6_size _ _ _ _ _ _ _ _).symm hp
/-- The result's cell is turned: all else stands. -/
theorem Ro.res {rb : Nat} {t0 : Hs} (h : Ro w W b t d) (hr : Rm W rb t0) (hi : w.heap.size ≤ rb) (t' : Hs) : Hp (put6 W rb (.slice t'.w.a t'.w.n t'.w.c) (.slice t'.p.a t'.p.n t'.p.c) (.slice (t'.u 0).a (t'.u 0).n (t'.u 0).c) (.slice (t'.u 1).a (t'.u 1).n (t'.u 1).c) (.slice (t'.u 2).a (t'.u 2).n (t'.u 2).c) (.slice t'.c.a t'.c.n t'.c.c)) (put6 W rb (.slice t'.w.a t'.w.n t'.w.c) (.slice t'.p.a t'.p.n t'.p.c) (.slice (t'.u 0).a (t'.u 0).n (t'.u 0).c) (.slice (t'.u 1).a (t'.u 1).n (t'.u 1).c) (.slice (t'.u 2).a (t'.u 2).n (t'.u 2).c) (.slice t'.c.a t'.c.n t'.c.c)).heap.size t d ∧
    Below w.heap.size w (put6 W rb (.slice t'.w.a t'.w.n t'.w.c) (.slice t'.p.a t'.p.n t'.p.c) (.slice (t'.u 0).a (t'.u 0).n (t'.u 0).c) (.slice (t'.u 1).a (t'.u 1).n (t'.u 1).c) (.slice (t'.u 2).a (t'.u 2).n (t'.u 2).c) (.slice t'.c.a t'.c.n t'.c.c)) :=
  ⟨hp_turn hr.sl h.hp (fun _ hi => put6_other _ _ _ _ _ _ _ _ hi) (put6_size _ _ _ _ _ _ _ _).symm, below_put6 h.bel hi _ _ _ _ _ _⟩
end
end Go.Proofs.YtccjelpfmkbmiaaGreatDoor
end
