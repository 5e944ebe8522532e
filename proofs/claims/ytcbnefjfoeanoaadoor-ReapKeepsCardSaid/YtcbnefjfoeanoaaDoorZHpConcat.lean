/-
  slices.Concat of two slices of lists, and package heap's told.
-/
import Derived.Test.YtcbnefjfoeanoaaDoorZHpGlue
import Derived.Test.YtcbnefjfoeanoaaDoorZLsApart
import Derived.LoopN
namespace Go.Proofs.YtcbnefjfoeanoaaDoor
open Go.RowKit
set_option maxRecDepth 100000

theorem run_lcat (W : World) (base B k m c g cp : Nat) (A : Option Addr) (u U : Nat → Nat → Ls.Sl) (F : Nat → Nat → List Int) (ty : TypeId) (own : W.ownsRow base 25 3 (.slice (some ⟨g, 0, none⟩) k cp) k (lcells u k)) (hr : Ls.LRow W B A m U F) (hbase : base ≤ W.heap.size) (hk : k + m ≤ 2000) :
    ∃ g' cp' w', (Builtin.append_ #[29, 29] ty #[.slice (some ⟨g, 0, none⟩) k cp, .slice A m c]).run Tryd.prog W = .ok (.slice (some ⟨g', 0, none⟩) (k + m) cp') w' ∧
      w'.ownsRow base 25 3 (.slice (some ⟨g', 0, none⟩) (k + m) cp') (k + m) (lcells u k ++ lcells U m) ∧ W.grownBy w' (some g) ∧ g' < w'.heap.size := by
  obtain ⟨i0, hi, hz0, hz1, hz2⟩ := info_parts info_l3
  have hg := (own.lt g rfl).2
  have hkc : k ≤ cp := by
    rcases own.2 with ⟨h, _⟩ | ⟨g1, c1, cur, h, _, _, h4, _⟩
    · cases h
    · simp only [Value.slice.injEq, Option.some.injEq, Addr.mk.injEq, and_true, true_and] at h
      obtain ⟨rfl, rfl⟩ := h
      exact h4
  by_cases hn : m = 0
  · subst hn
    have hsrc : Src Tryd.prog i0.size 29 (.slice A 0 c) 0 [] W := by
      rw [hz1]
      cases A with
      | none => exact Src.ofNil _ Tryd.underlying29 c
      | some a => exact Src.ofSlice _ Tryd.underlying29 a 0 c [] rfl (by simp) (by simp)
    refine ⟨g, cp, W, run_append_nothing _ 29 29 ty 25 i0 Tryd.underlying29 hi (some ⟨g, 0, none⟩) k cp hkc _ hsrc, ?_, ⟨rfl, rfl, rfl, Nat.le_refl _, fun _ _ _ => rfl⟩, hg⟩
    rw [show lcells U 0 = [] from rfl, List.append_nil]
    exact own
  · obtain ⟨b, off, rfl, hb, hc⟩ := hr (by omega)
    obtain ⟨g', cap, w', hrun, r1, r2, r3, r4⟩ := run_append_lies (P := Tryd.prog) W 29 ty base 25 i0 _ 3 72 Tryd.underlying29 hi hz0 hz1 hz2 rfl (by decide) _ _ _ own ⟨b, off, none⟩ m c (lcells U m) (lcells_length U m) (by
      intro j v hj
      have hjn : j < m * 3 := by
        have := (List.getElem?_eq_some_iff.1 hj).1
        rwa [lcells_length] at this
      have e := lcells_at U m (j / 3) (j % 3) (by omega) (by omega)
      rw [show j / 3 * 3 + j % 3 = j by omega, hj] at e
      have hcell := (hc (j / 3) (by omega)).1 (j % 3) (by omega)
      rw [Addr.add_lit, show off + j = off + j / 3 * 3 + j % 3 by omega, hcell, e]) (by
      intro v hv
      obtain ⟨x, _, rfl⟩ := List.mem_map.1 hv
      rfl) (by omega) (by unfold maxLen; omega) (by omega) hbase _ rfl
    exact ⟨g', cap, w', hrun, r1, r2, r4⟩
theorem lrow_more {w : World} {B C n : Nat} {A : Option Addr} {u : Nat → Nat → Ls.Sl} {f : Nat → Nat → List Int} (h : Ls.LRow w B A n u f) (hB : B ≤ C) : Ls.LRow w C A n u f := fun hn => by
  obtain ⟨b, off, e, hlt, hc⟩ := h hn
  exact ⟨b, off, e, Nat.lt_of_lt_of_le hlt hB, fun i hi => ⟨(hc i hi).1, (hc i hi).2.more hB⟩⟩
structure LCatted (W : World) (base g : Nat) (g' cp' n : Nat) (cells : List Value) (w' : World) : Prop where
  own : w'.ownsRow base 25 3 (.slice (some ⟨g', 0, none⟩) n cp') n cells
  grown : W.grownBy w' (some g)
  lt : g' < w'.heap.size
theorem list_lcat {W : World} {ops : Array Oper} {rest : List Oper} {o : Oper} {a : Act} {Q : Exit → Act → World → Prop} (hgd : o.guard = none) (s x : Operand)
    (ho : o.op = .call { callee := .builtin .append, args := #[s, x], argTypes := #[29, 29] }) {base B k m c g cp : Nat} {A : Option Addr} {u U : Nat → Nat → Ls.Sl} {F : Nat → Nat → List Int}
    (hs : a.eval s = .slice (some ⟨g, 0, none⟩) k cp) (hx : a.eval x = .slice A m c) (own : W.ownsRow base 25 3 (.slice (some ⟨g, 0, none⟩) k cp) k (lcells u k)) (hr : Ls.LRow W B A m U F) (hbase : base ≤ W.heap.size) (hk : k + m ≤ 2000) {n : Nat} (hn : k + m = n)
    (hK : ∀ g' cp' w', LCatted W base g g' cp' n (lcells u k ++ lcells U m) w' → wpList Tryd.prog ops Q rest (a.put o.dst (.slice (some ⟨g', 0, none⟩) n cp')) w') : wpList Tryd.prog ops Q (o :: rest) a W := by
  subst hn
  refine wpList_plain hgd fun K hK' => ?_
  obtain ⟨g', cp', w', hrun, h2, h3, h4⟩ := run_lcat W base B k m c g cp A u U F o.type own hr hbase hk
  unfold Oper.wp execOp
  simp only [ho, resolve, invoke, builtin, Sem.run_bind, Sem.run_pure, Result.andThen_ok, List.map_toArray, List.map_cons, List.map_nil, hs, hx, hrun]
  exact hK' _ _ (hK g' cp' w' ⟨h2, h3, h4⟩)
/-- slices.Grow of nothing. -/
theorem grow_any (n : Nat) (w : World) (h0 : 0 < n) (h1 : n ≤ 2000) : Calls Tryd.prog 74 #[.slice none 0 0, .int .i64 n] w fun e w' =>
    ∃ cp, e = .returned (.slice (some ⟨w.heap.size, 0, none⟩) 0 cp) ∧ w'.ownsRow w.heap.size 25 3 (.slice (some ⟨w.heap.size, 0, none⟩) 0 cp) 0 [] ∧ Below w.heap.size w w' := by
  obtain ⟨i0, hi, hz0, hz1, hz2⟩ := info_parts info_l3
  refine (Any8.slices_Grow_grow Tryd.growL i0 _ hi hz0 (by omega) none 0 0 n [] w (Nat.le_refl _) (by omega) (by rw [hz2]; omega) (by omega) (by simp) (fun _ => rfl) (fun _ h => by cases h)).mono ?_
  rintro e w' ⟨rfl, rfl⟩
  have h3 := grownCap_ge w (0 + n) 0 25
  have h4 := grownCap_le_maxLen w (0 + n) 0 25 (by unfold maxLen; omega)
  refine ⟨_, rfl, ⟨rfl, .inr ⟨w.heap.size, _, _, rfl, Nat.le_refl _, World.alloc_heap_new _ _, Nat.zero_le _, h4, ?_, by simp⟩⟩, ((Below.refl w.heap.size w).drew.alloc (Nat.le_refl _) _)⟩
  have e3 : ∀ k, (Builtin.zeroCells (Value.agg #[.slice none 0 0, .slice none 0 0, .slice none 0 0]).cells k).size = k * 3 := fun k => size_zeroCells _ k
  rw [Array.size_append, Array.size_append, e3, e3]
  show 0 + (0 + n - 0) * 3 + (grownCap w (0 + n) 0 25 - (0 + n)) * 3 = grownCap w (0 + n) 0 25 * 3
  omega
def LOut (w : World) (U : Nat → Nat → Ls.Sl) (F : Nat → Nat → List Int) (n : Nat) (e : Ending) (w' : World) : Prop := ∃ A c, e = .returned (.slice A n c) ∧ Ls.LRow w' w'.heap.size A n U F ∧ Below w.heap.size w w'
section
variable (w : World) (bb g B m c0 c1 c2 : Nat) (A : Option Addr) (u : Nat → Ls.Sl) (f : Nat → List Int) (U : Nat → Nat → Ls.Sl) (F : Nat → Nat → List Int)
theorem concat_any (h0 : w.cell? ⟨bb, 0, none⟩ = some (.slice (some ⟨g, 0, none⟩) 1 c1)) (h1 : w.cell? ⟨bb, 1, none⟩ = some (.slice A m c2)) (hbb : bb < w.heap.size) (hr1 : Ls.LRow w B (some ⟨g, 0, none⟩) 1 (fun _ => u) (fun _ => f)) (hr : Ls.LRow w B A m U F) (hB : B ≤ w.heap.size) (hm : m ≤ 1000) :
    Calls Tryd.prog 48 #[.slice (some ⟨bb, 0, none⟩) 2 c0] w (LOut w (ahead u U) (ahead f F) (1 + m)) := by
  have H1 := Lib.hid hr1
  have H2 := Lib.hid hr
  have HGR := Lib.hid (fun W => by
    have := grow_any (1 + m) W (by omega) (by omega)
    rw [show ((1 + m : Nat) : Int) = 1 + (m : Int) by omega] at this
    exact this)
  have d1 : decide ((1 : Int) + m < 0) = false := by simp; omega
  have d2 : ¬ ((1 : Int) + m < 0) := by omega
  clear hr1 hr
  go_enter Tryd.func48, Tryd.ntmps48
  go_wp2
  refine wp_loop_rounds 3 ?_
  rw [rounds_succ]
  go_wp2
  rw [rounds_succ]
  go_wp2
  rw [rounds_succ]
  go_wp2_with fail
  refine (HGR.out w).mono ?_
  rintro e w1 ⟨cp, rfl, hown, hb1⟩
  have x0 := (hb1.cell (p := ⟨bb, 0, none⟩) hbb).trans h0
  have x1 := (hb1.cell (p := ⟨bb, 1, none⟩) hbb).trans h1
  have hs1 := hb1.size
  have C1 := Lib.hid h1
  have own1 : w1.ownsRow w.heap.size 25 3 (.slice (some ⟨w.heap.size, 0, none⟩) 0 cp) 0 (lcells (fun _ => Ls.noSl) 0) := hown
  have O1 := Lib.hid own1
  have B1 := Lib.hid hb1
  have R1 := Lib.hid (H1.out.below (hb1.mono hB))
  clear hown hb1 own1 d1 d2 h0 h1
  go_wp2
  refine wp_loop_rounds 3 ?_
  rw [rounds_succ]
  go_wp2_with (at_builtin; refine list_lcat rfl (.tmp 31) (.tmp 32) rfl rfl rfl O1.out R1.out hs1 (by omega) (n := 1) rfl ?_; intro g2 cp2 w2 hc2; have O2 := Lib.hid hc2.own; have hb2 := B1.out.grown hc2.grown hs1 (fun k hk => by cases hk; exact Nat.le_refl _); have z1 := (hb2.cell (p := ⟨bb, 1, none⟩) hbb).trans C1.out; have hs2 := hb2.size; have B2 := Lib.hid hb2; clear hc2 hb2)
  have own2 : w2.ownsRow w.heap.size 25 3 (.slice (some ⟨g2, 0, none⟩) 1 cp2) 1 (lcells (fun _ => u) 1) := O2.out
  have O3 := Lib.hid own2
  have R2 := Lib.hid (H2.out.below (B2.out.mono hB))
  clear own2 x0 x1 O2
  rw [rounds_succ]
  go_wp2_with (at_builtin; refine list_lcat rfl (.tmp 31) (.tmp 32) rfl rfl rfl O3.out R2.out hs2 (by omega) (n := 1 + m) rfl ?_; intro g3 cp3 w3 hc3; have C3 := Lib.hid hc3; clear hc3)
  rw [rounds_succ]
  go_wp2
  go_ret
  have hg2 := (O3.out.lt g2 rfl).1
  have hb3 := B2.out.grown C3.out.grown hs2 (fun k hk => by cases hk; exact hg2)
  have own := C3.out.own
  rw [← lcells_ahead] at own
  refine ⟨_, _, rfl, lrow_of own C3.out.lt fun i hi => ?_, hb3⟩
  match i, hi with
  | 0, _ =>
    obtain ⟨_, _, _, _, hc⟩ := H1.out (by omega)
    exact ((hc 0 (by omega)).2.below (hb3.mono hB)).more (by have := hb3.size; omega)
  | k + 1, hk =>
    obtain ⟨_, _, _, _, hc⟩ := H2.out (by omega)
    exact ((hc k (by omega)).2.below (hb3.mono hB)).more (by have := hb3.size; omega)
end
theorem told_any (s : Hs) (d : Hd_) (w : World) (A : Option Addr) (m c : Nat) (U : Nat → Nat → Ls.Sl) (F : Nat → Nat → List Int) (hp : Hp w w.heap.size s d) (hl : Ls.LRow w w.heap.size A m U F) (hm : m ≤ 1000) :
    Calls Tryd.prog 24 #[(.agg #[.slice s.w.a s.w.n s.w.c, .slice s.p.a s.p.n s.p.c, .slice (s.u 0).a (s.u 0).n (s.u 0).c, .slice (s.u 1).a (s.u 1).n (s.u 1).c, .slice (s.u 2).a (s.u 2).n (s.u 2).c, .slice s.c.a s.c.n s.c.c]), .slice A m c] w (LOut w (ahead s.u U) (ahead d.F F) (1 + m)) := by
  have HP := Lib.hid hp.free
  have HL := Lib.hid hl
  clear hp hl
  obtain ⟨w2, hw2⟩ : ∃ w2, w2 = (w.alloc (.cells #[.slice s.w.a s.w.n s.w.c, .slice s.p.a s.p.n s.p.c, .slice (s.u 0).a (s.u 0).n (s.u 0).c, .slice (s.u 1).a (s.u 1).n (s.u 1).c, .slice (s.u 2).a (s.u 2).n (s.u 2).c, .slice s.c.a s.c.n s.c.c] 28)).alloc (.cells #[.slice (s.u 0).a (s.u 0).n (s.u 0).c, .slice (s.u 1).a (s.u 1).n (s.u 1).c, .slice (s.u 2).a (s.u 2).n (s.u 2).c] 25) := ⟨_, rfl⟩
  have hb2 : Below w.heap.size w w2 := by rw [hw2]; exact ((Below.refl _ _).alloc (Nat.le_refl _) _).alloc (by simp) _
  have hs2 : w2.heap.size = w.heap.size + 1 + 1 := by rw [hw2]; simp
  have hr1 : Ls.LRow w2 w2.heap.size (some ⟨w.heap.size + 1, 0, none⟩) 1 (fun _ => s.u) (fun _ => d.F) := fun _ => ⟨_, 0, rfl, by omega, fun i hi => ⟨fun j hj => by
    obtain rfl : i = 0 := by omega
    match j, hj with
    | 0, _ => rw [hw2]; simp [go_sem]
    | 1, _ => rw [hw2]; simp [go_sem]
    | 2, _ => rw [hw2]; simp [go_sem], (HP.out.below hb2).more hb2.size⟩⟩
  have R1 := Lib.hid hr1
  have B2 := Lib.hid hb2
  have HW2 := Lib.hid hw2
  have HS2 := Lib.hid hs2
  clear hr1 hb2 hw2 hs2
  go_enter Tryd.func24, Tryd.ntmps24
  go_wp2_with fail
  rw [← HW2.out]
  have b3 := (Below.refl w2.heap.size w2).alloc (Nat.le_refl _) (.cells #[.slice (some ⟨w.heap.size + 1, 0, none⟩) 1 1, .slice A m c] 29)
  rw [show w.heap.size + 1 + 1 = w2.heap.size from HS2.out.symm]
  refine (concat_any _ w2.heap.size (w.heap.size + 1) w2.heap.size m 2 1 c A s.u d.F U F (by simp [go_sem]) (by simp [go_sem]) (by simp) (R1.out.below b3) (lrow_more (HL.out.below (B2.out.trans (b3.mono B2.out.size))) B2.out.size) (by simp) hm).mono ?_
  rintro e w4 ⟨A', c', rfl, hl4, hb4⟩
  have H4 := Lib.hid (And.intro hl4 (B2.out.trans ((b3.trans (hb4.mono b3.size)).mono B2.out.size)))
  clear hl4 hb4 b3
  go_wp2
  go_ret
  exact ⟨A', c', rfl, H4.out.1, H4.out.2⟩
end Go.Proofs.YtcbnefjfoeanoaaDoor
