/-
  'append([]api.Lists{l}, caches...)': a value of lists, and those of a slice behind it.
-/
import Derived.Test.YtcbnefjfoeanoaaDoorHpZF
namespace Go.Proofs.YtcbnefjfoeanoaaDoor
open Go.RowKit
set_option maxRecDepth 100000

theorem info_l3 : (Tryd.prog.info? 25).map (fun i => (i.zero, i.size, i.bytes)) = some (some (.agg #[.slice none 0 0, .slice none 0 0, .slice none 0 0]), 3, 72) := by kernel_rfl
def lcell (u : Nat → Nat → Ls.Sl) (j : Nat) : Value := .slice (u (j / 3) (j % 3)).a (u (j / 3) (j % 3)).n (u (j / 3) (j % 3)).c
def lcells (u : Nat → Nat → Ls.Sl) (n : Nat) : List Value := (List.range (n * 3)).map (lcell u)
theorem lcells_length (u : Nat → Nat → Ls.Sl) (n : Nat) : (lcells u n).length = n * 3 := by simp [lcells]
theorem lcells_at (u : Nat → Nat → Ls.Sl) (n i r : Nat) (hi : i < n) (hr : r < 3) : (lcells u n)[i * 3 + r]? = some (.slice (u i r).a (u i r).n (u i r).c) := by
  have h : i * 3 + r < n * 3 := by omega
  rw [lcells, List.getElem?_map, List.getElem?_range h]
  simp only [Option.map_some, lcell]
  rw [show (i * 3 + r) / 3 = i by omega, show (i * 3 + r) % 3 = r by omega]
/-- One ahead of many. -/
def ahead {α : Type} (u : α) (U : Nat → α) : Nat → α := fun | 0 => u | k + 1 => U k
theorem lcells_ahead (u : Nat → Ls.Sl) (U : Nat → Nat → Ls.Sl) (m : Nat) : lcells (ahead u U) (1 + m) = lcells (fun _ => u) 1 ++ lcells U m := by
  apply List.ext_getElem?
  intro j
  by_cases hj : j < 3
  · rw [List.getElem?_append_left (by rw [lcells_length]; omega)]
    have h1 := lcells_at (ahead u U) (1 + m) 0 j (by omega) hj
    have h2 := lcells_at (fun _ => u) 1 0 j (by omega) hj
    simp only [Nat.zero_mul, Nat.zero_add] at h1 h2
    rw [h1, h2]
    rfl
  · rw [List.getElem?_append_right (by rw [lcells_length]; omega), lcells_length]
    by_cases hm : j < (1 + m) * 3
    · have h1 := lcells_at (ahead u U) (1 + m) (j / 3) (j % 3) (by omega) (by omega)
      have h2 := lcells_at U m (j / 3 - 1) (j % 3) (by omega) (by omega)
      rw [show j / 3 * 3 + j % 3 = j by omega] at h1
      rw [show (j / 3 - 1) * 3 + j % 3 = j - 1 * 3 by omega] at h2
      rw [h1, h2]
      have e : ahead u U (j / 3) = U (j / 3 - 1) := by
        obtain ⟨q, hq⟩ : ∃ q, j / 3 = q + 1 := ⟨j / 3 - 1, by omega⟩
        rw [hq]
        rfl
      rw [e]
    · rw [List.getElem?_eq_none (by rw [lcells_length]; omega), List.getElem?_eq_none (by rw [lcells_length]; omega)]
/-- A slice of lists that a walk made. -/
theorem lrow_of {w : World} {base n : Nat} {g c : Nat} {u : Nat → Nat → Ls.Sl} {f : Nat → Nat → List Int} {B : Nat} (h : w.ownsRow base 25 3 (.slice (some ⟨g, 0, none⟩) n c) n (lcells u n)) (hg : g < B) (hl : ∀ i, i < n → Ls.L3 w B (u i) (f i)) : Ls.LRow w B (some ⟨g, 0, none⟩) n u f := fun _ =>
  ⟨g, 0, rfl, hg, fun i hi => ⟨fun r hr => by
    have := (h.cellAt (i * 3 + r) (by omega)).trans (lcells_at u n i r hi hr)
    simpa using this, hl i hi⟩⟩
theorem own_one (W : World) (u : Nat → Ls.Sl) : (W.alloc (.cells #[.slice (u 0).a (u 0).n (u 0).c, .slice (u 1).a (u 1).n (u 1).c, .slice (u 2).a (u 2).n (u 2).c] 25)).ownsRow W.heap.size 25 3 (.slice (some ⟨W.heap.size, 0, none⟩) 1 1) 1 (lcells (fun _ => u) 1) := by
  refine ⟨by rw [lcells_length], .inr ⟨W.heap.size, 1, #[.slice (u 0).a (u 0).n (u 0).c, .slice (u 1).a (u 1).n (u 1).c, .slice (u 2).a (u 2).n (u 2).c], rfl, Nat.le_refl _, World.alloc_heap_new _ _, Nat.le_refl _, by unfold maxLen; omega, rfl, rfl⟩⟩
theorem run_glue (W : World) (B m c : Nat) (A : Option Addr) (u : Nat → Ls.Sl) (f : Nat → List Int) (U : Nat → Nat → Ls.Sl) (F : Nat → Nat → List Int) (ty : TypeId) (h1 : Ls.L3 W B u f) (hB : B ≤ W.heap.size) (hr : Ls.LRow W B A m U F) (hm : m ≤ 1000) :
    ∃ A' cap w', (Builtin.append_ #[29, 29] ty #[.slice (some ⟨W.heap.size, 0, none⟩) 1 1, .slice A m c]).run Tryd.prog (W.alloc (.cells #[.slice (u 0).a (u 0).n (u 0).c, .slice (u 1).a (u 1).n (u 1).c, .slice (u 2).a (u 2).n (u 2).c] 25)) = .ok (.slice A' (1 + m) cap) w' ∧
      Ls.LRow w' w'.heap.size A' (1 + m) (ahead u U) (ahead f F) ∧ Below W.heap.size W w' := by
  obtain ⟨i0, hi, hz0, hz1, hz2⟩ := info_parts info_l3
  have b0 := (Below.refl W.heap.size W).alloc (Nat.le_refl _) (.cells #[.slice (u 0).a (u 0).n (u 0).c, .slice (u 1).a (u 1).n (u 1).c, .slice (u 2).a (u 2).n (u 2).c] 25)
  have own := own_one W u
  have hlist : ∀ (w' : World), Below W.heap.size W w' → ∀ i, i < 1 + m → Ls.L3 w' w'.heap.size (ahead u U i) (ahead f F i) := by
    intro w' hb i hi1
    have hs := hb.size
    match i, hi1 with
    | 0, _ => exact (h1.below (hb.mono hB)).more (by omega)
    | k + 1, hk =>
      obtain ⟨_, _, _, _, hc⟩ := hr (by omega)
      exact ((hc k (by omega)).2.below (hb.mono hB)).more (by omega)
  by_cases hn : m = 0
  · subst hn
    have hsrc : Src Tryd.prog i0.size 29 (.slice A 0 c) 0 [] (W.alloc (.cells #[.slice (u 0).a (u 0).n (u 0).c, .slice (u 1).a (u 1).n (u 1).c, .slice (u 2).a (u 2).n (u 2).c] 25)) := by
      rw [hz1]
      cases A with
      | none => exact Src.ofNil _ Tryd.underlying29 c
      | some a => exact Src.ofSlice _ Tryd.underlying29 a 0 c [] rfl (by simp) (by simp)
    refine ⟨_, 1, _, run_append_nothing _ 29 29 ty 25 i0 Tryd.underlying29 hi (some ⟨W.heap.size, 0, none⟩) 1 1 (Nat.le_refl _) _ hsrc, ?_, b0⟩
    have h0 := lcells_ahead u U 0
    rw [show lcells U 0 = [] from rfl, List.append_nil] at h0
    rw [← h0] at own
    exact lrow_of own (by simp) (hlist _ b0)
  · obtain ⟨b, off, rfl, hb, hc⟩ := hr (by omega)
    obtain ⟨g, cap, w', hrun, r1, r2, r3, r4⟩ := run_append_lies (P := Tryd.prog) (W.alloc (.cells #[.slice (u 0).a (u 0).n (u 0).c, .slice (u 1).a (u 1).n (u 1).c, .slice (u 2).a (u 2).n (u 2).c] 25)) 29 ty W.heap.size 25 i0 _ 3 72 Tryd.underlying29 hi hz0 hz1 hz2 rfl (by decide) _ _ _ own ⟨b, off, none⟩ m c (lcells U m) (lcells_length U m) (by
      intro j v hj
      have hjn : j < m * 3 := by
        have := (List.getElem?_eq_some_iff.1 hj).1
        rwa [lcells_length] at this
      have e := lcells_at U m (j / 3) (j % 3) (by omega) (by omega)
      rw [show j / 3 * 3 + j % 3 = j by omega, hj] at e
      have hcell := (b0.cell (p := ⟨b, off + j / 3 * 3 + j % 3, none⟩) (by show b < _; omega)).trans ((hc (j / 3) (by omega)).1 (j % 3) (by omega))
      rw [Addr.add_lit, show off + j = off + j / 3 * 3 + j % 3 by omega, hcell, e]) (by
      intro v hv
      obtain ⟨x, _, rfl⟩ := List.mem_map.1 hv
      rfl) (by omega) (by unfold maxLen; omega) (by omega) (by simp) _ rfl
    rw [← lcells_ahead] at r1
    have hb' : Below W.heap.size W w' := b0.grown r2 (by simp) (fun k hk => by
      have : W.heap.size = k := by simpa [Value.ownBlock] using hk
      omega)
    exact ⟨_, cap, w', hrun, lrow_of r1 r4 (hlist _ hb'), hb'⟩
/-- .. as a step of a plain walk. -/
theorem list_glue {W : World} {ops : Array Oper} {rest : List Oper} {o : Oper} {a : Act} {Q : Exit → Act → World → Prop} (hgd : o.guard = none) (s x : Operand)
    (ho : o.op = .call { callee := .builtin .append, args := #[s, x], argTypes := #[29, 29] }) {B m c : Nat} {A : Option Addr} {u : Nat → Ls.Sl} {f : Nat → List Int} {U : Nat → Nat → Ls.Sl} {F : Nat → Nat → List Int}
    (hs : a.eval s = .slice (some ⟨W.heap.size, 0, none⟩) 1 1) (hx : a.eval x = .slice A m c) (h1 : Ls.L3 W B u f) (hB : B ≤ W.heap.size) (hr : Ls.LRow W B A m U F) (hm : m ≤ 1000)
    (hK : ∀ A' cap w', Ls.LRow w' w'.heap.size A' (1 + m) (ahead u U) (ahead f F) → Below W.heap.size W w' → wpList Tryd.prog ops Q rest (a.put o.dst (.slice A' (1 + m) cap)) w') : wpList Tryd.prog ops Q (o :: rest) a (W.alloc (.cells #[.slice (u 0).a (u 0).n (u 0).c, .slice (u 1).a (u 1).n (u 1).c, .slice (u 2).a (u 2).n (u 2).c] 25)) := by
  refine wpList_plain hgd fun K hK' => ?_
  obtain ⟨A', cap, w', hrun, h2, h3⟩ := run_glue W B m c A u f U F o.type h1 hB hr hm
  unfold Oper.wp execOp
  simp only [ho, resolve, invoke, builtin, Sem.run_bind, Sem.run_pure, Result.andThen_ok, List.map_toArray, List.map_cons, List.map_nil, hs, hx, hrun]
  exact hK' _ _ (hK A' cap w' h2 h3)
end Go.Proofs.YtcbnefjfoeanoaaDoor
