/-
  Append, to a slice of numbers that is a walk's own, of any slice of numbers: as a step of a walk, and of a region that draws its order.
-/
import Derived.Test.YtggjkagcnhhkjaaDoorLsCopied
import Derived.Deep.RegionLaw
namespace Go.Proofs.YtggjkagcnhhkjaaDoor.Ls
open Go.Proofs.YtggjkagcnhhkjaaDoor
set_option maxRecDepth 100000
open Go.RowKit

theorem src_none {w : World} (A : Option Addr) (c : Nat) : Src Tryd.prog 1 44 (.slice A 0 c) 0 [] w := by
  cases A with
  | none => exact Src.ofNil w Tryd.underlying44 c
  | some a => exact Src.ofSlice w Tryd.underlying44 a 0 c [] rfl (by simp) (by simp)
theorem run_cat {w : World} {base B m cp n c : Nat} {p A : Option Addr} {xs ys : List Int} (ty : TypeId) (h : w.ownsRow base 3 1 (.slice p m cp) m (xs.map (Value.int .i64))) (hr : Row w B A n ys) (hb : base ≤ w.heap.size) (hlen : m + n ≤ 4000000) :
    ∃ p' cp' w', (Builtin.append_ #[44, 44] ty #[.slice p m cp, .slice A n c]).run Tryd.prog w = .ok (.slice p' (m + n) cp') w' ∧ w'.ownsRow base 3 1 (.slice p' (m + n) cp') (m + n) ((xs ++ ys).map (Value.int .i64)) ∧
      w.grownBy w' (Value.slice p m cp).ownBlock ∧ ∀ x, p' = some x → (Value.slice p m cp).ownBlock = some x.block ∨ w.heap.size ≤ x.block := by
  obtain ⟨i0, hi, hz0, hz1, hz2⟩ := info_parts info_int1
  have hl := hr.1
  by_cases hn : n = 0
  · subst hn
    obtain rfl := hr.zero
    obtain ⟨a, c', e, _, hle, _⟩ := owns_row h
    simp only [Value.slice.injEq, true_and] at e
    obtain ⟨rfl, rfl⟩ := e
    refine ⟨p, cp, w, run_append_nothing w 44 44 ty 3 i0 Tryd.underlying44 hi p m cp hle _ (by rw [hz1]; exact src_none A c), ?_, ⟨rfl, rfl, rfl, Nat.le_refl _, fun _ _ _ => rfl⟩, fun x hx => .inl ?_⟩
    · rw [List.append_nil]
      exact h
    · rw [ownBlock_slice, hx]
      rfl
  · obtain ⟨b, off, rfl, _, hc⟩ := hr.2 (by omega)
    obtain ⟨g, cap, w', hrun, r1, r2, r3, r4⟩ := run_append_lies (P := Tryd.prog) w 44 ty base 3 i0 (.int .i64 0) 1 8 Tryd.underlying44 hi hz0 hz1 hz2 rfl (by decide) _ _ _ h ⟨b, off, none⟩ n c (ys.map (Value.int .i64)) (by simp [hl]) (by
      intro j u hj
      have hjn : j < ys.length := by
        have := (List.getElem?_eq_some_iff.1 hj).1
        simpa using this
      rw [Addr.add_lit, hc j (by omega)]
      rw [← hj]
      simp [List.getD, hjn]) (by
      intro u hu
      obtain ⟨x, _, rfl⟩ := List.mem_map.1 hu
      rfl) (by omega) (by unfold maxLen; omega) (by omega) hb w.heap.size rfl
    refine ⟨some ⟨g, 0, none⟩, cap, w', hrun, ?_, r2, fun x hx => ?_⟩
    · rw [List.map_append]
      exact r1
    · simp only [Option.some.injEq] at hx
      subst hx
      exact r3.imp id (fun e => Nat.le_of_eq e.symm)

/-- What an append leaves: a slice of the walk's own, in the block of the old one or in new memory; all else is as it was. -/
structure Catted (w : World) (base : Nat) (v : Value) (s : Sl) (xs : List Int) (w' : World) : Prop where
  own : w'.ownsRow base 3 1 (.slice s.a s.n s.c) s.n (xs.map (Value.int .i64))
  grown : w.grownBy w' v.ownBlock
  lies : ∀ x, s.a = some x → v.ownBlock = some x.block ∨ w.heap.size ≤ x.block
theorem wp_cat {w : World} {o : Oper} {a : Act} {K : Act → World → Prop} {Q : Exit → Act → World → Prop} (s x : Operand)
    (ho : o.op = .call { callee := .builtin .append, args := #[s, x], argTypes := #[44, 44] }) {base B m cp n c : Nat} {p A : Option Addr} {xs ys : List Int}
    (hs : a.eval s = .slice p m cp) (hx : a.eval x = .slice A n c) (h : w.ownsRow base 3 1 (.slice p m cp) m (xs.map (Value.int .i64))) (hr : Row w B A n ys) (hb : base ≤ w.heap.size) (hlen : m + n ≤ 4000000)
    (hK : ∀ p' cp' w', Catted w base (.slice p m cp) ⟨p', m + n, cp'⟩ (xs ++ ys) w' →
      K (a.put o.dst (.slice p' (m + n) cp')) w') : o.wp Tryd.prog a w K Q := by
  obtain ⟨p', cp', w', hrun, h1, h2, h3⟩ := run_cat (c := c) o.type h hr hb hlen
  unfold Oper.wp execOp
  simp only [ho, resolve, invoke, builtin, Sem.run_bind, Sem.run_pure, Result.andThen_ok, List.map_toArray, List.map_cons, List.map_nil, hs, hx, hrun]
  exact hK p' cp' w' ⟨h1, h2, h3⟩
theorem list_cat {w : World} {ops : Array Oper} {rest : List Oper} {o : Oper} {a : Act} {Q : Exit → Act → World → Prop} (hgd : o.guard = none) (s x : Operand)
    (ho : o.op = .call { callee := .builtin .append, args := #[s, x], argTypes := #[44, 44] }) {base B m cp n c : Nat} {p A : Option Addr} {xs ys : List Int}
    (hs : a.eval s = .slice p m cp) (hx : a.eval x = .slice A n c) (h : w.ownsRow base 3 1 (.slice p m cp) m (xs.map (Value.int .i64))) (hr : Row w B A n ys) (hb : base ≤ w.heap.size) (hlen : m + n ≤ 4000000)
    (hK : ∀ p' cp' w', Catted w base (.slice p m cp) ⟨p', m + n, cp'⟩ (xs ++ ys) w' →
      wpList Tryd.prog ops Q rest (a.put o.dst (.slice p' (m + n) cp')) w') : wpList Tryd.prog ops Q (o :: rest) a w :=
  wpList_plain hgd fun _ hK' => wp_cat s x ho hs hx h hr hb hlen fun p' cp' w' h1 => hK' _ _ (hK p' cp' w' h1)
theorem step_cat {w : World} {ops : Array Oper} {o : Oper} {a : Act} {K : Act → World → Prop} {Q : Exit → Act → World → Prop} {E : Prop} (hgd : o.guard = none) (s x : Operand)
    (ho : o.op = .call { callee := .builtin .append, args := #[s, x], argTypes := #[44, 44] }) {base B m cp n c : Nat} {p A : Option Addr} {xs ys : List Int}
    (hs : a.eval s = .slice p m cp) (hx : a.eval x = .slice A n c) (h : w.ownsRow base 3 1 (.slice p m cp) m (xs.map (Value.int .i64))) (hr : Row w B A n ys) (hb : base ≤ w.heap.size) (hlen : m + n ≤ 4000000)
    (hK : ∀ p' cp' w', Catted w base (.slice p m cp) ⟨p', m + n, cp'⟩ (xs ++ ys) w' →
      K (a.put o.dst (.slice p' (m + n) cp')) w') : if Region.wanted o (yielded ops a.tmps) = true then Oper.wp Tryd.prog o a w K Q else E := by
  have hw : Region.wanted o (yielded ops a.tmps) = true := by simp [Region.wanted, hgd]
  rw [if_pos hw]
  exact wp_cat s x ho hs hx h hr hb hlen hK

/-- 'append([]int(nil), s...)': of the walk's own, in new memory, or nothing. -/
theorem list_cloned {w : World} {ops : Array Oper} {rest : List Oper} {o : Oper} {a : Act} {Q : Exit → Act → World → Prop} (hgd : o.guard = none) (s x : Operand)
    (ho : o.op = .call { callee := .builtin .append, args := #[s, x], argTypes := #[44, 44] }) {B n c : Nat} {A : Option Addr} {ys : List Int}
    (hs : a.eval s = .slice none 0 0) (hx : a.eval x = .slice A n c) (hr : Row w B A n ys) (hn : n ≤ 2000000)
    (hK : ∀ p' cp' w', Catted w w.heap.size (.slice none 0 0) ⟨p', n, cp'⟩ ys w' → wpList Tryd.prog ops Q rest (a.put o.dst (.slice p' n cp')) w') : wpList Tryd.prog ops Q (o :: rest) a w := by
  refine list_cat (xs := []) hgd s x ho hs hx (World.ownsRow_nil w w.heap.size _ _) hr (Nat.le_refl _) (by omega) fun p' cp' w' h1 => ?_
  rw [Nat.zero_add, List.nil_append] at h1
  rw [Nat.zero_add]
  exact hK p' cp' w' h1

/-- The first k of three slices are a walk's own. -/
structure OwnTo (w : World) (base k : Nat) (v : Nat → Sl) (f : Nat → List Int) : Prop where
  own : ∀ j, j < k → w.ownsRow base 3 1 (.slice (v j).a (v j).n (v j).c) (v j).n ((f j).map (Value.int .i64))
  apart : ∀ i j, i < k → j < k → ¬ i = j → ∀ x y, (v i).a = some x → (v j).a = some y → ¬ x.block = y.block
theorem OwnTo.start (w : World) (base : Nat) (v : Nat → Sl) (f : Nat → List Int) : OwnTo w base 0 v f := ⟨fun j h => absurd h (by omega), fun i _ h => absurd h (by omega)⟩
theorem OwnTo.own3 {w : World} {base : Nat} {v : Nat → Sl} {f : Nat → List Int} (h : OwnTo w base 3 v f) : Own3 w base v f := ⟨h.own, h.apart⟩
theorem own_block {w : World} {base n : Nat} {s : Sl} {xs : List Value} (h : w.ownsRow base 3 1 (.slice s.a s.n s.c) n xs) {x : Addr} (hx : s.a = some x) : base ≤ x.block ∧ x.block < w.heap.size :=
  h.lt x.block (by rw [ownBlock_slice, hx]; rfl)
theorem OwnTo.step {w w' : World} {base k : Nat} {v : Nat → Sl} {f : Nat → List Int} (h : OwnTo w base k v f) (hb : base ≤ w.heap.size) (s : Sl)
    (ho : w'.ownsRow w.heap.size 3 1 (.slice s.a s.n s.c) s.n ((f k).map (Value.int .i64))) (hs : ∀ j, base ≤ j → j < w.heap.size → w'.heap[j]? = w.heap[j]?) : OwnTo w' base (k + 1) (upd v k s) f := by
  have old : ∀ j x, j < k → (v j).a = some x → base ≤ x.block ∧ x.block < w.heap.size := fun j x hj hx => own_block (h.own j hj) hx
  refine ⟨fun j hj => ?_, fun i j hi hj hij x y hx hy => ?_⟩
  · by_cases e : j = k
    · subst e
      rw [upd_same]
      exact ⟨ho.1, ho.2.imp id (fun ⟨g, cap, cur, e, hg, r⟩ => ⟨g, cap, cur, e, Nat.le_trans hb hg, r⟩)⟩
    · rw [upd_other _ _ e]
      have hj' : j < k := by omega
      refine World.ownsRow.same (h.own j hj') (fun g hg hlt => hs g ?_ hlt)
      rw [ownBlock_slice] at hg
      cases hx : (v j).a with
      | none => rw [hx] at hg; cases hg
      | some x =>
        rw [hx] at hg
        simp at hg
        have := (old j x hj' hx).1
        omega
  · by_cases ei : i = k
    · subst ei
      rw [upd_same] at hx
      rw [upd_other _ _ (fun e => hij e.symm)] at hy
      have h1 := (own_block ho hx).1
      have h2 := (old j y (by omega) hy).2
      omega
    · rw [upd_other _ _ ei] at hx
      by_cases ej : j = k
      · subst ej
        rw [upd_same] at hy
        have h1 := (own_block ho hy).1
        have h2 := (old i x (by omega) hx).2
        omega
      · rw [upd_other _ _ ej] at hy
        exact h.apart i j (by omega) (by omega) hij x y hx hy
end Go.Proofs.YtggjkagcnhhkjaaDoor.Ls
