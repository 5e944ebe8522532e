/-
  A list of numbers that a walk fills by append: one number, or a slice of them, at a time.
-/
import Derived.Test.YtlmaeppckaempaaDoorClFrame
import Derived.Deep.Upon
namespace Go.Proofs.YtlmaeppckaempaaDoor
open Go.RowKit

/-- The value is a slice of the walk's own, from base on, that holds these numbers. -/
structure Lst (base : Nat) (W : World) (v : Value) (xs : List Int) : Prop where
  own : W.ownsRow base 3 1 v xs.length (xs.map (Value.int .i64))
theorem Lst.nil (base : Nat) (W : World) : Lst base W (.slice none 0 0) [] := ⟨World.ownsRow_nil _ _ _ _⟩
theorem Lst.over {base : Nat} {W W' : World} {v : Value} {xs : List Int} (h : Lst base W v xs) (hb : Below W.heap.size W W') : Lst base W' v xs := ⟨World.ownsRow.same h.own fun g _ hl => hb.block g hl⟩
theorem Lst.below {base B : Nat} {W W' : World} {v : Value} {xs : List Int} (h : Lst base W v xs) (hl : ∀ g, v.ownBlock = some g → g < B) (hb : Below B W W') : Lst base W' v xs := ⟨World.ownsRow.same h.own fun g hg _ => hb.block g (hl g hg)⟩
theorem Lst.row {base : Nat} {W : World} {v : Value} {xs : List Int} (h : Lst base W v xs) : ∃ a c, v = .slice a xs.length c ∧ Row W W.heap.size a xs.length xs ∧ xs.length ≤ c ∧ c ≤ maxLen := owns_row h.own

theorem src_none {w : World} (A : Option Addr) (c : Nat) : Src Tryd.prog 1 25 (.slice A 0 c) 0 [] w := by
  cases A with
  | none => exact Src.ofNil w Tryd.underlying25 c
  | some a => exact Src.ofSlice w Tryd.underlying25 a 0 c [] rfl (by simp) (by simp)
/-- 'append(v, s...)', of a list of one's own, and any slice of numbers. -/
theorem run_cat {w : World} {base B : Nat} {v : Value} {xs ys : List Int} {A : Option Addr} {c : Nat} (ty : TypeId) (h : Lst base w v xs) (hr : Row w B A ys.length ys) (hb : base ≤ w.heap.size) (hlen : xs.length + ys.length ≤ 100000) :
    ∃ v' w', (Builtin.append_ #[25, 25] ty #[v, .slice A ys.length c]).run Tryd.prog w = .ok v' w' ∧ Lst base w' v' (xs ++ ys) ∧ Below base w w' := by
  obtain ⟨i0, hi, hz0, hz1, hz2⟩ := info_parts info_int1
  by_cases hy : ys = []
  · subst hy
    obtain ⟨a, c', rfl, _, hle, _⟩ := h.row
    refine ⟨_, w, run_append_nothing w 25 25 ty 3 i0 Tryd.underlying25 hi a xs.length c' hle _ (by rw [hz1]; exact src_none A c), ?_, Below.refl _ _⟩
    rw [List.append_nil]
    exact h
  · have hpos : 0 < ys.length := by
      cases ys with
      | nil => exact absurd rfl hy
      | cons _ _ => simp
    obtain ⟨b, off, rfl, _, hc⟩ := hr.2 hpos
    obtain ⟨v', w', hrun, r1, r2, _⟩ := run_append_own (P := Tryd.prog) w base 25 ty 3 i0 (.int .i64 0) 1 8 Tryd.underlying25 hi hz0 hz1 hz2 rfl (by decide) v xs.length (xs.map (Value.int .i64)) h.own ⟨b, off, none⟩ ys.length c (ys.map (Value.int .i64)) (by simp) (by
      intro j u hj
      have hjn : j < ys.length := by
        have := (List.getElem?_eq_some_iff.1 hj).1
        simpa using this
      rw [Addr.add_lit, hc j hjn]
      have e : (ys.map (Value.int .i64))[j]? = some (Value.int .i64 (ys.getD j 0)) := by simp [List.getD, List.getElem?_eq_getElem hjn]
      rw [e] at hj
      exact hj) (by
      intro u hu
      obtain ⟨x, _, rfl⟩ := List.mem_map.1 hu
      rfl) (by unfold maxLen; omega) (by omega) hb
    refine ⟨v', w', hrun, ⟨?_⟩, (Below.refl base w).grown r2 hb (fun k hk => (h.own.lt k hk).1)⟩
    rw [List.length_append, List.map_append]
    exact r1

theorem list_cat {w : World} {ops : Array Oper} {rest : List Oper} {o : Oper} {a : Act} {Q : Exit → Act → World → Prop} (hgd : o.guard = none) (s x : Operand)
    (ho : o.op = .call { callee := .builtin .append, args := #[s, x], argTypes := #[25, 25] }) {v : Value} (hs : a.eval s = v) {base B : Nat} {xs ys : List Int} {A : Option Addr} {n c : Nat} (hx : a.eval x = .slice A n c) (hn : n = ys.length)
    (h : Lst base w v xs) (hr : Row w B A ys.length ys) (hb : base ≤ w.heap.size) (hlen : xs.length + ys.length ≤ 100000)
    (hK : ∀ v' w', Lst base w' v' (xs ++ ys) → Below base w w' → wpList Tryd.prog ops Q rest (a.put o.dst v') w') : wpList Tryd.prog ops Q (o :: rest) a w :=
  wpList_plain hgd fun _ hK' => by
    subst hn
    obtain ⟨v', w', hrun, h1, h2⟩ := run_cat (c := c) o.type h hr hb hlen
    unfold Oper.wp execOp
    simp only [ho, resolve, invoke, builtin, Sem.run_bind, Sem.run_pure, Result.andThen_ok, List.map_toArray, List.map_cons, List.map_nil, hs, hx, hrun]
    exact hK' _ _ (hK v' w' h1 h2)
theorem Now.step {w W W' : World} {A : Option Addr} {n : Nat} {f : Nat → Int × Int} (h : Now w W A n f) {B : Nat} (hb : Below B W W') (hB : w.heap.size ≤ B) (hp : 0 < w.heap.size) : Now w W' A n f :=
  ⟨h.sz.over hb (by omega), h.row.over hb hB, h.bel.trans (hb.mono hB)⟩
theorem row_lit1 (w : World) (a : Int) : Row (w.alloc (.cells #[.int .i64 a] 3)) (w.heap.size + 1) (some ⟨w.heap.size, 0, none⟩) 1 [a] := by
  refine ⟨rfl, fun _ => ⟨_, _, rfl, by omega, fun i hi => ?_⟩⟩
  match i, hi with
  | 0, _ => simp [go_sem]
end Go.Proofs.YtlmaeppckaempaaDoor
