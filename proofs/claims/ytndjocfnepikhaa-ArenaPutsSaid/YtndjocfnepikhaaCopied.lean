/-
  A law for 'append([]int(nil), s...)' of a slice that has an element: a row of the call's own.
-/
import Derived.Test.YtndjocfnepikhaaInts
namespace Go.Proofs.Ytndjocfnepikhaa
open Go.RowKit

theorem wpList_copied {w : World} {ops : Array Oper} {rest : List Oper} {o : Oper} {a : Act} {Q : Exit → Act → World → Prop} (hgd : o.guard = none) (s x : Operand)
    (ho : o.op = .call { callee := .builtin .append, args := #[s, x], argTypes := #[22, 22] }) (hs : a.eval s = .slice none 0 0)
    (B : Nat) (A : Option Addr) (n c : Nat) (xs : List Int) (hx : a.eval x = .slice A n c) (hr : Row w B A n xs) (hn : 0 < n) (hbig : n * 8 ≤ 140737488355328)
    (h : ∀ g c' w', Mine w' w.heap.size 3 g n c' xs → Below w.heap.size w w' → wpList Try.prog ops Q rest (a.put o.dst (.slice (some ⟨g, 0, none⟩) n c')) w') : wpList Try.prog ops Q (o :: rest) a w := by
  obtain ⟨i0, hi, hz0, hz1, hz2⟩ := info_parts info_int
  obtain ⟨b, off, rfl, _, hc⟩ := hr.2 hn
  have hl := hr.1
  refine wpList_append_own (P := Try.prog) w hgd s x 22 ho w.heap.size 3 i0 (.int .i64 0) 1 8 Try.underlying22 hi hz0 hz1 hz2 rfl (by decide) _ 0 [] hs (World.ownsRow_nil _ _ _ _) ⟨b, off, none⟩ n c (xs.map (Value.int .i64)) hx ?_ ?_ ?_ ?_ ?_ ?_ ?_
  · simp [hl]
  · intro j u hj
    have hjn : j < n := by
      have := (List.getElem?_eq_some_iff.1 hj).1
      simp at this
      omega
    rw [Addr.add_lit, hc j hjn]
    have e : (xs.map (Value.int .i64))[j]? = some (Value.int .i64 (xs.getD j 0)) := by simp [List.getD, List.getElem?_eq_getElem (show j < xs.length by omega)]
    rw [e] at hj
    exact hj
  · intro u hu
    obtain ⟨x, _, rfl⟩ := List.mem_map.1 hu
    rfl
  · unfold maxLen; omega
  · omega
  · exact Nat.le_refl _
  · intro v' w1 hown hgrow _
    have hown' : w1.ownsRow w.heap.size 3 1 v' n (xs.map (Value.int .i64)) := by simpa using hown
    obtain ⟨g, c', rfl, hm⟩ := mine_of hown' hn
    exact h g c' w1 hm ((Below.refl _ w).grown hgrow (Nat.le_refl _) (by intro k hk; cases hk))

/-- .. of a slice that has none: nothing is made. -/
theorem wpList_copied_none {w : World} {ops : Array Oper} {rest : List Oper} {o : Oper} {a : Act} {Q : Exit → Act → World → Prop} (hgd : o.guard = none) (s x : Operand)
    (ho : o.op = .call { callee := .builtin .append, args := #[s, x], argTypes := #[22, 22] }) (hs : a.eval s = .slice none 0 0)
    (A : Option Addr) (c : Nat) (hx : a.eval x = .slice A 0 c)
    (h : wpList Try.prog ops Q rest (a.put o.dst (.slice none 0 0)) w) : wpList Try.prog ops Q (o :: rest) a w :=
  wpList_plain hgd fun _ hK => by
    have hrun := append_nil_nil w A c o.type
    unfold Oper.wp execOp
    simp only [ho, resolve, invoke, builtin, Sem.run_bind, Sem.run_pure, Result.andThen_ok, List.map_toArray, List.map_cons, List.map_nil, hs, hx, hrun]
    exact hK _ _ h

/-- Get, where the word that stands there is known. -/
theorem get_is (B : Nat) (A : Option Addr) (n c : Nat) (xs : List Int) (a u : Int) (w : World) (h : mayB n = true) (h0 : 16 ≤ a) (h1 : a < 16 + n) (hr : Row w B A n xs) (hu : xs.getD (a - 16).toNat 0 = u) :
    Calls Try.prog 11 #[.slice A n c, .int .i64 a] w fun e w' => e = .returned (.tuple #[.int .i64 u, .int .i64 0]) ∧ w = w' := by
  subst hu
  exact get_ok B A n c xs a w h h0 h1 hr
end Go.Proofs.Ytndjocfnepikhaa
