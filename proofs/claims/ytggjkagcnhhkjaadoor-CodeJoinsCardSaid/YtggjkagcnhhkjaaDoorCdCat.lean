/-
  Append, of a list of operations to one of the walk's own, at an operation with a guard that holds too.
-/
import Derived.Test.YtggjkagcnhhkjaaDoorCdLaw
import Derived.Test.YtggjkagcnhhkjaaDoorCdRead
namespace Go.Proofs.YtggjkagcnhhkjaaDoor.Cd
open Go.Proofs.YtggjkagcnhhkjaaDoor Go.Proofs.YtggjkagcnhhkjaaDoor.Rt
open Go.RowKit
set_option maxRecDepth 100000

theorem ocells_append : ∀ (m l : List O4), ocells (gl (l ++ m)) (l ++ m).length = ocells (gl l) l.length ++ ocells (gl m) m.length
  | [], l => by simp [ocells]
  | x :: m, l => by
    have h1 := ocells_append m (l ++ [x])
    have h2 := ocells_append m [x]
    have e1 : (l ++ [x]).length = l.length + 1 := by simp
    have e2 := ocells_snoc l x
    have e3 := ocells_snoc [] x
    have e4 : (l ++ [x]) ++ m = l ++ x :: m := by simp
    rw [e4, e1, e2] at h1
    have e5 : ocells (gl [x]) [x].length = opc x := by
      have : ocells (gl ([] : List O4)) 0 = [] := rfl
      simpa [this] using e3
    rw [h1, List.append_assoc, ← e5]
    exact congrArg _ h2.symm
theorem list_ocat {w : World} {ops : Array Oper} {rest : List Oper} {o : Oper} {a : Act} {Q : Exit → Act → World → Prop} (hw : Region.wanted o (yielded ops a.tmps) = true) (s x : Operand)
    (ho : o.op = .call { callee := .builtin .append, args := #[s, x], argTypes := #[22, 22] }) {base B m n c : Nat} {A : Option Addr} {v : Value} {xs : List Value} {g : Nat → O4}
    (hs : a.eval s = v) (hx : a.eval x = .slice A n c) (h : w.ownsRow base 28 4 v m xs) (hr : ORow w B A n g) (hn : 0 < n) (hb : base ≤ w.heap.size) (hlen : m + n ≤ 400000)
    (hK : ∀ v' w', w'.ownsRow base 28 4 v' (m + n) (xs ++ ocells g n) → w.grownBy w' v.ownBlock → wpList Tryd.prog ops Q rest (a.put o.dst v') w') : wpList Tryd.prog ops Q (o :: rest) a w := by
  obtain ⟨i0, hi, hz0, hz1, hz2⟩ := info_parts info_op
  obtain ⟨b, off, rfl, _, hc⟩ := hr hn
  obtain ⟨v', w', hrun, h2, h3, _⟩ := run_append_own (P := Tryd.prog) w base 22 o.type 28 i0 (.agg #[.int .i64 0, .int .i64 0, .int .i64 0, .int .i64 0]) 4 32 Tryd.underlying22 hi hz0 hz1 hz2 rfl (by decide) v m xs h ⟨b, off, none⟩ n c (ocells g n) (ocells_length g n) (fun j u hj => by rw [Addr.add_lit]; exact ORow.src hc j u hj) (fun u hu => by obtain ⟨z, rfl⟩ := ocells_one hu; rfl) (by unfold maxLen; omega) (by omega) hb
  refine wpList_step fun K hK' => ?_
  rw [if_pos hw]
  unfold Oper.wp execOp
  simp only [ho, resolve, invoke, builtin, Sem.run_bind, Sem.run_pure, Result.andThen_ok, List.map_toArray, List.map_cons, List.map_nil, hs, hx, hrun]
  exact hK' _ _ (hK v' w' h2 h3)
end Go.Proofs.YtggjkagcnhhkjaaDoor.Cd
