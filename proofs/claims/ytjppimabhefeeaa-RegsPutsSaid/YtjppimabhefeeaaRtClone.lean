/-
  slices.Clone of operations, of none too.
-/
import Derived.Test.YtjppimabhefeeaaRtRow
import Derived.Deep.Upon
import Derived.Lib.SliceRun
namespace Go.Proofs.Ytjppimabhefeeaa.Rt
open Go.Proofs.Ytjppimabhefeeaa
open Go.RowKit
set_option maxRecDepth 100000

theorem oinfo_parts {T : TypeId} {z : Value} {s b : Nat} (h : (Try.prog.info? T).map (fun i => (i.zero, i.size, i.bytes)) = some (some z, s, b)) : ∃ i, Try.prog.info? T = some i ∧ i.zero = some z ∧ i.size = s ∧ i.bytes = b := by
  cases hi : Try.prog.info? T with
  | none => rw [hi] at h; cases h
  | some i =>
    rw [hi] at h
    simp only [Option.map_some, Option.some.injEq, Prod.mk.injEq] at h
    exact ⟨i, rfl, h.1, h.2.1, h.2.2⟩
theorem info_op : (Try.prog.info? 52).map (fun i => (i.zero, i.size, i.bytes)) = some (some (.agg #[.int .i64 0, .int .i64 0, .int .i64 0, .int .i64 0]), 4, 32) := by kernel_rfl
theorem olist_nothing {w : World} {ops : Array Oper} {rest : List Oper} {o : Oper} {a : Act} {Q : Exit → Act → World → Prop} {T E : TypeId} {i0 : TypeInfo} (hu : Try.prog.underlying T = some (.slice E)) (hi : Try.prog.info? E = some i0) (hgd : o.guard = none) (s x : Operand)
    (ho : o.op = .call { callee := .builtin .append, args := #[s, x], argTypes := #[T, T] }) {p : Option Addr} {m c : Nat} {v : Value}
    (hs : a.eval s = .slice p m c) (hx : a.eval x = v) (hle : m ≤ c) (hsrc : Src Try.prog i0.size T v 0 [] w)
    (hK : wpList Try.prog ops Q rest (a.put o.dst (.slice p m c)) w) : wpList Try.prog ops Q (o :: rest) a w :=
  wpList_plain hgd fun _ hK' => by
    have hrun := run_append_nothing (P := Try.prog) w T T o.type E i0 hu hi p m c hle v hsrc
    unfold Oper.wp execOp
    simp only [ho, resolve, invoke, builtin, Sem.run_bind, Sem.run_pure, Result.andThen_ok, List.map_toArray, List.map_cons, List.map_nil, hs, hx, hrun]
    exact hK' _ _ hK
/-- Operations that were copied. -/
def OClo (w : World) (n : Nat) (g : Nat → O4) (e : Ending) (w' : World) : Prop :=
  ∃ v : Ls.Sl, v.n = n ∧ e = .returned (.slice v.a n v.c) ∧ ORow w' w'.heap.size v.a n g ∧ (0 < n → ∀ x, v.a = some x → w.heap.size ≤ x.block) ∧ Below w.heap.size w w'
theorem oclone_none (A : Option Addr) (c : Nat) (g : Nat → O4) (w : World) : Calls Try.prog 26 #[.slice A 0 c] w (OClo w 0 g) := by
  obtain ⟨i0, hi, hz0, hz1, hz2⟩ := oinfo_parts info_op
  have q22 : ∀ (w : World) (a : Option Addr) (n c n' c' : Nat), (binOp .eql 26 (.slice a n c) (.slice none n' c')).run Try.prog w = .ok (.bool a.isNone) w := fun w a n c n' c' => Lib.run_eql_slice_nil w _ _ a n c n' c' Try.underlying26
  cases A with
  | none =>
    go_enter Try.func26, Try.ntmps26
    go_wp2
    go_ret
    exact ⟨⟨none, 0, 0⟩, rfl, rfl, ORow.empty _ _ _ _, fun h => absurd h (Nat.lt_irrefl 0), Below.refl _ _⟩
  | some x =>
    have hsrc : ∀ w, Src Try.prog i0.size 26 (.slice (some x) 0 c) 0 [] w := fun w => by
      rw [hz1]
      exact Src.ofSlice _ Try.underlying26 x 0 c [] rfl (by simp) (by simp)
    go_enter Try.func26, Try.ntmps26
    go_wp2_with (at_builtin; refine olist_nothing Try.underlying26 hi rfl _ _ rfl rfl rfl (Nat.zero_le _) (hsrc _) ?_)
    go_wp2
    go_ret
    exact ⟨⟨some ⟨w.heap.size, 0, none⟩, 0, 0⟩, rfl, rfl, ORow.empty _ _ _ _, fun h => absurd h (Nat.lt_irrefl 0), (Below.refl _ _).alloc (Nat.le_refl _) _⟩
theorem oclone_some (B : Nat) (A : Option Addr) (n c : Nat) (g : Nat → O4) (w : World) (hn : 0 < n) (hbig : n ≤ 100000) (hr : ORow w B A n g) :
    Calls Try.prog 26 #[.slice A n c] w (OClo w n g) := by
  obtain ⟨i0, hi, hz0, hz1, hz2⟩ := oinfo_parts info_op
  obtain ⟨b, off, rfl, _, hc⟩ := hr hn
  have HC := Lib.hid hc
  have q22 : ∀ (w : World) (a : Option Addr) (n c n' c' : Nat), (binOp .eql 26 (.slice a n c) (.slice none n' c')).run Try.prog w = .ok (.bool a.isNone) w := fun w a n c n' c' => Lib.run_eql_slice_nil w _ _ a n c n' c' Try.underlying26
  have u22 : ∀ w, Sem.run Try.prog (underlying 26) w = .ok (TypeDesc.slice 52) w := run_underlying Try.underlying26
  clear hc hr
  go_enter Try.func26, Try.ntmps26
  go_wp2_with (at_builtin; refine wpList_append_own _ rfl _ _ 26 rfl w.heap.size 52 i0 (.agg #[.int .i64 0, .int .i64 0, .int .i64 0, .int .i64 0]) 4 32 Try.underlying26 hi hz0 hz1 hz2 rfl (by decide) _ _ _ rfl (World.ownsRow_made w #[] 0 (Nat.le_refl _) (Nat.zero_le _) rfl) ⟨b, off, none⟩ n c (ocells g n) rfl ?qc1 ?qc2 ?qc3 ?qc4 ?qc5 ?qc6 ?_)
  case qc1 => exact ocells_length g n
  case qc2 =>
    intro j u hj
    rw [Addr.add_lit]
    exact Lib.cell?_alloc_some _ (ORow.src HC.out j u hj)
  case qc3 =>
    intro u hu
    obtain ⟨z, rfl⟩ := ocells_one hu
    rfl
  case qc4 => unfold maxLen; omega
  case qc5 => omega
  case qc6 => simp
  intro v' w1 hown hgrow hnil
  have hown' : w1.ownsRow w.heap.size 52 4 v' n (ocells g n) := by simpa using hown
  obtain ⟨s, rfl, hsn, hm, _, _, hnew⟩ := orow_of hown'
  have HM := Lib.hid (And.intro hm (And.intro hnew hgrow))
  clear hown hown' hnil hm hnew hgrow
  go_wp2
  go_ret
  exact ⟨s, hsn, rfl, HM.out.1, HM.out.2.1, ((Below.refl _ w).alloc (Nat.le_refl _) _).grown HM.out.2.2 (by simp) (by intro k hk; simp [Value.ownBlock] at hk; omega)⟩
theorem oclone_any (B : Nat) (A : Option Addr) (n c : Nat) (g : Nat → O4) (w : World) (hbig : n ≤ 100000) (hr : ORow w B A n g) :
    Calls Try.prog 26 #[.slice A n c] w (OClo w n g) := by
  by_cases hn : n = 0
  · subst hn
    exact oclone_none A c g w
  · exact oclone_some B A n c g w (by omega) hbig hr
end Go.Proofs.Ytjppimabhefeeaa.Rt
