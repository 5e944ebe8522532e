/-
  What package regs tells, by definition.
-/
import Derived.Test.YtjppimabhefeeaaRtRow
namespace Go.Proofs.Ytjppimabhefeeaa.Rt
open Go.Proofs.Ytjppimabhefeeaa
open Go.RowKit
set_option maxRecDepth 100000

def inReg (r : Int) : Bool := decide (0 ≤ r ∧ r ≤ 3)
def getV (t : Ts) (r : Int) : Int := if inReg r = true then t.r r.toNat else 0
def getE (r : Int) : Int := if inReg r = true then 0 else 1
/-- A thread that may be. -/
def mayT (t : Ts) : Bool := decide (0 ≤ t.sg ∧ t.sg ≤ 3 ∧ 0 ≤ t.rt ∧ t.rt ≤ 3 ∧ 0 ≤ t.pc ∧ t.pc ≤ 4 ∧ t.o.n ≤ 200 ∧ (t.pc = 0 ∨ 0 < t.o.n))
/-- Where it may hold an address, and what it holds. -/
def six (t : Ts) : List Int := [t.r 0, t.r 1, t.r 2, t.r 3, t.x, t.y]
def holdL (t : Ts) : List Int := (six t).filter fun a => decide (¬ a = 0)
def armB (ph ep : Int) (t : Ts) : Bool := decide (t.ep = ep ∧ 1 ≤ ph ∧ ph ≤ 5)
def blackB (ph ep : Int) (t : Ts) : Bool := decide (t.ep = ep ∧ t.sg = 3 ∧ ¬ ph = 0)
def fewT (t : Ts) : Bool := decide (t.o.n ≤ 220) && decide ((t.u 0).n ≤ 70 ∧ (t.u 1).n ≤ 70 ∧ (t.u 2).n ≤ 70)

theorem six_at (t : Ts) (k : Nat) (hk : k < 4) : (six t).getD k 0 = t.r k := by
  match k, hk with
  | 0, _ => rfl
  | 1, _ => rfl
  | 2, _ => rfl
  | 3, _ => rfl
theorem held_step (xs : List Int) (k : Nat) (hk : k < xs.length) : ((xs.take (k + 1)).filter fun a => decide (¬ a = 0)) = ((xs.take k).filter fun a => decide (¬ a = 0)) ++ (if xs.getD k 0 = 0 then [] else [xs.getD k 0]) := by
  have e : xs.take (k + 1) = xs.take k ++ [xs.getD k 0] := by
    rw [List.take_add_one]
    simp [List.getD, hk]
  rw [e, List.filter_append]
  congr 1
  by_cases h : xs.getD k 0 = 0
  · rw [if_pos h, List.filter_cons_of_neg (p := fun a => decide (¬ a = 0)) (by simpa using h)]
    rfl
  · rw [if_neg h, List.filter_cons_of_pos (p := fun a => decide (¬ a = 0)) (decide_eq_true h)]
    rfl
/-- One where something is. -/
def one0 (x : Int) : Nat := if x = 0 then 0 else 1
theorem filter_len (xs : List Int) : (xs.filter fun a => decide (¬ a = 0)).length = (xs.map one0).sum := by
  induction xs with
  | nil => rfl
  | cons x xs ih =>
    by_cases h : x = 0
    · rw [List.filter_cons_of_neg (p := fun a => decide (¬ a = 0)) (by simpa using h), ih, List.map_cons, List.sum_cons, one0, if_pos h, Nat.zero_add]
    · rw [List.filter_cons_of_pos (p := fun a => decide (¬ a = 0)) (decide_eq_true h), List.length_cons, ih, List.map_cons, List.sum_cons, one0, if_neg h, Nat.add_comm]
theorem holdL_len (t : Ts) : (holdL t).length = one0 (t.r 0) + one0 (t.r 1) + one0 (t.r 2) + one0 (t.r 3) + one0 t.x + one0 t.y := by
  unfold holdL
  rw [filter_len]
  simp [six]
  omega
theorem one0_le (x : Int) : one0 x ≤ 1 := by unfold one0; split <;> omega
theorem hold_six (t : Ts) : (holdL t).length ≤ 6 := by
  rw [holdL_len]
  have := one0_le (t.r 0); have := one0_le (t.r 1); have := one0_le (t.r 2); have := one0_le (t.r 3); have := one0_le t.x; have := one0_le t.y
  omega
/-- With a register let go it holds less, or it held nothing there. -/
theorem hold_less (t : Ts) (k : Nat) (hk : k < 4) : (holdL (tr t (Ls.upd t.r k 0))).length + one0 (t.r k) = (holdL t).length := by
  rw [holdL_len, holdL_len]
  match k, hk with
  | 0, _ => show one0 0 + one0 (t.r 1) + one0 (t.r 2) + one0 (t.r 3) + one0 t.x + one0 t.y + one0 (t.r 0) = _; rw [show one0 0 = 0 from rfl]; omega
  | 1, _ => show one0 (t.r 0) + one0 0 + one0 (t.r 2) + one0 (t.r 3) + one0 t.x + one0 t.y + one0 (t.r 1) = _; rw [show one0 0 = 0 from rfl]; omega
  | 2, _ => show one0 (t.r 0) + one0 (t.r 1) + one0 0 + one0 (t.r 3) + one0 t.x + one0 t.y + one0 (t.r 2) = _; rw [show one0 0 = 0 from rfl]; omega
  | 3, _ => show one0 (t.r 0) + one0 (t.r 1) + one0 (t.r 2) + one0 0 + one0 t.x + one0 t.y + one0 (t.r 3) = _; rw [show one0 0 = 0 from rfl]; omega
theorem hold_ne (t : Ts) (i : Nat) (h : i < (holdL t).length) : ¬ (holdL t).getD i 0 = 0 := by
  have hm : (holdL t).getD i 0 ∈ holdL t := by
    simp only [List.getD, List.getElem?_eq_getElem h, Option.getD_some]
    exact List.getElem_mem h
  have := (List.mem_filter.1 hm).2
  simpa using this
theorem hold_put (t : Ts) (k : Nat) (hk : k < 4) (a : Int) (ha : ¬ a = 0) : ∃ i, i < (holdL (tr t (Ls.upd t.r k a))).length ∧ (holdL (tr t (Ls.upd t.r k a))).getD i 0 = a := by
  have hm : a ∈ holdL (tr t (Ls.upd t.r k a)) := by
    refine List.mem_filter.2 ⟨?_, by simpa using ha⟩
    match k, hk with
    | 0, _ => simp [six, tr, Ls.upd]
    | 1, _ => simp [six, tr, Ls.upd]
    | 2, _ => simp [six, tr, Ls.upd]
    | 3, _ => simp [six, tr, Ls.upd]
  obtain ⟨i, hi, e⟩ := List.getElem_of_mem hm
  exact ⟨i, hi, by simp [List.getD, hi, e]⟩
theorem inReg_yes {r : Int} (h : inReg r = true) : ∃ k : Nat, k < 4 ∧ r = (k : Int) := by
  have := of_decide_eq_true h
  exact ⟨r.toNat, by omega, by omega⟩
theorem inReg_nat {k : Nat} (h : k < 4) : inReg (k : Int) = true := decide_eq_true (by omega)
theorem getV_at (t : Ts) {k : Nat} (h : k < 4) : getV t (k : Int) = t.r k := by
  unfold getV
  rw [if_pos (inReg_nat h)]
  rfl
theorem tr_self (t : Ts) (k : Nat) : tr t (Ls.upd t.r k (t.r k)) = t := by
  have : Ls.upd t.r k (t.r k) = t.r := by
    funext j
    unfold Ls.upd
    split
    · rename_i h; rw [h]
    · rfl
  rw [this]
  rfl
end Go.Proofs.Ytjppimabhefeeaa.Rt
