/-
  slices.Backward: the iterator hands on a slice's places and numbers, the last one first.
-/
import Derived.Test.YtdmclfolooiccaaGreatDoorHpAB
import Derived.Shelf.Abstract
import Derived.OwnWalkIn
import Derived.TacticsInMore
import Derived.LoopNIn
import Derived.LoopIn
namespace Go.Proofs.YtdmclfolooiccaaGreatDoor.Ls
open Go.Proofs.YtdmclfolooiccaaGreatDoor
set_option maxRecDepth 100000
open Go.RowKit Go.Shelf
attribute [local go_sem] Oper.semAt_some

theorem backward_any (A : Option Addr) (n c : Nat) (w : World) :
    Calls Tryz.prog 132 #[.slice A n c] w fun e w' => e = .returned (.func (.func 136) #[] #[.pointer (some ⟨w.heap.size, 0, none⟩)]) ∧ w' = w.alloc (.cells #[.slice A n c] 22) := by
  have hmf : ∀ (fn : Fn) (first cap : Array Value) (w : World), (Instr.makeFunc fn first cap).run Tryz.prog w = .ok (.func fn first cap) w := fun _ _ _ _ => rfl
  go_enter Tryz.func132, Tryz.ntmps132
  go_wp2
  go_ret
  exact ⟨rfl, rfl⟩

/-- The places of n numbers, the last one first. -/
def downL (n : Nat) : List Nat := (List.range n).reverse
theorem downL_length (n : Nat) : (downL n).length = n := by simp [downL]
theorem downL_get (n q : Nat) (h : q < n) : (downL n)[n - (q + 1)]? = some q := by
  unfold downL
  rw [List.getElem?_reverse (by simp; omega)]
  rw [List.getElem?_eq_getElem (by simp; omega)]
  simp
  omega
theorem next_at {L : List Nat} {j : Nat} {x : Nat} (h : L[j]? = some x) : L.take (j + 1) = L.take j ++ [x] := by
  obtain ⟨hj, hx⟩ := List.getElem?_eq_some_iff.1 h
  rw [List.take_succ_eq_append_getElem hj, hx]
theorem pre_at {L : List Nat} {j : Nat} {x : Nat} (h : L[j]? = some x) : L.take j ++ [x] <+: L := by
  rw [← next_at h]
  exact List.take_prefix _ _
def encB (xs : List Int) (i : Nat) : Array Value := #[.int .i64 i, .int .i64 (xs[i]?.getD 0)]

theorem Hold.cell {Z : Nat → Prop} {w w' : World} (h : Hold Z w w') {b o : Nat} {v : Value} (hb : Z b) (hc : w.cell? ⟨b, o, none⟩ = some v) : w'.cell? ⟨b, o, none⟩ = some v :=
  (World.cell?_of_block (a := ⟨b, o, none⟩) (h.block b hb (World.block_lt_of_cell? w _ hc))).trans hc
theorem Hold.row {Z : Nat → Prop} {w w' : World} (h : Hold Z w w') {B n : Nat} {A : Option Addr} {xs : List Int} (hr : Row w B A n xs) (hz : ∀ x, A = some x → Z x.block) : Row w' B A n xs :=
  ⟨hr.1, fun hn => by
    obtain ⟨b, off, rfl, hlt, hc⟩ := hr.2 hn
    exact ⟨b, off, rfl, hlt, fun i hi => h.cell (hz _ rfl) (hc i hi)⟩⟩

set_option maxRecDepth 100000 in
set_option maxHeartbeats 1000000 in
theorem back_gives (Z C : Nat → Prop) (c0 B : Nat) (A : Option Addr) (n c : Nat) (xs : List Int) (w : World) (hn : n ≤ 2000000) (h0 : w.cell? ⟨c0, 0, none⟩ = some (.slice A n c)) (hr : Row w B A n xs) (hB : B ≤ w.heap.size) (hz : Z c0) (hzA : ∀ x, A = some x → Z x.block) :
    GivesZ Tryz.prog 136 #[.pointer (some ⟨c0, 0, none⟩)] (encB xs) Z C (downL n) w := by
  intro l J Jx M W hW _ _ _ hY hJ0
  have l0 : c0 < w.heap.size := World.block_lt_of_cell? w _ h0
  have c0' : W.cell? ⟨c0, 0, none⟩ = some (.slice A n c) := (hW.cell (p := ⟨c0, 0, none⟩) l0).trans h0
  have r0 : Row W B A n xs := hr.over hW hB
  have HY := Lib.hid hY
  have HJ := Lib.hid hJ0
  have HZ := Lib.hid hz
  have HA := Lib.hid hzA
  have HR := Lib.hid r0
  clear hY hJ0 hW h0 l0 hz hzA hr r0 hB
  refine (callsIn_wide (n := 1)).1 ?_
  refine callsIn_of_wp Tryz.func136 rfl trivial ?_ rfl
  simp only [Tryz.ntmps136, List.size_toArray, List.length_cons, List.length_nil, Nat.reduceAdd, Nat.reduceSub, Array.replicate_succ, Array.replicate_zero, List.push_toArray, List.append_toArray, List.nil_append, List.cons_append]
  gi_wp2
  gi_loopw [3] (fun i wr => ∃ p : Nat, p ≤ n ∧ i = .int .i64 ((p : Int) - 1) ∧ Hid (J M ((downL n).take (n - p)) wr) ∧ wr.cell? ⟨c0, 0, none⟩ = some (.slice A n c) ∧ Hid (Row wr B A n xs))
    (fun i _ => (intOf i + 1).toNat)
  case atStart => exact ⟨n, Nat.le_refl _, rfl, Lib.hid (by simpa using HJ.out), c0', HR⟩
  case round =>
    clear c0' HJ HR
    obtain ⟨p, hp, rfl, HJ, c1, HR⟩ := hrel
    cases p with
    | zero =>
      have e : ((0 : Nat) : Int) - 1 = -1 := by omega
      rw [e]
      have HT := Lib.hid (List.take_of_length_le (l := downL n) (i := n - 0) (by rw [downL_length]; omega))
      clear c1
      gi_wp2
      go_end0
      exact ⟨⟨_, rfl⟩, M, .inl (by have := HJ.out; rwa [HT.out] at this)⟩
    | succ q =>
      have e : ((q + 1 : Nat) : Int) - 1 = q := by omega
      rw [e]
      have hq : q < n := by omega
      obtain ⟨b, off, hA, hbl, hc⟩ := HR.out.2 (by omega)
      have hcq := hc q hq
      have hg := downL_get n q hq
      have HN := Lib.hid (next_at hg)
      obtain ⟨fn, tmps, assign, body, hy, hRd⟩ := HY.out M _ q wr (pre_at hg) HJ.out
      have HRd := Lib.hid hRd
      dsimp only [encB] at hy
      clear hg hRd hc e
      subst hA
      gi_wp2
      refine (roundIn_anyZ HRd.out).mono ?_
      rintro e W3 ⟨hk3, (⟨rfl, hJ3⟩ | ⟨rfl, hx3⟩)⟩
      · have c3 := hk3.1.cell HZ.out c1
        have R3 := Lib.hid (hk3.1.row HR.out HA.out)
        have HJ3 := Lib.hid hJ3
        have en : n - (q + 1) + 1 = n - q := by omega
        have HE := Lib.hid en
        clear hk3 hJ3 c1 HRd hy hcq en
        gi_wp2
        go_roundw
        case rel => exact ⟨q, by omega, by go_num, Lib.hid (by rw [← HE.out, HN.out]; exact HJ3.out), c3, R3⟩
        case measure => simp [intOf]
      · have HX := Lib.hid hx3
        clear hk3 hx3 c1 HRd hy hcq
        gi_wp2
        refine bodyPost_ret (results_none rfl _ _ _) rfl ?_
        exact ⟨⟨_, rfl⟩, M, .inr ⟨_, HX.out⟩⟩
end Go.Proofs.YtdmclfolooiccaaGreatDoor.Ls
