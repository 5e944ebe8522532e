/-
  Package cells' on$1: the iterator over a page's cells has the contract of XSep.
-/
import Derived.Test.YtlmaeppckaempaaDoorClShape
import Derived.Test.YtlmaeppckaempaaDoorSep
import Derived.Shelf.Abstract
import Derived.WalkKit
import Derived.OwnWalkIn
import Derived.TacticsInMore
import Derived.LoopNIn
import Derived.LoopIn
namespace Go.Proofs.YtlmaeppckaempaaDoor
open Go.RowKit Go.Shelf
attribute [local go_sem] Oper.semAt_some

/-- A page's cells: where each begins, and its room. -/
def pageL (k num : Nat) (room : Int) : List (Int × Int) := (List.range num).map fun (j : Nat) => (16 + (k : Int) * 16 + (j : Int) * room, room)
theorem pageL_length (k num : Nat) (room : Int) : (pageL k num room).length = num := by simp [pageL]
theorem pageL_get (k num : Nat) (room : Int) (j : Nat) (h : j < num) : (pageL k num room)[j]? = some (16 + k * 16 + j * room, room) := by simp [pageL, h]
theorem take_next {α : Type} {L : List α} {j : Nat} {x : α} (h : L[j]? = some x) : L.take (j + 1) = L.take j ++ [x] := by
  obtain ⟨hj, hx⟩ := List.getElem?_eq_some_iff.1 h
  rw [List.take_succ_eq_append_getElem hj, hx]
theorem take_pre {α : Type} {L : List α} {j : Nat} {x : α} (h : L[j]? = some x) : L.take j ++ [x] <+: L := by
  rw [← take_next h]
  exact List.take_prefix _ _
def encC (c : Int × Int) : Array Value := #[.agg #[.int .i64 c.1, .int .i64 c.2]]

theorem Kept.cell {n₀ : Nat} {M : Nat → Prop} {W W' : World} (h : Kept n₀ M W W') {b o : Nat} {v : Value} (hb : M b ∨ b < n₀) (hc : W.cell? ⟨b, o, none⟩ = some v) : W'.cell? ⟨b, o, none⟩ = some v := by
  have hlt : b < W.heap.size := World.block_lt_of_cell? W _ hc
  rcases hb with hb | hb
  · exact (World.cell?_of_block (a := ⟨b, o, none⟩) (h.2 b hb hlt)).trans hc
  · exact (h.1.cell (p := ⟨b, o, none⟩) hb).trans hc

set_option maxRecDepth 100000 in
set_option maxHeartbeats 1000000 in
theorem on_gives (n₀ k num : Nat) (room : Int) (b0 b1 b2 : Nat) (w : World) (hk : k ≤ 64) (hnum : num ≤ 8) (hr0 : 0 ≤ room) (hr1 : room ≤ 64)
    (h0 : w.cell? ⟨b0, 0, none⟩ = some (.int .i64 k)) (h1 : w.cell? ⟨b1, 0, none⟩ = some (.int .i64 num)) (h2 : w.cell? ⟨b2, 0, none⟩ = some (.int .i64 room)) :
    Gives Tryd.prog 41 #[.pointer (some ⟨b0, 0, none⟩), .pointer (some ⟨b1, 0, none⟩), .pointer (some ⟨b2, 0, none⟩)] encC n₀ (fun b => b = b0 ∨ b = b1 ∨ b = b2) (pageL k num room) w := by
  intro l J Jx M W hW hC _ _ hY hJ0
  have l0 : b0 < w.heap.size := World.block_lt_of_cell? w _ h0
  have l1 : b1 < w.heap.size := World.block_lt_of_cell? w _ h1
  have l2 : b2 < w.heap.size := World.block_lt_of_cell? w _ h2
  have c0 : W.cell? ⟨b0, 0, none⟩ = some (.int .i64 k) := (hW.cell (p := ⟨b0, 0, none⟩) l0).trans h0
  have c1 : W.cell? ⟨b1, 0, none⟩ = some (.int .i64 num) := (hW.cell (p := ⟨b1, 0, none⟩) l1).trans h1
  have c2 : W.cell? ⟨b2, 0, none⟩ = some (.int .i64 room) := (hW.cell (p := ⟨b2, 0, none⟩) l2).trans h2
  have HY := Lib.hid hY
  have HJ := Lib.hid hJ0
  have HC := Lib.hid (hC b2 (by simp))
  clear hY hJ0 hC hW h0 h1 h2 l0 l1 l2
  refine (callsIn_wide (n := 1)).1 ?_
  refine callsIn_of_wp Tryd.func41 rfl trivial ?_ rfl
  simp only [Tryd.ntmps41, List.size_toArray, List.length_cons, List.length_nil, Nat.reduceAdd, Nat.reduceSub, Array.replicate_succ, Array.replicate_zero, List.push_toArray, List.append_toArray, List.nil_append, List.cons_append]
  gi_wp2
  clear c0 c1
  gi_loopw [5, 10] (fun at_ i wr => ∃ (j : Nat) (q : Int), j ≤ num ∧ i = .int .i64 j ∧ at_ = .int .i64 q ∧ Hid (q = 16 + k * 16 + j * room) ∧ 0 ≤ q ∧ q ≤ 16 + k * 16 + 64 * j ∧ Hid (J M ((pageL k num room).take j) wr) ∧ wr.cell? ⟨b2, 0, none⟩ = some (.int .i64 room))
    (fun _ i _ => num - (intOf i).toNat)
  case atStart => exact ⟨0, 16 + k * 16, Nat.zero_le _, rfl, by go_num, Lib.hid (by simp), by omega, by omega, HJ, c2⟩
  case round =>
    clear c2 HJ
    obtain ⟨j, q, hj, rfl, rfl, HQ, hq0, hq1, HJ, c2⟩ := hrel
    by_cases hlt : j < num
    · have hg : (pageL k num room)[j]? = some (q, room) := by rw [pageL_get k num room j hlt, HQ.out]
      have HN := Lib.hid (take_next hg)
      have HL := Lib.hid (show ((j + 1 : Nat) : Int) * room = j * room + room by rw [Int.natCast_add, Int.add_mul]; simp)
      obtain ⟨fn, tmps, assign, body, hy, hR⟩ := HY.out M _ (q, room) wr (take_pre hg) HJ.out
      have HR := Lib.hid hR
      dsimp only [encC] at hy
      clear hg hR
      gi_wp2
      refine (roundIn_any HR.out).mono ?_
      rintro e W3 ⟨hk3, (⟨rfl, hJ3⟩ | ⟨rfl, hx3⟩)⟩
      · have c3 := hk3.cell HC.out c2
        have HJ3 := Lib.hid hJ3
        clear hk3 hJ3 c2 HR hy
        gi_wp2
        go_roundw
        case rel => exact ⟨j + 1, q + room, by omega, by go_num, by go_num, Lib.hid (by rw [HQ.out, HL.out]; omega), by omega, by omega, Lib.hid (by rw [HN.out]; exact HJ3.out), c3⟩
        case measure => simp [intOf]; omega
      · have HX := Lib.hid hx3
        clear hk3 hx3 c2 HR hy
        gi_wp2
        refine bodyPost_ret (results_none rfl _ _ _) rfl ?_
        exact ⟨⟨_, rfl⟩, M, .inr ⟨_, HX.out⟩⟩
    · obtain rfl : j = num := by omega
      have HT := Lib.hid (List.take_of_length_le (l := pageL k j room) (i := j) (by rw [pageL_length]; omega))
      gi_wp2
      go_end0
      exact ⟨⟨_, rfl⟩, M, .inl (by have := HJ.out; rwa [HT.out] at this)⟩
end Go.Proofs.YtlmaeppckaempaaDoor
