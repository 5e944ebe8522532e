/-
  Merged texts: RefUn, HpUn, ClsWalks, ClsCalls, ClsRef, HpCell.
-/
import Derived.Test.YtdmclfolooiccaaGreatDoorHpAC
import Derived.Test.YtdmclfolooiccaaGreatDoorRows
import Derived.WalkKit
import Derived.Below
import Derived.WalkSmall
import Derived.LoopTactic
import Derived.RegionTactic
import Derived.ChangeAlike
import Derived.Lib.Hide
section
namespace Go.Proofs.YtdmclfolooiccaaGreatDoor.Hd
open Go.Proofs.YtdmclfolooiccaaGreatDoor
set_option maxRecDepth 100000
open Go.RowKit

theorem runpack_zero (w : World) :
    Calls Tryz.prog 92 #[.int .i64 0] w fun r w' => r = .returned (.tuple #[.agg #[.bool false, .bool false, .bool false, .int .i64 0, .int .i64 0, .int .i64 0], .bool true]) ∧ Below w.heap.size w w' := by
  go_enter Tryz.func92, Tryz.ntmps92
  go_wp2
  refine bodyPost_ret (v := .tuple #[.agg #[.bool false, .bool false, .bool false, .int .i64 0, .int .i64 0, .int .i64 0], .bool true]) ?_ rfl ⟨rfl, (((Below.refl _ _).alloc (Nat.le_refl _) _).alloc (by simp) _)⟩
  simp [results, Tryz.results92, go_sem]
theorem runpack_less (x : Int) (w : World) (h : x < 0) :
    Calls Tryz.prog 92 #[.int .i64 x] w fun r w' => r = .returned (.tuple #[.agg #[.bool false, .bool false, .bool false, .int .i64 0, .int .i64 0, .int .i64 0], .bool false]) ∧ Below w.heap.size w w' := by
  go_enter Tryz.func92, Tryz.ntmps92
  go_wp2
  refine bodyPost_ret (v := .tuple #[.agg #[.bool false, .bool false, .bool false, .int .i64 0, .int .i64 0, .int .i64 0], .bool false]) ?_ rfl ⟨rfl, (((Below.refl _ _).alloc (Nat.le_refl _) _).alloc (by simp) _)⟩
  simp [results, Tryz.results92, go_sem]
theorem runpack_even (x : Int) (w : World) (x0 : 1 ≤ x) (x1 : x ≤ 9223372036854775807) (h : x % 2 = 0) :
    Calls Tryz.prog 92 #[.int .i64 x] w fun r w' => r = .returned (.tuple #[.agg #[.bool false, .bool false, .bool false, .int .i64 0, .int .i64 0, .int .i64 0], .bool false]) ∧ Below w.heap.size w w' := by
  go_enter Tryz.func92, Tryz.ntmps92
  go_wp2
  refine bodyPost_ret (v := .tuple #[.agg #[.bool false, .bool false, .bool false, .int .i64 0, .int .i64 0, .int .i64 0], .bool false]) ?_ rfl ⟨rfl, (((Below.refl _ _).alloc (Nat.le_refl _) _).alloc (by simp) _)⟩
  simp [results, Tryz.results92, go_sem]
theorem three_below {w w1 : World} {c c' c'' : Obj} (hb : Below (((w.alloc c).alloc c').alloc c'').heap.size (((w.alloc c).alloc c').alloc c'') w1) : Below w.heap.size w w1 :=
  ((((Below.refl _ _).alloc (Nat.le_refl _) _).alloc (by simp) _).alloc (by simp; omega) _).trans (hb.mono (by simp; omega))
theorem far_cells {w w1 : World} {c' c'' : Obj} {cs : Array Value} {t : TypeId} (hb : Below (((w.alloc (.cells cs t)).alloc c').alloc c'').heap.size (((w.alloc (.cells cs t)).alloc c').alloc c'') w1) (k : Nat) :
    w1.cell? ⟨w.heap.size, k, none⟩ = cs[k]? := by
  rw [old_cell hb _ _ (by simp; omega)]
  simp [go_sem]
theorem runpack_odd (x : Int) (o e : Bool) (n b m : Int) (w : World) (h : mayB true o e n b m = true) (x0 : 1 ≤ x) (x1 : x ≤ 9223372036854775807) (h1 : x % 2 = 1) (eo : (x / 2 % 2 == 1) = o) (ee : (x / 4 % 2 == 1) = e) (en : x / 8 % 128 = n) (eb : x / 1024 % 4194304 = b) (em : x / 4294967296 = m) :
    Calls Tryz.prog 92 #[.int .i64 x] w fun r w' => r = .returned (.tuple #[.agg #[.bool true, .bool o, .bool e, .int .i64 n, .int .i64 b, .int .i64 m], .bool true]) ∧ Below w.heap.size w w' := by
  have H := Lib.hid h
  clear h
  go_enter Tryz.func92, Tryz.ntmps92
  go_wp2_with fail
  refine (rmay_yes _ _ _ _ _ _ _ H.out).mono ?_
  rintro r w1 ⟨rfl, hb⟩
  have hc := old_cell hb; have hf := old_mark hb
  clear x0 x1 h1 eo ee en eb em
  have c0 := far_cells hb 0
  have c1 := far_cells hb 1
  have c2 := far_cells hb 2
  have c3 := far_cells hb 3
  have c4 := far_cells hb 4
  have c5 := far_cells hb 5
  simp at c0 c1 c2 c3 c4 c5
  go_wp2
  refine bodyPost_ret (v := .tuple #[.agg #[.bool true, .bool o, .bool e, .int .i64 n, .int .i64 b, .int .i64 m], .bool true]) ?_ rfl ⟨rfl, six_below (three_below hb) (Nat.le_refl _) _ _ _ _ _ _⟩
  simp [results, Tryz.results92, go_sem, c0, c1, c2, c3, c4, c5]
theorem runpack_bad (x : Int) (o e : Bool) (n b m : Int) (w : World) (h : mayB true o e n b m = false) (x0 : 1 ≤ x) (x1 : x ≤ 9223372036854775807) (h1 : x % 2 = 1) (eo : (x / 2 % 2 == 1) = o) (ee : (x / 4 % 2 == 1) = e) (en : x / 8 % 128 = n) (eb : x / 1024 % 4194304 = b) (em : x / 4294967296 = m) :
    Calls Tryz.prog 92 #[.int .i64 x] w fun r w' => r = .returned (.tuple #[.agg #[.bool false, .bool false, .bool false, .int .i64 0, .int .i64 0, .int .i64 0], .bool false]) ∧ Below w.heap.size w w' := by
  have H := Lib.hid h
  clear h
  go_enter Tryz.func92, Tryz.ntmps92
  go_wp2_with fail
  refine (rmay_no _ _ _ _ _ _ _ H.out).mono ?_
  rintro r w1 ⟨rfl, hb⟩
  have hc := old_cell hb; have hf := old_mark hb
  clear x0 x1 h1 eo ee en eb em
  have c0 := far_cells hb 0
  have c1 := far_cells hb 1
  have c2 := far_cells hb 2
  have c3 := far_cells hb 3
  have c4 := far_cells hb 4
  have c5 := far_cells hb 5
  simp at c0 c1 c2 c3 c4 c5
  go_wp2
  refine bodyPost_ret (v := .tuple #[.agg #[.bool false, .bool false, .bool false, .int .i64 0, .int .i64 0, .int .i64 0], .bool false]) ?_ rfl ⟨rfl, six_below (three_below hb) (Nat.le_refl _) _ _ _ _ _ _⟩
  simp [results, Tryz.results92, go_sem, c0, c1, c2, c3, c4, c5]
theorem beq_one (x : Int) : (x == 1) = decide (x = 1) := by
  rw [Bool.eq_iff_iff]; simp
theorem runpack_no (x : Int) (w : World) (x0 : -9223372036854775808 ≤ x) (x1 : x ≤ 9223372036854775807) (h : isWord x = false) :
    Calls Tryz.prog 92 #[.int .i64 x] w fun r w' => r = .returned (.tuple #[.agg #[.bool false, .bool false, .bool false, .int .i64 0, .int .i64 0, .int .i64 0], .bool false]) ∧ Below w.heap.size w w' := by
  by_cases h0 : x < 0
  · exact runpack_less x w h0
  · by_cases h1 : x % 2 = 1
    · unfold isWord at h
      rw [decide_eq_true h1] at h
      exact runpack_bad x _ _ _ _ _ w h (by omega) x1 h1 (beq_one _) (beq_one _) rfl rfl rfl
    · by_cases h2 : x = 0
      · subst h2
        cases h
      · exact runpack_even x w (by omega) x1 (by omega)
theorem runpack_word (u o e : Bool) (n b m : Int) (w : World) (h : mayB u o e n b m = true) :
    Calls Tryz.prog 92 #[.int .i64 (word u o e n b m)] w fun r w' => r = .returned (.tuple #[.agg #[.bool u, .bool o, .bool e, .int .i64 n, .int .i64 b, .int .i64 m], .bool true]) ∧ Below w.heap.size w w' := by
  cases u
  · obtain ⟨rfl, rfl, rfl, rfl, rfl⟩ := (may_free_iff _ _ _ _ _).1 h
    exact runpack_zero w
  · have r := word_range h
    obtain ⟨p1, p2, p3, p4, p5, p6⟩ := word_parts h
    refine runpack_odd _ o e n b m w h (by omega) (by omega) p1 ?_ ?_ p4 p5 p6
    · rw [beq_one, Bool.eq_iff_iff, decide_eq_true_iff]
      exact p2
    · rw [beq_one, Bool.eq_iff_iff, decide_eq_true_iff]
      exact p3
end Go.Proofs.YtdmclfolooiccaaGreatDoor.Hd
end
section
namespace Go.Proofs.YtdmclfolooiccaaGreatDoor
open Go.RowKit

def headOf (x : Int) : Value :=
  if Hd.isWord x then .agg #[.bool (decide (x % 2 = 1)), .bool (decide (x / 2 % 2 = 1)), .bool (decide (x / 4 % 2 = 1)), .int .i64 (x / 8 % 128), .int .i64 (x / 1024 % 4194304), .int .i64 (x / 4294967296)]
  else .agg #[.bool false, .bool false, .bool false, .int .i64 0, .int .i64 0, .int .i64 0]
theorem unpack_any (x : Int) (w : World) : Calls Tryz.prog 74 #[.int .i64 x] w fun e w' => e = .returned (.tuple #[headOf x, .bool (Hd.isWord x)]) ∧ Below w.heap.size w w' := by
  unfold headOf
  cases h : Hd.isWord x
  · exact Hd.unpack_no x w h
  · exact Hd.unpack_yes x w h
theorem runpack_any (x : Int) (w : World) (x0 : -9223372036854775808 ≤ x) (x1 : x ≤ 9223372036854775807) : Calls Tryz.prog 92 #[.int .i64 x] w fun e w' => e = .returned (.tuple #[headOf x, .bool (Hd.isWord x)]) ∧ Below w.heap.size w w' := by
  unfold headOf
  cases h : Hd.isWord x
  · exact Hd.runpack_no x w x0 x1 h
  · obtain ⟨u, o, d, n, b, m, h', e, e1, e2, e3, e4, e5, e6⟩ := Hd.isWord_cases x h
    have := Hd.runpack_word u o d n b m w h'
    rw [← e, e1, e2, e3, e4, e5, e6] at this
    exact this
end Go.Proofs.YtdmclfolooiccaaGreatDoor
end
section
namespace Go.Proofs.YtdmclfolooiccaaGreatDoor.Cl
open Go.Proofs.YtdmclfolooiccaaGreatDoor
set_option maxRecDepth 100000
open Go.RowKit

theorem words_any (n : Int) (w : World) (h0 : 1 ≤ n) (h1 : n ≤ 63) :
    Calls Tryz.prog 82 #[.int .i64 n] w fun e w' => e = .returned (.int .i64 (1 + n)) ∧ w = w' := by
  go_enter Tryz.func82, Tryz.ntmps82
  go_wp2
  go_ret
  exact ⟨rfl, rfl⟩

/-- The table of sizes lies as it is written. -/
def Sz (w : World) : Prop := w.cell? ⟨0, 0, none⟩ = some (.int .i64 2) ∧ w.cell? ⟨0, 1, none⟩ = some (.int .i64 4) ∧ w.cell? ⟨0, 2, none⟩ = some (.int .i64 8)

theorem of_low (n : Int) (w : World) (h : n < 1) :
    Calls Tryz.prog 53 #[.int .i64 n] w fun e w' => e = .returned (.tuple #[.int .i64 0, .int .i64 1]) ∧ w = w' := by
  go_enter Tryz.func53, Tryz.ntmps53
  go_wp2
  go_ret2
  exact ⟨rfl, rfl⟩
theorem of_high (n : Int) (w : World) (h : 63 < n) :
    Calls Tryz.prog 53 #[.int .i64 n] w fun e w' => e = .returned (.tuple #[.int .i64 0, .int .i64 2]) ∧ w = w' := by
  go_enter Tryz.func53, Tryz.ntmps53
  go_wp2
  go_ret2
  exact ⟨rfl, rfl⟩
theorem index_at0 (w : World) : (Instr.index 107 (.agg #[.int .i64 2, .int .i64 4, .int .i64 8]) (.int .i64 0)).run Tryz.prog w = .ok (.int .i64 2) w := by kernel_rfl
theorem index_at1 (w : World) : (Instr.index 107 (.agg #[.int .i64 2, .int .i64 4, .int .i64 8]) (.int .i64 1)).run Tryz.prog w = .ok (.int .i64 4) w := by kernel_rfl
theorem index_at2 (w : World) : (Instr.index 107 (.agg #[.int .i64 2, .int .i64 4, .int .i64 8]) (.int .i64 2)).run Tryz.prog w = .ok (.int .i64 8) w := by kernel_rfl
theorem of_0 (n : Int) (w : World) (hz : Sz w) (h0 : 1 ≤ n) (h1 : n ≤ 1) :
    Calls Tryz.prog 53 #[.int .i64 n] w fun e w' => e = .returned (.tuple #[.int .i64 0, .int .i64 0]) ∧ w = w' := by
  obtain ⟨z0, z1, z2⟩ := hz
  have d1 : decide (n < 1) = false := by simp; omega
  have d2 : decide (63 < n) = false := by simp; omega
  go_enter Tryz.func53, Tryz.ntmps53
  go_wp2
  clear z0 z1 z2
  go_loop [11] (fun i => ∃ k : Nat, k ≤ 0 ∧ i = .int .i64 k) (fun i => 3 - (intOf i).toNat)
  case atStart => exact ⟨0, by omega, rfl⟩
  case round =>
    obtain ⟨k, hk, rfl⟩ := hrel
    have hc : k = 0 := by omega
    clear hk
    subst hc
    · have ix := index_at0 w
      go_wp2_with (go_at_call 82; refine (words_any _ _ (by omega) (by omega)).mono ?_; rintro e w1 ⟨rfl, rfl⟩)
      go_ret2
      exact ⟨rfl, rfl⟩
theorem of_1 (n : Int) (w : World) (hz : Sz w) (h0 : 2 ≤ n) (h1 : n ≤ 3) :
    Calls Tryz.prog 53 #[.int .i64 n] w fun e w' => e = .returned (.tuple #[.int .i64 1, .int .i64 0]) ∧ w = w' := by
  obtain ⟨z0, z1, z2⟩ := hz
  have d1 : decide (n < 1) = false := by simp; omega
  have d2 : decide (63 < n) = false := by simp; omega
  go_enter Tryz.func53, Tryz.ntmps53
  go_wp2
  clear z0 z1 z2
  go_loop [11] (fun i => ∃ k : Nat, k ≤ 1 ∧ i = .int .i64 k) (fun i => 3 - (intOf i).toNat)
  case atStart => exact ⟨0, by omega, rfl⟩
  case round =>
    obtain ⟨k, hk, rfl⟩ := hrel
    have hc : k = 0 ∨ k = 1 := by omega
    clear hk
    rcases hc with rfl | rfl
    · have ix := index_at0 w
      go_wp2_with (go_at_call 82; refine (words_any _ _ (by omega) (by omega)).mono ?_; rintro e w1 ⟨rfl, rfl⟩)
      go_round
      case rel => exact ⟨1, by omega, by go_num⟩
      case measure => simp [intOf]
    · have ix := index_at1 w
      go_wp2_with (go_at_call 82; refine (words_any _ _ (by omega) (by omega)).mono ?_; rintro e w1 ⟨rfl, rfl⟩)
      go_ret2
      exact ⟨rfl, rfl⟩
theorem of_2 (n : Int) (w : World) (hz : Sz w) (h0 : 4 ≤ n) (h1 : n ≤ 7) :
    Calls Tryz.prog 53 #[.int .i64 n] w fun e w' => e = .returned (.tuple #[.int .i64 2, .int .i64 0]) ∧ w = w' := by
  obtain ⟨z0, z1, z2⟩ := hz
  have d1 : decide (n < 1) = false := by simp; omega
  have d2 : decide (63 < n) = false := by simp; omega
  go_enter Tryz.func53, Tryz.ntmps53
  go_wp2
  clear z0 z1 z2
  go_loop [11] (fun i => ∃ k : Nat, k ≤ 2 ∧ i = .int .i64 k) (fun i => 3 - (intOf i).toNat)
  case atStart => exact ⟨0, by omega, rfl⟩
  case round =>
    obtain ⟨k, hk, rfl⟩ := hrel
    have hc : k = 0 ∨ k = 1 ∨ k = 2 := by omega
    clear hk
    rcases hc with rfl | rfl | rfl
    · have ix := index_at0 w
      go_wp2_with (go_at_call 82; refine (words_any _ _ (by omega) (by omega)).mono ?_; rintro e w1 ⟨rfl, rfl⟩)
      go_round
      case rel => exact ⟨1, by omega, by go_num⟩
      case measure => simp [intOf]
    · have ix := index_at1 w
      go_wp2_with (go_at_call 82; refine (words_any _ _ (by omega) (by omega)).mono ?_; rintro e w1 ⟨rfl, rfl⟩)
      go_round
      case rel => exact ⟨2, by omega, by go_num⟩
      case measure => simp [intOf]
    · have ix := index_at2 w
      go_wp2_with (go_at_call 82; refine (words_any _ _ (by omega) (by omega)).mono ?_; rintro e w1 ⟨rfl, rfl⟩)
      go_ret2
      exact ⟨rfl, rfl⟩
theorem of_3 (n : Int) (w : World) (hz : Sz w) (h0 : 8 ≤ n) (h1 : n ≤ 63) :
    Calls Tryz.prog 53 #[.int .i64 n] w fun e w' => e = .returned (.tuple #[.int .i64 3, .int .i64 0]) ∧ w = w' := by
  obtain ⟨z0, z1, z2⟩ := hz
  have d1 : decide (n < 1) = false := by simp; omega
  have d2 : decide (63 < n) = false := by simp; omega
  go_enter Tryz.func53, Tryz.ntmps53
  go_wp2
  clear z0 z1 z2
  go_loop [11] (fun i => ∃ k : Nat, k ≤ 3 ∧ i = .int .i64 k) (fun i => 3 - (intOf i).toNat)
  case atStart => exact ⟨0, by omega, rfl⟩
  case round =>
    obtain ⟨k, hk, rfl⟩ := hrel
    have hc : k = 0 ∨ k = 1 ∨ k = 2 ∨ k = 3 := by omega
    clear hk
    rcases hc with rfl | rfl | rfl | rfl
    · have ix := index_at0 w
      go_wp2_with (go_at_call 82; refine (words_any _ _ (by omega) (by omega)).mono ?_; rintro e w1 ⟨rfl, rfl⟩)
      go_round
      case rel => exact ⟨1, by omega, by go_num⟩
      case measure => simp [intOf]
    · have ix := index_at1 w
      go_wp2_with (go_at_call 82; refine (words_any _ _ (by omega) (by omega)).mono ?_; rintro e w1 ⟨rfl, rfl⟩)
      go_round
      case rel => exact ⟨2, by omega, by go_num⟩
      case measure => simp [intOf]
    · have ix := index_at2 w
      go_wp2_with (go_at_call 82; refine (words_any _ _ (by omega) (by omega)).mono ?_; rintro e w1 ⟨rfl, rfl⟩)
      go_round
      case rel => exact ⟨3, by omega, by go_num⟩
      case measure => simp [intOf]
    · go_wp2
      go_ret2
      exact ⟨rfl, rfl⟩
end Go.Proofs.YtdmclfolooiccaaGreatDoor.Cl
end
section
namespace Go.Proofs.YtdmclfolooiccaaGreatDoor.Cl
open Go.Proofs.YtdmclfolooiccaaGreatDoor
set_option maxRecDepth 100000
open Go.RowKit

/-- A cell's words, by its class. -/
def wordsOf (c : Int) : Int := if c = 0 then 2 else if c = 1 then 4 else if c = 2 then 8 else 0
/-- How many cells of a class a page has. -/
def perPage (c : Int) : Int := if c = 0 then 8 else if c = 1 then 4 else if c = 2 then 2 else 0
theorem wordsOf_no {c : Int} (h : c < 0 ∨ 2 < c) : wordsOf c = 0 := by
  unfold wordsOf
  rw [if_neg (by omega), if_neg (by omega), if_neg (by omega)]
theorem perPage_no {c : Int} (h : c < 0 ∨ 2 < c) : perPage c = 0 := by
  unfold perPage
  rw [if_neg (by omega), if_neg (by omega), if_neg (by omega)]
/-- The class, the pages, and the errors, by the number of fields. -/
def classOf (n : Int) : Int := if n < 1 ∨ 63 < n then 0 else if n ≤ 1 then 0 else if n ≤ 3 then 1 else if n ≤ 7 then 2 else 3
def classErr (n : Int) : Int := if n < 1 then 1 else if 63 < n then 2 else 0
def runOf (n : Int) : Int := if n < 8 ∨ 63 < n then 0 else if n ≤ 15 then 1 else if n ≤ 31 then 2 else if n ≤ 47 then 3 else 4
def runErr (n : Int) : Int := if n < 1 then 1 else if 63 < n then 2 else if n ≤ 7 then 3 else 0
theorem words_at0 (w : World) (hz : Sz w) :
    Calls Tryz.prog 138 #[.int .i64 0] w fun e w' => e = .returned (.int .i64 2) ∧ w = w' := by
  obtain ⟨z0, z1, z2⟩ := hz
  go_enter Tryz.func138, Tryz.ntmps138
  go_wp2
  go_ret
  exact ⟨rfl, rfl⟩
theorem words_at1 (w : World) (hz : Sz w) :
    Calls Tryz.prog 138 #[.int .i64 1] w fun e w' => e = .returned (.int .i64 4) ∧ w = w' := by
  obtain ⟨z0, z1, z2⟩ := hz
  go_enter Tryz.func138, Tryz.ntmps138
  go_wp2
  go_ret
  exact ⟨rfl, rfl⟩
theorem words_at2 (w : World) (hz : Sz w) :
    Calls Tryz.prog 138 #[.int .i64 2] w fun e w' => e = .returned (.int .i64 8) ∧ w = w' := by
  obtain ⟨z0, z1, z2⟩ := hz
  go_enter Tryz.func138, Tryz.ntmps138
  go_wp2
  go_ret
  exact ⟨rfl, rfl⟩
theorem words_low (c : Int) (w : World) (h : c < 0) :
    Calls Tryz.prog 138 #[.int .i64 c] w fun e w' => e = .returned (.int .i64 0) ∧ w = w' := by
  go_enter Tryz.func138, Tryz.ntmps138
  go_wp2
  go_ret
  exact ⟨rfl, rfl⟩
theorem words_high (c : Int) (w : World) (h : 2 < c) :
    Calls Tryz.prog 138 #[.int .i64 c] w fun e w' => e = .returned (.int .i64 0) ∧ w = w' := by
  have d : (3 : Int) ≤ c := by omega
  have d0 : ¬ c < 0 := by omega
  go_enter Tryz.func138, Tryz.ntmps138
  go_wp2
  go_ret
  exact ⟨rfl, rfl⟩
theorem words_of (c : Int) (w : World) (hz : Sz w) :
    Calls Tryz.prog 138 #[.int .i64 c] w fun e w' => e = .returned (.int .i64 (wordsOf c)) ∧ w = w' := by
  by_cases h : c < 0 ∨ 2 < c
  · rw [wordsOf_no h]
    rcases h with h | h
    · exact words_low c w h
    · exact words_high c w h
  · have hc : c = 0 ∨ c = 1 ∨ c = 2 := by omega
    clear h
    rcases hc with rfl | rfl | rfl
    · exact words_at0 w hz
    · exact words_at1 w hz
    · exact words_at2 w hz
theorem cells_at0 (w : World) (hz : Sz w) :
    Calls Tryz.prog 137 #[.int .i64 0] w fun e w' => e = .returned (.int .i64 8) ∧ w = w' := by
  have H := Lib.hid hz
  clear hz
  go_enter Tryz.func137, Tryz.ntmps137
  go_wp2_with (go_at_call 138; (with_reducible refine (words_at0 _ H.out).mono ?_); rintro e w1 ⟨rfl, rfl⟩)
  go_ret
  exact ⟨rfl, rfl⟩
theorem cells_at1 (w : World) (hz : Sz w) :
    Calls Tryz.prog 137 #[.int .i64 1] w fun e w' => e = .returned (.int .i64 4) ∧ w = w' := by
  have H := Lib.hid hz
  clear hz
  go_enter Tryz.func137, Tryz.ntmps137
  go_wp2_with (go_at_call 138; (with_reducible refine (words_at1 _ H.out).mono ?_); rintro e w1 ⟨rfl, rfl⟩)
  go_ret
  exact ⟨rfl, rfl⟩
theorem cells_at2 (w : World) (hz : Sz w) :
    Calls Tryz.prog 137 #[.int .i64 2] w fun e w' => e = .returned (.int .i64 2) ∧ w = w' := by
  have H := Lib.hid hz
  clear hz
  go_enter Tryz.func137, Tryz.ntmps137
  go_wp2_with (go_at_call 138; (with_reducible refine (words_at2 _ H.out).mono ?_); rintro e w1 ⟨rfl, rfl⟩)
  go_ret
  exact ⟨rfl, rfl⟩
theorem cells_low (c : Int) (w : World) (h : c < 0) :
    Calls Tryz.prog 137 #[.int .i64 c] w fun e w' => e = .returned (.int .i64 0) ∧ w = w' := by
  go_enter Tryz.func137, Tryz.ntmps137
  go_wp2_with (go_at_call 138; (with_reducible refine (words_low _ _ h).mono ?_); rintro e w1 ⟨rfl, rfl⟩)
  go_ret
  exact ⟨rfl, rfl⟩
theorem cells_high (c : Int) (w : World) (h : 2 < c) :
    Calls Tryz.prog 137 #[.int .i64 c] w fun e w' => e = .returned (.int .i64 0) ∧ w = w' := by
  go_enter Tryz.func137, Tryz.ntmps137
  go_wp2_with (go_at_call 138; (with_reducible refine (words_high _ _ h).mono ?_); rintro e w1 ⟨rfl, rfl⟩)
  go_ret
  exact ⟨rfl, rfl⟩
theorem cells_of (c : Int) (w : World) (hz : Sz w) :
    Calls Tryz.prog 137 #[.int .i64 c] w fun e w' => e = .returned (.int .i64 (perPage c)) ∧ w = w' := by
  by_cases h : c < 0 ∨ 2 < c
  · rw [perPage_no h]
    rcases h with h | h
    · exact cells_low c w h
    · exact cells_high c w h
  · have hc : c = 0 ∨ c = 1 ∨ c = 2 := by omega
    clear h
    rcases hc with rfl | rfl | rfl
    · exact cells_at0 w hz
    · exact cells_at1 w hz
    · exact cells_at2 w hz
theorem of_of (n : Int) (w : World) (hz : Sz w) :
    Calls Tryz.prog 53 #[.int .i64 n] w fun e w' => e = .returned (.tuple #[.int .i64 (classOf n), .int .i64 (classErr n)]) ∧ w = w' := by
  have key : ∀ {a b : Int}, classOf n = a → classErr n = b → Calls Tryz.prog 53 #[.int .i64 n] w (fun e w' => e = .returned (.tuple #[.int .i64 a, .int .i64 b]) ∧ w = w') → Calls Tryz.prog 53 #[.int .i64 n] w (fun e w' => e = .returned (.tuple #[.int .i64 (classOf n), .int .i64 (classErr n)]) ∧ w = w') := by
    intro a b h1 h2 h3
    rw [h1, h2]
    exact h3
  by_cases c1 : n < 1
  · exact key (by simp [classOf, c1]) (by simp [classErr, c1]) (of_low n w c1)
  by_cases c2 : 63 < n
  · exact key (by simp [classOf, c2]) (by simp [classErr, c1, c2]) (of_high n w c2)
  by_cases c3 : n ≤ 1
  · exact key (by simp [classOf, c1, c2, c3]) (by simp [classErr, c1, c2]) (of_0 n w hz (by omega) c3)
  by_cases c4 : n ≤ 3
  · exact key (by simp [classOf, c1, c2, c3, c4]) (by simp [classErr, c1, c2]) (of_1 n w hz (by omega) c4)
  by_cases c5 : n ≤ 7
  · exact key (by simp [classOf, c1, c2, c3, c4, c5]) (by simp [classErr, c1, c2]) (of_2 n w hz (by omega) c5)
  exact key (by simp [classOf, c1, c2, c3, c4, c5]) (by simp [classErr, c1, c2]) (of_3 n w hz (by omega) (by omega))
theorem run_low (n : Int) (w : World) (h : n < 1) :
    Calls Tryz.prog 78 #[.int .i64 n] w fun e w' => e = .returned (.tuple #[.int .i64 0, .int .i64 1]) ∧ w = w' := by
  go_enter Tryz.func78, Tryz.ntmps78
  go_wp2_with (go_at_call 53; (with_reducible refine (of_low _ _ h).mono ?_); rintro e w1 ⟨rfl, rfl⟩)
  go_ret2
  exact ⟨rfl, rfl⟩
theorem run_high (n : Int) (w : World) (h : 63 < n) :
    Calls Tryz.prog 78 #[.int .i64 n] w fun e w' => e = .returned (.tuple #[.int .i64 0, .int .i64 2]) ∧ w = w' := by
  go_enter Tryz.func78, Tryz.ntmps78
  go_wp2_with (go_at_call 53; (with_reducible refine (of_high _ _ h).mono ?_); rintro e w1 ⟨rfl, rfl⟩)
  go_ret2
  exact ⟨rfl, rfl⟩
theorem run_s0 (n : Int) (w : World) (hz : Sz w) (h0 : 1 ≤ n) (h1 : n ≤ 1) :
    Calls Tryz.prog 78 #[.int .i64 n] w fun e w' => e = .returned (.tuple #[.int .i64 0, .int .i64 3]) ∧ w = w' := by
  have H := Lib.hid hz
  clear hz
  go_enter Tryz.func78, Tryz.ntmps78
  go_wp2_with (go_at_call 53; (with_reducible refine (of_0 _ _ H.out h0 h1).mono ?_); rintro e w1 ⟨rfl, rfl⟩)
  go_ret2
  exact ⟨rfl, rfl⟩
theorem run_s1 (n : Int) (w : World) (hz : Sz w) (h0 : 2 ≤ n) (h1 : n ≤ 3) :
    Calls Tryz.prog 78 #[.int .i64 n] w fun e w' => e = .returned (.tuple #[.int .i64 0, .int .i64 3]) ∧ w = w' := by
  have H := Lib.hid hz
  clear hz
  go_enter Tryz.func78, Tryz.ntmps78
  go_wp2_with (go_at_call 53; (with_reducible refine (of_1 _ _ H.out h0 h1).mono ?_); rintro e w1 ⟨rfl, rfl⟩)
  go_ret2
  exact ⟨rfl, rfl⟩
theorem run_s2 (n : Int) (w : World) (hz : Sz w) (h0 : 4 ≤ n) (h1 : n ≤ 7) :
    Calls Tryz.prog 78 #[.int .i64 n] w fun e w' => e = .returned (.tuple #[.int .i64 0, .int .i64 3]) ∧ w = w' := by
  have H := Lib.hid hz
  clear hz
  go_enter Tryz.func78, Tryz.ntmps78
  go_wp2_with (go_at_call 53; (with_reducible refine (of_2 _ _ H.out h0 h1).mono ?_); rintro e w1 ⟨rfl, rfl⟩)
  go_ret2
  exact ⟨rfl, rfl⟩
theorem run_1part (n : Int) (w : World) (hz : Sz w) (h0 : 8 ≤ n) (h1 : n ≤ 14) :
    Calls Tryz.prog 78 #[.int .i64 n] w fun e w' => e = .returned (.tuple #[.int .i64 1, .int .i64 0]) ∧ w = w' := by
  have H := Lib.hid hz
  clear hz
  have q : (1 + n) / 16 = 0 := by omega
  have r : 0 < (1 + n) % 16 := by omega
  go_enter Tryz.func78, Tryz.ntmps78
  go_wp2_with (first | ((go_at_call 53; (with_reducible refine (of_3 _ _ H.out (by omega) (by omega)).mono ?_); rintro e w1 ⟨rfl, rfl⟩)) | ((go_at_call 82; (with_reducible refine (words_any _ _ (by omega) (by omega)).mono ?_); rintro e w1 ⟨rfl, rfl⟩)))
  go_ret2
  exact ⟨rfl, rfl⟩
theorem run_1full (w : World) (hz : Sz w) :
    Calls Tryz.prog 78 #[.int .i64 15] w fun e w' => e = .returned (.tuple #[.int .i64 1, .int .i64 0]) ∧ w = w' := by
  have H := Lib.hid hz
  clear hz
  go_enter Tryz.func78, Tryz.ntmps78
  go_wp2_with (first | ((go_at_call 53; (with_reducible refine (of_3 _ _ H.out (by omega) (by omega)).mono ?_); rintro e w1 ⟨rfl, rfl⟩)) | ((go_at_call 82; (with_reducible refine (words_any _ _ (by omega) (by omega)).mono ?_); rintro e w1 ⟨rfl, rfl⟩)))
  go_ret2
  exact ⟨rfl, rfl⟩
theorem run_1 (n : Int) (w : World) (hz : Sz w) (h0 : 8 ≤ n) (h1 : n ≤ 15) :
    Calls Tryz.prog 78 #[.int .i64 n] w fun e w' => e = .returned (.tuple #[.int .i64 1, .int .i64 0]) ∧ w = w' := by
  by_cases h : n = 15
  · subst h
    exact run_1full w hz
  · exact run_1part n w hz h0 (by omega)
theorem run_2part (n : Int) (w : World) (hz : Sz w) (h0 : 16 ≤ n) (h1 : n ≤ 30) :
    Calls Tryz.prog 78 #[.int .i64 n] w fun e w' => e = .returned (.tuple #[.int .i64 2, .int .i64 0]) ∧ w = w' := by
  have H := Lib.hid hz
  clear hz
  have q : (1 + n) / 16 = 1 := by omega
  have r : 0 < (1 + n) % 16 := by omega
  go_enter Tryz.func78, Tryz.ntmps78
  go_wp2_with (first | ((go_at_call 53; (with_reducible refine (of_3 _ _ H.out (by omega) (by omega)).mono ?_); rintro e w1 ⟨rfl, rfl⟩)) | ((go_at_call 82; (with_reducible refine (words_any _ _ (by omega) (by omega)).mono ?_); rintro e w1 ⟨rfl, rfl⟩)))
  go_ret2
  exact ⟨rfl, rfl⟩
theorem run_2full (w : World) (hz : Sz w) :
    Calls Tryz.prog 78 #[.int .i64 31] w fun e w' => e = .returned (.tuple #[.int .i64 2, .int .i64 0]) ∧ w = w' := by
  have H := Lib.hid hz
  clear hz
  go_enter Tryz.func78, Tryz.ntmps78
  go_wp2_with (first | ((go_at_call 53; (with_reducible refine (of_3 _ _ H.out (by omega) (by omega)).mono ?_); rintro e w1 ⟨rfl, rfl⟩)) | ((go_at_call 82; (with_reducible refine (words_any _ _ (by omega) (by omega)).mono ?_); rintro e w1 ⟨rfl, rfl⟩)))
  go_ret2
  exact ⟨rfl, rfl⟩
theorem run_2 (n : Int) (w : World) (hz : Sz w) (h0 : 16 ≤ n) (h1 : n ≤ 31) :
    Calls Tryz.prog 78 #[.int .i64 n] w fun e w' => e = .returned (.tuple #[.int .i64 2, .int .i64 0]) ∧ w = w' := by
  by_cases h : n = 31
  · subst h
    exact run_2full w hz
  · exact run_2part n w hz h0 (by omega)
theorem run_3part (n : Int) (w : World) (hz : Sz w) (h0 : 32 ≤ n) (h1 : n ≤ 46) :
    Calls Tryz.prog 78 #[.int .i64 n] w fun e w' => e = .returned (.tuple #[.int .i64 3, .int .i64 0]) ∧ w = w' := by
  have H := Lib.hid hz
  clear hz
  have q : (1 + n) / 16 = 2 := by omega
  have r : 0 < (1 + n) % 16 := by omega
  go_enter Tryz.func78, Tryz.ntmps78
  go_wp2_with (first | ((go_at_call 53; (with_reducible refine (of_3 _ _ H.out (by omega) (by omega)).mono ?_); rintro e w1 ⟨rfl, rfl⟩)) | ((go_at_call 82; (with_reducible refine (words_any _ _ (by omega) (by omega)).mono ?_); rintro e w1 ⟨rfl, rfl⟩)))
  go_ret2
  exact ⟨rfl, rfl⟩
theorem run_3full (w : World) (hz : Sz w) :
    Calls Tryz.prog 78 #[.int .i64 47] w fun e w' => e = .returned (.tuple #[.int .i64 3, .int .i64 0]) ∧ w = w' := by
  have H := Lib.hid hz
  clear hz
  go_enter Tryz.func78, Tryz.ntmps78
  go_wp2_with (first | ((go_at_call 53; (with_reducible refine (of_3 _ _ H.out (by omega) (by omega)).mono ?_); rintro e w1 ⟨rfl, rfl⟩)) | ((go_at_call 82; (with_reducible refine (words_any _ _ (by omega) (by omega)).mono ?_); rintro e w1 ⟨rfl, rfl⟩)))
  go_ret2
  exact ⟨rfl, rfl⟩
theorem run_3 (n : Int) (w : World) (hz : Sz w) (h0 : 32 ≤ n) (h1 : n ≤ 47) :
    Calls Tryz.prog 78 #[.int .i64 n] w fun e w' => e = .returned (.tuple #[.int .i64 3, .int .i64 0]) ∧ w = w' := by
  by_cases h : n = 47
  · subst h
    exact run_3full w hz
  · exact run_3part n w hz h0 (by omega)
theorem run_4part (n : Int) (w : World) (hz : Sz w) (h0 : 48 ≤ n) (h1 : n ≤ 62) :
    Calls Tryz.prog 78 #[.int .i64 n] w fun e w' => e = .returned (.tuple #[.int .i64 4, .int .i64 0]) ∧ w = w' := by
  have H := Lib.hid hz
  clear hz
  have q : (1 + n) / 16 = 3 := by omega
  have r : 0 < (1 + n) % 16 := by omega
  go_enter Tryz.func78, Tryz.ntmps78
  go_wp2_with (first | ((go_at_call 53; (with_reducible refine (of_3 _ _ H.out (by omega) (by omega)).mono ?_); rintro e w1 ⟨rfl, rfl⟩)) | ((go_at_call 82; (with_reducible refine (words_any _ _ (by omega) (by omega)).mono ?_); rintro e w1 ⟨rfl, rfl⟩)))
  go_ret2
  exact ⟨rfl, rfl⟩
theorem run_4full (w : World) (hz : Sz w) :
    Calls Tryz.prog 78 #[.int .i64 63] w fun e w' => e = .returned (.tuple #[.int .i64 4, .int .i64 0]) ∧ w = w' := by
  have H := Lib.hid hz
  clear hz
  go_enter Tryz.func78, Tryz.ntmps78
  go_wp2_with (first | ((go_at_call 53; (with_reducible refine (of_3 _ _ H.out (by omega) (by omega)).mono ?_); rintro e w1 ⟨rfl, rfl⟩)) | ((go_at_call 82; (with_reducible refine (words_any _ _ (by omega) (by omega)).mono ?_); rintro e w1 ⟨rfl, rfl⟩)))
  go_ret2
  exact ⟨rfl, rfl⟩
theorem run_4 (n : Int) (w : World) (hz : Sz w) (h0 : 48 ≤ n) (h1 : n ≤ 63) :
    Calls Tryz.prog 78 #[.int .i64 n] w fun e w' => e = .returned (.tuple #[.int .i64 4, .int .i64 0]) ∧ w = w' := by
  by_cases h : n = 63
  · subst h
    exact run_4full w hz
  · exact run_4part n w hz h0 (by omega)
theorem run_of (n : Int) (w : World) (hz : Sz w) :
    Calls Tryz.prog 78 #[.int .i64 n] w fun e w' => e = .returned (.tuple #[.int .i64 (runOf n), .int .i64 (runErr n)]) ∧ w = w' := by
  have key : ∀ {a b : Int}, runOf n = a → runErr n = b → Calls Tryz.prog 78 #[.int .i64 n] w (fun e w' => e = .returned (.tuple #[.int .i64 a, .int .i64 b]) ∧ w = w') → Calls Tryz.prog 78 #[.int .i64 n] w (fun e w' => e = .returned (.tuple #[.int .i64 (runOf n), .int .i64 (runErr n)]) ∧ w = w') := by
    intro a b h1 h2 h3
    rw [h1, h2]
    exact h3
  by_cases c1 : n < 1
  · exact key (by unfold runOf; rw [if_pos (by omega)]) (by unfold runErr; rw [if_pos (by omega)]) (run_low n w c1)
  by_cases c2 : 63 < n
  · exact key (by unfold runOf; rw [if_pos (by omega)]) (by unfold runErr; rw [if_neg (by omega), if_pos (by omega)]) (run_high n w c2)
  by_cases d0 : n ≤ 1
  · exact key (by unfold runOf; rw [if_pos (by omega)]) (by unfold runErr; rw [if_neg (by omega), if_neg (by omega), if_pos (by omega)]) (run_s0 n w hz (by omega) d0)
  by_cases d1 : n ≤ 3
  · exact key (by unfold runOf; rw [if_pos (by omega)]) (by unfold runErr; rw [if_neg (by omega), if_neg (by omega), if_pos (by omega)]) (run_s1 n w hz (by omega) d1)
  by_cases d2 : n ≤ 7
  · exact key (by unfold runOf; rw [if_pos (by omega)]) (by unfold runErr; rw [if_neg (by omega), if_neg (by omega), if_pos (by omega)]) (run_s2 n w hz (by omega) d2)
  by_cases e1 : n ≤ 15
  · exact key (by unfold runOf; rw [if_neg (by omega), if_pos (by omega)]) (by unfold runErr; rw [if_neg (by omega), if_neg (by omega), if_neg (by omega)]) (run_1 n w hz (by omega) e1)
  by_cases e2 : n ≤ 31
  · exact key (by unfold runOf; rw [if_neg (by omega), if_neg (by omega), if_pos (by omega)]) (by unfold runErr; rw [if_neg (by omega), if_neg (by omega), if_neg (by omega)]) (run_2 n w hz (by omega) e2)
  by_cases e3 : n ≤ 47
  · exact key (by unfold runOf; rw [if_neg (by omega), if_neg (by omega), if_neg (by omega), if_pos (by omega)]) (by unfold runErr; rw [if_neg (by omega), if_neg (by omega), if_neg (by omega)]) (run_3 n w hz (by omega) e3)
  exact key (by unfold runOf; rw [if_neg (by omega), if_neg (by omega), if_neg (by omega), if_neg (by omega)]) (by unfold runErr; rw [if_neg (by omega), if_neg (by omega), if_neg (by omega)]) (run_4 n w hz (by omega) (by omega))
end Go.Proofs.YtdmclfolooiccaaGreatDoor.Cl
end
section
namespace Go.Proofs.YtdmclfolooiccaaGreatDoor.Cl
open Go.Proofs.YtdmclfolooiccaaGreatDoor
set_option maxRecDepth 100000
open Go.RowKit

theorem rwords_at0 (w : World) :
    Calls Tryz.prog 66 #[.int .i64 0] w fun e w' => e = .returned (.int .i64 2) ∧ w = w' := by
  go_enter Tryz.func66, Tryz.ntmps66
  go_wp2
  go_ret
  exact ⟨rfl, rfl⟩
theorem rwords_at1 (w : World) :
    Calls Tryz.prog 66 #[.int .i64 1] w fun e w' => e = .returned (.int .i64 4) ∧ w = w' := by
  go_enter Tryz.func66, Tryz.ntmps66
  go_wp2
  go_ret
  exact ⟨rfl, rfl⟩
theorem rwords_at2 (w : World) :
    Calls Tryz.prog 66 #[.int .i64 2] w fun e w' => e = .returned (.int .i64 8) ∧ w = w' := by
  go_enter Tryz.func66, Tryz.ntmps66
  go_wp2
  go_ret
  exact ⟨rfl, rfl⟩
theorem rwords_low (c : Int) (w : World) (h : c < 0) :
    Calls Tryz.prog 66 #[.int .i64 c] w fun e w' => e = .returned (.int .i64 0) ∧ w = w' := by
  have b0 : (c == 0) = false := by simp; omega
  have b1 : (c == 1) = false := by simp; omega
  have b2 : (c == 2) = false := by simp; omega
  go_enter Tryz.func66, Tryz.ntmps66
  go_wp2
  go_ret
  exact ⟨rfl, rfl⟩
theorem rwords_high (c : Int) (w : World) (h : 2 < c) :
    Calls Tryz.prog 66 #[.int .i64 c] w fun e w' => e = .returned (.int .i64 0) ∧ w = w' := by
  have b0 : (c == 0) = false := by simp; omega
  have b1 : (c == 1) = false := by simp; omega
  have b2 : (c == 2) = false := by simp; omega
  go_enter Tryz.func66, Tryz.ntmps66
  go_wp2
  go_ret
  exact ⟨rfl, rfl⟩
theorem rwords_of (c : Int) (w : World) :
    Calls Tryz.prog 66 #[.int .i64 c] w fun e w' => e = .returned (.int .i64 (wordsOf c)) ∧ w = w' := by
  by_cases h : c < 0 ∨ 2 < c
  · rw [wordsOf_no h]
    rcases h with h | h
    · exact rwords_low c w h
    · exact rwords_high c w h
  · have hc : c = 0 ∨ c = 1 ∨ c = 2 := by omega
    clear h
    rcases hc with rfl | rfl | rfl
    · exact rwords_at0 w
    · exact rwords_at1 w
    · exact rwords_at2 w
theorem rof_low (n : Int) (w : World) (h : n < 1) :
    Calls Tryz.prog 26 #[.int .i64 n] w fun e w' => e = .returned (.tuple #[.int .i64 0, .int .i64 1]) ∧ w = w' := by
  go_enter Tryz.func26, Tryz.ntmps26
  go_wp2
  go_ret2
  exact ⟨rfl, rfl⟩
theorem rof_high (n : Int) (w : World) (h : 63 < n) :
    Calls Tryz.prog 26 #[.int .i64 n] w fun e w' => e = .returned (.tuple #[.int .i64 0, .int .i64 2]) ∧ w = w' := by
  go_enter Tryz.func26, Tryz.ntmps26
  go_wp2
  go_ret2
  exact ⟨rfl, rfl⟩
theorem rof_0 (n : Int) (w : World) (h0 : 1 ≤ n) (h1 : n ≤ 1) :
    Calls Tryz.prog 26 #[.int .i64 n] w fun e w' => e = .returned (.tuple #[.int .i64 0, .int .i64 0]) ∧ w = w' := by
  have d1 : decide (n < 1) = false := by simp; omega
  have d2 : decide (63 < n) = false := by simp; omega
  go_enter Tryz.func26, Tryz.ntmps26
  go_wp2
  go_loop [4] (fun i => ∃ k : Nat, k ≤ 0 ∧ i = .int .i64 k) (fun i => 3 - (intOf i).toNat)
  case atStart => exact ⟨0, by omega, rfl⟩
  case round =>
    obtain ⟨k, hk, rfl⟩ := hrel
    have hc : k = 0 := by omega
    clear hk
    subst hc
    · have t : decide (n + 1 ≤ (2 : Int)) = true := by simp; omega
      go_wp2_with (go_at_call 66; (with_reducible refine (rwords_at0 _).mono ?_); rintro e w1 ⟨rfl, rfl⟩)
      go_ret2
      exact ⟨rfl, rfl⟩
theorem rof_1 (n : Int) (w : World) (h0 : 2 ≤ n) (h1 : n ≤ 3) :
    Calls Tryz.prog 26 #[.int .i64 n] w fun e w' => e = .returned (.tuple #[.int .i64 1, .int .i64 0]) ∧ w = w' := by
  have d1 : decide (n < 1) = false := by simp; omega
  have d2 : decide (63 < n) = false := by simp; omega
  go_enter Tryz.func26, Tryz.ntmps26
  go_wp2
  go_loop [4] (fun i => ∃ k : Nat, k ≤ 1 ∧ i = .int .i64 k) (fun i => 3 - (intOf i).toNat)
  case atStart => exact ⟨0, by omega, rfl⟩
  case round =>
    obtain ⟨k, hk, rfl⟩ := hrel
    have hc : k = 0 ∨ k = 1 := by omega
    clear hk
    rcases hc with rfl | rfl
    · have t : decide (n + 1 ≤ (2 : Int)) = false := by simp; omega
      go_wp2_with (go_at_call 66; (with_reducible refine (rwords_at0 _).mono ?_); rintro e w1 ⟨rfl, rfl⟩)
      go_round
      case rel => exact ⟨1, by omega, by go_num⟩
      case measure => simp [intOf]
    · have t : decide (n + 1 ≤ (4 : Int)) = true := by simp; omega
      go_wp2_with (go_at_call 66; (with_reducible refine (rwords_at1 _).mono ?_); rintro e w1 ⟨rfl, rfl⟩)
      go_ret2
      exact ⟨rfl, rfl⟩
theorem rof_2 (n : Int) (w : World) (h0 : 4 ≤ n) (h1 : n ≤ 7) :
    Calls Tryz.prog 26 #[.int .i64 n] w fun e w' => e = .returned (.tuple #[.int .i64 2, .int .i64 0]) ∧ w = w' := by
  have d1 : decide (n < 1) = false := by simp; omega
  have d2 : decide (63 < n) = false := by simp; omega
  go_enter Tryz.func26, Tryz.ntmps26
  go_wp2
  go_loop [4] (fun i => ∃ k : Nat, k ≤ 2 ∧ i = .int .i64 k) (fun i => 3 - (intOf i).toNat)
  case atStart => exact ⟨0, by omega, rfl⟩
  case round =>
    obtain ⟨k, hk, rfl⟩ := hrel
    have hc : k = 0 ∨ k = 1 ∨ k = 2 := by omega
    clear hk
    rcases hc with rfl | rfl | rfl
    · have t : decide (n + 1 ≤ (2 : Int)) = false := by simp; omega
      go_wp2_with (go_at_call 66; (with_reducible refine (rwords_at0 _).mono ?_); rintro e w1 ⟨rfl, rfl⟩)
      go_round
      case rel => exact ⟨1, by omega, by go_num⟩
      case measure => simp [intOf]
    · have t : decide (n + 1 ≤ (4 : Int)) = false := by simp; omega
      go_wp2_with (go_at_call 66; (with_reducible refine (rwords_at1 _).mono ?_); rintro e w1 ⟨rfl, rfl⟩)
      go_round
      case rel => exact ⟨2, by omega, by go_num⟩
      case measure => simp [intOf]
    · have t : decide (n + 1 ≤ (8 : Int)) = true := by simp; omega
      go_wp2_with (go_at_call 66; (with_reducible refine (rwords_at2 _).mono ?_); rintro e w1 ⟨rfl, rfl⟩)
      go_ret2
      exact ⟨rfl, rfl⟩
theorem rof_3 (n : Int) (w : World) (h0 : 8 ≤ n) (h1 : n ≤ 63) :
    Calls Tryz.prog 26 #[.int .i64 n] w fun e w' => e = .returned (.tuple #[.int .i64 3, .int .i64 0]) ∧ w = w' := by
  have d1 : decide (n < 1) = false := by simp; omega
  have d2 : decide (63 < n) = false := by simp; omega
  go_enter Tryz.func26, Tryz.ntmps26
  go_wp2
  go_loop [4] (fun i => ∃ k : Nat, k ≤ 3 ∧ i = .int .i64 k) (fun i => 3 - (intOf i).toNat)
  case atStart => exact ⟨0, by omega, rfl⟩
  case round =>
    obtain ⟨k, hk, rfl⟩ := hrel
    have hc : k = 0 ∨ k = 1 ∨ k = 2 ∨ k = 3 := by omega
    clear hk
    rcases hc with rfl | rfl | rfl | rfl
    · have t : decide (n + 1 ≤ (2 : Int)) = false := by simp; omega
      go_wp2_with (go_at_call 66; (with_reducible refine (rwords_at0 _).mono ?_); rintro e w1 ⟨rfl, rfl⟩)
      go_round
      case rel => exact ⟨1, by omega, by go_num⟩
      case measure => simp [intOf]
    · have t : decide (n + 1 ≤ (4 : Int)) = false := by simp; omega
      go_wp2_with (go_at_call 66; (with_reducible refine (rwords_at1 _).mono ?_); rintro e w1 ⟨rfl, rfl⟩)
      go_round
      case rel => exact ⟨2, by omega, by go_num⟩
      case measure => simp [intOf]
    · have t : decide (n + 1 ≤ (8 : Int)) = false := by simp; omega
      go_wp2_with (go_at_call 66; (with_reducible refine (rwords_at2 _).mono ?_); rintro e w1 ⟨rfl, rfl⟩)
      go_round
      case rel => exact ⟨3, by omega, by go_num⟩
      case measure => simp [intOf]
    · go_wp2
      go_ret2
      exact ⟨rfl, rfl⟩
theorem rof_of (n : Int) (w : World) :
    Calls Tryz.prog 26 #[.int .i64 n] w fun e w' => e = .returned (.tuple #[.int .i64 (classOf n), .int .i64 (classErr n)]) ∧ w = w' := by
  have key : ∀ {a b : Int}, classOf n = a → classErr n = b → Calls Tryz.prog 26 #[.int .i64 n] w (fun e w' => e = .returned (.tuple #[.int .i64 a, .int .i64 b]) ∧ w = w') → Calls Tryz.prog 26 #[.int .i64 n] w (fun e w' => e = .returned (.tuple #[.int .i64 (classOf n), .int .i64 (classErr n)]) ∧ w = w') := by
    intro a b h1 h2 h3
    rw [h1, h2]
    exact h3
  by_cases c1 : n < 1
  · exact key (by simp [classOf, c1]) (by simp [classErr, c1]) (rof_low n w c1)
  by_cases c2 : 63 < n
  · exact key (by simp [classOf, c2]) (by simp [classErr, c1, c2]) (rof_high n w c2)
  by_cases c3 : n ≤ 1
  · exact key (by simp [classOf, c1, c2, c3]) (by simp [classErr, c1, c2]) (rof_0 n w (by omega) c3)
  by_cases c4 : n ≤ 3
  · exact key (by simp [classOf, c1, c2, c3, c4]) (by simp [classErr, c1, c2]) (rof_1 n w (by omega) c4)
  by_cases c5 : n ≤ 7
  · exact key (by simp [classOf, c1, c2, c3, c4, c5]) (by simp [classErr, c1, c2]) (rof_2 n w (by omega) c5)
  exact key (by simp [classOf, c1, c2, c3, c4, c5]) (by simp [classErr, c1, c2]) (rof_3 n w (by omega) (by omega))
theorem rrun_low (n : Int) (w : World) (h : n < 1) :
    Calls Tryz.prog 27 #[.int .i64 n] w fun e w' => e = .returned (.tuple #[.int .i64 0, .int .i64 1]) ∧ w = w' := by
  go_enter Tryz.func27, Tryz.ntmps27
  go_wp2_with (go_at_call 26; (with_reducible refine (rof_low _ _ h).mono ?_); rintro e w1 ⟨rfl, rfl⟩)
  go_ret2
  exact ⟨rfl, rfl⟩
theorem rrun_high (n : Int) (w : World) (h : 63 < n) :
    Calls Tryz.prog 27 #[.int .i64 n] w fun e w' => e = .returned (.tuple #[.int .i64 0, .int .i64 2]) ∧ w = w' := by
  go_enter Tryz.func27, Tryz.ntmps27
  go_wp2_with (go_at_call 26; (with_reducible refine (rof_high _ _ h).mono ?_); rintro e w1 ⟨rfl, rfl⟩)
  go_ret2
  exact ⟨rfl, rfl⟩
theorem rrun_s0 (n : Int) (w : World) (h0 : 1 ≤ n) (h1 : n ≤ 1) :
    Calls Tryz.prog 27 #[.int .i64 n] w fun e w' => e = .returned (.tuple #[.int .i64 0, .int .i64 3]) ∧ w = w' := by
  go_enter Tryz.func27, Tryz.ntmps27
  go_wp2_with (go_at_call 26; (with_reducible refine (rof_0 _ _ h0 h1).mono ?_); rintro e w1 ⟨rfl, rfl⟩)
  go_ret2
  exact ⟨rfl, rfl⟩
theorem rrun_s1 (n : Int) (w : World) (h0 : 2 ≤ n) (h1 : n ≤ 3) :
    Calls Tryz.prog 27 #[.int .i64 n] w fun e w' => e = .returned (.tuple #[.int .i64 0, .int .i64 3]) ∧ w = w' := by
  go_enter Tryz.func27, Tryz.ntmps27
  go_wp2_with (go_at_call 26; (with_reducible refine (rof_1 _ _ h0 h1).mono ?_); rintro e w1 ⟨rfl, rfl⟩)
  go_ret2
  exact ⟨rfl, rfl⟩
theorem rrun_s2 (n : Int) (w : World) (h0 : 4 ≤ n) (h1 : n ≤ 7) :
    Calls Tryz.prog 27 #[.int .i64 n] w fun e w' => e = .returned (.tuple #[.int .i64 0, .int .i64 3]) ∧ w = w' := by
  go_enter Tryz.func27, Tryz.ntmps27
  go_wp2_with (go_at_call 26; (with_reducible refine (rof_2 _ _ h0 h1).mono ?_); rintro e w1 ⟨rfl, rfl⟩)
  go_ret2
  exact ⟨rfl, rfl⟩
theorem rrun_1 (n : Int) (w : World) (h0 : 8 ≤ n) (h1 : n ≤ 15) :
    Calls Tryz.prog 27 #[.int .i64 n] w fun e w' => e = .returned (.tuple #[.int .i64 1, .int .i64 0]) ∧ w = w' := by
  go_enter Tryz.func27, Tryz.ntmps27
  go_wp2_with (go_at_call 26; (with_reducible refine (rof_3 _ _ (by omega) (by omega)).mono ?_); rintro e w1 ⟨rfl, rfl⟩)
  go_loop [6] (fun i => ∃ k : Nat, k ≤ 1 ∧ i = .int .i64 k) (fun i => 4 - (intOf i).toNat)
  case atStart => exact ⟨0, by omega, rfl⟩
  case round =>
    obtain ⟨k, hk, rfl⟩ := hrel
    have hc : k = 0 ∨ k = 1 := by omega
    clear hk
    rcases hc with rfl | rfl
    · have t : decide ((0 : Int) < n + 1) = true := by simp; omega
      go_wp2
      go_round
      case rel => exact ⟨1, by omega, by go_num⟩
      case measure => simp [intOf]
    · have t : decide ((16 : Int) < n + 1) = false := by simp; omega
      go_wp2
      go_ret2
      exact ⟨rfl, rfl⟩
theorem rrun_2 (n : Int) (w : World) (h0 : 16 ≤ n) (h1 : n ≤ 31) :
    Calls Tryz.prog 27 #[.int .i64 n] w fun e w' => e = .returned (.tuple #[.int .i64 2, .int .i64 0]) ∧ w = w' := by
  go_enter Tryz.func27, Tryz.ntmps27
  go_wp2_with (go_at_call 26; (with_reducible refine (rof_3 _ _ (by omega) (by omega)).mono ?_); rintro e w1 ⟨rfl, rfl⟩)
  go_loop [6] (fun i => ∃ k : Nat, k ≤ 2 ∧ i = .int .i64 k) (fun i => 4 - (intOf i).toNat)
  case atStart => exact ⟨0, by omega, rfl⟩
  case round =>
    obtain ⟨k, hk, rfl⟩ := hrel
    have hc : k = 0 ∨ k = 1 ∨ k = 2 := by omega
    clear hk
    rcases hc with rfl | rfl | rfl
    · have t : decide ((0 : Int) < n + 1) = true := by simp; omega
      go_wp2
      go_round
      case rel => exact ⟨1, by omega, by go_num⟩
      case measure => simp [intOf]
    · have t : decide ((16 : Int) < n + 1) = true := by simp; omega
      go_wp2
      go_round
      case rel => exact ⟨2, by omega, by go_num⟩
      case measure => simp [intOf]
    · have t : decide ((32 : Int) < n + 1) = false := by simp; omega
      go_wp2
      go_ret2
      exact ⟨rfl, rfl⟩
theorem rrun_3 (n : Int) (w : World) (h0 : 32 ≤ n) (h1 : n ≤ 47) :
    Calls Tryz.prog 27 #[.int .i64 n] w fun e w' => e = .returned (.tuple #[.int .i64 3, .int .i64 0]) ∧ w = w' := by
  go_enter Tryz.func27, Tryz.ntmps27
  go_wp2_with (go_at_call 26; (with_reducible refine (rof_3 _ _ (by omega) (by omega)).mono ?_); rintro e w1 ⟨rfl, rfl⟩)
  go_loop [6] (fun i => ∃ k : Nat, k ≤ 3 ∧ i = .int .i64 k) (fun i => 4 - (intOf i).toNat)
  case atStart => exact ⟨0, by omega, rfl⟩
  case round =>
    obtain ⟨k, hk, rfl⟩ := hrel
    have hc : k = 0 ∨ k = 1 ∨ k = 2 ∨ k = 3 := by omega
    clear hk
    rcases hc with rfl | rfl | rfl | rfl
    · have t : decide ((0 : Int) < n + 1) = true := by simp; omega
      go_wp2
      go_round
      case rel => exact ⟨1, by omega, by go_num⟩
      case measure => simp [intOf]
    · have t : decide ((16 : Int) < n + 1) = true := by simp; omega
      go_wp2
      go_round
      case rel => exact ⟨2, by omega, by go_num⟩
      case measure => simp [intOf]
    · have t : decide ((32 : Int) < n + 1) = true := by simp; omega
      go_wp2
      go_round
      case rel => exact ⟨3, by omega, by go_num⟩
      case measure => simp [intOf]
    · have t : decide ((48 : Int) < n + 1) = false := by simp; omega
      go_wp2
      go_ret2
      exact ⟨rfl, rfl⟩
theorem rrun_4 (n : Int) (w : World) (h0 : 48 ≤ n) (h1 : n ≤ 63) :
    Calls Tryz.prog 27 #[.int .i64 n] w fun e w' => e = .returned (.tuple #[.int .i64 4, .int .i64 0]) ∧ w = w' := by
  go_enter Tryz.func27, Tryz.ntmps27
  go_wp2_with (go_at_call 26; (with_reducible refine (rof_3 _ _ (by omega) (by omega)).mono ?_); rintro e w1 ⟨rfl, rfl⟩)
  go_loop [6] (fun i => ∃ k : Nat, k ≤ 4 ∧ i = .int .i64 k) (fun i => 4 - (intOf i).toNat)
  case atStart => exact ⟨0, by omega, rfl⟩
  case round =>
    obtain ⟨k, hk, rfl⟩ := hrel
    have hc : k = 0 ∨ k = 1 ∨ k = 2 ∨ k = 3 ∨ k = 4 := by omega
    clear hk
    rcases hc with rfl | rfl | rfl | rfl | rfl
    · have t : decide ((0 : Int) < n + 1) = true := by simp; omega
      go_wp2
      go_round
      case rel => exact ⟨1, by omega, by go_num⟩
      case measure => simp [intOf]
    · have t : decide ((16 : Int) < n + 1) = true := by simp; omega
      go_wp2
      go_round
      case rel => exact ⟨2, by omega, by go_num⟩
      case measure => simp [intOf]
    · have t : decide ((32 : Int) < n + 1) = true := by simp; omega
      go_wp2
      go_round
      case rel => exact ⟨3, by omega, by go_num⟩
      case measure => simp [intOf]
    · have t : decide ((48 : Int) < n + 1) = true := by simp; omega
      go_wp2
      go_round
      case rel => exact ⟨4, by omega, by go_num⟩
      case measure => simp [intOf]
    · have t : decide ((64 : Int) < n + 1) = false := by simp; omega
      go_wp2
      go_ret2
      exact ⟨rfl, rfl⟩
theorem rrun_of (n : Int) (w : World) :
    Calls Tryz.prog 27 #[.int .i64 n] w fun e w' => e = .returned (.tuple #[.int .i64 (runOf n), .int .i64 (runErr n)]) ∧ w = w' := by
  have key : ∀ {a b : Int}, runOf n = a → runErr n = b → Calls Tryz.prog 27 #[.int .i64 n] w (fun e w' => e = .returned (.tuple #[.int .i64 a, .int .i64 b]) ∧ w = w') → Calls Tryz.prog 27 #[.int .i64 n] w (fun e w' => e = .returned (.tuple #[.int .i64 (runOf n), .int .i64 (runErr n)]) ∧ w = w') := by
    intro a b h1 h2 h3
    rw [h1, h2]
    exact h3
  by_cases c1 : n < 1
  · exact key (by unfold runOf; rw [if_pos (by omega)]) (by unfold runErr; rw [if_pos (by omega)]) (rrun_low n w c1)
  by_cases c2 : 63 < n
  · exact key (by unfold runOf; rw [if_pos (by omega)]) (by unfold runErr; rw [if_neg (by omega), if_pos (by omega)]) (rrun_high n w c2)
  by_cases d0 : n ≤ 1
  · exact key (by unfold runOf; rw [if_pos (by omega)]) (by unfold runErr; rw [if_neg (by omega), if_neg (by omega), if_pos (by omega)]) (rrun_s0 n w (by omega) d0)
  by_cases d1 : n ≤ 3
  · exact key (by unfold runOf; rw [if_pos (by omega)]) (by unfold runErr; rw [if_neg (by omega), if_neg (by omega), if_pos (by omega)]) (rrun_s1 n w (by omega) d1)
  by_cases d2 : n ≤ 7
  · exact key (by unfold runOf; rw [if_pos (by omega)]) (by unfold runErr; rw [if_neg (by omega), if_neg (by omega), if_pos (by omega)]) (rrun_s2 n w (by omega) d2)
  by_cases e1 : n ≤ 15
  · exact key (by unfold runOf; rw [if_neg (by omega), if_pos (by omega)]) (by unfold runErr; rw [if_neg (by omega), if_neg (by omega), if_neg (by omega)]) (rrun_1 n w (by omega) e1)
  by_cases e2 : n ≤ 31
  · exact key (by unfold runOf; rw [if_neg (by omega), if_neg (by omega), if_pos (by omega)]) (by unfold runErr; rw [if_neg (by omega), if_neg (by omega), if_neg (by omega)]) (rrun_2 n w (by omega) e2)
  by_cases e3 : n ≤ 47
  · exact key (by unfold runOf; rw [if_neg (by omega), if_neg (by omega), if_neg (by omega), if_pos (by omega)]) (by unfold runErr; rw [if_neg (by omega), if_neg (by omega), if_neg (by omega)]) (rrun_3 n w (by omega) e3)
  exact key (by unfold runOf; rw [if_neg (by omega), if_neg (by omega), if_neg (by omega), if_neg (by omega)]) (by unfold runErr; rw [if_neg (by omega), if_neg (by omega), if_neg (by omega)]) (rrun_4 n w (by omega) (by omega))
end Go.Proofs.YtdmclfolooiccaaGreatDoor.Cl
end
section
namespace Go.Proofs.YtdmclfolooiccaaGreatDoor
open Go.RowKit
set_option maxRecDepth 100000

/-- The box of a heap. -/
structure HBox (W : World) (b : Nat) (s : Hs) : Prop where
  c0 : W.cell? ⟨b, 0, none⟩ = some (.slice s.w.a s.w.n s.w.c)
  c1 : W.cell? ⟨b, 1, none⟩ = some (.slice s.p.a s.p.n s.p.c)
  c2 : W.cell? ⟨b, 2, none⟩ = some (.slice (s.u 0).a (s.u 0).n (s.u 0).c)
  c3 : W.cell? ⟨b, 3, none⟩ = some (.slice (s.u 1).a (s.u 1).n (s.u 1).c)
  c4 : W.cell? ⟨b, 4, none⟩ = some (.slice (s.u 2).a (s.u 2).n (s.u 2).c)
  c5 : W.cell? ⟨b, 5, none⟩ = some (.slice s.c.a s.c.n s.c.c)
  lt : b < W.heap.size
theorem HBox.new (w : World) (s : Hs) (t : TypeId) : HBox (w.alloc (.cells #[.slice s.w.a s.w.n s.w.c, .slice s.p.a s.p.n s.p.c, .slice (s.u 0).a (s.u 0).n (s.u 0).c, .slice (s.u 1).a (s.u 1).n (s.u 1).c, .slice (s.u 2).a (s.u 2).n (s.u 2).c, .slice s.c.a s.c.n s.c.c] t)) w.heap.size s := by
  refine ⟨?_, ?_, ?_, ?_, ?_, ?_, by simp⟩ <;> simp [go_sem]
theorem HBox.next {W W' : World} {b : Nat} {s : Hs} (h : HBox W b s) (hb : Below W.heap.size W W') : HBox W' b s :=
  ⟨(hb.cell (p := ⟨b, 0, none⟩) h.lt).trans h.c0, (hb.cell (p := ⟨b, 1, none⟩) h.lt).trans h.c1, (hb.cell (p := ⟨b, 2, none⟩) h.lt).trans h.c2, (hb.cell (p := ⟨b, 3, none⟩) h.lt).trans h.c3, (hb.cell (p := ⟨b, 4, none⟩) h.lt).trans h.c4, (hb.cell (p := ⟨b, 5, none⟩) h.lt).trans h.c5, Nat.lt_of_lt_of_le h.lt hb.size⟩

def nOf (x : Int) : Int := x / 8 % 128
def cellB (x : Int) (p : Int × Int) : Bool :=
  if Hd.isWord x = true ∧ x % 2 = 1 then (Cl.classErr (nOf x) == 0) && (if p.1 = 1 then Cl.classOf (nOf x) == p.2 else (Cl.runErr (nOf x) == 0) && (Cl.runOf (nOf x) == p.2))
  else Hd.isWord x && (p.1 == 1)
theorem headOf_no {x : Int} (h : Hd.isWord x = false) : headOf x = .agg #[.bool false, .bool false, .bool false, .int .i64 0, .int .i64 0, .int .i64 0] := by simp [headOf, h]
theorem headOf_yes {x : Int} (h : Hd.isWord x = true) : headOf x = .agg #[.bool (decide (x % 2 = 1)), .bool (decide (x / 2 % 2 = 1)), .bool (decide (x / 4 % 2 = 1)), .int .i64 (nOf x), .int .i64 (x / 1024 % 4194304), .int .i64 (x / 4294967296)] := by simp [headOf, h, nOf]
section
variable (s : Hs) (d : Hd_) (w : World) (a : Int) (i j : Nat) (x : Int) (p : Int × Int)
/-- What a walk through cell has when Unpack has answered. -/
theorem rcell_start (hp : Hp w w.heap.size s d) (hi : i < s.w.n) (hj : j < s.p.n) (hwn : s.w.n ≤ 4000) (hpn : s.p.n ≤ 4000) (ha : a - 16 = i) (hb : a / 16 - 1 = j) (hx : x = d.ws.getD i 0) (hpp : p = d.f j) (x0 : -9223372036854775808 ≤ x) (x1 : x ≤ 9223372036854775807)
    (u o e : Bool) (n b m : Int) (ok : Bool) (R : Bool) (hun : headOf x = .agg #[.bool u, .bool o, .bool e, .int .i64 n, .int .i64 b, .int .i64 m]) (hok : Hd.isWord x = ok)
    (hR : R = if ok = true ∧ u = true then (Cl.classErr n == 0) && (if p.1 = 1 then Cl.classOf n == p.2 else (Cl.runErr n == 0) && (Cl.runOf n == p.2)) else ok && (p.1 == 1)) :
    Calls Tryz.prog 63 #[(.agg #[.slice s.w.a s.w.n s.w.c, .slice s.p.a s.p.n s.p.c, .slice (s.u 0).a (s.u 0).n (s.u 0).c, .slice (s.u 1).a (s.u 1).n (s.u 1).c, .slice (s.u 2).a (s.u 2).n (s.u 2).c, .slice s.c.a s.c.n s.c.c]), .int .i64 a] w fun e w' => e = .returned (.bool R) ∧ Below w.heap.size w w' := by
  rcases s with ⟨⟨aw, nw, cw⟩, ⟨ap, np, cp⟩, su, ⟨ac, nc, cc⟩⟩
  dsimp only at hi hj hwn hpn ⊢
  obtain ⟨bw, ow, rfl, hbw, hcw⟩ := hp.words.2 (show 0 < nw by omega)
  obtain ⟨bp, op, rfl, hbp, hcp⟩ := hp.pages (show 0 < np by omega)
  have hw0 := hcw i hi
  obtain ⟨hp0, hp1⟩ := hcp j hj
  rw [← hx] at hw0
  rw [← hpp] at hp0 hp1
  have HR := Lib.hid hR
  have HOK := Lib.hid hok
  have HUN := Lib.hid hun
  have i0 : (0 : Int) ≤ i := by omega
  have i1 : (i : Int) < nw := by omega
  have j0 : (0 : Int) ≤ j := by omega
  have j1 : (j : Int) < np := by omega
  clear hcw hcp hx hpp hR hok hun hp
  go_enter Tryz.func63, Tryz.ntmps63
  go_wp2_with fail
  refine (runpack_any x _ x0 x1).mono ?_
  rw [HUN.out, HOK.out]
  rintro r w1 ⟨rfl, hb1⟩
  have HB0 := (HBox.new w ⟨⟨some ⟨bw, ow, none⟩, nw, cw⟩, ⟨some ⟨bp, op, none⟩, np, cp⟩, su, ⟨ac, nc, cc⟩⟩ 28).next hb1
  have q1 := HB0.c1
  dsimp only at q1
  have ql := HB0.lt
  have BW := Lib.hid ((((Below.refl w.heap.size w).alloc (Nat.le_refl _) _).trans (hb1.mono (by simp))))
  have hpl : bp < w1.heap.size := by have := HB0.lt; omega
  have r0 := (BW.out.cell (p := ⟨bp, op + j * 2, none⟩) hbp).trans hp0
  have r1 := (BW.out.cell (p := ⟨bp, op + j * 2 + 1, none⟩) hbp).trans hp1
  clear hb1 HB0 hp0 hp1 hw0 hbw ha i0 i1
  cases ok
  · have R0 : R = false := by rw [HR.out]; simp
    subst R0
    go_wp2
    go_ret
    exact ⟨rfl, ((BW.out.alloc (by have := BW.out.size; omega) _).alloc (by simp; have := BW.out.size; omega) _)⟩
  cases u
  · have R0 : R = (p.1 == 1) := by rw [HR.out]; simp
    subst R0
    go_wp2
    go_ret
    exact ⟨rfl, ((BW.out.alloc (by have := BW.out.size; omega) _).alloc (by simp; have := BW.out.size; omega) _)⟩
  have R0 : R = ((Cl.classErr n == 0) && (if p.1 = 1 then Cl.classOf n == p.2 else (Cl.runErr n == 0) && (Cl.runOf n == p.2))) := by rw [HR.out]; simp
  go_wp2_with fail
  refine (Cl.rof_of n _).mono ?_
  rintro r w2 ⟨rfl, rfl⟩
  clear HR
  by_cases he : Cl.classErr n = 0
  · rw [he] at R0 ⊢
    clear he
    by_cases hk : p.1 = 1
    · have k1 : (p.1 == 1) = true := by simp [hk]
      have R1 : R = (Cl.classOf n == p.2) := by rw [R0, if_pos hk]; simp
      subst R1
      clear R0 hk
      go_wp2
      go_ret
      exact ⟨rfl, ((BW.out.alloc (by have := BW.out.size; omega) _).alloc (by simp; have := BW.out.size; omega) _)⟩
    · have k1 : (p.1 == 1) = false := by simp [hk]
      have R1 : R = ((Cl.runErr n == 0) && (Cl.runOf n == p.2)) := by rw [R0, if_neg hk]; simp
      clear R0 hk
      go_wp2_with fail
      refine (Cl.rrun_of n _).mono ?_
      rintro r w2 ⟨rfl, rfl⟩
      cases hr : (Cl.runErr n == 0)
      · rw [hr] at R1
        have R2 : R = false := by rw [R1]; simp
        subst R2
        clear R1
        go_wp2
        go_ret
        exact ⟨rfl, ((BW.out.alloc (by have := BW.out.size; omega) _).alloc (by simp; have := BW.out.size; omega) _)⟩
      · rw [hr] at R1
        have R2 : R = (Cl.runOf n == p.2) := by rw [R1]; simp
        subst R2
        clear R1
        go_wp2
        go_ret
        exact ⟨rfl, ((BW.out.alloc (by have := BW.out.size; omega) _).alloc (by simp; have := BW.out.size; omega) _)⟩
  · have h1 : (Cl.classErr n == 0) = false := by simp [he]
    have h2 : (Cl.classErr n != 0) = true := by simp [he]
    have R1 : R = false := by rw [R0, h1]; simp
    subst R1
    clear R0 he
    go_wp2
    go_ret
    exact ⟨rfl, ((BW.out.alloc (by have := BW.out.size; omega) _).alloc (by simp; have := BW.out.size; omega) _)⟩
end
theorem rcell_any (s : Hs) (d : Hd_) (w : World) (a : Int) (i j : Nat) (hp : Hp w w.heap.size s d) (hi : i < s.w.n) (hj : j < s.p.n) (hwn : s.w.n ≤ 4000) (hpn : s.p.n ≤ 4000) (ha : a - 16 = i) (hb : a / 16 - 1 = j) (x0 : -9223372036854775808 ≤ d.ws.getD i 0) (x1 : d.ws.getD i 0 ≤ 9223372036854775807) :
    Calls Tryz.prog 63 #[(.agg #[.slice s.w.a s.w.n s.w.c, .slice s.p.a s.p.n s.p.c, .slice (s.u 0).a (s.u 0).n (s.u 0).c, .slice (s.u 1).a (s.u 1).n (s.u 1).c, .slice (s.u 2).a (s.u 2).n (s.u 2).c, .slice s.c.a s.c.n s.c.c]), .int .i64 a] w fun e w' => e = .returned (.bool (cellB (d.ws.getD i 0) (d.f j))) ∧ Below w.heap.size w w' := by
  generalize hx : d.ws.getD i 0 = x at x0 x1 ⊢
  cases hw : Hd.isWord x
  · refine rcell_start s d w a i j _ _ hp hi hj hwn hpn ha hb hx.symm rfl x0 x1 _ _ _ _ _ _ _ _ (headOf_no hw) hw ?_
    simp [cellB, hw]
  · refine rcell_start s d w a i j _ _ hp hi hj hwn hpn ha hb hx.symm rfl x0 x1 _ _ _ _ _ _ _ _ (headOf_yes hw) hw ?_
    simp [cellB, hw]
end Go.Proofs.YtdmclfolooiccaaGreatDoor
end
