/-
  Merged texts: Unpack, Awake, Ref, RefUn, HpUn, ClsWalks, ClsCalls, ClsRef, HpCell, PgPlain, PgCount, PgMay, PgMayAll.
-/
import Derived.Test.YtcbnefjfoeanoaaDoorHpZC
import Derived.Test.YtcbnefjfoeanoaaDoorRows
import Derived.WalkKit
import Derived.Below
import Derived.WalkSmall
import Derived.LoopTactic
import Derived.RegionTactic
import Derived.ChangeAlike
import Derived.Lib.Hide
import Derived.Deep.QuietTactic
import Derived.BigQuiet
import Derived.WalkSpells
section
namespace Go.Proofs.YtcbnefjfoeanoaaDoor.Hd
open Go.Proofs.YtcbnefjfoeanoaaDoor
set_option maxRecDepth 100000
open Go.RowKit

theorem unpacked_below {w w1 : World} {o o' : Obj} (hb : Below ((w.alloc o).alloc o').heap.size ((w.alloc o).alloc o') w1) : Below w.heap.size w w1 :=
  (((Below.refl _ _).alloc (Nat.le_refl _) _).alloc (by simp) _).trans (hb.mono (by simp; omega))
theorem six_below {B b : Nat} {w w1 : World} (h : Below B w w1) (hb : B ≤ b) (v0 v1 v2 v3 v4 v5 : Value) :
    Below B w ((((((w1.setCell ⟨b, 0, none⟩ v0).setCell ⟨b, 1, none⟩ v1).setCell ⟨b, 2, none⟩ v2).setCell ⟨b, 3, none⟩ v3).setCell ⟨b, 4, none⟩ v4).setCell ⟨b, 5, none⟩ v5) :=
  (((((h.setCell hb v0).setCell hb v1).setCell hb v2).setCell hb v3).setCell hb v4).setCell hb v5

theorem first_cells {w w1 : World} {o' : Obj} {cs : Array Value} {t : TypeId} (hb : Below ((w.alloc (.cells cs t)).alloc o').heap.size ((w.alloc (.cells cs t)).alloc o') w1) (k : Nat) :
    w1.cell? ⟨w.heap.size, k, none⟩ = cs[k]? := by
  rw [old_cell hb _ _ (by simp; omega)]
  simp [go_sem]
theorem unpack_core_yes (x : Int) (u o d : Bool) (n b m : Int) (w : World) (h : mayB u o d n b m = true)
    (eu : (bits .and .i64 x 1 != 0) = u) (eo : (bits .and .i64 x 2 != 0) = o) (ed : (bits .and .i64 x 4 != 0) = d) (en : bits .and .i64 (x / 8) 127 = n) (eb : bits .and .i64 (x / 1024) 4194303 = b) (em : x / 4294967296 = m) :
    Calls Tryd.prog 42 #[.int .i64 x] w fun e w' => e = .returned (.tuple #[.agg #[.bool u, .bool o, .bool d, .int .i64 n, .int .i64 b, .int .i64 m], .bool true]) ∧ Below w.heap.size w w' := by
  have H := Lib.hid h
  clear h
  go_enter Tryd.func42, Tryd.ntmps42
  go_wp2_with fail
  refine (may_yes _ _ _ _ _ _ _ H.out).mono ?_
  rintro e w1 ⟨rfl, hb⟩
  have hc := old_cell hb
  have hf := old_mark hb
  clear eu eo ed en eb em
  have c0 := first_cells hb 0
  have c1 := first_cells hb 1
  have c2 := first_cells hb 2
  have c3 := first_cells hb 3
  have c4 := first_cells hb 4
  have c5 := first_cells hb 5
  simp at c0 c1 c2 c3 c4 c5
  go_wp2
  refine bodyPost_ret (v := .tuple #[.agg #[.bool u, .bool o, .bool d, .int .i64 n, .int .i64 b, .int .i64 m], .bool true]) ?_ rfl ⟨rfl, six_below (unpacked_below hb) (Nat.le_refl _) _ _ _ _ _ _⟩
  simp [results, Tryd.results42, go_sem, c0, c1, c2, c3, c4, c5]
theorem unpack_core_no (x : Int) (u o d : Bool) (n b m : Int) (w : World) (h : mayB u o d n b m = false)
    (eu : (bits .and .i64 x 1 != 0) = u) (eo : (bits .and .i64 x 2 != 0) = o) (ed : (bits .and .i64 x 4 != 0) = d) (en : bits .and .i64 (x / 8) 127 = n) (eb : bits .and .i64 (x / 1024) 4194303 = b) (em : x / 4294967296 = m) :
    Calls Tryd.prog 42 #[.int .i64 x] w fun e w' => e = .returned (.tuple #[.agg #[.bool false, .bool false, .bool false, .int .i64 0, .int .i64 0, .int .i64 0], .bool false]) ∧ Below w.heap.size w w' := by
  have H := Lib.hid h
  clear h
  go_enter Tryd.func42, Tryd.ntmps42
  go_wp2_with fail
  refine (may_no _ _ _ _ _ _ _ H.out).mono ?_
  rintro e w1 ⟨rfl, hb⟩
  have hc := old_cell hb
  have hf := old_mark hb
  clear eu eo ed en eb em
  have c0 := first_cells hb 0
  have c1 := first_cells hb 1
  have c2 := first_cells hb 2
  have c3 := first_cells hb 3
  have c4 := first_cells hb 4
  have c5 := first_cells hb 5
  simp at c0 c1 c2 c3 c4 c5
  go_wp2
  refine bodyPost_ret (v := .tuple #[.agg #[.bool false, .bool false, .bool false, .int .i64 0, .int .i64 0, .int .i64 0], .bool false]) ?_ rfl ⟨rfl, six_below (unpacked_below hb) (Nat.le_refl _) _ _ _ _ _ _⟩
  simp [results, Tryd.results42, go_sem, c0, c1, c2, c3, c4, c5]

theorem unpack_no (x : Int) (w : World) (h : isWord x = false) :
    Calls Tryd.prog 42 #[.int .i64 x] w fun e w' => e = .returned (.tuple #[.agg #[.bool false, .bool false, .bool false, .int .i64 0, .int .i64 0, .int .i64 0], .bool false]) ∧ Below w.heap.size w w' :=
  unpack_core_no x _ _ _ _ _ _ w h (bit_1 x) (bit_2 x) (bit_4 x) (and_127 _) (and_4194303 _) rfl
theorem unpack_yes (x : Int) (w : World) (h : isWord x = true) :
    Calls Tryd.prog 42 #[.int .i64 x] w fun e w' => e = .returned (.tuple #[.agg #[.bool (decide (x % 2 = 1)), .bool (decide (x / 2 % 2 = 1)), .bool (decide (x / 4 % 2 = 1)), .int .i64 (x / 8 % 128), .int .i64 (x / 1024 % 4194304), .int .i64 (x / 4294967296)], .bool true]) ∧ Below w.heap.size w w' :=
  unpack_core_yes x _ _ _ _ _ _ w h (bit_1 x) (bit_2 x) (bit_4 x) (and_127 _) (and_4194303 _) rfl
/-- Of a head's word: that head. -/
theorem unpack_word (u o d : Bool) (n b m : Int) (w : World) (h : mayB u o d n b m = true) :
    Calls Tryd.prog 42 #[.int .i64 (word u o d n b m)] w fun e w' => e = .returned (.tuple #[.agg #[.bool u, .bool o, .bool d, .int .i64 n, .int .i64 b, .int .i64 m], .bool true]) ∧ Below w.heap.size w w' := by
  obtain ⟨u', o', d', n', b', m', h', e, e1, e2, e3, e4, e5, e6⟩ := isWord_cases _ (isWord_word h)
  obtain ⟨rfl, rfl, rfl, rfl, rfl, rfl⟩ := word_inj h h' e
  have := unpack_yes (word u o d n b m) w (isWord_word h)
  rw [← e1, ← e2, ← e3, ← e4, ← e5, ← e6] at this
  exact this
end Go.Proofs.YtcbnefjfoeanoaaDoor.Hd
end
section
namespace Go.Proofs.YtcbnefjfoeanoaaDoor.Hd
open Go.Proofs.YtcbnefjfoeanoaaDoor
set_option maxRecDepth 100000
open Go.RowKit

theorem unpack_awake (w : World) :
    Calls Tryd.prog 42 #[.int .i64 3089] w fun e w' => e = .returned (.tuple #[.agg #[.bool true, .bool false, .bool false, .int .i64 2, .int .i64 3, .int .i64 0], .bool true]) ∧ Below w.heap.size w w' :=
  unpack_yes 3089 w rfl
end Go.Proofs.YtcbnefjfoeanoaaDoor.Hd
end
section
namespace Go.Proofs.YtcbnefjfoeanoaaDoor.Hd
open Go.Proofs.YtcbnefjfoeanoaaDoor
set_option maxRecDepth 100000
open Go.RowKit

end Go.Proofs.YtcbnefjfoeanoaaDoor.Hd
end
section
namespace Go.Proofs.YtcbnefjfoeanoaaDoor.Hd
open Go.Proofs.YtcbnefjfoeanoaaDoor
set_option maxRecDepth 100000
open Go.RowKit

theorem three_below {w w1 : World} {c c' c'' : Obj} (hb : Below (((w.alloc c).alloc c').alloc c'').heap.size (((w.alloc c).alloc c').alloc c'') w1) : Below w.heap.size w w1 :=
  ((((Below.refl _ _).alloc (Nat.le_refl _) _).alloc (by simp) _).alloc (by simp; omega) _).trans (hb.mono (by simp; omega))
theorem far_cells {w w1 : World} {c' c'' : Obj} {cs : Array Value} {t : TypeId} (hb : Below (((w.alloc (.cells cs t)).alloc c').alloc c'').heap.size (((w.alloc (.cells cs t)).alloc c').alloc c'') w1) (k : Nat) :
    w1.cell? ⟨w.heap.size, k, none⟩ = cs[k]? := by
  rw [old_cell hb _ _ (by simp; omega)]
  simp [go_sem]
theorem beq_one (x : Int) : (x == 1) = decide (x = 1) := by
  rw [Bool.eq_iff_iff]; simp
end Go.Proofs.YtcbnefjfoeanoaaDoor.Hd
end
section
namespace Go.Proofs.YtcbnefjfoeanoaaDoor
open Go.RowKit

def headOf (x : Int) : Value :=
  if Hd.isWord x then .agg #[.bool (decide (x % 2 = 1)), .bool (decide (x / 2 % 2 = 1)), .bool (decide (x / 4 % 2 = 1)), .int .i64 (x / 8 % 128), .int .i64 (x / 1024 % 4194304), .int .i64 (x / 4294967296)]
  else .agg #[.bool false, .bool false, .bool false, .int .i64 0, .int .i64 0, .int .i64 0]
theorem unpack_any (x : Int) (w : World) : Calls Tryd.prog 42 #[.int .i64 x] w fun e w' => e = .returned (.tuple #[headOf x, .bool (Hd.isWord x)]) ∧ Below w.heap.size w w' := by
  unfold headOf
  cases h : Hd.isWord x
  · exact Hd.unpack_no x w h
  · exact Hd.unpack_yes x w h
end Go.Proofs.YtcbnefjfoeanoaaDoor
end
section
namespace Go.Proofs.YtcbnefjfoeanoaaDoor.Cl
open Go.Proofs.YtcbnefjfoeanoaaDoor
set_option maxRecDepth 100000
open Go.RowKit

theorem words_any (n : Int) (w : World) (h0 : 1 ≤ n) (h1 : n ≤ 63) :
    Calls Tryd.prog 93 #[.int .i64 n] w fun e w' => e = .returned (.int .i64 (1 + n)) ∧ w = w' := by
  go_enter Tryd.func93, Tryd.ntmps93
  go_wp2
  go_ret
  exact ⟨rfl, rfl⟩

/-- The table of sizes lies as it is written. -/
def Sz (w : World) : Prop := w.cell? ⟨0, 0, none⟩ = some (.int .i64 2) ∧ w.cell? ⟨0, 1, none⟩ = some (.int .i64 4) ∧ w.cell? ⟨0, 2, none⟩ = some (.int .i64 8)

theorem of_low (n : Int) (w : World) (h : n < 1) :
    Calls Tryd.prog 69 #[.int .i64 n] w fun e w' => e = .returned (.tuple #[.int .i64 0, .int .i64 1]) ∧ w = w' := by
  go_enter Tryd.func69, Tryd.ntmps69
  go_wp2
  go_ret2
  exact ⟨rfl, rfl⟩
theorem of_high (n : Int) (w : World) (h : 63 < n) :
    Calls Tryd.prog 69 #[.int .i64 n] w fun e w' => e = .returned (.tuple #[.int .i64 0, .int .i64 2]) ∧ w = w' := by
  go_enter Tryd.func69, Tryd.ntmps69
  go_wp2
  go_ret2
  exact ⟨rfl, rfl⟩
theorem index_at0 (w : World) : (Instr.index 127 (.agg #[.int .i64 2, .int .i64 4, .int .i64 8]) (.int .i64 0)).run Tryd.prog w = .ok (.int .i64 2) w := by kernel_rfl
theorem index_at1 (w : World) : (Instr.index 127 (.agg #[.int .i64 2, .int .i64 4, .int .i64 8]) (.int .i64 1)).run Tryd.prog w = .ok (.int .i64 4) w := by kernel_rfl
theorem index_at2 (w : World) : (Instr.index 127 (.agg #[.int .i64 2, .int .i64 4, .int .i64 8]) (.int .i64 2)).run Tryd.prog w = .ok (.int .i64 8) w := by kernel_rfl
theorem of_0 (n : Int) (w : World) (hz : Sz w) (h0 : 1 ≤ n) (h1 : n ≤ 1) :
    Calls Tryd.prog 69 #[.int .i64 n] w fun e w' => e = .returned (.tuple #[.int .i64 0, .int .i64 0]) ∧ w = w' := by
  obtain ⟨z0, z1, z2⟩ := hz
  have d1 : decide (n < 1) = false := by simp; omega
  have d2 : decide (63 < n) = false := by simp; omega
  go_enter Tryd.func69, Tryd.ntmps69
  go_wp2
  clear z0 z1 z2
  go_loop [11] (fun i => ∃ k : Nat, k ≤ 0 ∧ i = .int .i64 k) (fun i => 3 - (intOf i).toNat)
  case atStart => exact ⟨0, by omega, rfl⟩
  case round =>
    obtain ⟨k, hk, rfl⟩ := hrel
    have hc : k = 0 := by omega
    clear hk
    subst hc
    · have ix := index_at0 w
      go_wp2_with (go_at_call 93; refine (words_any _ _ (by omega) (by omega)).mono ?_; rintro e w1 ⟨rfl, rfl⟩)
      go_ret2
      exact ⟨rfl, rfl⟩
theorem of_1 (n : Int) (w : World) (hz : Sz w) (h0 : 2 ≤ n) (h1 : n ≤ 3) :
    Calls Tryd.prog 69 #[.int .i64 n] w fun e w' => e = .returned (.tuple #[.int .i64 1, .int .i64 0]) ∧ w = w' := by
  obtain ⟨z0, z1, z2⟩ := hz
  have d1 : decide (n < 1) = false := by simp; omega
  have d2 : decide (63 < n) = false := by simp; omega
  go_enter Tryd.func69, Tryd.ntmps69
  go_wp2
  clear z0 z1 z2
  go_loop [11] (fun i => ∃ k : Nat, k ≤ 1 ∧ i = .int .i64 k) (fun i => 3 - (intOf i).toNat)
  case atStart => exact ⟨0, by omega, rfl⟩
  case round =>
    obtain ⟨k, hk, rfl⟩ := hrel
    have hc : k = 0 ∨ k = 1 := by omega
    clear hk
    rcases hc with rfl | rfl
    · have ix := index_at0 w
      go_wp2_with (go_at_call 93; refine (words_any _ _ (by omega) (by omega)).mono ?_; rintro e w1 ⟨rfl, rfl⟩)
      go_round
      case rel => exact ⟨1, by omega, by go_num⟩
      case measure => simp [intOf]
    · have ix := index_at1 w
      go_wp2_with (go_at_call 93; refine (words_any _ _ (by omega) (by omega)).mono ?_; rintro e w1 ⟨rfl, rfl⟩)
      go_ret2
      exact ⟨rfl, rfl⟩
theorem of_2 (n : Int) (w : World) (hz : Sz w) (h0 : 4 ≤ n) (h1 : n ≤ 7) :
    Calls Tryd.prog 69 #[.int .i64 n] w fun e w' => e = .returned (.tuple #[.int .i64 2, .int .i64 0]) ∧ w = w' := by
  obtain ⟨z0, z1, z2⟩ := hz
  have d1 : decide (n < 1) = false := by simp; omega
  have d2 : decide (63 < n) = false := by simp; omega
  go_enter Tryd.func69, Tryd.ntmps69
  go_wp2
  clear z0 z1 z2
  go_loop [11] (fun i => ∃ k : Nat, k ≤ 2 ∧ i = .int .i64 k) (fun i => 3 - (intOf i).toNat)
  case atStart => exact ⟨0, by omega, rfl⟩
  case round =>
    obtain ⟨k, hk, rfl⟩ := hrel
    have hc : k = 0 ∨ k = 1 ∨ k = 2 := by omega
    clear hk
    rcases hc with rfl | rfl | rfl
    · have ix := index_at0 w
      go_wp2_with (go_at_call 93; refine (words_any _ _ (by omega) (by omega)).mono ?_; rintro e w1 ⟨rfl, rfl⟩)
      go_round
      case rel => exact ⟨1, by omega, by go_num⟩
      case measure => simp [intOf]
    · have ix := index_at1 w
      go_wp2_with (go_at_call 93; refine (words_any _ _ (by omega) (by omega)).mono ?_; rintro e w1 ⟨rfl, rfl⟩)
      go_round
      case rel => exact ⟨2, by omega, by go_num⟩
      case measure => simp [intOf]
    · have ix := index_at2 w
      go_wp2_with (go_at_call 93; refine (words_any _ _ (by omega) (by omega)).mono ?_; rintro e w1 ⟨rfl, rfl⟩)
      go_ret2
      exact ⟨rfl, rfl⟩
theorem of_3 (n : Int) (w : World) (hz : Sz w) (h0 : 8 ≤ n) (h1 : n ≤ 63) :
    Calls Tryd.prog 69 #[.int .i64 n] w fun e w' => e = .returned (.tuple #[.int .i64 3, .int .i64 0]) ∧ w = w' := by
  obtain ⟨z0, z1, z2⟩ := hz
  have d1 : decide (n < 1) = false := by simp; omega
  have d2 : decide (63 < n) = false := by simp; omega
  go_enter Tryd.func69, Tryd.ntmps69
  go_wp2
  clear z0 z1 z2
  go_loop [11] (fun i => ∃ k : Nat, k ≤ 3 ∧ i = .int .i64 k) (fun i => 3 - (intOf i).toNat)
  case atStart => exact ⟨0, by omega, rfl⟩
  case round =>
    obtain ⟨k, hk, rfl⟩ := hrel
    have hc : k = 0 ∨ k = 1 ∨ k = 2 ∨ k = 3 := by omega
    clear hk
    rcases hc with rfl | rfl | rfl | rfl
    · have ix := index_at0 w
      go_wp2_with (go_at_call 93; refine (words_any _ _ (by omega) (by omega)).mono ?_; rintro e w1 ⟨rfl, rfl⟩)
      go_round
      case rel => exact ⟨1, by omega, by go_num⟩
      case measure => simp [intOf]
    · have ix := index_at1 w
      go_wp2_with (go_at_call 93; refine (words_any _ _ (by omega) (by omega)).mono ?_; rintro e w1 ⟨rfl, rfl⟩)
      go_round
      case rel => exact ⟨2, by omega, by go_num⟩
      case measure => simp [intOf]
    · have ix := index_at2 w
      go_wp2_with (go_at_call 93; refine (words_any _ _ (by omega) (by omega)).mono ?_; rintro e w1 ⟨rfl, rfl⟩)
      go_round
      case rel => exact ⟨3, by omega, by go_num⟩
      case measure => simp [intOf]
    · go_wp2
      go_ret2
      exact ⟨rfl, rfl⟩
end Go.Proofs.YtcbnefjfoeanoaaDoor.Cl
end
section
namespace Go.Proofs.YtcbnefjfoeanoaaDoor.Cl
open Go.Proofs.YtcbnefjfoeanoaaDoor
set_option maxRecDepth 100000
open Go.RowKit

/-- A cell's words, by its class. -/
def wordsOf (c : Int) : Int := if c = 0 then 2 else if c = 1 then 4 else if c = 2 then 8 else 0
/-- How many cells of a class a page has. -/
def perPage (c : Int) : Int := if c = 0 then 8 else if c = 1 then 4 else if c = 2 then 2 else 0
theorem wordsOf_no {c : Int} (h : c < 0 ∨ 2 < c) : wordsOf c = 0 := by
  unfold wordsOf
  rw [if_neg (by omega), if_neg (by omega), if_neg (by omega)]
theorem perPage_no {c : Int} (h : c < 0 ∨ 2 < c) : perPage c = 0 := by
  unfold perPage
  rw [if_neg (by omega), if_neg (by omega), if_neg (by omega)]
/-- The class, the pages, and the errors, by the number of fields. -/
def classOf (n : Int) : Int := if n < 1 ∨ 63 < n then 0 else if n ≤ 1 then 0 else if n ≤ 3 then 1 else if n ≤ 7 then 2 else 3
def classErr (n : Int) : Int := if n < 1 then 1 else if 63 < n then 2 else 0
def runOf (n : Int) : Int := if n < 8 ∨ 63 < n then 0 else if n ≤ 15 then 1 else if n ≤ 31 then 2 else if n ≤ 47 then 3 else 4
def runErr (n : Int) : Int := if n < 1 then 1 else if 63 < n then 2 else if n ≤ 7 then 3 else 0
theorem eq_tuple {a b c d : Int} (h : a = c) (h' : b = d) : Ending.returned (.tuple #[.int .i64 a, .int .i64 b]) = .returned (.tuple #[.int .i64 c, .int .i64 d]) := by rw [h, h']

theorem words_at0 (w : World) (hz : Sz w) :
    Calls Tryd.prog 90 #[.int .i64 0] w fun e w' => e = .returned (.int .i64 2) ∧ w = w' := by
  obtain ⟨z0, z1, z2⟩ := hz
  go_enter Tryd.func90, Tryd.ntmps90
  go_wp2
  go_ret
  exact ⟨rfl, rfl⟩
theorem words_at1 (w : World) (hz : Sz w) :
    Calls Tryd.prog 90 #[.int .i64 1] w fun e w' => e = .returned (.int .i64 4) ∧ w = w' := by
  obtain ⟨z0, z1, z2⟩ := hz
  go_enter Tryd.func90, Tryd.ntmps90
  go_wp2
  go_ret
  exact ⟨rfl, rfl⟩
theorem words_at2 (w : World) (hz : Sz w) :
    Calls Tryd.prog 90 #[.int .i64 2] w fun e w' => e = .returned (.int .i64 8) ∧ w = w' := by
  obtain ⟨z0, z1, z2⟩ := hz
  go_enter Tryd.func90, Tryd.ntmps90
  go_wp2
  go_ret
  exact ⟨rfl, rfl⟩
theorem words_low (c : Int) (w : World) (h : c < 0) :
    Calls Tryd.prog 90 #[.int .i64 c] w fun e w' => e = .returned (.int .i64 0) ∧ w = w' := by
  go_enter Tryd.func90, Tryd.ntmps90
  go_wp2
  go_ret
  exact ⟨rfl, rfl⟩
theorem words_high (c : Int) (w : World) (h : 2 < c) :
    Calls Tryd.prog 90 #[.int .i64 c] w fun e w' => e = .returned (.int .i64 0) ∧ w = w' := by
  have d : (3 : Int) ≤ c := by omega
  have d0 : ¬ c < 0 := by omega
  go_enter Tryd.func90, Tryd.ntmps90
  go_wp2
  go_ret
  exact ⟨rfl, rfl⟩
theorem words_of (c : Int) (w : World) (hz : Sz w) :
    Calls Tryd.prog 90 #[.int .i64 c] w fun e w' => e = .returned (.int .i64 (wordsOf c)) ∧ w = w' := by
  by_cases h : c < 0 ∨ 2 < c
  · rw [wordsOf_no h]
    rcases h with h | h
    · exact words_low c w h
    · exact words_high c w h
  · have hc : c = 0 ∨ c = 1 ∨ c = 2 := by omega
    clear h
    rcases hc with rfl | rfl | rfl
    · exact words_at0 w hz
    · exact words_at1 w hz
    · exact words_at2 w hz
theorem cells_at0 (w : World) (hz : Sz w) :
    Calls Tryd.prog 64 #[.int .i64 0] w fun e w' => e = .returned (.int .i64 8) ∧ w = w' := by
  have H := Lib.hid hz
  clear hz
  go_enter Tryd.func64, Tryd.ntmps64
  go_wp2_with (go_at_call 90; (with_reducible refine (words_at0 _ H.out).mono ?_); rintro e w1 ⟨rfl, rfl⟩)
  go_ret
  exact ⟨rfl, rfl⟩
theorem cells_at1 (w : World) (hz : Sz w) :
    Calls Tryd.prog 64 #[.int .i64 1] w fun e w' => e = .returned (.int .i64 4) ∧ w = w' := by
  have H := Lib.hid hz
  clear hz
  go_enter Tryd.func64, Tryd.ntmps64
  go_wp2_with (go_at_call 90; (with_reducible refine (words_at1 _ H.out).mono ?_); rintro e w1 ⟨rfl, rfl⟩)
  go_ret
  exact ⟨rfl, rfl⟩
theorem cells_at2 (w : World) (hz : Sz w) :
    Calls Tryd.prog 64 #[.int .i64 2] w fun e w' => e = .returned (.int .i64 2) ∧ w = w' := by
  have H := Lib.hid hz
  clear hz
  go_enter Tryd.func64, Tryd.ntmps64
  go_wp2_with (go_at_call 90; (with_reducible refine (words_at2 _ H.out).mono ?_); rintro e w1 ⟨rfl, rfl⟩)
  go_ret
  exact ⟨rfl, rfl⟩
theorem cells_low (c : Int) (w : World) (h : c < 0) :
    Calls Tryd.prog 64 #[.int .i64 c] w fun e w' => e = .returned (.int .i64 0) ∧ w = w' := by
  go_enter Tryd.func64, Tryd.ntmps64
  go_wp2_with (go_at_call 90; (with_reducible refine (words_low _ _ h).mono ?_); rintro e w1 ⟨rfl, rfl⟩)
  go_ret
  exact ⟨rfl, rfl⟩
theorem cells_high (c : Int) (w : World) (h : 2 < c) :
    Calls Tryd.prog 64 #[.int .i64 c] w fun e w' => e = .returned (.int .i64 0) ∧ w = w' := by
  go_enter Tryd.func64, Tryd.ntmps64
  go_wp2_with (go_at_call 90; (with_reducible refine (words_high _ _ h).mono ?_); rintro e w1 ⟨rfl, rfl⟩)
  go_ret
  exact ⟨rfl, rfl⟩
theorem cells_of (c : Int) (w : World) (hz : Sz w) :
    Calls Tryd.prog 64 #[.int .i64 c] w fun e w' => e = .returned (.int .i64 (perPage c)) ∧ w = w' := by
  by_cases h : c < 0 ∨ 2 < c
  · rw [perPage_no h]
    rcases h with h | h
    · exact cells_low c w h
    · exact cells_high c w h
  · have hc : c = 0 ∨ c = 1 ∨ c = 2 := by omega
    clear h
    rcases hc with rfl | rfl | rfl
    · exact cells_at0 w hz
    · exact cells_at1 w hz
    · exact cells_at2 w hz
theorem of_of (n : Int) (w : World) (hz : Sz w) :
    Calls Tryd.prog 69 #[.int .i64 n] w fun e w' => e = .returned (.tuple #[.int .i64 (classOf n), .int .i64 (classErr n)]) ∧ w = w' := by
  have key : ∀ {a b : Int}, classOf n = a → classErr n = b → Calls Tryd.prog 69 #[.int .i64 n] w (fun e w' => e = .returned (.tuple #[.int .i64 a, .int .i64 b]) ∧ w = w') → Calls Tryd.prog 69 #[.int .i64 n] w (fun e w' => e = .returned (.tuple #[.int .i64 (classOf n), .int .i64 (classErr n)]) ∧ w = w') := by
    intro a b h1 h2 h3
    rw [h1, h2]
    exact h3
  by_cases c1 : n < 1
  · exact key (by simp [classOf, c1]) (by simp [classErr, c1]) (of_low n w c1)
  by_cases c2 : 63 < n
  · exact key (by simp [classOf, c2]) (by simp [classErr, c1, c2]) (of_high n w c2)
  by_cases c3 : n ≤ 1
  · exact key (by simp [classOf, c1, c2, c3]) (by simp [classErr, c1, c2]) (of_0 n w hz (by omega) c3)
  by_cases c4 : n ≤ 3
  · exact key (by simp [classOf, c1, c2, c3, c4]) (by simp [classErr, c1, c2]) (of_1 n w hz (by omega) c4)
  by_cases c5 : n ≤ 7
  · exact key (by simp [classOf, c1, c2, c3, c4, c5]) (by simp [classErr, c1, c2]) (of_2 n w hz (by omega) c5)
  exact key (by simp [classOf, c1, c2, c3, c4, c5]) (by simp [classErr, c1, c2]) (of_3 n w hz (by omega) (by omega))
theorem run_low (n : Int) (w : World) (h : n < 1) :
    Calls Tryd.prog 70 #[.int .i64 n] w fun e w' => e = .returned (.tuple #[.int .i64 0, .int .i64 1]) ∧ w = w' := by
  go_enter Tryd.func70, Tryd.ntmps70
  go_wp2_with (go_at_call 69; (with_reducible refine (of_low _ _ h).mono ?_); rintro e w1 ⟨rfl, rfl⟩)
  go_ret2
  exact ⟨rfl, rfl⟩
theorem run_high (n : Int) (w : World) (h : 63 < n) :
    Calls Tryd.prog 70 #[.int .i64 n] w fun e w' => e = .returned (.tuple #[.int .i64 0, .int .i64 2]) ∧ w = w' := by
  go_enter Tryd.func70, Tryd.ntmps70
  go_wp2_with (go_at_call 69; (with_reducible refine (of_high _ _ h).mono ?_); rintro e w1 ⟨rfl, rfl⟩)
  go_ret2
  exact ⟨rfl, rfl⟩
theorem run_s0 (n : Int) (w : World) (hz : Sz w) (h0 : 1 ≤ n) (h1 : n ≤ 1) :
    Calls Tryd.prog 70 #[.int .i64 n] w fun e w' => e = .returned (.tuple #[.int .i64 0, .int .i64 3]) ∧ w = w' := by
  have H := Lib.hid hz
  clear hz
  go_enter Tryd.func70, Tryd.ntmps70
  go_wp2_with (go_at_call 69; (with_reducible refine (of_0 _ _ H.out h0 h1).mono ?_); rintro e w1 ⟨rfl, rfl⟩)
  go_ret2
  exact ⟨rfl, rfl⟩
theorem run_s1 (n : Int) (w : World) (hz : Sz w) (h0 : 2 ≤ n) (h1 : n ≤ 3) :
    Calls Tryd.prog 70 #[.int .i64 n] w fun e w' => e = .returned (.tuple #[.int .i64 0, .int .i64 3]) ∧ w = w' := by
  have H := Lib.hid hz
  clear hz
  go_enter Tryd.func70, Tryd.ntmps70
  go_wp2_with (go_at_call 69; (with_reducible refine (of_1 _ _ H.out h0 h1).mono ?_); rintro e w1 ⟨rfl, rfl⟩)
  go_ret2
  exact ⟨rfl, rfl⟩
theorem run_s2 (n : Int) (w : World) (hz : Sz w) (h0 : 4 ≤ n) (h1 : n ≤ 7) :
    Calls Tryd.prog 70 #[.int .i64 n] w fun e w' => e = .returned (.tuple #[.int .i64 0, .int .i64 3]) ∧ w = w' := by
  have H := Lib.hid hz
  clear hz
  go_enter Tryd.func70, Tryd.ntmps70
  go_wp2_with (go_at_call 69; (with_reducible refine (of_2 _ _ H.out h0 h1).mono ?_); rintro e w1 ⟨rfl, rfl⟩)
  go_ret2
  exact ⟨rfl, rfl⟩
theorem run_1part (n : Int) (w : World) (hz : Sz w) (h0 : 8 ≤ n) (h1 : n ≤ 14) :
    Calls Tryd.prog 70 #[.int .i64 n] w fun e w' => e = .returned (.tuple #[.int .i64 1, .int .i64 0]) ∧ w = w' := by
  have H := Lib.hid hz
  clear hz
  have q : (1 + n) / 16 = 0 := by omega
  have r : 0 < (1 + n) % 16 := by omega
  go_enter Tryd.func70, Tryd.ntmps70
  go_wp2_with (first | ((go_at_call 69; (with_reducible refine (of_3 _ _ H.out (by omega) (by omega)).mono ?_); rintro e w1 ⟨rfl, rfl⟩)) | ((go_at_call 93; (with_reducible refine (words_any _ _ (by omega) (by omega)).mono ?_); rintro e w1 ⟨rfl, rfl⟩)))
  go_ret2
  exact ⟨rfl, rfl⟩
theorem run_1full (w : World) (hz : Sz w) :
    Calls Tryd.prog 70 #[.int .i64 15] w fun e w' => e = .returned (.tuple #[.int .i64 1, .int .i64 0]) ∧ w = w' := by
  have H := Lib.hid hz
  clear hz
  go_enter Tryd.func70, Tryd.ntmps70
  go_wp2_with (first | ((go_at_call 69; (with_reducible refine (of_3 _ _ H.out (by omega) (by omega)).mono ?_); rintro e w1 ⟨rfl, rfl⟩)) | ((go_at_call 93; (with_reducible refine (words_any _ _ (by omega) (by omega)).mono ?_); rintro e w1 ⟨rfl, rfl⟩)))
  go_ret2
  exact ⟨rfl, rfl⟩
theorem run_1 (n : Int) (w : World) (hz : Sz w) (h0 : 8 ≤ n) (h1 : n ≤ 15) :
    Calls Tryd.prog 70 #[.int .i64 n] w fun e w' => e = .returned (.tuple #[.int .i64 1, .int .i64 0]) ∧ w = w' := by
  by_cases h : n = 15
  · subst h
    exact run_1full w hz
  · exact run_1part n w hz h0 (by omega)
theorem run_2part (n : Int) (w : World) (hz : Sz w) (h0 : 16 ≤ n) (h1 : n ≤ 30) :
    Calls Tryd.prog 70 #[.int .i64 n] w fun e w' => e = .returned (.tuple #[.int .i64 2, .int .i64 0]) ∧ w = w' := by
  have H := Lib.hid hz
  clear hz
  have q : (1 + n) / 16 = 1 := by omega
  have r : 0 < (1 + n) % 16 := by omega
  go_enter Tryd.func70, Tryd.ntmps70
  go_wp2_with (first | ((go_at_call 69; (with_reducible refine (of_3 _ _ H.out (by omega) (by omega)).mono ?_); rintro e w1 ⟨rfl, rfl⟩)) | ((go_at_call 93; (with_reducible refine (words_any _ _ (by omega) (by omega)).mono ?_); rintro e w1 ⟨rfl, rfl⟩)))
  go_ret2
  exact ⟨rfl, rfl⟩
theorem run_2full (w : World) (hz : Sz w) :
    Calls Tryd.prog 70 #[.int .i64 31] w fun e w' => e = .returned (.tuple #[.int .i64 2, .int .i64 0]) ∧ w = w' := by
  have H := Lib.hid hz
  clear hz
  go_enter Tryd.func70, Tryd.ntmps70
  go_wp2_with (first | ((go_at_call 69; (with_reducible refine (of_3 _ _ H.out (by omega) (by omega)).mono ?_); rintro e w1 ⟨rfl, rfl⟩)) | ((go_at_call 93; (with_reducible refine (words_any _ _ (by omega) (by omega)).mono ?_); rintro e w1 ⟨rfl, rfl⟩)))
  go_ret2
  exact ⟨rfl, rfl⟩
theorem run_2 (n : Int) (w : World) (hz : Sz w) (h0 : 16 ≤ n) (h1 : n ≤ 31) :
    Calls Tryd.prog 70 #[.int .i64 n] w fun e w' => e = .returned (.tuple #[.int .i64 2, .int .i64 0]) ∧ w = w' := by
  by_cases h : n = 31
  · subst h
    exact run_2full w hz
  · exact run_2part n w hz h0 (by omega)
theorem run_3part (n : Int) (w : World) (hz : Sz w) (h0 : 32 ≤ n) (h1 : n ≤ 46) :
    Calls Tryd.prog 70 #[.int .i64 n] w fun e w' => e = .returned (.tuple #[.int .i64 3, .int .i64 0]) ∧ w = w' := by
  have H := Lib.hid hz
  clear hz
  have q : (1 + n) / 16 = 2 := by omega
  have r : 0 < (1 + n) % 16 := by omega
  go_enter Tryd.func70, Tryd.ntmps70
  go_wp2_with (first | ((go_at_call 69; (with_reducible refine (of_3 _ _ H.out (by omega) (by omega)).mono ?_); rintro e w1 ⟨rfl, rfl⟩)) | ((go_at_call 93; (with_reducible refine (words_any _ _ (by omega) (by omega)).mono ?_); rintro e w1 ⟨rfl, rfl⟩)))
  go_ret2
  exact ⟨rfl, rfl⟩
theorem run_3full (w : World) (hz : Sz w) :
    Calls Tryd.prog 70 #[.int .i64 47] w fun e w' => e = .returned (.tuple #[.int .i64 3, .int .i64 0]) ∧ w = w' := by
  have H := Lib.hid hz
  clear hz
  go_enter Tryd.func70, Tryd.ntmps70
  go_wp2_with (first | ((go_at_call 69; (with_reducible refine (of_3 _ _ H.out (by omega) (by omega)).mono ?_); rintro e w1 ⟨rfl, rfl⟩)) | ((go_at_call 93; (with_reducible refine (words_any _ _ (by omega) (by omega)).mono ?_); rintro e w1 ⟨rfl, rfl⟩)))
  go_ret2
  exact ⟨rfl, rfl⟩
theorem run_3 (n : Int) (w : World) (hz : Sz w) (h0 : 32 ≤ n) (h1 : n ≤ 47) :
    Calls Tryd.prog 70 #[.int .i64 n] w fun e w' => e = .returned (.tuple #[.int .i64 3, .int .i64 0]) ∧ w = w' := by
  by_cases h : n = 47
  · subst h
    exact run_3full w hz
  · exact run_3part n w hz h0 (by omega)
theorem run_4part (n : Int) (w : World) (hz : Sz w) (h0 : 48 ≤ n) (h1 : n ≤ 62) :
    Calls Tryd.prog 70 #[.int .i64 n] w fun e w' => e = .returned (.tuple #[.int .i64 4, .int .i64 0]) ∧ w = w' := by
  have H := Lib.hid hz
  clear hz
  have q : (1 + n) / 16 = 3 := by omega
  have r : 0 < (1 + n) % 16 := by omega
  go_enter Tryd.func70, Tryd.ntmps70
  go_wp2_with (first | ((go_at_call 69; (with_reducible refine (of_3 _ _ H.out (by omega) (by omega)).mono ?_); rintro e w1 ⟨rfl, rfl⟩)) | ((go_at_call 93; (with_reducible refine (words_any _ _ (by omega) (by omega)).mono ?_); rintro e w1 ⟨rfl, rfl⟩)))
  go_ret2
  exact ⟨rfl, rfl⟩
theorem run_4full (w : World) (hz : Sz w) :
    Calls Tryd.prog 70 #[.int .i64 63] w fun e w' => e = .returned (.tuple #[.int .i64 4, .int .i64 0]) ∧ w = w' := by
  have H := Lib.hid hz
  clear hz
  go_enter Tryd.func70, Tryd.ntmps70
  go_wp2_with (first | ((go_at_call 69; (with_reducible refine (of_3 _ _ H.out (by omega) (by omega)).mono ?_); rintro e w1 ⟨rfl, rfl⟩)) | ((go_at_call 93; (with_reducible refine (words_any _ _ (by omega) (by omega)).mono ?_); rintro e w1 ⟨rfl, rfl⟩)))
  go_ret2
  exact ⟨rfl, rfl⟩
theorem run_4 (n : Int) (w : World) (hz : Sz w) (h0 : 48 ≤ n) (h1 : n ≤ 63) :
    Calls Tryd.prog 70 #[.int .i64 n] w fun e w' => e = .returned (.tuple #[.int .i64 4, .int .i64 0]) ∧ w = w' := by
  by_cases h : n = 63
  · subst h
    exact run_4full w hz
  · exact run_4part n w hz h0 (by omega)
theorem run_of (n : Int) (w : World) (hz : Sz w) :
    Calls Tryd.prog 70 #[.int .i64 n] w fun e w' => e = .returned (.tuple #[.int .i64 (runOf n), .int .i64 (runErr n)]) ∧ w = w' := by
  have key : ∀ {a b : Int}, runOf n = a → runErr n = b → Calls Tryd.prog 70 #[.int .i64 n] w (fun e w' => e = .returned (.tuple #[.int .i64 a, .int .i64 b]) ∧ w = w') → Calls Tryd.prog 70 #[.int .i64 n] w (fun e w' => e = .returned (.tuple #[.int .i64 (runOf n), .int .i64 (runErr n)]) ∧ w = w') := by
    intro a b h1 h2 h3
    rw [h1, h2]
    exact h3
  by_cases c1 : n < 1
  · exact key (by unfold runOf; rw [if_pos (by omega)]) (by unfold runErr; rw [if_pos (by omega)]) (run_low n w c1)
  by_cases c2 : 63 < n
  · exact key (by unfold runOf; rw [if_pos (by omega)]) (by unfold runErr; rw [if_neg (by omega), if_pos (by omega)]) (run_high n w c2)
  by_cases d0 : n ≤ 1
  · exact key (by unfold runOf; rw [if_pos (by omega)]) (by unfold runErr; rw [if_neg (by omega), if_neg (by omega), if_pos (by omega)]) (run_s0 n w hz (by omega) d0)
  by_cases d1 : n ≤ 3
  · exact key (by unfold runOf; rw [if_pos (by omega)]) (by unfold runErr; rw [if_neg (by omega), if_neg (by omega), if_pos (by omega)]) (run_s1 n w hz (by omega) d1)
  by_cases d2 : n ≤ 7
  · exact key (by unfold runOf; rw [if_pos (by omega)]) (by unfold runErr; rw [if_neg (by omega), if_neg (by omega), if_pos (by omega)]) (run_s2 n w hz (by omega) d2)
  by_cases e1 : n ≤ 15
  · exact key (by unfold runOf; rw [if_neg (by omega), if_pos (by omega)]) (by unfold runErr; rw [if_neg (by omega), if_neg (by omega), if_neg (by omega)]) (run_1 n w hz (by omega) e1)
  by_cases e2 : n ≤ 31
  · exact key (by unfold runOf; rw [if_neg (by omega), if_neg (by omega), if_pos (by omega)]) (by unfold runErr; rw [if_neg (by omega), if_neg (by omega), if_neg (by omega)]) (run_2 n w hz (by omega) e2)
  by_cases e3 : n ≤ 47
  · exact key (by unfold runOf; rw [if_neg (by omega), if_neg (by omega), if_neg (by omega), if_pos (by omega)]) (by unfold runErr; rw [if_neg (by omega), if_neg (by omega), if_neg (by omega)]) (run_3 n w hz (by omega) e3)
  exact key (by unfold runOf; rw [if_neg (by omega), if_neg (by omega), if_neg (by omega), if_neg (by omega)]) (by unfold runErr; rw [if_neg (by omega), if_neg (by omega), if_neg (by omega)]) (run_4 n w hz (by omega) (by omega))
end Go.Proofs.YtcbnefjfoeanoaaDoor.Cl
end
section
namespace Go.Proofs.YtcbnefjfoeanoaaDoor.Cl
open Go.Proofs.YtcbnefjfoeanoaaDoor
set_option maxRecDepth 100000
open Go.RowKit

theorem rwords_at0 (w : World) :
    Calls Tryd.prog 40 #[.int .i64 0] w fun e w' => e = .returned (.int .i64 2) ∧ w = w' := by
  go_enter Tryd.func40, Tryd.ntmps40
  go_wp2
  go_ret
  exact ⟨rfl, rfl⟩
theorem rwords_at1 (w : World) :
    Calls Tryd.prog 40 #[.int .i64 1] w fun e w' => e = .returned (.int .i64 4) ∧ w = w' := by
  go_enter Tryd.func40, Tryd.ntmps40
  go_wp2
  go_ret
  exact ⟨rfl, rfl⟩
theorem rwords_at2 (w : World) :
    Calls Tryd.prog 40 #[.int .i64 2] w fun e w' => e = .returned (.int .i64 8) ∧ w = w' := by
  go_enter Tryd.func40, Tryd.ntmps40
  go_wp2
  go_ret
  exact ⟨rfl, rfl⟩
theorem rwords_low (c : Int) (w : World) (h : c < 0) :
    Calls Tryd.prog 40 #[.int .i64 c] w fun e w' => e = .returned (.int .i64 0) ∧ w = w' := by
  have b0 : (c == 0) = false := by simp; omega
  have b1 : (c == 1) = false := by simp; omega
  have b2 : (c == 2) = false := by simp; omega
  go_enter Tryd.func40, Tryd.ntmps40
  go_wp2
  go_ret
  exact ⟨rfl, rfl⟩
theorem rwords_high (c : Int) (w : World) (h : 2 < c) :
    Calls Tryd.prog 40 #[.int .i64 c] w fun e w' => e = .returned (.int .i64 0) ∧ w = w' := by
  have b0 : (c == 0) = false := by simp; omega
  have b1 : (c == 1) = false := by simp; omega
  have b2 : (c == 2) = false := by simp; omega
  go_enter Tryd.func40, Tryd.ntmps40
  go_wp2
  go_ret
  exact ⟨rfl, rfl⟩
theorem rwords_of (c : Int) (w : World) :
    Calls Tryd.prog 40 #[.int .i64 c] w fun e w' => e = .returned (.int .i64 (wordsOf c)) ∧ w = w' := by
  by_cases h : c < 0 ∨ 2 < c
  · rw [wordsOf_no h]
    rcases h with h | h
    · exact rwords_low c w h
    · exact rwords_high c w h
  · have hc : c = 0 ∨ c = 1 ∨ c = 2 := by omega
    clear h
    rcases hc with rfl | rfl | rfl
    · exact rwords_at0 w
    · exact rwords_at1 w
    · exact rwords_at2 w
theorem rcells_at0 (w : World) :
    Calls Tryd.prog 16 #[.int .i64 0] w fun e w' => e = .returned (.int .i64 8) ∧ w = w' := by
  go_enter Tryd.func16, Tryd.ntmps16
  go_wp2_with (go_at_call 40; (with_reducible refine (rwords_at0 _).mono ?_); rintro e w1 ⟨rfl, rfl⟩)
  go_ret
  exact ⟨rfl, rfl⟩
theorem rcells_at1 (w : World) :
    Calls Tryd.prog 16 #[.int .i64 1] w fun e w' => e = .returned (.int .i64 4) ∧ w = w' := by
  go_enter Tryd.func16, Tryd.ntmps16
  go_wp2_with (go_at_call 40; (with_reducible refine (rwords_at1 _).mono ?_); rintro e w1 ⟨rfl, rfl⟩)
  go_ret
  exact ⟨rfl, rfl⟩
theorem rcells_at2 (w : World) :
    Calls Tryd.prog 16 #[.int .i64 2] w fun e w' => e = .returned (.int .i64 2) ∧ w = w' := by
  go_enter Tryd.func16, Tryd.ntmps16
  go_wp2_with (go_at_call 40; (with_reducible refine (rwords_at2 _).mono ?_); rintro e w1 ⟨rfl, rfl⟩)
  go_ret
  exact ⟨rfl, rfl⟩
theorem rcells_low (c : Int) (w : World) (h : c < 0) :
    Calls Tryd.prog 16 #[.int .i64 c] w fun e w' => e = .returned (.int .i64 0) ∧ w = w' := by
  go_enter Tryd.func16, Tryd.ntmps16
  go_wp2_with (go_at_call 40; (with_reducible refine (rwords_low _ _ h).mono ?_); rintro e w1 ⟨rfl, rfl⟩)
  go_ret
  exact ⟨rfl, rfl⟩
theorem rcells_high (c : Int) (w : World) (h : 2 < c) :
    Calls Tryd.prog 16 #[.int .i64 c] w fun e w' => e = .returned (.int .i64 0) ∧ w = w' := by
  go_enter Tryd.func16, Tryd.ntmps16
  go_wp2_with (go_at_call 40; (with_reducible refine (rwords_high _ _ h).mono ?_); rintro e w1 ⟨rfl, rfl⟩)
  go_ret
  exact ⟨rfl, rfl⟩
theorem rcells_of (c : Int) (w : World) :
    Calls Tryd.prog 16 #[.int .i64 c] w fun e w' => e = .returned (.int .i64 (perPage c)) ∧ w = w' := by
  by_cases h : c < 0 ∨ 2 < c
  · rw [perPage_no h]
    rcases h with h | h
    · exact rcells_low c w h
    · exact rcells_high c w h
  · have hc : c = 0 ∨ c = 1 ∨ c = 2 := by omega
    clear h
    rcases hc with rfl | rfl | rfl
    · exact rcells_at0 w
    · exact rcells_at1 w
    · exact rcells_at2 w
end Go.Proofs.YtcbnefjfoeanoaaDoor.Cl
end
section
namespace Go.Proofs.YtcbnefjfoeanoaaDoor
open Go.RowKit
set_option maxRecDepth 100000

/-- The box of a heap. -/
structure HBox (W : World) (b : Nat) (s : Hs) : Prop where
  c0 : W.cell? ⟨b, 0, none⟩ = some (.slice s.w.a s.w.n s.w.c)
  c1 : W.cell? ⟨b, 1, none⟩ = some (.slice s.p.a s.p.n s.p.c)
  c2 : W.cell? ⟨b, 2, none⟩ = some (.slice (s.u 0).a (s.u 0).n (s.u 0).c)
  c3 : W.cell? ⟨b, 3, none⟩ = some (.slice (s.u 1).a (s.u 1).n (s.u 1).c)
  c4 : W.cell? ⟨b, 4, none⟩ = some (.slice (s.u 2).a (s.u 2).n (s.u 2).c)
  c5 : W.cell? ⟨b, 5, none⟩ = some (.slice s.c.a s.c.n s.c.c)
  lt : b < W.heap.size
theorem HBox.new (w : World) (s : Hs) (t : TypeId) : HBox (w.alloc (.cells #[.slice s.w.a s.w.n s.w.c, .slice s.p.a s.p.n s.p.c, .slice (s.u 0).a (s.u 0).n (s.u 0).c, .slice (s.u 1).a (s.u 1).n (s.u 1).c, .slice (s.u 2).a (s.u 2).n (s.u 2).c, .slice s.c.a s.c.n s.c.c] t)) w.heap.size s := by
  refine ⟨?_, ?_, ?_, ?_, ?_, ?_, by simp⟩ <;> simp [go_sem]
theorem HBox.next {W W' : World} {b : Nat} {s : Hs} (h : HBox W b s) (hb : Below W.heap.size W W') : HBox W' b s :=
  ⟨(hb.cell (p := ⟨b, 0, none⟩) h.lt).trans h.c0, (hb.cell (p := ⟨b, 1, none⟩) h.lt).trans h.c1, (hb.cell (p := ⟨b, 2, none⟩) h.lt).trans h.c2, (hb.cell (p := ⟨b, 3, none⟩) h.lt).trans h.c3, (hb.cell (p := ⟨b, 4, none⟩) h.lt).trans h.c4, (hb.cell (p := ⟨b, 5, none⟩) h.lt).trans h.c5, Nat.lt_of_lt_of_le h.lt hb.size⟩

def nOf (x : Int) : Int := x / 8 % 128
def cellB (x : Int) (p : Int × Int) : Bool :=
  if Hd.isWord x = true ∧ x % 2 = 1 then (Cl.classErr (nOf x) == 0) && (if p.1 = 1 then Cl.classOf (nOf x) == p.2 else (Cl.runErr (nOf x) == 0) && (Cl.runOf (nOf x) == p.2))
  else Hd.isWord x && (p.1 == 1)
theorem headOf_no {x : Int} (h : Hd.isWord x = false) : headOf x = .agg #[.bool false, .bool false, .bool false, .int .i64 0, .int .i64 0, .int .i64 0] := by simp [headOf, h]
theorem headOf_yes {x : Int} (h : Hd.isWord x = true) : headOf x = .agg #[.bool (decide (x % 2 = 1)), .bool (decide (x / 2 % 2 = 1)), .bool (decide (x / 4 % 2 = 1)), .int .i64 (nOf x), .int .i64 (x / 1024 % 4194304), .int .i64 (x / 4294967296)] := by simp [headOf, h, nOf]
section
variable (s : Hs) (d : Hd_) (w : World) (a : Int) (i j : Nat) (x : Int) (p : Int × Int)
end
end Go.Proofs.YtcbnefjfoeanoaaDoor
end
section
namespace Go.Proofs.YtcbnefjfoeanoaaDoor.Cl
open Go.Proofs.YtcbnefjfoeanoaaDoor
set_option maxRecDepth 100000

/-- A page, seen alone. -/
def pmB (p : Int × Int) : Bool := (p.1 == 0 && p.2 == 0) || (p.1 == 1 && decide (0 ≤ p.2) && decide (p.2 ≤ 2)) || (p.1 == 2 && decide (1 ≤ p.2) && decide (p.2 ≤ 4)) || (p.1 == 3 && p.2 == 0)
theorem pmB_iff (p : Int × Int) : pmB p = true ↔ (p.1 = 0 ∧ p.2 = 0) ∨ (p.1 = 1 ∧ 0 ≤ p.2 ∧ p.2 ≤ 2) ∨ (p.1 = 2 ∧ 1 ≤ p.2 ∧ p.2 ≤ 4) ∨ (p.1 = 3 ∧ p.2 = 0) := by
  simp [pmB, or_assoc, and_assoc]

/-- How many pages the large object ahead of page k still asks for. -/
def st (f : Nat → Int × Int) : Nat → Int
  | 0 => 0
  | k + 1 => if (f k).1 = 2 then (f k).2 - 1 else if 0 < st f k then st f k - 1 else st f k
def okB (f : Nat → Int × Int) (k : Nat) : Bool := pmB (f k) && (decide ((f k).1 = 3) == decide (0 < st f k))
theorem okB_iff (f : Nat → Int × Int) (k : Nat) : okB f k = true ↔ pmB (f k) = true ∧ ((f k).1 = 3 ↔ 0 < st f k) := by
  simp [okB]
def mayB (f : Nat → Int × Int) (n : Nat) : Bool := decide (1 ≤ n) && decide (n ≤ 64) && (List.range n).all (okB f) && (st f n == 0)
theorem mayB_iff (f : Nat → Int × Int) (n : Nat) : mayB f n = true ↔ 1 ≤ n ∧ n ≤ 64 ∧ (∀ k, k < n → okB f k = true) ∧ st f n = 0 := by
  simp [mayB, and_assoc]
theorem mayB_short {f : Nat → Int × Int} {n : Nat} (h : n < 1 ∨ 64 < n) : mayB f n = false := by
  rw [Bool.eq_false_iff]
  intro h'
  have := (mayB_iff f n).1 h'
  omega
theorem mayB_not {f : Nat → Int × Int} {n k : Nat} (hk : k < n) (h : okB f k = false) : mayB f n = false := by
  rw [Bool.eq_false_iff]
  intro h'
  have := ((mayB_iff f n).1 h').2.2.1 k hk
  rw [h] at this
  cases this
theorem mayB_end {f : Nat → Int × Int} {n : Nat} (h : st f n ≠ 0) : mayB f n = false := by
  rw [Bool.eq_false_iff]
  intro h'
  exact h ((mayB_iff f n).1 h').2.2.2
theorem mayB_mk {f : Nat → Int × Int} {n : Nat} (h0 : 1 ≤ n) (h1 : n ≤ 64) (h2 : ∀ k, k < n → okB f k = true) (h3 : st f n = 0) : mayB f n = true := (mayB_iff f n).2 ⟨h0, h1, h2, h3⟩
theorem st_nonneg {f : Nat → Int × Int} {n : Nat} (h : ∀ k, k < n → okB f k = true) : ∀ k, k ≤ n → 0 ≤ st f k ∧ st f k ≤ 3
  | 0, _ => by simp [st]
  | k + 1, hk => by
    have hr := st_nonneg h k (by omega)
    have h1 := (okB_iff f k).1 (h k (by omega))
    have h2 := (pmB_iff _).1 h1.1
    unfold st
    split
    · omega
    · split <;> omega
theorem st_congr {f g : Nat → Int × Int} : ∀ k, (∀ j, j < k → g j = f j) → st g k = st f k
  | 0, _ => rfl
  | k + 1, h => by
    have hr := st_congr k (fun j hj => h j (by omega))
    unfold st
    rw [hr, h k (by omega)]
theorem st_on {f g : Nat → Int × Int} {a : Nat} (ha : st g a = st f a) : ∀ k, (∀ j, a ≤ j → j < a + k → g j = f j) → st g (a + k) = st f (a + k)
  | 0, _ => ha
  | k + 1, h => by
    have hr := st_on ha k (fun j hj hk => h j hj (by omega))
    show st g (a + k + 1) = st f (a + k + 1)
    unfold st
    rw [hr, h (a + k) (by omega) (by omega)]
/-- Pages changed from a to a + m alone: they may be, where what stands there now fits in. -/
theorem may_changed {f g : Nat → Int × Int} {n a m : Nat} (h : mayB f n = true) (hm : a + m ≤ n) (hl : ∀ j, j < a → g j = f j) (hr : ∀ j, a + m ≤ j → g j = f j)
    (hs : st g (a + m) = st f (a + m)) (hok : ∀ j, j < m → okB g (a + j) = true) : mayB g n = true := by
  obtain ⟨h0, h1, h2, h3⟩ := (mayB_iff f n).1 h
  refine mayB_mk h0 h1 (fun k hk => ?_) ?_
  · by_cases hka : k < a
    · have e := h2 k hk
      rw [okB_iff] at e ⊢
      rw [hl k hka, st_congr k (fun j hj => hl j (by omega))]
      exact e
    · by_cases hkm : k < a + m
      · have := hok (k - a) (by omega)
        rwa [show a + (k - a) = k by omega] at this
      · have e := h2 k hk
        rw [okB_iff] at e ⊢
        have es := st_on (f := f) (g := g) hs (k - (a + m)) (fun j hj _ => hr j hj)
        rw [show a + m + (k - (a + m)) = k by omega] at es
        rw [hr k (by omega), es]
        exact e
  · have es := st_on (f := f) (g := g) hs (n - (a + m)) (fun j hj _ => hr j hj)
    rw [show a + m + (n - (a + m)) = n by omega] at es
    rw [es, h3]

/-- n pages from page a on are free. -/
def freeB (f : Nat → Int × Int) (a n : Nat) : Bool := (List.range n).all fun j => (f (a + j)).1 == 0
theorem freeB_iff (f : Nat → Int × Int) (a n : Nat) : freeB f a n = true ↔ ∀ j, j < n → (f (a + j)).1 = 0 := by
  simp [freeB]
theorem freeB_not {f : Nat → Int × Int} {a n j : Nat} (hj : j < n) (h : (f (a + j)).1 ≠ 0) : freeB f a n = false := by
  rw [Bool.eq_false_iff]
  intro h'
  exact h ((freeB_iff f a n).1 h' j hj)
theorem freeB_ex {f : Nat → Int × Int} {a n : Nat} (h : freeB f a n = false) : ∃ j, j < n ∧ (f (a + j)).1 ≠ 0 := by
  by_cases he : ∃ j, j < n ∧ (f (a + j)).1 ≠ 0
  · exact he
  · have : freeB f a n = true := (freeB_iff f a n).2 (fun j hj => by
      by_cases e : (f (a + j)).1 = 0
      · exact e
      · exact absurd ⟨j, hj, e⟩ he)
    rw [h] at this
    cases this
theorem free_zero {f : Nat → Int × Int} {n k : Nat} (h : mayB f n = true) (hk : k < n) (hf : (f k).1 = 0) : f k = (0, 0) ∧ st f k = 0 := by
  obtain ⟨h0, h1, h2, h3⟩ := (mayB_iff f n).1 h
  have ho := (okB_iff f k).1 (h2 k hk)
  have hp := (pmB_iff _).1 ho.1
  have hn := st_nonneg h2 k (by omega)
  have hz : ¬ 0 < st f k := fun hh => by have := ho.2.2 hh; omega
  exact ⟨Prod.ext hf (by omega), by omega⟩
theorem free_st {f : Nat → Int × Int} {n a m : Nat} (h : mayB f n = true) (hm : a + m ≤ n) (h1 : 1 ≤ m) (hf : freeB f a m = true) : st f (a + m) = 0 := by
  have hz := free_zero h (k := a + (m - 1)) (by omega) ((freeB_iff f a m).1 hf (m - 1) (by omega))
  have : st f (a + (m - 1) + 1) = 0 := by
    unfold st
    rw [hz.1, hz.2]
    simp
  rwa [show a + (m - 1) + 1 = a + m by omega] at this

theorem put_ne {f : Nat → Int × Int} {a j : Nat} {p : Int × Int} (h : j ≠ a) : put f a p j = f j := if_neg h
theorem put_eq {f : Nat → Int × Int} {a : Nat} {p : Int × Int} : put f a p a = p := if_pos rfl
/-- A small page at a place. -/
theorem small_may {f : Nat → Int × Int} {n a : Nat} {c : Int} (h : mayB f n = true) (ha : a < n) (hf : (f a).1 = 0) (h0 : 0 ≤ c) (h1 : c ≤ 2) : mayB (put f a (1, c)) n = true := by
  obtain ⟨hz, hs⟩ := free_zero h ha hf
  have hg : st (put f a (1, c)) a = 0 := by rw [st_congr a (fun j hj => put_ne (by omega)), hs]
  refine may_changed (a := a) (m := 1) h (by omega) (fun j hj => put_ne (by omega)) (fun j hj => put_ne (by omega)) ?_ ?_
  · unfold st
    rw [hs, hg, hz]
    simp [put]
  · intro j hj
    obtain rfl : j = 0 := by omega
    rw [okB_iff]
    simp only [Nat.add_zero, hg]
    refine ⟨(pmB_iff _).2 (.inr (.inl ?_)), ?_⟩ <;> simp [put, h0, h1]

/-- A large object's m pages from a place on. -/
def large (f : Nat → Int × Int) (a : Nat) (m : Int) : Nat → Int × Int := fun j => if j = a then (2, m) else if a < j ∧ (j : Int) < a + m then (3, 0) else f j
theorem large_st {f : Nat → Int × Int} {a : Nat} {m : Int} (h1 : 1 ≤ m) : ∀ j : Nat, (j : Int) < m → st (large f a m) (a + j + 1) = m - j - 1
  | 0, _ => by
    unfold st
    simp [large]
  | j + 1, hj => by
    have hr := large_st (f := f) (a := a) h1 j (by omega)
    show st (large f a m) (a + j + 1 + 1) = _
    unfold st
    rw [hr]
    have e : large f a m (a + j + 1) = (3, 0) := by
      unfold large
      rw [if_neg (by omega), if_pos (by omega)]
    rw [e]
    simp
    rw [if_pos (by omega)]
    omega
theorem large_may {f : Nat → Int × Int} {n a : Nat} {m : Int} (h : mayB f n = true) (h1 : 1 ≤ m) (h4 : m ≤ 4) (ha : (a : Int) + m ≤ n) (hf : freeB f a m.toNat = true) : mayB (large f a m) n = true := by
  obtain ⟨k, rfl⟩ : ∃ k : Nat, m = k := ⟨m.toNat, by omega⟩
  simp only [Int.toNat_natCast] at hf
  have hst := free_st h (by omega) (by omega) hf
  obtain ⟨hz, hs⟩ := free_zero h (k := a) (by omega) (by simpa using (freeB_iff f a k).1 hf 0 (by omega))
  have hl : ∀ j, j < a → large f a k j = f j := fun j hj => by unfold large; rw [if_neg (by omega), if_neg (by omega)]
  have hg : st (large f a k) a = 0 := by rw [st_congr a hl, hs]
  refine may_changed (a := a) (m := k) h (by omega) hl (fun j hj => by unfold large; rw [if_neg (by omega), if_neg (by omega)]) ?_ ?_
  · have := large_st (f := f) (a := a) h1 (k - 1) (by omega)
    rw [show a + (k - 1) + 1 = a + k by omega] at this
    rw [this, hst]
    omega
  · intro j hj
    rw [okB_iff]
    match j, hj with
    | 0, _ =>
      simp only [Nat.add_zero, hg]
      refine ⟨(pmB_iff _).2 (.inr (.inr (.inl ?_))), ?_⟩
      · simp [large]; omega
      · simp [large]
    | j + 1, hj =>
      have e : large f a k (a + (j + 1)) = (3, 0) := by
        unfold large
        rw [if_neg (by omega), if_pos (by omega)]
      have es := large_st (f := f) (a := a) h1 j (by omega)
      rw [show a + (j + 1) = a + j + 1 by omega] at e ⊢
      rw [e, es]
      refine ⟨by decide, ?_⟩
      simp
      omega

/-- How many pages begin at page a, where a small or a large one does. -/
def wide (f : Nat → Int × Int) (a : Nat) : Int := if (f a).1 = 2 then (f a).2 else 1
def drop (f : Nat → Int × Int) (a : Nat) : Nat → Int × Int := fun j => if a ≤ j ∧ (j : Int) < a + wide f a then (0, 0) else f j
theorem wide_facts {f : Nat → Int × Int} {n a : Nat} (h : mayB f n = true) (ha : a < n) (hk : (f a).1 = 1 ∨ (f a).1 = 2) :
    1 ≤ wide f a ∧ wide f a ≤ 4 ∧ (a : Int) + wide f a ≤ n ∧ st f a = 0 ∧ (∀ j : Nat, (j : Int) < wide f a → st f (a + j + 1) = wide f a - j - 1 ∧ (0 < j → f (a + j) = (3, 0))) := by
  obtain ⟨h0, h1, h2, h3⟩ := (mayB_iff f n).1 h
  have ho := (okB_iff f a).1 (h2 a ha)
  have hp := (pmB_iff _).1 ho.1
  have hn := st_nonneg h2 a (by omega)
  have hz : ¬ 0 < st f a := fun hh => by have := ho.2.2 hh; omega
  have hw : 1 ≤ wide f a ∧ wide f a ≤ 4 := by
    unfold wide
    split <;> omega
  have hj : ∀ j : Nat, (j : Int) < wide f a → a + j < n → st f (a + j + 1) = wide f a - j - 1 ∧ (0 < j → f (a + j) = (3, 0)) := by
    intro j
    induction j with
    | zero =>
      intro _ _
      refine ⟨?_, fun hh => absurd hh (by omega)⟩
      show st f (a + 1) = _
      unfold st wide
      split
      · simp
      · omega
    | succ j ih =>
      intro hj hjn
      obtain ⟨e, _⟩ := ih (by omega) (by omega)
      have ho := (okB_iff f (a + j + 1)).1 (h2 (a + j + 1) (by omega))
      have h3' : (f (a + j + 1)).1 = 3 := ho.2.2 (by rw [e]; omega)
      have hp := (pmB_iff _).1 ho.1
      have ef : f (a + j + 1) = (3, 0) := Prod.ext h3' (by omega)
      refine ⟨?_, fun _ => ef⟩
      show st f (a + j + 1 + 1) = _
      unfold st
      rw [ef, e]
      simp
      rw [if_pos (by omega)]
      omega
  have hfit : (a : Int) + wide f a ≤ n := by
    by_cases hc : (a : Int) + wide f a ≤ n
    · exact hc
    · exfalso
      have := (hj (n - a - 1) (by omega) (by omega)).1
      rw [show a + (n - a - 1) + 1 = n by omega, h3] at this
      omega
  exact ⟨hw.1, hw.2, hfit, by omega, fun j hh => hj j hh (by omega)⟩
theorem drop_may {f : Nat → Int × Int} {n a : Nat} (h : mayB f n = true) (ha : a < n) (hk : (f a).1 = 1 ∨ (f a).1 = 2) : mayB (drop f a) n = true := by
  obtain ⟨h1, h4, hn, hz, hj⟩ := wide_facts h ha hk
  obtain ⟨k, ek⟩ : ∃ k : Nat, wide f a = k := ⟨(wide f a).toNat, by omega⟩
  have hl : ∀ j, j < a → drop f a j = f j := fun j hj => by unfold drop; rw [if_neg (by omega)]
  have hin : ∀ j, j < k → drop f a (a + j) = (0, 0) := fun j hj => by unfold drop; rw [if_pos (by omega)]
  have hg : ∀ j, j ≤ k → st (drop f a) (a + j) = 0 := by
    intro j
    induction j with
    | zero => intro _; rw [Nat.add_zero, st_congr a hl, hz]
    | succ j ih =>
      intro hj
      show st (drop f a) (a + j + 1) = 0
      unfold st
      rw [ih (by omega), hin j (by omega)]
      simp
  refine may_changed (a := a) (m := k) h (by omega) hl (fun j hj => by unfold drop; rw [if_neg (by omega)]) ?_ ?_
  · rw [hg k (Nat.le_refl _)]
    have := (hj (k - 1) (by omega)).1
    rw [show a + (k - 1) + 1 = a + k by omega, ek] at this
    omega
  · intro j hj
    rw [okB_iff, hin j hj, hg j (by omega)]
    exact ⟨by decide, by decide⟩

/-- How many of the first k pages are of a kind. -/
def cnt (f : Nat → Int × Int) (kind : Int) : Nat → Int
  | 0 => 0
  | k + 1 => if (f k).1 = kind then cnt f kind k + 1 else cnt f kind k
theorem cnt_succ (f : Nat → Int × Int) (kind : Int) (k : Nat) : cnt f kind (k + 1) = if (f k).1 = kind then cnt f kind k + 1 else cnt f kind k := rfl
theorem cnt_bd (f : Nat → Int × Int) (kind : Int) : ∀ k : Nat, 0 ≤ cnt f kind k ∧ cnt f kind k ≤ k
  | 0 => by simp [cnt]
  | k + 1 => by
    have := cnt_bd f kind k
    unfold cnt
    split <;> omega
theorem cnt_congr {f g : Nat → Int × Int} (kind : Int) : ∀ k, (∀ j, j < k → (g j).1 = (f j).1) → cnt g kind k = cnt f kind k
  | 0, _ => rfl
  | k + 1, h => by
    unfold cnt
    rw [cnt_congr kind k (fun j hj => h j (by omega)), h k (by omega)]
/-- Two runs of pages, which differ from a to a + m alone. -/
theorem cnt_split (f : Nat → Int × Int) (kind : Int) (a : Nat) : ∀ k, cnt f kind (a + k) = cnt f kind a + cnt (fun j => f (a + j)) kind k
  | 0 => by simp [cnt]
  | k + 1 => by
    show cnt f kind (a + k + 1) = _
    rw [cnt_succ, cnt_succ, cnt_split f kind a k]
    split <;> omega
theorem cnt_all {f : Nat → Int × Int} {kind : Int} : ∀ {k : Nat}, (∀ j, j < k → (f j).1 = kind) → cnt f kind k = k
  | 0, _ => by simp [cnt]
  | k + 1, h => by
    unfold cnt
    rw [if_pos (h k (by omega)), cnt_all (fun j hj => h j (by omega))]
    omega
theorem cnt_none {f : Nat → Int × Int} {kind : Int} : ∀ {k : Nat}, (∀ j, j < k → (f j).1 ≠ kind) → cnt f kind k = 0
  | 0, _ => by simp [cnt]
  | k + 1, h => by
    unfold cnt
    rw [if_neg (h k (by omega)), cnt_none (fun j hj => h j (by omega))]
theorem cnt_lt {f : Nat → Int × Int} {kind : Int} : ∀ {k : Nat}, (∃ j, j < k ∧ (f j).1 ≠ kind) → cnt f kind k < k
  | 0, ⟨_, h, _⟩ => absurd h (by omega)
  | k + 1, ⟨j, hj, hne⟩ => by
    have hb := cnt_bd f kind k
    unfold cnt
    split
    · next he =>
      have hjk : j ≠ k := fun e => hne (e ▸ he)
      have := cnt_lt (f := f) (kind := kind) (k := k) ⟨j, by omega, hne⟩
      omega
    · omega
theorem free_cnt (f : Nat → Int × Int) (a n : Nat) : freeB f a n = decide ((n : Int) ≤ cnt (fun j => f (a + j)) 0 n) := by
  cases h : freeB f a n
  · have := cnt_lt (f := fun j => f (a + j)) (kind := 0) (freeB_ex h)
    simp
    omega
  · have := cnt_all (f := fun j => f (a + j)) (kind := 0) (k := n) ((freeB_iff f a n).1 h)
    simp
    omega
/-- Pages changed from a to a + m alone: what that does to how many are of a kind. -/
theorem cnt_changed {f g : Nat → Int × Int} (kind : Int) {a m n : Nat} (hn : a + m ≤ n) (hl : ∀ j, j < a → g j = f j) (hr : ∀ j, a + m ≤ j → g j = f j) :
    cnt g kind n - cnt f kind n = cnt (fun j => g (a + j)) kind m - cnt (fun j => f (a + j)) kind m := by
  obtain ⟨r, rfl⟩ : ∃ r, n = a + m + r := ⟨n - (a + m), by omega⟩
  rw [cnt_split g kind (a + m) r, cnt_split f kind (a + m) r, cnt_split g kind a m, cnt_split f kind a m]
  rw [cnt_congr (f := f) (g := g) kind a (fun j hj => by rw [hl j hj])]
  rw [cnt_congr (f := fun j => f (a + m + j)) (g := fun j => g (a + m + j)) kind r (fun j _ => by rw [hr (a + m + j) (by omega)])]
  omega
end Go.Proofs.YtcbnefjfoeanoaaDoor.Cl
end
section
namespace Go.Proofs.YtcbnefjfoeanoaaDoor.Cl
open Go.Proofs.YtcbnefjfoeanoaaDoor
set_option maxRecDepth 100000
open Go.RowKit

theorem cnt_hit {f : Nat → Int × Int} {kind : Int} {k : Nat} (h : (f k).1 = kind) : cnt f kind (k + 1) = cnt f kind k + 1 := if_pos h
theorem cnt_miss {f : Nat → Int × Int} {kind : Int} {k : Nat} (h : (f k).1 ≠ kind) : cnt f kind (k + 1) = cnt f kind k := if_neg h

set_option maxHeartbeats 400000 in
theorem count_any (B : Nat) (A : Option Addr) (n c : Nat) (f : Nat → Int × Int) (kind : Int) (w : World) (hn : n ≤ 1000) (hr : PRow w B A n f) (hB : B ≤ w.heap.size) :
    Calls Tryd.prog 17 #[.slice A n c, .int .i64 kind] w fun e w' => e = .returned (.int .i64 (cnt f kind n)) ∧ Below w.heap.size w w' := by
  have HR := Lib.hid hr
  clear hr
  go_enter Tryd.func17, Tryd.ntmps17
  go_wp2
  go_loopw [5, 10] (fun v i wr => ∃ k : Nat, k ≤ n ∧ i = .int .i64 k ∧ v = .int .i64 (cnt f kind k) ∧ Below w.heap.size w wr) (fun _ i _ => n - (intOf i).toNat)
  case atStart => exact ⟨0, Nat.zero_le _, rfl, rfl, Below.refl _ _⟩
  case round =>
    obtain ⟨k, hk, rfl, rfl, hb⟩ := hrel
    have hd := cnt_bd f kind k
    by_cases hlt : k < n
    · obtain ⟨b, off, rfl, hbB, hc⟩ := (HR.out.over hb hB) (by omega)
      obtain ⟨c0, c1⟩ := hc k hlt
      have HB := Lib.hid hb
      have hz := hb.size
      clear hb hc
      by_cases he : (f k).1 = kind
      · have HS := Lib.hid (cnt_hit he)
        have he' : ((f k).1 == kind) = true := by simpa using he
        clear he
        go_wp2
        go_roundw
        case rel => exact ⟨k + 1, by omega, by go_num, by rw [HS.out], HB.out.alloc hz _⟩
        case measure => simp [intOf]; omega
      · have HS := Lib.hid (cnt_miss he)
        have he' : ((f k).1 == kind) = false := by simpa using he
        clear he
        go_wp2
        go_roundw
        case rel => exact ⟨k + 1, by omega, by go_num, by rw [HS.out], HB.out.alloc hz _⟩
        case measure => simp [intOf]; omega
    · go_wp2
      go_ret
      obtain rfl : k = n := by omega
      exact ⟨rfl, hb⟩

end Go.Proofs.YtcbnefjfoeanoaaDoor.Cl
end
section
namespace Go.Proofs.YtcbnefjfoeanoaaDoor.Cl
open Go.Proofs.YtcbnefjfoeanoaaDoor
set_option maxRecDepth 100000
open Go.RowKit

/-- Is there such a class? May a large object have so many pages? -/
def clB (c : Int) : Bool := decide (0 ≤ c) && decide (c ≤ 2)
def runB (n : Int) : Bool := decide (1 ≤ n) && decide (n ≤ 4)
theorem clB_iff (c : Int) : clB c = true ↔ 0 ≤ c ∧ c ≤ 2 := by simp [clB]
theorem runB_iff (c : Int) : runB c = true ↔ 1 ≤ c ∧ c ≤ 4 := by simp [runB]
theorem clB_not {c : Int} (h : ¬ (0 ≤ c ∧ c ≤ 2)) : clB c = false := by
  rw [Bool.eq_false_iff]
  exact fun h' => h ((clB_iff c).1 h')
theorem runB_not {c : Int} (h : ¬ (1 ≤ c ∧ c ≤ 4)) : runB c = false := by
  rw [Bool.eq_false_iff]
  exact fun h' => h ((runB_iff c).1 h')

theorem isClass_any (c : Int) (w : World) :
    Calls Tryd.prog 103 #[.int .i64 c] w fun e w' => e = .returned (.bool (clB c)) ∧ w = w' := by
  by_cases h0 : 0 ≤ c
  · by_cases h1 : c ≤ 2
    · have e := Lib.hid ((clB_iff c).2 ⟨h0, h1⟩)
      have d0 : decide (c < 3) = true := by simp; omega
      go_enter Tryd.func103, Tryd.ntmps103
      go_wp2
      go_ret
      exact ⟨by rw [e.out]; rfl, rfl⟩
    · have e := Lib.hid (clB_not (c := c) (by omega))
      have d0 : decide (c < 3) = false := by simp; omega
      go_enter Tryd.func103, Tryd.ntmps103
      go_wp2
      go_ret
      exact ⟨by rw [e.out]; rfl, rfl⟩
  · have e := Lib.hid (clB_not (c := c) (by omega))
    have d0 : decide (0 ≤ c) = false := by simpa using h0
    go_enter Tryd.func103, Tryd.ntmps103
    go_wp2
    go_ret
    exact ⟨by rw [e.out]; rfl, rfl⟩
theorem isRun_any (c : Int) (w : World) :
    Calls Tryd.prog 104 #[.int .i64 c] w fun e w' => e = .returned (.bool (runB c)) ∧ w = w' := by
  by_cases h0 : 1 ≤ c
  · by_cases h1 : c ≤ 4
    · have e := Lib.hid ((runB_iff c).2 ⟨h0, h1⟩)
      have d0 : decide (c ≤ 4) = true := by simp; omega
      go_enter Tryd.func104, Tryd.ntmps104
      go_wp2
      go_ret
      exact ⟨by rw [e.out]; rfl, rfl⟩
    · have e := Lib.hid (runB_not (c := c) (by omega))
      have d0 : decide (c ≤ 4) = false := by simp; omega
      go_enter Tryd.func104, Tryd.ntmps104
      go_wp2
      go_ret
      exact ⟨by rw [e.out]; rfl, rfl⟩
  · have e := Lib.hid (runB_not (c := c) (by omega))
    have d0 : decide (1 ≤ c) = false := by simpa using h0
    go_enter Tryd.func104, Tryd.ntmps104
    go_wp2
    go_ret
    exact ⟨by rw [e.out]; rfl, rfl⟩

theorem pmB_small (b : Int) : pmB (1, b) = clB b := by simp [pmB, clB]
theorem pmB_large (b : Int) : pmB (2, b) = runB b := by simp [pmB, runB]
theorem pmB_free (b : Int) : pmB (0, b) = (b == 0) := by simp [pmB]
theorem pmB_rest (b : Int) : pmB (3, b) = (b == 0) := by simp [pmB]
theorem pmB_no (a b : Int) (h0 : a ≠ 0) (h1 : a ≠ 1) (h2 : a ≠ 2) (h3 : a ≠ 3) : pmB (a, b) = false := by simp [pmB, h0, h1, h2, h3]

theorem pmay_any (p : Int × Int) (w : World) :
    Calls Tryd.prog 92 #[.agg #[.int .i64 p.1, .int .i64 p.2]] w fun e w' => e = .returned (.bool (pmB p)) ∧ Below w.heap.size w w' := by
  obtain ⟨a, b⟩ := p
  show Calls Tryd.prog 92 #[.agg #[.int .i64 a, .int .i64 b]] w _
  by_cases h1 : a = 1
  · subst h1
    rw [pmB_small]
    go_enter Tryd.func92, Tryd.ntmps92
    go_wp2_with fail
    refine (isClass_any _ _).mono ?_
    rintro e w1 ⟨rfl, rfl⟩
    go_wp2
    go_ret
    exact ⟨rfl, (Below.refl _ _).alloc (Nat.le_refl _) _⟩
  by_cases h2 : a = 2
  · subst h2
    rw [pmB_large]
    go_enter Tryd.func92, Tryd.ntmps92
    go_wp2_with fail
    refine (isRun_any _ _).mono ?_
    rintro e w1 ⟨rfl, rfl⟩
    go_wp2
    go_ret
    exact ⟨rfl, (Below.refl _ _).alloc (Nat.le_refl _) _⟩
  by_cases h0 : a = 0
  · subst h0
    rw [pmB_free]
    go_enter Tryd.func92, Tryd.ntmps92
    go_wp2
    go_ret
    exact ⟨rfl, (Below.refl _ _).alloc (Nat.le_refl _) _⟩
  by_cases h3 : a = 3
  · subst h3
    rw [pmB_rest]
    go_enter Tryd.func92, Tryd.ntmps92
    go_wp2
    go_ret
    exact ⟨rfl, (Below.refl _ _).alloc (Nat.le_refl _) _⟩
  rw [pmB_no a b h0 h1 h2 h3]
  have e0 : (a == 0) = false := by simpa using h0
  have e1 : (a == 1) = false := by simpa using h1
  have e2 : (a == 2) = false := by simpa using h2
  have e3 : (a == 3) = false := by simpa using h3
  clear h0 h1 h2 h3
  go_enter Tryd.func92, Tryd.ntmps92
  go_wp2
  go_ret
  exact ⟨rfl, (Below.refl _ _).alloc (Nat.le_refl _) _⟩
end Go.Proofs.YtcbnefjfoeanoaaDoor.Cl
end
section
namespace Go.Proofs.YtcbnefjfoeanoaaDoor.Cl
open Go.Proofs.YtcbnefjfoeanoaaDoor
set_option maxRecDepth 100000
open Go.RowKit

theorem pmay_yes (p : Int × Int) (w : World) (h : pmB p = true) :
    Calls Tryd.prog 92 #[.agg #[.int .i64 p.1, .int .i64 p.2]] w fun e w' => e = .returned (.bool true) ∧ Below w.heap.size w w' := by
  rw [← h]; exact pmay_any p w
theorem pmay_no (p : Int × Int) (w : World) (h : pmB p = false) :
    Calls Tryd.prog 92 #[.agg #[.int .i64 p.1, .int .i64 p.2]] w fun e w' => e = .returned (.bool false) ∧ Below w.heap.size w w' := by
  rw [← h]; exact pmay_any p w

/-- The first k pages are right. -/
def Good (f : Nat → Int × Int) (k : Nat) : Prop := ∀ j, j < k → okB f j = true
theorem Good.zero (f : Nat → Int × Int) : Good f 0 := fun j h => absurd h (by omega)
theorem Good.next {f : Nat → Int × Int} {k : Nat} (h : Good f k) (hk : okB f k = true) : Good f (k + 1) := fun j hj => by
  by_cases e : j = k
  · rw [e]; exact hk
  · exact h j (by omega)
theorem Good.st {f : Nat → Int × Int} {k : Nat} (h : Good f k) : 0 ≤ st f k ∧ st f k ≤ 3 := st_nonneg h k (Nat.le_refl _)
theorem okB_no {f : Nat → Int × Int} {k : Nat} (h : pmB (f k) = false) : okB f k = false := by simp [okB, h]
theorem okB_alone {f : Nat → Int × Int} {k : Nat} (h3 : (f k).1 = 3) (h : ¬ 0 < st f k) : okB f k = false := by simp [okB, h3]; omega
theorem okB_gap {f : Nat → Int × Int} {k : Nat} (h3 : (f k).1 ≠ 3) (h : 0 < st f k) : okB f k = false := by simp [okB, h3]; omega
theorem okB_yes {f : Nat → Int × Int} {k : Nat} (h : pmB (f k) = true) (h3 : (f k).1 = 3 ↔ 0 < st f k) : okB f k = true := (okB_iff f k).2 ⟨h, h3⟩
theorem st_large {f : Nat → Int × Int} {k : Nat} (h : (f k).1 = 2) : Go.Proofs.YtcbnefjfoeanoaaDoor.Cl.st f (k + 1) = (f k).2 - 1 := by
  show (if (f k).1 = 2 then _ else _) = _
  rw [if_pos h]
theorem st_rest {f : Nat → Int × Int} {k : Nat} (h : (f k).1 = 3) (hs : 0 < Go.Proofs.YtcbnefjfoeanoaaDoor.Cl.st f k) : Go.Proofs.YtcbnefjfoeanoaaDoor.Cl.st f (k + 1) = Go.Proofs.YtcbnefjfoeanoaaDoor.Cl.st f k - 1 := by
  show (if (f k).1 = 2 then _ else _) = _
  rw [if_neg (by omega), if_pos hs]
theorem st_same {f : Nat → Int × Int} {k : Nat} (h : (f k).1 ≠ 2) (hs : ¬ 0 < Go.Proofs.YtcbnefjfoeanoaaDoor.Cl.st f k) : Go.Proofs.YtcbnefjfoeanoaaDoor.Cl.st f (k + 1) = Go.Proofs.YtcbnefjfoeanoaaDoor.Cl.st f k := by
  show (if (f k).1 = 2 then _ else _) = _
  rw [if_neg h, if_neg hs]
theorem rint {a b : Bool} (h : a = b) : Ending.returned (.bool a) = .returned (.bool b) := by rw [h]
/-- A block of two numbers that was just laid, behind a call that left it. -/
theorem pair_kept {w w1 : World} {a b : Int} {t : TypeId} (hb : Below (w.alloc (.cells #[.int .i64 a, .int .i64 b] t)).heap.size (w.alloc (.cells #[.int .i64 a, .int .i64 b] t)) w1) :
    w1.cell? ⟨w.heap.size, 0, none⟩ = some (.int .i64 a) ∧ w1.cell? ⟨w.heap.size, 1, none⟩ = some (.int .i64 b) ∧ w.heap.size < w1.heap.size := by
  refine ⟨(hb.cell (p := ⟨w.heap.size, 0, none⟩) (by simp)).trans (by simp [go_sem]), (hb.cell (p := ⟨w.heap.size, 1, none⟩) (by simp)).trans (by simp [go_sem]), ?_⟩
  have := hb.size
  simp at this
  omega
theorem below_pair {w0 w w1 : World} {o : Obj} (h : Below w0.heap.size w0 w) (hb : Below (w.alloc o).heap.size (w.alloc o) w1) : Below w0.heap.size w0 w1 :=
  (h.alloc h.size o).trans (hb.mono (by have := h.size; simp; omega))

set_option maxHeartbeats 1000000 in
theorem may_any (B : Nat) (A : Option Addr) (n c : Nat) (f : Nat → Int × Int) (w : World) (hn : n ≤ 1000) (hr : PRow w B A n f) (hB : B ≤ w.heap.size) :
    Calls Tryd.prog 68 #[.slice A n c] w fun e w' => e = .returned (.bool (mayB f n)) ∧ Below w.heap.size w w' := by
  have HR := Lib.hid hr
  clear hr
  by_cases h1 : n < 1
  · have HM := Lib.hid (mayB_short (f := f) (n := n) (.inl h1))
    obtain rfl : n = 0 := by omega
    go_enter Tryd.func68, Tryd.ntmps68
    go_wp2
    go_ret
    exact ⟨rint HM.out.symm, Below.refl _ _⟩
  by_cases h2 : 64 < n
  · have HM := Lib.hid (mayB_short (f := f) (n := n) (.inr h2))
    go_enter Tryd.func68, Tryd.ntmps68
    go_wp2
    go_ret
    exact ⟨rint HM.out.symm, Below.refl _ _⟩
  go_enter Tryd.func68, Tryd.ntmps68
  go_wp2
  go_loopw [3, 16] (fun v i wr => ∃ k : Nat, k ≤ n ∧ i = .int .i64 k ∧ v = .int .i64 (st f k) ∧ Good f k ∧ Below w.heap.size w wr) (fun _ i _ => n - (intOf i).toNat)
  case atStart => exact ⟨0, Nat.zero_le _, rfl, rfl, Good.zero f, Below.refl _ _⟩
  case round =>
    obtain ⟨k, hk, rfl, rfl, hg, hb⟩ := hrel
    have hs := hg.st
    have HG := Lib.hid hg
    clear hg
    by_cases hlt : k < n
    · obtain ⟨b, off, rfl, hbB, hc⟩ := (HR.out.over hb hB) (by omega)
      obtain ⟨c0, c1⟩ := hc k hlt
      have HB := Lib.hid hb
      have hz := hb.size
      clear hb hc
      cases hp : pmB (f k)
      · have HM := Lib.hid (mayB_not hlt (okB_no hp))
        have HP := Lib.hid hp
        clear hp
        go_wp2_with fail
        refine (pmay_no _ _ HP.out).mono ?_
        rintro e w1 ⟨rfl, hb1⟩
        go_wp2
        go_ret
        exact ⟨rint HM.out.symm, below_pair HB.out hb1⟩
      · have HP := Lib.hid hp
        by_cases h3 : (f k).1 = 3
        · have e3 : ((f k).1 == 3) = true := by simpa using h3
          have e2 : ((f k).1 == 2) = false := by rw [h3]; decide
          by_cases hs0 : 0 < st f k
          · have HS := Lib.hid (st_rest h3 hs0)
            have HO := Lib.hid (okB_yes hp ⟨fun _ => hs0, fun _ => h3⟩)
            have hd : decide (0 < st f k) = true := by simpa using hs0
            clear hp h3
            go_wp2_with fail
            refine (pmay_yes _ _ HP.out).mono ?_
            rintro e w1 ⟨rfl, hb1⟩
            have HB1 := Lib.hid hb1
            obtain ⟨k0, k1, hz1⟩ := pair_kept hb1
            clear hb1
            go_wp2
            go_roundw
            case rel => exact ⟨k + 1, by omega, by go_num, by rw [HS.out], HG.out.next HO.out, below_pair HB.out HB1.out⟩
            case measure => simp [intOf]; omega
          · have HM := Lib.hid (mayB_not hlt (okB_alone h3 hs0))
            have hd : decide (0 < st f k) = false := by simpa using hs0
            clear hp h3
            go_wp2_with fail
            refine (pmay_yes _ _ HP.out).mono ?_
            rintro e w1 ⟨rfl, hb1⟩
            have HB1 := Lib.hid hb1
            obtain ⟨k0, k1, hz1⟩ := pair_kept hb1
            clear hb1
            go_wp2
            go_ret
            exact ⟨rint HM.out.symm, below_pair HB.out HB1.out⟩
        · have e3 : ((f k).1 == 3) = false := by simpa using h3
          by_cases hs0 : 0 < st f k
          · have HM := Lib.hid (mayB_not hlt (okB_gap h3 hs0))
            have hd : decide (0 < st f k) = true := by simpa using hs0
            clear hp h3
            go_wp2_with fail
            refine (pmay_yes _ _ HP.out).mono ?_
            rintro e w1 ⟨rfl, hb1⟩
            have HB1 := Lib.hid hb1
            obtain ⟨k0, k1, hz1⟩ := pair_kept hb1
            clear hb1
            go_wp2
            go_ret
            exact ⟨rint HM.out.symm, below_pair HB.out HB1.out⟩
          · have HO := Lib.hid (okB_yes hp ⟨fun h => absurd h h3, fun h => absurd h hs0⟩)
            have hd : decide (0 < st f k) = false := by simpa using hs0
            have ha : (f k).1 = 2 → 1 ≤ (f k).2 ∧ (f k).2 ≤ 4 := fun h => by have := (pmB_iff _).1 hp; omega
            by_cases h2' : (f k).1 = 2
            · have HS := Lib.hid (st_large h2')
              have e2 : ((f k).1 == 2) = true := by simpa using h2'
              obtain ⟨a1, a2⟩ := ha h2'
              clear hp h3 h2' ha
              go_wp2_with fail
              refine (pmay_yes _ _ HP.out).mono ?_
              rintro e w1 ⟨rfl, hb1⟩
              have HB1 := Lib.hid hb1
              obtain ⟨k0, k1, hz1⟩ := pair_kept hb1
              clear hb1
              go_wp2
              go_roundw
              case rel => exact ⟨k + 1, by omega, by go_num, by rw [HS.out], HG.out.next HO.out, below_pair HB.out HB1.out⟩
              case measure => simp [intOf]; omega
            · have HS := Lib.hid (st_same h2' hs0)
              have e2 : ((f k).1 == 2) = false := by simpa using h2'
              clear hp h3 h2' ha
              go_wp2_with fail
              refine (pmay_yes _ _ HP.out).mono ?_
              rintro e w1 ⟨rfl, hb1⟩
              have HB1 := Lib.hid hb1
              obtain ⟨k0, k1, hz1⟩ := pair_kept hb1
              clear hb1
              go_wp2
              go_roundw
              case rel => exact ⟨k + 1, by omega, by go_num, by rw [HS.out], HG.out.next HO.out, below_pair HB.out HB1.out⟩
              case measure => simp [intOf]; omega
    · obtain rfl : k = n := by omega
      by_cases h0 : st f k = 0
      · have HM := Lib.hid (mayB_mk (by omega) (by omega) HG.out h0)
        have hd : (st f k == 0) = true := by simpa using h0
        clear h0
        go_wp2
        go_ret
        exact ⟨rint HM.out.symm, hb⟩
      · have HM := Lib.hid (mayB_end h0)
        have hd : (st f k == 0) = false := by simpa using h0
        clear h0
        go_wp2
        go_ret
        exact ⟨rint HM.out.symm, hb⟩
theorem may_yes (B : Nat) (A : Option Addr) (n c : Nat) (f : Nat → Int × Int) (w : World) (h : mayB f n = true) (hr : PRow w B A n f) (hB : B ≤ w.heap.size) :
    Calls Tryd.prog 68 #[.slice A n c] w fun e w' => e = .returned (.bool true) ∧ Below w.heap.size w w' := by
  rw [← h]
  have := (mayB_iff f n).1 h
  exact may_any B A n c f w (by omega) hr hB
theorem may_no (B : Nat) (A : Option Addr) (n c : Nat) (f : Nat → Int × Int) (w : World) (h : mayB f n = false) (hn : n ≤ 1000) (hr : PRow w B A n f) (hB : B ≤ w.heap.size) :
    Calls Tryd.prog 68 #[.slice A n c] w fun e w' => e = .returned (.bool false) ∧ Below w.heap.size w w' := by
  rw [← h]
  exact may_any B A n c f w hn hr hB
end Go.Proofs.YtcbnefjfoeanoaaDoor.Cl
end
