/-
  What Unpack returns, for every number, and that it leaves what was in memory as it was.
-/
import Derived.Test.YthfpblkhcodohaaCalls
namespace Go.Proofs.Ythfpblkhcodohaa
open Go.RowKit

theorem unpacked_below {w w1 : World} {o o' : Obj} (hb : Below ((w.alloc o).alloc o').heap.size ((w.alloc o).alloc o') w1) : Below w.heap.size w w1 :=
  (((Below.refl _ _).alloc (Nat.le_refl _) _).alloc (by simp) _).trans (hb.mono (by simp; omega))
theorem six_below {B b : Nat} {w w1 : World} (h : Below B w w1) (hb : B ≤ b) (v0 v1 v2 v3 v4 v5 : Value) :
    Below B w ((((((w1.setCell ⟨b, 0, none⟩ v0).setCell ⟨b, 1, none⟩ v1).setCell ⟨b, 2, none⟩ v2).setCell ⟨b, 3, none⟩ v3).setCell ⟨b, 4, none⟩ v4).setCell ⟨b, 5, none⟩ v5) :=
  (((((h.setCell hb v0).setCell hb v1).setCell hb v2).setCell hb v3).setCell hb v4).setCell hb v5

theorem first_cells {w w1 : World} {o' : Obj} {cs : Array Value} {t : TypeId} (hb : Below ((w.alloc (.cells cs t)).alloc o').heap.size ((w.alloc (.cells cs t)).alloc o') w1) (k : Nat) :
    w1.cell? ⟨w.heap.size, k, none⟩ = cs[k]? := by
  rw [old_cell hb _ _ (by simp; omega)]
  simp [go_sem]
theorem unpack_core_yes (x : Int) (u o d : Bool) (n b m : Int) (w : World) (h : mayB u o d n b m = true)
    (eu : (bits .and .i64 x 1 != 0) = u) (eo : (bits .and .i64 x 2 != 0) = o) (ed : (bits .and .i64 x 4 != 0) = d) (en : bits .and .i64 (x / 8) 127 = n) (eb : bits .and .i64 (x / 1024) 4194303 = b) (em : x / 4294967296 = m) :
    Calls Try.prog 12 #[.int .i64 x] w fun e w' => e = .returned (.tuple #[.agg #[.bool u, .bool o, .bool d, .int .i64 n, .int .i64 b, .int .i64 m], .bool true]) ∧ Below w.heap.size w w' := by
  have H := Lib.hid h
  clear h
  go_enter Try.func12, Try.ntmps12
  go_wp2_with fail
  refine (may_yes _ _ _ _ _ _ _ H.out).mono ?_
  rintro e w1 ⟨rfl, hb⟩
  have hc := old_cell hb
  have hf := old_mark hb
  clear eu eo ed en eb em
  have c0 := first_cells hb 0
  have c1 := first_cells hb 1
  have c2 := first_cells hb 2
  have c3 := first_cells hb 3
  have c4 := first_cells hb 4
  have c5 := first_cells hb 5
  simp at c0 c1 c2 c3 c4 c5
  go_wp2
  refine bodyPost_ret (v := .tuple #[.agg #[.bool u, .bool o, .bool d, .int .i64 n, .int .i64 b, .int .i64 m], .bool true]) ?_ rfl ⟨rfl, six_below (unpacked_below hb) (Nat.le_refl _) _ _ _ _ _ _⟩
  simp [results, Try.results12, go_sem, c0, c1, c2, c3, c4, c5]
theorem unpack_core_no (x : Int) (u o d : Bool) (n b m : Int) (w : World) (h : mayB u o d n b m = false)
    (eu : (bits .and .i64 x 1 != 0) = u) (eo : (bits .and .i64 x 2 != 0) = o) (ed : (bits .and .i64 x 4 != 0) = d) (en : bits .and .i64 (x / 8) 127 = n) (eb : bits .and .i64 (x / 1024) 4194303 = b) (em : x / 4294967296 = m) :
    Calls Try.prog 12 #[.int .i64 x] w fun e w' => e = .returned (.tuple #[.agg #[.bool false, .bool false, .bool false, .int .i64 0, .int .i64 0, .int .i64 0], .bool false]) ∧ Below w.heap.size w w' := by
  have H := Lib.hid h
  clear h
  go_enter Try.func12, Try.ntmps12
  go_wp2_with fail
  refine (may_no _ _ _ _ _ _ _ H.out).mono ?_
  rintro e w1 ⟨rfl, hb⟩
  have hc := old_cell hb
  have hf := old_mark hb
  clear eu eo ed en eb em
  have c0 := first_cells hb 0
  have c1 := first_cells hb 1
  have c2 := first_cells hb 2
  have c3 := first_cells hb 3
  have c4 := first_cells hb 4
  have c5 := first_cells hb 5
  simp at c0 c1 c2 c3 c4 c5
  go_wp2
  refine bodyPost_ret (v := .tuple #[.agg #[.bool false, .bool false, .bool false, .int .i64 0, .int .i64 0, .int .i64 0], .bool false]) ?_ rfl ⟨rfl, six_below (unpacked_below hb) (Nat.le_refl _) _ _ _ _ _ _⟩
  simp [results, Try.results12, go_sem, c0, c1, c2, c3, c4, c5]

theorem unpack_no (x : Int) (w : World) (h : isWord x = false) :
    Calls Try.prog 12 #[.int .i64 x] w fun e w' => e = .returned (.tuple #[.agg #[.bool false, .bool false, .bool false, .int .i64 0, .int .i64 0, .int .i64 0], .bool false]) ∧ Below w.heap.size w w' :=
  unpack_core_no x _ _ _ _ _ _ w h (bit_1 x) (bit_2 x) (bit_4 x) (and_127 _) (and_4194303 _) rfl
theorem unpack_yes (x : Int) (w : World) (h : isWord x = true) :
    Calls Try.prog 12 #[.int .i64 x] w fun e w' => e = .returned (.tuple #[.agg #[.bool (decide (x % 2 = 1)), .bool (decide (x / 2 % 2 = 1)), .bool (decide (x / 4 % 2 = 1)), .int .i64 (x / 8 % 128), .int .i64 (x / 1024 % 4194304), .int .i64 (x / 4294967296)], .bool true]) ∧ Below w.heap.size w w' :=
  unpack_core_yes x _ _ _ _ _ _ w h (bit_1 x) (bit_2 x) (bit_4 x) (and_127 _) (and_4194303 _) rfl
/-- Of a head's word: that head. -/
theorem unpack_word (u o d : Bool) (n b m : Int) (w : World) (h : mayB u o d n b m = true) :
    Calls Try.prog 12 #[.int .i64 (word u o d n b m)] w fun e w' => e = .returned (.tuple #[.agg #[.bool u, .bool o, .bool d, .int .i64 n, .int .i64 b, .int .i64 m], .bool true]) ∧ Below w.heap.size w w' := by
  obtain ⟨u', o', d', n', b', m', h', e, e1, e2, e3, e4, e5, e6⟩ := isWord_cases _ (isWord_word h)
  obtain ⟨rfl, rfl, rfl, rfl, rfl, rfl⟩ := word_inj h h' e
  have := unpack_yes (word u o d n b m) w (isWord_word h)
  rw [← e1, ← e2, ← e3, ← e4, ← e5, ← e6] at this
  exact this
end Go.Proofs.Ythfpblkhcodohaa
