/-
  Merged texts: Calls, Unpack, Awake, Ref, RefUn, HpUn, ClsWalks, ClsCalls, ClsRef, HpCell, PgPlain, PgCount, PgMay, PgMayAll, PgRefMay, ClShape, Sep, ClOn, ClEach.
-/
import Derived.Test.YtccjelpfmkbmiaaGreatDoorRows
import Derived.Test.YtccjelpfmkbmiaaGreatDoorHpTA
import Derived.WalkKit
import Derived.Below
import Derived.WalkSmall
import Derived.RegionTactic
import Derived.ChangeAlike
import Derived.Deep.QuietTactic
import Derived.BigQuiet
import Derived.Lib.Hide
import Derived.LoopTactic
import Derived.WalkSpells
import Derived.RangeFuncNested
import Derived.RangeFuncBound
import Derived.RangeFuncCalls
import Derived.RangeFuncLeaves
import Derived.Shelf.Abstract
import Derived.OwnWalkIn
import Derived.TacticsInMore
import Derived.LoopNIn
import Derived.LoopIn
section
namespace Go.Proofs.YtccjelpfmkbmiaaGreatDoor.Hd
open Go.Proofs.YtccjelpfmkbmiaaGreatDoor
set_option maxRecDepth 100000
open Go.RowKit

/-- A block that was there holds what it held. -/
theorem old_cell {a z : World} (h : Below a.heap.size a z) : ∀ i k, i < a.heap.size → z.cell? ⟨i, k, none⟩ = a.cell? ⟨i, k, none⟩ := by
  intro i k hi
  exact h.cell (p := ⟨i, k, none⟩) hi
/-- .. and is marked as it was. -/
theorem old_mark {a z : World} (h : Below a.heap.size a z) : ∀ i k, i < a.heap.size → z.frozen? ⟨i, k, none⟩ = a.frozen? ⟨i, k, none⟩ := by
  intro i k hi
  exact h.frozen (p := ⟨i, k, none⟩) hi

theorem upTo_yes (n m : Int) (w : World) (h0 : 0 ≤ n) (h1 : n ≤ m) :
    Calls Tryz.prog 138 #[.int .i64 n, .int .i64 m] w fun e w' => e = .returned (.bool true) ∧ w = w' := by
  go_enter Tryz.func138, Tryz.ntmps138
  go_wp2
  go_ret
  exact ⟨rfl, rfl⟩
theorem upTo_no (n m : Int) (w : World) (h : n < 0 ∨ m < n) :
    Calls Tryz.prog 138 #[.int .i64 n, .int .i64 m] w fun e w' => e = .returned (.bool false) ∧ w = w' := by
  by_cases h0 : n < 0
  · go_enter Tryz.func138, Tryz.ntmps138
    go_wp2
    go_ret
    exact ⟨rfl, rfl⟩
  · have h1 : m < n := by omega
    have h2 : 0 ≤ n := by omega
    have h3 : decide (n ≤ m) = false := by simp; omega
    clear h
    go_enter Tryz.func138, Tryz.ntmps138
    go_wp2
    go_ret
    exact ⟨rfl, rfl⟩

theorem may_used (o d : Bool) (n b m : Int) (w : World) (n0 : 0 ≤ n) (n1 : n ≤ 63) (b0 : 0 ≤ b) (b1 : b ≤ 1048576) (m0 : 0 ≤ m) (m1 : m ≤ 1048576) :
    Calls Tryz.prog 111 #[.agg #[.bool true, .bool o, .bool d, .int .i64 n, .int .i64 b, .int .i64 m]] w fun e w' => e = .returned (.bool true) ∧ Below w.heap.size w w' := by
  go_enter Tryz.func111, Tryz.ntmps111
  go_wp2
  go_ret
  exact ⟨rfl, (Below.refl _ _).alloc (Nat.le_refl _) _⟩
theorem may_free (w : World) :
    Calls Tryz.prog 111 #[.agg #[.bool false, .bool false, .bool false, .int .i64 0, .int .i64 0, .int .i64 0]] w fun e w' => e = .returned (.bool true) ∧ Below w.heap.size w w' := by
  go_enter Tryz.func111, Tryz.ntmps111
  go_wp2
  go_ret
  exact ⟨rfl, (Below.refl _ _).alloc (Nat.le_refl _) _⟩
theorem may_yes (u o d : Bool) (n b m : Int) (w : World) (h : mayB u o d n b m = true) :
    Calls Tryz.prog 111 #[.agg #[.bool u, .bool o, .bool d, .int .i64 n, .int .i64 b, .int .i64 m]] w fun e w' => e = .returned (.bool true) ∧ Below w.heap.size w w' := by
  cases u
  · obtain ⟨rfl, rfl, rfl, rfl, rfl⟩ := (may_free_iff _ _ _ _ _).1 h
    exact may_free w
  · obtain ⟨a1, a2, a3, a4, a5, a6⟩ := (may_used_iff _ _ _ _ _).1 h
    exact may_used o d n b m w a1 a2 a3 a4 a5 a6
theorem no_n (o d : Bool) (n b m : Int) (w : World) (h : n < 0 ∨ 63 < n) :
    Calls Tryz.prog 111 #[.agg #[.bool true, .bool o, .bool d, .int .i64 n, .int .i64 b, .int .i64 m]] w fun e w' => e = .returned (.bool false) ∧ Below w.heap.size w w' := by
  have H := Lib.hid h
  clear h
  go_enter Tryz.func111, Tryz.ntmps111
  go_wp2_with (go_at_call 138; refine (upTo_no _ _ _ H.out).mono ?_; rintro e w' ⟨rfl, rfl⟩)
  go_ret
  exact ⟨rfl, (Below.refl _ _).alloc (Nat.le_refl _) _⟩
theorem no_b (o d : Bool) (n b m : Int) (w : World) (n0 : 0 ≤ n) (n1 : n ≤ 63) (h : b < 0 ∨ 1048576 < b) :
    Calls Tryz.prog 111 #[.agg #[.bool true, .bool o, .bool d, .int .i64 n, .int .i64 b, .int .i64 m]] w fun e w' => e = .returned (.bool false) ∧ Below w.heap.size w w' := by
  have H := Lib.hid h
  clear h
  go_enter Tryz.func111, Tryz.ntmps111
  go_wp2_with (go_at_call 138; first | ((with_reducible refine (upTo_yes n 63 _ n0 n1).mono ?_); rintro e w' ⟨rfl, rfl⟩) | ((with_reducible refine (upTo_no b 1048576 _ H.out).mono ?_); rintro e w' ⟨rfl, rfl⟩))
  go_ret
  exact ⟨rfl, (Below.refl _ _).alloc (Nat.le_refl _) _⟩
theorem no_m (o d : Bool) (n b m : Int) (w : World) (n0 : 0 ≤ n) (n1 : n ≤ 63) (b0 : 0 ≤ b) (b1 : b ≤ 1048576) (h : m < 0 ∨ 1048576 < m) :
    Calls Tryz.prog 111 #[.agg #[.bool true, .bool o, .bool d, .int .i64 n, .int .i64 b, .int .i64 m]] w fun e w' => e = .returned (.bool false) ∧ Below w.heap.size w w' := by
  have H := Lib.hid h
  clear h
  go_enter Tryz.func111, Tryz.ntmps111
  go_wp2_with (go_at_call 138; first | ((with_reducible refine (upTo_yes n 63 _ n0 n1).mono ?_); rintro e w' ⟨rfl, rfl⟩) | ((with_reducible refine (upTo_yes b 1048576 _ b0 b1).mono ?_); rintro e w' ⟨rfl, rfl⟩) | ((with_reducible refine (upTo_no m 1048576 _ H.out).mono ?_); rintro e w' ⟨rfl, rfl⟩))
  go_ret
  exact ⟨rfl, (Below.refl _ _).alloc (Nat.le_refl _) _⟩
theorem no_free (o d : Bool) (n b m : Int) (w : World) (h : mayB false o d n b m = false) :
    Calls Tryz.prog 111 #[.agg #[.bool false, .bool o, .bool d, .int .i64 n, .int .i64 b, .int .i64 m]] w fun e w' => e = .returned (.bool false) ∧ Below w.heap.size w w' := by
  have H := Lib.hid h
  clear h
  cases o
  · cases d
    · by_cases hn : (n == 0) = true
      · obtain rfl : n = 0 := by simpa using hn
        clear hn
        by_cases hb : (b == 0) = true
        · obtain rfl : b = 0 := by simpa using hb
          clear hb
          have hm : (m == 0) = false := by
            have := H.out
            simp [mayB] at this
            simp [this]
          go_enter Tryz.func111, Tryz.ntmps111
          go_wp2
          go_ret
          exact ⟨rfl, (Below.refl _ _).alloc (Nat.le_refl _) _⟩
        · have hb' : (b == 0) = false := by simpa using hb
          clear hb
          go_enter Tryz.func111, Tryz.ntmps111
          go_wp2
          go_ret
          exact ⟨rfl, (Below.refl _ _).alloc (Nat.le_refl _) _⟩
      · have hn' : (n == 0) = false := by simpa using hn
        clear hn
        go_enter Tryz.func111, Tryz.ntmps111
        go_wp2
        go_ret
        exact ⟨rfl, (Below.refl _ _).alloc (Nat.le_refl _) _⟩
    · go_enter Tryz.func111, Tryz.ntmps111
      go_wp2
      go_ret
      exact ⟨rfl, (Below.refl _ _).alloc (Nat.le_refl _) _⟩
  · go_enter Tryz.func111, Tryz.ntmps111
    go_wp2
    go_ret
    exact ⟨rfl, (Below.refl _ _).alloc (Nat.le_refl _) _⟩
theorem may_no (u o d : Bool) (n b m : Int) (w : World) (h : mayB u o d n b m = false) :
    Calls Tryz.prog 111 #[.agg #[.bool u, .bool o, .bool d, .int .i64 n, .int .i64 b, .int .i64 m]] w fun e w' => e = .returned (.bool false) ∧ Below w.heap.size w w' := by
  cases u
  · exact no_free o d n b m w h
  · have h' : ¬ (0 ≤ n ∧ n ≤ 63 ∧ 0 ≤ b ∧ b ≤ 1048576 ∧ 0 ≤ m ∧ m ≤ 1048576) := fun c => by
      rw [(may_used_iff o d n b m).2 c] at h; cases h
    by_cases hn : 0 ≤ n ∧ n ≤ 63
    · by_cases hb : 0 ≤ b ∧ b ≤ 1048576
      · exact no_m o d n b m w hn.1 hn.2 hb.1 hb.2 (by omega)
      · exact no_b o d n b m w hn.1 hn.2 (by omega)
    · exact no_n o d n b m w (by omega)

theorem bit_any (u : Bool) (k : Int) (w : World) :
    Calls Tryz.prog 143 #[.bool u, .int .i64 k] w fun e w' => e = .returned (.int .i64 (bitOf u k)) ∧ w' = w := by
  cases u
  · go_enter Tryz.func143, Tryz.ntmps143
    go_wp2
    go_ret
    exact ⟨rfl, rfl⟩
  · go_enter Tryz.func143, Tryz.ntmps143
    go_wp2
    go_ret
    exact ⟨rfl, rfl⟩
theorem packed_below {w w1 : World} {o : Obj} (hb : Below (w.alloc o).heap.size (w.alloc o) w1) (n : Nat) : Below w.heap.size w (w1.drewN n) :=
  below_drewN (((Below.refl _ _).alloc (Nat.le_refl _) _).trans (hb.mono (by simp))) n
theorem pack_free (w : World) :
    Calls Tryz.prog 127 #[.agg #[.bool false, .bool false, .bool false, .int .i64 0, .int .i64 0, .int .i64 0]] w fun e w' => e = .returned (.tuple #[.int .i64 0, .int .i64 0]) ∧ Below w.heap.size w w' := by
  go_enter Tryz.func127, Tryz.ntmps127
  go_wp2_with (go_at_call 111; refine (may_free _).mono ?_; rintro e w1 ⟨rfl, hb⟩; have hc := old_cell hb; have hf := old_mark hb)
  go_quiet ((go_at_call 143; exact Calls.quiet_of_same (bit_any _ _ _)))
  go_wp2
  go_ret2
  exact ⟨rfl, packed_below hb _⟩
theorem or_first (o : Bool) : bits .or .i64 (bitOf true 1) (bitOf o 2) = 1 + bitOf o 2 := by cases o <;> rfl
theorem or_second (o d : Bool) : bits .or .i64 (1 + bitOf o 2) (bitOf d 4) = 1 + bitOf o 2 + bitOf d 4 := by cases o <;> cases d <;> rfl
theorem pack_used (o d : Bool) (n b m : Int) (w : World) (n0 : 0 ≤ n) (n1 : n ≤ 63) (b0 : 0 ≤ b) (b1 : b ≤ 1048576) (m0 : 0 ≤ m) (m1 : m ≤ 1048576) :
    Calls Tryz.prog 127 #[.agg #[.bool true, .bool o, .bool d, .int .i64 n, .int .i64 b, .int .i64 m]] w fun e w' => e = .returned (.tuple #[.int .i64 (1 + bitOf o 2 + bitOf d 4 + n * 8 + b * 1024 + m * 4294967296), .int .i64 0]) ∧ Below w.heap.size w w' := by
  obtain ⟨o0, o1⟩ := bit_le o 2 (by decide)
  obtain ⟨d0, d1⟩ := bit_le d 4 (by decide)
  have e1 := or_first o
  have e2 := or_second o d
  have e3 := or_3 (1 + bitOf o 2 + bitOf d 4) n (by omega) (by omega) n0 n1
  have e4 := or_10 (1 + bitOf o 2 + bitOf d 4 + n * 8) b (by omega) (by omega) b0 b1
  have e5 := or_32 (1 + bitOf o 2 + bitOf d 4 + n * 8 + b * 1024) m (by omega) (by omega) m0 m1
  go_enter Tryz.func127, Tryz.ntmps127
  go_wp2_with (go_at_call 111; refine (may_used _ _ _ _ _ _ n0 n1 b0 b1 m0 m1).mono ?_; rintro e w1 ⟨rfl, hb⟩; have hc := old_cell hb; have hf := old_mark hb)
  go_quiet ((go_at_call 143; exact Calls.quiet_of_same (bit_any _ _ _)))
  go_wp2
  go_ret2
  exact ⟨rfl, packed_below hb _⟩
theorem pack_yes (u o d : Bool) (n b m : Int) (w : World) (h : mayB u o d n b m = true) :
    Calls Tryz.prog 127 #[.agg #[.bool u, .bool o, .bool d, .int .i64 n, .int .i64 b, .int .i64 m]] w fun e w' => e = .returned (.tuple #[.int .i64 (word u o d n b m), .int .i64 0]) ∧ Below w.heap.size w w' := by
  cases u
  · obtain ⟨rfl, rfl, rfl, rfl, rfl⟩ := (may_free_iff _ _ _ _ _).1 h
    exact pack_free w
  · obtain ⟨a1, a2, a3, a4, a5, a6⟩ := (may_used_iff _ _ _ _ _).1 h
    exact pack_used o d n b m w a1 a2 a3 a4 a5 a6
end Go.Proofs.YtccjelpfmkbmiaaGreatDoor.Hd
end
section
namespace Go.Proofs.YtccjelpfmkbmiaaGreatDoor.Hd
open Go.Proofs.YtccjelpfmkbmiaaGreatDoor
set_option maxRecDepth 100000
open Go.RowKit

theorem unpacked_below {w w1 : World} {o o' : Obj} (hb : Below ((w.alloc o).alloc o').heap.size ((w.alloc o).alloc o') w1) : Below w.heap.size w w1 :=
  (((Below.refl _ _).alloc (Nat.le_refl _) _).alloc (by simp) _).trans (hb.mono (by simp; omega))
theorem six_below {B b : Nat} {w w1 : World} (h : Below B w w1) (hb : B ≤ b) (v0 v1 v2 v3 v4 v5 : Value) :
    Below B w ((((((w1.setCell ⟨b, 0, none⟩ v0).setCell ⟨b, 1, none⟩ v1).setCell ⟨b, 2, none⟩ v2).setCell ⟨b, 3, none⟩ v3).setCell ⟨b, 4, none⟩ v4).setCell ⟨b, 5, none⟩ v5) :=
  (((((h.setCell hb v0).setCell hb v1).setCell hb v2).setCell hb v3).setCell hb v4).setCell hb v5

theorem first_cells {w w1 : World} {o' : Obj} {cs : Array Value} {t : TypeId} (hb : Below ((w.alloc (.cells cs t)).alloc o').heap.size ((w.alloc (.cells cs t)).alloc o') w1) (k : Nat) :
    w1.cell? ⟨w.heap.size, k, none⟩ = cs[k]? := by
  rw [old_cell hb _ _ (by simp; omega)]
  simp [go_sem]
theorem unpack_core_yes (x : Int) (u o d : Bool) (n b m : Int) (w : World) (h : mayB u o d n b m = true)
    (eu : (bits .and .i64 x 1 != 0) = u) (eo : (bits .and .i64 x 2 != 0) = o) (ed : (bits .and .i64 x 4 != 0) = d) (en : bits .and .i64 (x / 8) 127 = n) (eb : bits .and .i64 (x / 1024) 4194303 = b) (em : x / 4294967296 = m) :
    Calls Tryz.prog 70 #[.int .i64 x] w fun e w' => e = .returned (.tuple #[.agg #[.bool u, .bool o, .bool d, .int .i64 n, .int .i64 b, .int .i64 m], .bool true]) ∧ Below w.heap.size w w' := by
  have H := Lib.hid h
  clear h
  go_enter Tryz.func70, Tryz.ntmps70
  go_wp2_with fail
  refine (may_yes _ _ _ _ _ _ _ H.out).mono ?_
  rintro e w1 ⟨rfl, hb⟩
  have hc := old_cell hb
  have hf := old_mark hb
  clear eu eo ed en eb em
  have c0 := first_cells hb 0
  have c1 := first_cells hb 1
  have c2 := first_cells hb 2
  have c3 := first_cells hb 3
  have c4 := first_cells hb 4
  have c5 := first_cells hb 5
  simp at c0 c1 c2 c3 c4 c5
  go_wp2
  refine bodyPost_ret (v := .tuple #[.agg #[.bool u, .bool o, .bool d, .int .i64 n, .int .i64 b, .int .i64 m], .bool true]) ?_ rfl ⟨rfl, six_below (unpacked_below hb) (Nat.le_refl _) _ _ _ _ _ _⟩
  simp [results, Tryz.results70, go_sem, c0, c1, c2, c3, c4, c5]
theorem unpack_core_no (x : Int) (u o d : Bool) (n b m : Int) (w : World) (h : mayB u o d n b m = false)
    (eu : (bits .and .i64 x 1 != 0) = u) (eo : (bits .and .i64 x 2 != 0) = o) (ed : (bits .and .i64 x 4 != 0) = d) (en : bits .and .i64 (x / 8) 127 = n) (eb : bits .and .i64 (x / 1024) 4194303 = b) (em : x / 4294967296 = m) :
    Calls Tryz.prog 70 #[.int .i64 x] w fun e w' => e = .returned (.tuple #[.agg #[.bool false, .bool false, .bool false, .int .i64 0, .int .i64 0, .int .i64 0], .bool false]) ∧ Below w.heap.size w w' := by
  have H := Lib.hid h
  clear h
  go_enter Tryz.func70, Tryz.ntmps70
  go_wp2_with fail
  refine (may_no _ _ _ _ _ _ _ H.out).mono ?_
  rintro e w1 ⟨rfl, hb⟩
  have hc := old_cell hb
  have hf := old_mark hb
  clear eu eo ed en eb em
  have c0 := first_cells hb 0
  have c1 := first_cells hb 1
  have c2 := first_cells hb 2
  have c3 := first_cells hb 3
  have c4 := first_cells hb 4
  have c5 := first_cells hb 5
  simp at c0 c1 c2 c3 c4 c5
  go_wp2
  refine bodyPost_ret (v := .tuple #[.agg #[.bool false, .bool false, .bool false, .int .i64 0, .int .i64 0, .int .i64 0], .bool false]) ?_ rfl ⟨rfl, six_below (unpacked_below hb) (Nat.le_refl _) _ _ _ _ _ _⟩
  simp [results, Tryz.results70, go_sem, c0, c1, c2, c3, c4, c5]

theorem unpack_no (x : Int) (w : World) (h : isWord x = false) :
    Calls Tryz.prog 70 #[.int .i64 x] w fun e w' => e = .returned (.tuple #[.agg #[.bool false, .bool false, .bool false, .int .i64 0, .int .i64 0, .int .i64 0], .bool false]) ∧ Below w.heap.size w w' :=
  unpack_core_no x _ _ _ _ _ _ w h (bit_1 x) (bit_2 x) (bit_4 x) (and_127 _) (and_4194303 _) rfl
theorem unpack_yes (x : Int) (w : World) (h : isWord x = true) :
    Calls Tryz.prog 70 #[.int .i64 x] w fun e w' => e = .returned (.tuple #[.agg #[.bool (decide (x % 2 = 1)), .bool (decide (x / 2 % 2 = 1)), .bool (decide (x / 4 % 2 = 1)), .int .i64 (x / 8 % 128), .int .i64 (x / 1024 % 4194304), .int .i64 (x / 4294967296)], .bool true]) ∧ Below w.heap.size w w' :=
  unpack_core_yes x _ _ _ _ _ _ w h (bit_1 x) (bit_2 x) (bit_4 x) (and_127 _) (and_4194303 _) rfl
end Go.Proofs.YtccjelpfmkbmiaaGreatDoor.Hd
end
section
namespace Go.Proofs.YtccjelpfmkbmiaaGreatDoor.Hd
open Go.Proofs.YtccjelpfmkbmiaaGreatDoor
set_option maxRecDepth 100000
open Go.RowKit

end Go.Proofs.YtccjelpfmkbmiaaGreatDoor.Hd
end
section
namespace Go.Proofs.YtccjelpfmkbmiaaGreatDoor.Hd
open Go.Proofs.YtccjelpfmkbmiaaGreatDoor
set_option maxRecDepth 100000
open Go.RowKit

end Go.Proofs.YtccjelpfmkbmiaaGreatDoor.Hd
end
section
namespace Go.Proofs.YtccjelpfmkbmiaaGreatDoor.Hd
open Go.Proofs.YtccjelpfmkbmiaaGreatDoor
set_option maxRecDepth 100000
open Go.RowKit

end Go.Proofs.YtccjelpfmkbmiaaGreatDoor.Hd
end
section
namespace Go.Proofs.YtccjelpfmkbmiaaGreatDoor
open Go.RowKit

def headOf (x : Int) : Value :=
  if Hd.isWord x then .agg #[.bool (decide (x % 2 = 1)), .bool (decide (x / 2 % 2 = 1)), .bool (decide (x / 4 % 2 = 1)), .int .i64 (x / 8 % 128), .int .i64 (x / 1024 % 4194304), .int .i64 (x / 4294967296)]
  else .agg #[.bool false, .bool false, .bool false, .int .i64 0, .int .i64 0, .int .i64 0]
theorem unpack_any (x : Int) (w : World) : Calls Tryz.prog 70 #[.int .i64 x] w fun e w' => e = .returned (.tuple #[headOf x, .bool (Hd.isWord x)]) ∧ Below w.heap.size w w' := by
  unfold headOf
  cases h : Hd.isWord x
  · exact Hd.unpack_no x w h
  · exact Hd.unpack_yes x w h
end Go.Proofs.YtccjelpfmkbmiaaGreatDoor
end
section
namespace Go.Proofs.YtccjelpfmkbmiaaGreatDoor.Cl
open Go.Proofs.YtccjelpfmkbmiaaGreatDoor
set_option maxRecDepth 100000
open Go.RowKit

theorem words_any (n : Int) (w : World) (h0 : 1 ≤ n) (h1 : n ≤ 63) :
    Calls Tryz.prog 132 #[.int .i64 n] w fun e w' => e = .returned (.int .i64 (1 + n)) ∧ w = w' := by
  go_enter Tryz.func132, Tryz.ntmps132
  go_wp2
  go_ret
  exact ⟨rfl, rfl⟩

/-- The table of sizes lies as it is written. -/
def Sz (w : World) : Prop := w.cell? ⟨0, 0, none⟩ = some (.int .i64 2) ∧ w.cell? ⟨0, 1, none⟩ = some (.int .i64 4) ∧ w.cell? ⟨0, 2, none⟩ = some (.int .i64 8)

theorem of_low (n : Int) (w : World) (h : n < 1) :
    Calls Tryz.prog 99 #[.int .i64 n] w fun e w' => e = .returned (.tuple #[.int .i64 0, .int .i64 1]) ∧ w = w' := by
  go_enter Tryz.func99, Tryz.ntmps99
  go_wp2
  go_ret2
  exact ⟨rfl, rfl⟩
theorem of_high (n : Int) (w : World) (h : 63 < n) :
    Calls Tryz.prog 99 #[.int .i64 n] w fun e w' => e = .returned (.tuple #[.int .i64 0, .int .i64 2]) ∧ w = w' := by
  go_enter Tryz.func99, Tryz.ntmps99
  go_wp2
  go_ret2
  exact ⟨rfl, rfl⟩
theorem index_at0 (w : World) : (Instr.index 151 (.agg #[.int .i64 2, .int .i64 4, .int .i64 8]) (.int .i64 0)).run Tryz.prog w = .ok (.int .i64 2) w := by kernel_rfl
theorem index_at1 (w : World) : (Instr.index 151 (.agg #[.int .i64 2, .int .i64 4, .int .i64 8]) (.int .i64 1)).run Tryz.prog w = .ok (.int .i64 4) w := by kernel_rfl
theorem index_at2 (w : World) : (Instr.index 151 (.agg #[.int .i64 2, .int .i64 4, .int .i64 8]) (.int .i64 2)).run Tryz.prog w = .ok (.int .i64 8) w := by kernel_rfl
theorem of_0 (n : Int) (w : World) (hz : Sz w) (h0 : 1 ≤ n) (h1 : n ≤ 1) :
    Calls Tryz.prog 99 #[.int .i64 n] w fun e w' => e = .returned (.tuple #[.int .i64 0, .int .i64 0]) ∧ w = w' := by
  obtain ⟨z0, z1, z2⟩ := hz
  have d1 : decide (n < 1) = false := by simp; omega
  have d2 : decide (63 < n) = false := by simp; omega
  go_enter Tryz.func99, Tryz.ntmps99
  go_wp2
  clear z0 z1 z2
  go_loop [11] (fun i => ∃ k : Nat, k ≤ 0 ∧ i = .int .i64 k) (fun i => 3 - (intOf i).toNat)
  case atStart => exact ⟨0, by omega, rfl⟩
  case round =>
    obtain ⟨k, hk, rfl⟩ := hrel
    have hc : k = 0 := by omega
    clear hk
    subst hc
    · have ix := index_at0 w
      go_wp2_with (go_at_call 132; refine (words_any _ _ (by omega) (by omega)).mono ?_; rintro e w1 ⟨rfl, rfl⟩)
      go_ret2
      exact ⟨rfl, rfl⟩
theorem of_1 (n : Int) (w : World) (hz : Sz w) (h0 : 2 ≤ n) (h1 : n ≤ 3) :
    Calls Tryz.prog 99 #[.int .i64 n] w fun e w' => e = .returned (.tuple #[.int .i64 1, .int .i64 0]) ∧ w = w' := by
  obtain ⟨z0, z1, z2⟩ := hz
  have d1 : decide (n < 1) = false := by simp; omega
  have d2 : decide (63 < n) = false := by simp; omega
  go_enter Tryz.func99, Tryz.ntmps99
  go_wp2
  clear z0 z1 z2
  go_loop [11] (fun i => ∃ k : Nat, k ≤ 1 ∧ i = .int .i64 k) (fun i => 3 - (intOf i).toNat)
  case atStart => exact ⟨0, by omega, rfl⟩
  case round =>
    obtain ⟨k, hk, rfl⟩ := hrel
    have hc : k = 0 ∨ k = 1 := by omega
    clear hk
    rcases hc with rfl | rfl
    · have ix := index_at0 w
      go_wp2_with (go_at_call 132; refine (words_any _ _ (by omega) (by omega)).mono ?_; rintro e w1 ⟨rfl, rfl⟩)
      go_round
      case rel => exact ⟨1, by omega, by go_num⟩
      case measure => simp [intOf]
    · have ix := index_at1 w
      go_wp2_with (go_at_call 132; refine (words_any _ _ (by omega) (by omega)).mono ?_; rintro e w1 ⟨rfl, rfl⟩)
      go_ret2
      exact ⟨rfl, rfl⟩
theorem of_2 (n : Int) (w : World) (hz : Sz w) (h0 : 4 ≤ n) (h1 : n ≤ 7) :
    Calls Tryz.prog 99 #[.int .i64 n] w fun e w' => e = .returned (.tuple #[.int .i64 2, .int .i64 0]) ∧ w = w' := by
  obtain ⟨z0, z1, z2⟩ := hz
  have d1 : decide (n < 1) = false := by simp; omega
  have d2 : decide (63 < n) = false := by simp; omega
  go_enter Tryz.func99, Tryz.ntmps99
  go_wp2
  clear z0 z1 z2
  go_loop [11] (fun i => ∃ k : Nat, k ≤ 2 ∧ i = .int .i64 k) (fun i => 3 - (intOf i).toNat)
  case atStart => exact ⟨0, by omega, rfl⟩
  case round =>
    obtain ⟨k, hk, rfl⟩ := hrel
    have hc : k = 0 ∨ k = 1 ∨ k = 2 := by omega
    clear hk
    rcases hc with rfl | rfl | rfl
    · have ix := index_at0 w
      go_wp2_with (go_at_call 132; refine (words_any _ _ (by omega) (by omega)).mono ?_; rintro e w1 ⟨rfl, rfl⟩)
      go_round
      case rel => exact ⟨1, by omega, by go_num⟩
      case measure => simp [intOf]
    · have ix := index_at1 w
      go_wp2_with (go_at_call 132; refine (words_any _ _ (by omega) (by omega)).mono ?_; rintro e w1 ⟨rfl, rfl⟩)
      go_round
      case rel => exact ⟨2, by omega, by go_num⟩
      case measure => simp [intOf]
    · have ix := index_at2 w
      go_wp2_with (go_at_call 132; refine (words_any _ _ (by omega) (by omega)).mono ?_; rintro e w1 ⟨rfl, rfl⟩)
      go_ret2
      exact ⟨rfl, rfl⟩
theorem of_3 (n : Int) (w : World) (hz : Sz w) (h0 : 8 ≤ n) (h1 : n ≤ 63) :
    Calls Tryz.prog 99 #[.int .i64 n] w fun e w' => e = .returned (.tuple #[.int .i64 3, .int .i64 0]) ∧ w = w' := by
  obtain ⟨z0, z1, z2⟩ := hz
  have d1 : decide (n < 1) = false := by simp; omega
  have d2 : decide (63 < n) = false := by simp; omega
  go_enter Tryz.func99, Tryz.ntmps99
  go_wp2
  clear z0 z1 z2
  go_loop [11] (fun i => ∃ k : Nat, k ≤ 3 ∧ i = .int .i64 k) (fun i => 3 - (intOf i).toNat)
  case atStart => exact ⟨0, by omega, rfl⟩
  case round =>
    obtain ⟨k, hk, rfl⟩ := hrel
    have hc : k = 0 ∨ k = 1 ∨ k = 2 ∨ k = 3 := by omega
    clear hk
    rcases hc with rfl | rfl | rfl | rfl
    · have ix := index_at0 w
      go_wp2_with (go_at_call 132; refine (words_any _ _ (by omega) (by omega)).mono ?_; rintro e w1 ⟨rfl, rfl⟩)
      go_round
      case rel => exact ⟨1, by omega, by go_num⟩
      case measure => simp [intOf]
    · have ix := index_at1 w
      go_wp2_with (go_at_call 132; refine (words_any _ _ (by omega) (by omega)).mono ?_; rintro e w1 ⟨rfl, rfl⟩)
      go_round
      case rel => exact ⟨2, by omega, by go_num⟩
      case measure => simp [intOf]
    · have ix := index_at2 w
      go_wp2_with (go_at_call 132; refine (words_any _ _ (by omega) (by omega)).mono ?_; rintro e w1 ⟨rfl, rfl⟩)
      go_round
      case rel => exact ⟨3, by omega, by go_num⟩
      case measure => simp [intOf]
    · go_wp2
      go_ret2
      exact ⟨rfl, rfl⟩
end Go.Proofs.YtccjelpfmkbmiaaGreatDoor.Cl
end
section
namespace Go.Proofs.YtccjelpfmkbmiaaGreatDoor.Cl
open Go.Proofs.YtccjelpfmkbmiaaGreatDoor
set_option maxRecDepth 100000
open Go.RowKit

/-- A cell's words, by its class. -/
def wordsOf (c : Int) : Int := if c = 0 then 2 else if c = 1 then 4 else if c = 2 then 8 else 0
/-- How many cells of a class a page has. -/
def perPage (c : Int) : Int := if c = 0 then 8 else if c = 1 then 4 else if c = 2 then 2 else 0
theorem wordsOf_no {c : Int} (h : c < 0 ∨ 2 < c) : wordsOf c = 0 := by
  unfold wordsOf
  rw [if_neg (by omega), if_neg (by omega), if_neg (by omega)]
theorem perPage_no {c : Int} (h : c < 0 ∨ 2 < c) : perPage c = 0 := by
  unfold perPage
  rw [if_neg (by omega), if_neg (by omega), if_neg (by omega)]
/-- The class, the pages, and the errors, by the number of fields. -/
def classOf (n : Int) : Int := if n < 1 ∨ 63 < n then 0 else if n ≤ 1 then 0 else if n ≤ 3 then 1 else if n ≤ 7 then 2 else 3
def classErr (n : Int) : Int := if n < 1 then 1 else if 63 < n then 2 else 0
def runOf (n : Int) : Int := if n < 8 ∨ 63 < n then 0 else if n ≤ 15 then 1 else if n ≤ 31 then 2 else if n ≤ 47 then 3 else 4
def runErr (n : Int) : Int := if n < 1 then 1 else if 63 < n then 2 else if n ≤ 7 then 3 else 0
theorem words_at0 (w : World) (hz : Sz w) :
    Calls Tryz.prog 169 #[.int .i64 0] w fun e w' => e = .returned (.int .i64 2) ∧ w = w' := by
  obtain ⟨z0, z1, z2⟩ := hz
  go_enter Tryz.func169, Tryz.ntmps169
  go_wp2
  go_ret
  exact ⟨rfl, rfl⟩
theorem words_at1 (w : World) (hz : Sz w) :
    Calls Tryz.prog 169 #[.int .i64 1] w fun e w' => e = .returned (.int .i64 4) ∧ w = w' := by
  obtain ⟨z0, z1, z2⟩ := hz
  go_enter Tryz.func169, Tryz.ntmps169
  go_wp2
  go_ret
  exact ⟨rfl, rfl⟩
theorem words_at2 (w : World) (hz : Sz w) :
    Calls Tryz.prog 169 #[.int .i64 2] w fun e w' => e = .returned (.int .i64 8) ∧ w = w' := by
  obtain ⟨z0, z1, z2⟩ := hz
  go_enter Tryz.func169, Tryz.ntmps169
  go_wp2
  go_ret
  exact ⟨rfl, rfl⟩
theorem words_low (c : Int) (w : World) (h : c < 0) :
    Calls Tryz.prog 169 #[.int .i64 c] w fun e w' => e = .returned (.int .i64 0) ∧ w = w' := by
  go_enter Tryz.func169, Tryz.ntmps169
  go_wp2
  go_ret
  exact ⟨rfl, rfl⟩
theorem words_high (c : Int) (w : World) (h : 2 < c) :
    Calls Tryz.prog 169 #[.int .i64 c] w fun e w' => e = .returned (.int .i64 0) ∧ w = w' := by
  have d : (3 : Int) ≤ c := by omega
  have d0 : ¬ c < 0 := by omega
  go_enter Tryz.func169, Tryz.ntmps169
  go_wp2
  go_ret
  exact ⟨rfl, rfl⟩
theorem words_of (c : Int) (w : World) (hz : Sz w) :
    Calls Tryz.prog 169 #[.int .i64 c] w fun e w' => e = .returned (.int .i64 (wordsOf c)) ∧ w = w' := by
  by_cases h : c < 0 ∨ 2 < c
  · rw [wordsOf_no h]
    rcases h with h | h
    · exact words_low c w h
    · exact words_high c w h
  · have hc : c = 0 ∨ c = 1 ∨ c = 2 := by omega
    clear h
    rcases hc with rfl | rfl | rfl
    · exact words_at0 w hz
    · exact words_at1 w hz
    · exact words_at2 w hz
theorem cells_at0 (w : World) (hz : Sz w) :
    Calls Tryz.prog 168 #[.int .i64 0] w fun e w' => e = .returned (.int .i64 8) ∧ w = w' := by
  have H := Lib.hid hz
  clear hz
  go_enter Tryz.func168, Tryz.ntmps168
  go_wp2_with (go_at_call 169; (with_reducible refine (words_at0 _ H.out).mono ?_); rintro e w1 ⟨rfl, rfl⟩)
  go_ret
  exact ⟨rfl, rfl⟩
theorem cells_at1 (w : World) (hz : Sz w) :
    Calls Tryz.prog 168 #[.int .i64 1] w fun e w' => e = .returned (.int .i64 4) ∧ w = w' := by
  have H := Lib.hid hz
  clear hz
  go_enter Tryz.func168, Tryz.ntmps168
  go_wp2_with (go_at_call 169; (with_reducible refine (words_at1 _ H.out).mono ?_); rintro e w1 ⟨rfl, rfl⟩)
  go_ret
  exact ⟨rfl, rfl⟩
theorem cells_at2 (w : World) (hz : Sz w) :
    Calls Tryz.prog 168 #[.int .i64 2] w fun e w' => e = .returned (.int .i64 2) ∧ w = w' := by
  have H := Lib.hid hz
  clear hz
  go_enter Tryz.func168, Tryz.ntmps168
  go_wp2_with (go_at_call 169; (with_reducible refine (words_at2 _ H.out).mono ?_); rintro e w1 ⟨rfl, rfl⟩)
  go_ret
  exact ⟨rfl, rfl⟩
theorem cells_low (c : Int) (w : World) (h : c < 0) :
    Calls Tryz.prog 168 #[.int .i64 c] w fun e w' => e = .returned (.int .i64 0) ∧ w = w' := by
  go_enter Tryz.func168, Tryz.ntmps168
  go_wp2_with (go_at_call 169; (with_reducible refine (words_low _ _ h).mono ?_); rintro e w1 ⟨rfl, rfl⟩)
  go_ret
  exact ⟨rfl, rfl⟩
theorem cells_high (c : Int) (w : World) (h : 2 < c) :
    Calls Tryz.prog 168 #[.int .i64 c] w fun e w' => e = .returned (.int .i64 0) ∧ w = w' := by
  go_enter Tryz.func168, Tryz.ntmps168
  go_wp2_with (go_at_call 169; (with_reducible refine (words_high _ _ h).mono ?_); rintro e w1 ⟨rfl, rfl⟩)
  go_ret
  exact ⟨rfl, rfl⟩
theorem cells_of (c : Int) (w : World) (hz : Sz w) :
    Calls Tryz.prog 168 #[.int .i64 c] w fun e w' => e = .returned (.int .i64 (perPage c)) ∧ w = w' := by
  by_cases h : c < 0 ∨ 2 < c
  · rw [perPage_no h]
    rcases h with h | h
    · exact cells_low c w h
    · exact cells_high c w h
  · have hc : c = 0 ∨ c = 1 ∨ c = 2 := by omega
    clear h
    rcases hc with rfl | rfl | rfl
    · exact cells_at0 w hz
    · exact cells_at1 w hz
    · exact cells_at2 w hz
theorem of_of (n : Int) (w : World) (hz : Sz w) :
    Calls Tryz.prog 99 #[.int .i64 n] w fun e w' => e = .returned (.tuple #[.int .i64 (classOf n), .int .i64 (classErr n)]) ∧ w = w' := by
  have key : ∀ {a b : Int}, classOf n = a → classErr n = b → Calls Tryz.prog 99 #[.int .i64 n] w (fun e w' => e = .returned (.tuple #[.int .i64 a, .int .i64 b]) ∧ w = w') → Calls Tryz.prog 99 #[.int .i64 n] w (fun e w' => e = .returned (.tuple #[.int .i64 (classOf n), .int .i64 (classErr n)]) ∧ w = w') := by
    intro a b h1 h2 h3
    rw [h1, h2]
    exact h3
  by_cases c1 : n < 1
  · exact key (by simp [classOf, c1]) (by simp [classErr, c1]) (of_low n w c1)
  by_cases c2 : 63 < n
  · exact key (by simp [classOf, c2]) (by simp [classErr, c1, c2]) (of_high n w c2)
  by_cases c3 : n ≤ 1
  · exact key (by simp [classOf, c1, c2, c3]) (by simp [classErr, c1, c2]) (of_0 n w hz (by omega) c3)
  by_cases c4 : n ≤ 3
  · exact key (by simp [classOf, c1, c2, c3, c4]) (by simp [classErr, c1, c2]) (of_1 n w hz (by omega) c4)
  by_cases c5 : n ≤ 7
  · exact key (by simp [classOf, c1, c2, c3, c4, c5]) (by simp [classErr, c1, c2]) (of_2 n w hz (by omega) c5)
  exact key (by simp [classOf, c1, c2, c3, c4, c5]) (by simp [classErr, c1, c2]) (of_3 n w hz (by omega) (by omega))
theorem run_low (n : Int) (w : World) (h : n < 1) :
    Calls Tryz.prog 100 #[.int .i64 n] w fun e w' => e = .returned (.tuple #[.int .i64 0, .int .i64 1]) ∧ w = w' := by
  go_enter Tryz.func100, Tryz.ntmps100
  go_wp2_with (go_at_call 99; (with_reducible refine (of_low _ _ h).mono ?_); rintro e w1 ⟨rfl, rfl⟩)
  go_ret2
  exact ⟨rfl, rfl⟩
theorem run_high (n : Int) (w : World) (h : 63 < n) :
    Calls Tryz.prog 100 #[.int .i64 n] w fun e w' => e = .returned (.tuple #[.int .i64 0, .int .i64 2]) ∧ w = w' := by
  go_enter Tryz.func100, Tryz.ntmps100
  go_wp2_with (go_at_call 99; (with_reducible refine (of_high _ _ h).mono ?_); rintro e w1 ⟨rfl, rfl⟩)
  go_ret2
  exact ⟨rfl, rfl⟩
theorem run_s0 (n : Int) (w : World) (hz : Sz w) (h0 : 1 ≤ n) (h1 : n ≤ 1) :
    Calls Tryz.prog 100 #[.int .i64 n] w fun e w' => e = .returned (.tuple #[.int .i64 0, .int .i64 3]) ∧ w = w' := by
  have H := Lib.hid hz
  clear hz
  go_enter Tryz.func100, Tryz.ntmps100
  go_wp2_with (go_at_call 99; (with_reducible refine (of_0 _ _ H.out h0 h1).mono ?_); rintro e w1 ⟨rfl, rfl⟩)
  go_ret2
  exact ⟨rfl, rfl⟩
theorem run_s1 (n : Int) (w : World) (hz : Sz w) (h0 : 2 ≤ n) (h1 : n ≤ 3) :
    Calls Tryz.prog 100 #[.int .i64 n] w fun e w' => e = .returned (.tuple #[.int .i64 0, .int .i64 3]) ∧ w = w' := by
  have H := Lib.hid hz
  clear hz
  go_enter Tryz.func100, Tryz.ntmps100
  go_wp2_with (go_at_call 99; (with_reducible refine (of_1 _ _ H.out h0 h1).mono ?_); rintro e w1 ⟨rfl, rfl⟩)
  go_ret2
  exact ⟨rfl, rfl⟩
theorem run_s2 (n : Int) (w : World) (hz : Sz w) (h0 : 4 ≤ n) (h1 : n ≤ 7) :
    Calls Tryz.prog 100 #[.int .i64 n] w fun e w' => e = .returned (.tuple #[.int .i64 0, .int .i64 3]) ∧ w = w' := by
  have H := Lib.hid hz
  clear hz
  go_enter Tryz.func100, Tryz.ntmps100
  go_wp2_with (go_at_call 99; (with_reducible refine (of_2 _ _ H.out h0 h1).mono ?_); rintro e w1 ⟨rfl, rfl⟩)
  go_ret2
  exact ⟨rfl, rfl⟩
theorem run_1part (n : Int) (w : World) (hz : Sz w) (h0 : 8 ≤ n) (h1 : n ≤ 14) :
    Calls Tryz.prog 100 #[.int .i64 n] w fun e w' => e = .returned (.tuple #[.int .i64 1, .int .i64 0]) ∧ w = w' := by
  have H := Lib.hid hz
  clear hz
  have q : (1 + n) / 16 = 0 := by omega
  have r : 0 < (1 + n) % 16 := by omega
  go_enter Tryz.func100, Tryz.ntmps100
  go_wp2_with (first | ((go_at_call 99; (with_reducible refine (of_3 _ _ H.out (by omega) (by omega)).mono ?_); rintro e w1 ⟨rfl, rfl⟩)) | ((go_at_call 132; (with_reducible refine (words_any _ _ (by omega) (by omega)).mono ?_); rintro e w1 ⟨rfl, rfl⟩)))
  go_ret2
  exact ⟨rfl, rfl⟩
theorem run_1full (w : World) (hz : Sz w) :
    Calls Tryz.prog 100 #[.int .i64 15] w fun e w' => e = .returned (.tuple #[.int .i64 1, .int .i64 0]) ∧ w = w' := by
  have H := Lib.hid hz
  clear hz
  go_enter Tryz.func100, Tryz.ntmps100
  go_wp2_with (first | ((go_at_call 99; (with_reducible refine (of_3 _ _ H.out (by omega) (by omega)).mono ?_); rintro e w1 ⟨rfl, rfl⟩)) | ((go_at_call 132; (with_reducible refine (words_any _ _ (by omega) (by omega)).mono ?_); rintro e w1 ⟨rfl, rfl⟩)))
  go_ret2
  exact ⟨rfl, rfl⟩
theorem run_1 (n : Int) (w : World) (hz : Sz w) (h0 : 8 ≤ n) (h1 : n ≤ 15) :
    Calls Tryz.prog 100 #[.int .i64 n] w fun e w' => e = .returned (.tuple #[.int .i64 1, .int .i64 0]) ∧ w = w' := by
  by_cases h : n = 15
  · subst h
    exact run_1full w hz
  · exact run_1part n w hz h0 (by omega)
theorem run_2part (n : Int) (w : World) (hz : Sz w) (h0 : 16 ≤ n) (h1 : n ≤ 30) :
    Calls Tryz.prog 100 #[.int .i64 n] w fun e w' => e = .returned (.tuple #[.int .i64 2, .int .i64 0]) ∧ w = w' := by
  have H := Lib.hid hz
  clear hz
  have q : (1 + n) / 16 = 1 := by omega
  have r : 0 < (1 + n) % 16 := by omega
  go_enter Tryz.func100, Tryz.ntmps100
  go_wp2_with (first | ((go_at_call 99; (with_reducible refine (of_3 _ _ H.out (by omega) (by omega)).mono ?_); rintro e w1 ⟨rfl, rfl⟩)) | ((go_at_call 132; (with_reducible refine (words_any _ _ (by omega) (by omega)).mono ?_); rintro e w1 ⟨rfl, rfl⟩)))
  go_ret2
  exact ⟨rfl, rfl⟩
theorem run_2full (w : World) (hz : Sz w) :
    Calls Tryz.prog 100 #[.int .i64 31] w fun e w' => e = .returned (.tuple #[.int .i64 2, .int .i64 0]) ∧ w = w' := by
  have H := Lib.hid hz
  clear hz
  go_enter Tryz.func100, Tryz.ntmps100
  go_wp2_with (first | ((go_at_call 99; (with_reducible refine (of_3 _ _ H.out (by omega) (by omega)).mono ?_); rintro e w1 ⟨rfl, rfl⟩)) | ((go_at_call 132; (with_reducible refine (words_any _ _ (by omega) (by omega)).mono ?_); rintro e w1 ⟨rfl, rfl⟩)))
  go_ret2
  exact ⟨rfl, rfl⟩
theorem run_2 (n : Int) (w : World) (hz : Sz w) (h0 : 16 ≤ n) (h1 : n ≤ 31) :
    Calls Tryz.prog 100 #[.int .i64 n] w fun e w' => e = .returned (.tuple #[.int .i64 2, .int .i64 0]) ∧ w = w' := by
  by_cases h : n = 31
  · subst h
    exact run_2full w hz
  · exact run_2part n w hz h0 (by omega)
theorem run_3part (n : Int) (w : World) (hz : Sz w) (h0 : 32 ≤ n) (h1 : n ≤ 46) :
    Calls Tryz.prog 100 #[.int .i64 n] w fun e w' => e = .returned (.tuple #[.int .i64 3, .int .i64 0]) ∧ w = w' := by
  have H := Lib.hid hz
  clear hz
  have q : (1 + n) / 16 = 2 := by omega
  have r : 0 < (1 + n) % 16 := by omega
  go_enter Tryz.func100, Tryz.ntmps100
  go_wp2_with (first | ((go_at_call 99; (with_reducible refine (of_3 _ _ H.out (by omega) (by omega)).mono ?_); rintro e w1 ⟨rfl, rfl⟩)) | ((go_at_call 132; (with_reducible refine (words_any _ _ (by omega) (by omega)).mono ?_); rintro e w1 ⟨rfl, rfl⟩)))
  go_ret2
  exact ⟨rfl, rfl⟩
theorem run_3full (w : World) (hz : Sz w) :
    Calls Tryz.prog 100 #[.int .i64 47] w fun e w' => e = .returned (.tuple #[.int .i64 3, .int .i64 0]) ∧ w = w' := by
  have H := Lib.hid hz
  clear hz
  go_enter Tryz.func100, Tryz.ntmps100
  go_wp2_with (first | ((go_at_call 99; (with_reducible refine (of_3 _ _ H.out (by omega) (by omega)).mono ?_); rintro e w1 ⟨rfl, rfl⟩)) | ((go_at_call 132; (with_reducible refine (words_any _ _ (by omega) (by omega)).mono ?_); rintro e w1 ⟨rfl, rfl⟩)))
  go_ret2
  exact ⟨rfl, rfl⟩
theorem run_3 (n : Int) (w : World) (hz : Sz w) (h0 : 32 ≤ n) (h1 : n ≤ 47) :
    Calls Tryz.prog 100 #[.int .i64 n] w fun e w' => e = .returned (.tuple #[.int .i64 3, .int .i64 0]) ∧ w = w' := by
  by_cases h : n = 47
  · subst h
    exact run_3full w hz
  · exact run_3part n w hz h0 (by omega)
theorem run_4part (n : Int) (w : World) (hz : Sz w) (h0 : 48 ≤ n) (h1 : n ≤ 62) :
    Calls Tryz.prog 100 #[.int .i64 n] w fun e w' => e = .returned (.tuple #[.int .i64 4, .int .i64 0]) ∧ w = w' := by
  have H := Lib.hid hz
  clear hz
  have q : (1 + n) / 16 = 3 := by omega
  have r : 0 < (1 + n) % 16 := by omega
  go_enter Tryz.func100, Tryz.ntmps100
  go_wp2_with (first | ((go_at_call 99; (with_reducible refine (of_3 _ _ H.out (by omega) (by omega)).mono ?_); rintro e w1 ⟨rfl, rfl⟩)) | ((go_at_call 132; (with_reducible refine (words_any _ _ (by omega) (by omega)).mono ?_); rintro e w1 ⟨rfl, rfl⟩)))
  go_ret2
  exact ⟨rfl, rfl⟩
theorem run_4full (w : World) (hz : Sz w) :
    Calls Tryz.prog 100 #[.int .i64 63] w fun e w' => e = .returned (.tuple #[.int .i64 4, .int .i64 0]) ∧ w = w' := by
  have H := Lib.hid hz
  clear hz
  go_enter Tryz.func100, Tryz.ntmps100
  go_wp2_with (first | ((go_at_call 99; (with_reducible refine (of_3 _ _ H.out (by omega) (by omega)).mono ?_); rintro e w1 ⟨rfl, rfl⟩)) | ((go_at_call 132; (with_reducible refine (words_any _ _ (by omega) (by omega)).mono ?_); rintro e w1 ⟨rfl, rfl⟩)))
  go_ret2
  exact ⟨rfl, rfl⟩
theorem run_4 (n : Int) (w : World) (hz : Sz w) (h0 : 48 ≤ n) (h1 : n ≤ 63) :
    Calls Tryz.prog 100 #[.int .i64 n] w fun e w' => e = .returned (.tuple #[.int .i64 4, .int .i64 0]) ∧ w = w' := by
  by_cases h : n = 63
  · subst h
    exact run_4full w hz
  · exact run_4part n w hz h0 (by omega)
theorem run_of (n : Int) (w : World) (hz : Sz w) :
    Calls Tryz.prog 100 #[.int .i64 n] w fun e w' => e = .returned (.tuple #[.int .i64 (runOf n), .int .i64 (runErr n)]) ∧ w = w' := by
  have key : ∀ {a b : Int}, runOf n = a → runErr n = b → Calls Tryz.prog 100 #[.int .i64 n] w (fun e w' => e = .returned (.tuple #[.int .i64 a, .int .i64 b]) ∧ w = w') → Calls Tryz.prog 100 #[.int .i64 n] w (fun e w' => e = .returned (.tuple #[.int .i64 (runOf n), .int .i64 (runErr n)]) ∧ w = w') := by
    intro a b h1 h2 h3
    rw [h1, h2]
    exact h3
  by_cases c1 : n < 1
  · exact key (by unfold runOf; rw [if_pos (by omega)]) (by unfold runErr; rw [if_pos (by omega)]) (run_low n w c1)
  by_cases c2 : 63 < n
  · exact key (by unfold runOf; rw [if_pos (by omega)]) (by unfold runErr; rw [if_neg (by omega), if_pos (by omega)]) (run_high n w c2)
  by_cases d0 : n ≤ 1
  · exact key (by unfold runOf; rw [if_pos (by omega)]) (by unfold runErr; rw [if_neg (by omega), if_neg (by omega), if_pos (by omega)]) (run_s0 n w hz (by omega) d0)
  by_cases d1 : n ≤ 3
  · exact key (by unfold runOf; rw [if_pos (by omega)]) (by unfold runErr; rw [if_neg (by omega), if_neg (by omega), if_pos (by omega)]) (run_s1 n w hz (by omega) d1)
  by_cases d2 : n ≤ 7
  · exact key (by unfold runOf; rw [if_pos (by omega)]) (by unfold runErr; rw [if_neg (by omega), if_neg (by omega), if_pos (by omega)]) (run_s2 n w hz (by omega) d2)
  by_cases e1 : n ≤ 15
  · exact key (by unfold runOf; rw [if_neg (by omega), if_pos (by omega)]) (by unfold runErr; rw [if_neg (by omega), if_neg (by omega), if_neg (by omega)]) (run_1 n w hz (by omega) e1)
  by_cases e2 : n ≤ 31
  · exact key (by unfold runOf; rw [if_neg (by omega), if_neg (by omega), if_pos (by omega)]) (by unfold runErr; rw [if_neg (by omega), if_neg (by omega), if_neg (by omega)]) (run_2 n w hz (by omega) e2)
  by_cases e3 : n ≤ 47
  · exact key (by unfold runOf; rw [if_neg (by omega), if_neg (by omega), if_neg (by omega), if_pos (by omega)]) (by unfold runErr; rw [if_neg (by omega), if_neg (by omega), if_neg (by omega)]) (run_3 n w hz (by omega) e3)
  exact key (by unfold runOf; rw [if_neg (by omega), if_neg (by omega), if_neg (by omega), if_neg (by omega)]) (by unfold runErr; rw [if_neg (by omega), if_neg (by omega), if_neg (by omega)]) (run_4 n w hz (by omega) (by omega))
end Go.Proofs.YtccjelpfmkbmiaaGreatDoor.Cl
end
section
namespace Go.Proofs.YtccjelpfmkbmiaaGreatDoor.Cl
open Go.Proofs.YtccjelpfmkbmiaaGreatDoor
set_option maxRecDepth 100000
open Go.RowKit

end Go.Proofs.YtccjelpfmkbmiaaGreatDoor.Cl
end
section
namespace Go.Proofs.YtccjelpfmkbmiaaGreatDoor
open Go.RowKit
set_option maxRecDepth 100000

/-- The box of a heap. -/
structure HBox (W : World) (b : Nat) (s : Hs) : Prop where
  c0 : W.cell? ⟨b, 0, none⟩ = some (.slice s.w.a s.w.n s.w.c)
  c1 : W.cell? ⟨b, 1, none⟩ = some (.slice s.p.a s.p.n s.p.c)
  c2 : W.cell? ⟨b, 2, none⟩ = some (.slice (s.u 0).a (s.u 0).n (s.u 0).c)
  c3 : W.cell? ⟨b, 3, none⟩ = some (.slice (s.u 1).a (s.u 1).n (s.u 1).c)
  c4 : W.cell? ⟨b, 4, none⟩ = some (.slice (s.u 2).a (s.u 2).n (s.u 2).c)
  c5 : W.cell? ⟨b, 5, none⟩ = some (.slice s.c.a s.c.n s.c.c)
  lt : b < W.heap.size
theorem HBox.new (w : World) (s : Hs) (t : TypeId) : HBox (w.alloc (.cells #[.slice s.w.a s.w.n s.w.c, .slice s.p.a s.p.n s.p.c, .slice (s.u 0).a (s.u 0).n (s.u 0).c, .slice (s.u 1).a (s.u 1).n (s.u 1).c, .slice (s.u 2).a (s.u 2).n (s.u 2).c, .slice s.c.a s.c.n s.c.c] t)) w.heap.size s := by
  refine ⟨?_, ?_, ?_, ?_, ?_, ?_, by simp⟩ <;> simp [go_sem]
theorem HBox.next {W W' : World} {b : Nat} {s : Hs} (h : HBox W b s) (hb : Below W.heap.size W W') : HBox W' b s :=
  ⟨(hb.cell (p := ⟨b, 0, none⟩) h.lt).trans h.c0, (hb.cell (p := ⟨b, 1, none⟩) h.lt).trans h.c1, (hb.cell (p := ⟨b, 2, none⟩) h.lt).trans h.c2, (hb.cell (p := ⟨b, 3, none⟩) h.lt).trans h.c3, (hb.cell (p := ⟨b, 4, none⟩) h.lt).trans h.c4, (hb.cell (p := ⟨b, 5, none⟩) h.lt).trans h.c5, Nat.lt_of_lt_of_le h.lt hb.size⟩

def nOf (x : Int) : Int := x / 8 % 128
def cellB (x : Int) (p : Int × Int) : Bool :=
  if Hd.isWord x = true ∧ x % 2 = 1 then (Cl.classErr (nOf x) == 0) && (if p.1 = 1 then Cl.classOf (nOf x) == p.2 else (Cl.runErr (nOf x) == 0) && (Cl.runOf (nOf x) == p.2))
  else Hd.isWord x && (p.1 == 1)
theorem headOf_no {x : Int} (h : Hd.isWord x = false) : headOf x = .agg #[.bool false, .bool false, .bool false, .int .i64 0, .int .i64 0, .int .i64 0] := by simp [headOf, h]
theorem headOf_yes {x : Int} (h : Hd.isWord x = true) : headOf x = .agg #[.bool (decide (x % 2 = 1)), .bool (decide (x / 2 % 2 = 1)), .bool (decide (x / 4 % 2 = 1)), .int .i64 (nOf x), .int .i64 (x / 1024 % 4194304), .int .i64 (x / 4294967296)] := by simp [headOf, h, nOf]
section
variable (s : Hs) (d : Hd_) (w : World) (a : Int) (i j : Nat) (x : Int) (p : Int × Int)
end
end Go.Proofs.YtccjelpfmkbmiaaGreatDoor
end
section
namespace Go.Proofs.YtccjelpfmkbmiaaGreatDoor.Cl
open Go.Proofs.YtccjelpfmkbmiaaGreatDoor
set_option maxRecDepth 100000

/-- A page, seen alone. -/
def pmB (p : Int × Int) : Bool := (p.1 == 0 && p.2 == 0) || (p.1 == 1 && decide (0 ≤ p.2) && decide (p.2 ≤ 2)) || (p.1 == 2 && decide (1 ≤ p.2) && decide (p.2 ≤ 4)) || (p.1 == 3 && p.2 == 0)
theorem pmB_iff (p : Int × Int) : pmB p = true ↔ (p.1 = 0 ∧ p.2 = 0) ∨ (p.1 = 1 ∧ 0 ≤ p.2 ∧ p.2 ≤ 2) ∨ (p.1 = 2 ∧ 1 ≤ p.2 ∧ p.2 ≤ 4) ∨ (p.1 = 3 ∧ p.2 = 0) := by
  simp [pmB, or_assoc, and_assoc]

/-- How many pages the large object ahead of page k still asks for. -/
def st (f : Nat → Int × Int) : Nat → Int
  | 0 => 0
  | k + 1 => if (f k).1 = 2 then (f k).2 - 1 else if 0 < st f k then st f k - 1 else st f k
def okB (f : Nat → Int × Int) (k : Nat) : Bool := pmB (f k) && (decide ((f k).1 = 3) == decide (0 < st f k))
theorem okB_iff (f : Nat → Int × Int) (k : Nat) : okB f k = true ↔ pmB (f k) = true ∧ ((f k).1 = 3 ↔ 0 < st f k) := by
  simp [okB]
def mayB (f : Nat → Int × Int) (n : Nat) : Bool := decide (1 ≤ n) && decide (n ≤ 64) && (List.range n).all (okB f) && (st f n == 0)
theorem mayB_iff (f : Nat → Int × Int) (n : Nat) : mayB f n = true ↔ 1 ≤ n ∧ n ≤ 64 ∧ (∀ k, k < n → okB f k = true) ∧ st f n = 0 := by
  simp [mayB, and_assoc]
theorem mayB_short {f : Nat → Int × Int} {n : Nat} (h : n < 1 ∨ 64 < n) : mayB f n = false := by
  rw [Bool.eq_false_iff]
  intro h'
  have := (mayB_iff f n).1 h'
  omega
theorem mayB_not {f : Nat → Int × Int} {n k : Nat} (hk : k < n) (h : okB f k = false) : mayB f n = false := by
  rw [Bool.eq_false_iff]
  intro h'
  have := ((mayB_iff f n).1 h').2.2.1 k hk
  rw [h] at this
  cases this
theorem mayB_end {f : Nat → Int × Int} {n : Nat} (h : st f n ≠ 0) : mayB f n = false := by
  rw [Bool.eq_false_iff]
  intro h'
  exact h ((mayB_iff f n).1 h').2.2.2
theorem mayB_mk {f : Nat → Int × Int} {n : Nat} (h0 : 1 ≤ n) (h1 : n ≤ 64) (h2 : ∀ k, k < n → okB f k = true) (h3 : st f n = 0) : mayB f n = true := (mayB_iff f n).2 ⟨h0, h1, h2, h3⟩
theorem st_nonneg {f : Nat → Int × Int} {n : Nat} (h : ∀ k, k < n → okB f k = true) : ∀ k, k ≤ n → 0 ≤ st f k ∧ st f k ≤ 3
  | 0, _ => by simp [st]
  | k + 1, hk => by
    have hr := st_nonneg h k (by omega)
    have h1 := (okB_iff f k).1 (h k (by omega))
    have h2 := (pmB_iff _).1 h1.1
    unfold st
    split
    · omega
    · split <;> omega
/-- n pages from page a on are free. -/
def freeB (f : Nat → Int × Int) (a n : Nat) : Bool := (List.range n).all fun j => (f (a + j)).1 == 0
theorem put_ne {f : Nat → Int × Int} {a j : Nat} {p : Int × Int} (h : j ≠ a) : put f a p j = f j := if_neg h
/-- A large object's m pages from a place on. -/
def large (f : Nat → Int × Int) (a : Nat) (m : Int) : Nat → Int × Int := fun j => if j = a then (2, m) else if a < j ∧ (j : Int) < a + m then (3, 0) else f j
/-- How many pages begin at page a, where a small or a large one does. -/
def wide (f : Nat → Int × Int) (a : Nat) : Int := if (f a).1 = 2 then (f a).2 else 1
def drop (f : Nat → Int × Int) (a : Nat) : Nat → Int × Int := fun j => if a ≤ j ∧ (j : Int) < a + wide f a then (0, 0) else f j
end Go.Proofs.YtccjelpfmkbmiaaGreatDoor.Cl
end
section
namespace Go.Proofs.YtccjelpfmkbmiaaGreatDoor.Cl
open Go.Proofs.YtccjelpfmkbmiaaGreatDoor
set_option maxRecDepth 100000
open Go.RowKit

end Go.Proofs.YtccjelpfmkbmiaaGreatDoor.Cl
end
section
namespace Go.Proofs.YtccjelpfmkbmiaaGreatDoor.Cl
open Go.Proofs.YtccjelpfmkbmiaaGreatDoor
set_option maxRecDepth 100000
open Go.RowKit

/-- Is there such a class? May a large object have so many pages? -/
def clB (c : Int) : Bool := decide (0 ≤ c) && decide (c ≤ 2)
def runB (n : Int) : Bool := decide (1 ≤ n) && decide (n ≤ 4)
theorem clB_iff (c : Int) : clB c = true ↔ 0 ≤ c ∧ c ≤ 2 := by simp [clB]
theorem runB_iff (c : Int) : runB c = true ↔ 1 ≤ c ∧ c ≤ 4 := by simp [runB]
theorem clB_not {c : Int} (h : ¬ (0 ≤ c ∧ c ≤ 2)) : clB c = false := by
  rw [Bool.eq_false_iff]
  exact fun h' => h ((clB_iff c).1 h')
theorem runB_not {c : Int} (h : ¬ (1 ≤ c ∧ c ≤ 4)) : runB c = false := by
  rw [Bool.eq_false_iff]
  exact fun h' => h ((runB_iff c).1 h')

theorem isClass_any (c : Int) (w : World) :
    Calls Tryz.prog 144 #[.int .i64 c] w fun e w' => e = .returned (.bool (clB c)) ∧ w = w' := by
  by_cases h0 : 0 ≤ c
  · by_cases h1 : c ≤ 2
    · have e := Lib.hid ((clB_iff c).2 ⟨h0, h1⟩)
      have d0 : decide (c < 3) = true := by simp; omega
      go_enter Tryz.func144, Tryz.ntmps144
      go_wp2
      go_ret
      exact ⟨by rw [e.out]; rfl, rfl⟩
    · have e := Lib.hid (clB_not (c := c) (by omega))
      have d0 : decide (c < 3) = false := by simp; omega
      go_enter Tryz.func144, Tryz.ntmps144
      go_wp2
      go_ret
      exact ⟨by rw [e.out]; rfl, rfl⟩
  · have e := Lib.hid (clB_not (c := c) (by omega))
    have d0 : decide (0 ≤ c) = false := by simpa using h0
    go_enter Tryz.func144, Tryz.ntmps144
    go_wp2
    go_ret
    exact ⟨by rw [e.out]; rfl, rfl⟩
theorem isRun_any (c : Int) (w : World) :
    Calls Tryz.prog 145 #[.int .i64 c] w fun e w' => e = .returned (.bool (runB c)) ∧ w = w' := by
  by_cases h0 : 1 ≤ c
  · by_cases h1 : c ≤ 4
    · have e := Lib.hid ((runB_iff c).2 ⟨h0, h1⟩)
      have d0 : decide (c ≤ 4) = true := by simp; omega
      go_enter Tryz.func145, Tryz.ntmps145
      go_wp2
      go_ret
      exact ⟨by rw [e.out]; rfl, rfl⟩
    · have e := Lib.hid (runB_not (c := c) (by omega))
      have d0 : decide (c ≤ 4) = false := by simp; omega
      go_enter Tryz.func145, Tryz.ntmps145
      go_wp2
      go_ret
      exact ⟨by rw [e.out]; rfl, rfl⟩
  · have e := Lib.hid (runB_not (c := c) (by omega))
    have d0 : decide (1 ≤ c) = false := by simpa using h0
    go_enter Tryz.func145, Tryz.ntmps145
    go_wp2
    go_ret
    exact ⟨by rw [e.out]; rfl, rfl⟩

theorem pmB_small (b : Int) : pmB (1, b) = clB b := by simp [pmB, clB]
theorem pmB_large (b : Int) : pmB (2, b) = runB b := by simp [pmB, runB]
theorem pmB_free (b : Int) : pmB (0, b) = (b == 0) := by simp [pmB]
theorem pmB_rest (b : Int) : pmB (3, b) = (b == 0) := by simp [pmB]
theorem pmB_no (a b : Int) (h0 : a ≠ 0) (h1 : a ≠ 1) (h2 : a ≠ 2) (h3 : a ≠ 3) : pmB (a, b) = false := by simp [pmB, h0, h1, h2, h3]

theorem pmay_any (p : Int × Int) (w : World) :
    Calls Tryz.prog 129 #[.agg #[.int .i64 p.1, .int .i64 p.2]] w fun e w' => e = .returned (.bool (pmB p)) ∧ Below w.heap.size w w' := by
  obtain ⟨a, b⟩ := p
  show Calls Tryz.prog 129 #[.agg #[.int .i64 a, .int .i64 b]] w _
  by_cases h1 : a = 1
  · subst h1
    rw [pmB_small]
    go_enter Tryz.func129, Tryz.ntmps129
    go_wp2_with fail
    refine (isClass_any _ _).mono ?_
    rintro e w1 ⟨rfl, rfl⟩
    go_wp2
    go_ret
    exact ⟨rfl, (Below.refl _ _).alloc (Nat.le_refl _) _⟩
  by_cases h2 : a = 2
  · subst h2
    rw [pmB_large]
    go_enter Tryz.func129, Tryz.ntmps129
    go_wp2_with fail
    refine (isRun_any _ _).mono ?_
    rintro e w1 ⟨rfl, rfl⟩
    go_wp2
    go_ret
    exact ⟨rfl, (Below.refl _ _).alloc (Nat.le_refl _) _⟩
  by_cases h0 : a = 0
  · subst h0
    rw [pmB_free]
    go_enter Tryz.func129, Tryz.ntmps129
    go_wp2
    go_ret
    exact ⟨rfl, (Below.refl _ _).alloc (Nat.le_refl _) _⟩
  by_cases h3 : a = 3
  · subst h3
    rw [pmB_rest]
    go_enter Tryz.func129, Tryz.ntmps129
    go_wp2
    go_ret
    exact ⟨rfl, (Below.refl _ _).alloc (Nat.le_refl _) _⟩
  rw [pmB_no a b h0 h1 h2 h3]
  have e0 : (a == 0) = false := by simpa using h0
  have e1 : (a == 1) = false := by simpa using h1
  have e2 : (a == 2) = false := by simpa using h2
  have e3 : (a == 3) = false := by simpa using h3
  clear h0 h1 h2 h3
  go_enter Tryz.func129, Tryz.ntmps129
  go_wp2
  go_ret
  exact ⟨rfl, (Below.refl _ _).alloc (Nat.le_refl _) _⟩
end Go.Proofs.YtccjelpfmkbmiaaGreatDoor.Cl
end
section
namespace Go.Proofs.YtccjelpfmkbmiaaGreatDoor.Cl
open Go.Proofs.YtccjelpfmkbmiaaGreatDoor
set_option maxRecDepth 100000
open Go.RowKit

theorem pmay_yes (p : Int × Int) (w : World) (h : pmB p = true) :
    Calls Tryz.prog 129 #[.agg #[.int .i64 p.1, .int .i64 p.2]] w fun e w' => e = .returned (.bool true) ∧ Below w.heap.size w w' := by
  rw [← h]; exact pmay_any p w
theorem pmay_no (p : Int × Int) (w : World) (h : pmB p = false) :
    Calls Tryz.prog 129 #[.agg #[.int .i64 p.1, .int .i64 p.2]] w fun e w' => e = .returned (.bool false) ∧ Below w.heap.size w w' := by
  rw [← h]; exact pmay_any p w

/-- The first k pages are right. -/
def Good (f : Nat → Int × Int) (k : Nat) : Prop := ∀ j, j < k → okB f j = true
theorem Good.zero (f : Nat → Int × Int) : Good f 0 := fun j h => absurd h (by omega)
theorem Good.next {f : Nat → Int × Int} {k : Nat} (h : Good f k) (hk : okB f k = true) : Good f (k + 1) := fun j hj => by
  by_cases e : j = k
  · rw [e]; exact hk
  · exact h j (by omega)
theorem Good.st {f : Nat → Int × Int} {k : Nat} (h : Good f k) : 0 ≤ st f k ∧ st f k ≤ 3 := st_nonneg h k (Nat.le_refl _)
theorem okB_no {f : Nat → Int × Int} {k : Nat} (h : pmB (f k) = false) : okB f k = false := by simp [okB, h]
theorem okB_alone {f : Nat → Int × Int} {k : Nat} (h3 : (f k).1 = 3) (h : ¬ 0 < st f k) : okB f k = false := by simp [okB, h3]; omega
theorem okB_gap {f : Nat → Int × Int} {k : Nat} (h3 : (f k).1 ≠ 3) (h : 0 < st f k) : okB f k = false := by simp [okB, h3]; omega
theorem okB_yes {f : Nat → Int × Int} {k : Nat} (h : pmB (f k) = true) (h3 : (f k).1 = 3 ↔ 0 < st f k) : okB f k = true := (okB_iff f k).2 ⟨h, h3⟩
theorem st_large {f : Nat → Int × Int} {k : Nat} (h : (f k).1 = 2) : Go.Proofs.YtccjelpfmkbmiaaGreatDoor.Cl.st f (k + 1) = (f k).2 - 1 := by
  show (if (f k).1 = 2 then _ else _) = _
  rw [if_pos h]
theorem st_rest {f : Nat → Int × Int} {k : Nat} (h : (f k).1 = 3) (hs : 0 < Go.Proofs.YtccjelpfmkbmiaaGreatDoor.Cl.st f k) : Go.Proofs.YtccjelpfmkbmiaaGreatDoor.Cl.st f (k + 1) = Go.Proofs.YtccjelpfmkbmiaaGreatDoor.Cl.st f k - 1 := by
  show (if (f k).1 = 2 then _ else _) = _
  rw [if_neg (by omega), if_pos hs]
theorem st_same {f : Nat → Int × Int} {k : Nat} (h : (f k).1 ≠ 2) (hs : ¬ 0 < Go.Proofs.YtccjelpfmkbmiaaGreatDoor.Cl.st f k) : Go.Proofs.YtccjelpfmkbmiaaGreatDoor.Cl.st f (k + 1) = Go.Proofs.YtccjelpfmkbmiaaGreatDoor.Cl.st f k := by
  show (if (f k).1 = 2 then _ else _) = _
  rw [if_neg h, if_neg hs]
theorem rint {a b : Bool} (h : a = b) : Ending.returned (.bool a) = .returned (.bool b) := by rw [h]
/-- A block of two numbers that was just laid, behind a call that left it. -/
theorem pair_kept {w w1 : World} {a b : Int} {t : TypeId} (hb : Below (w.alloc (.cells #[.int .i64 a, .int .i64 b] t)).heap.size (w.alloc (.cells #[.int .i64 a, .int .i64 b] t)) w1) :
    w1.cell? ⟨w.heap.size, 0, none⟩ = some (.int .i64 a) ∧ w1.cell? ⟨w.heap.size, 1, none⟩ = some (.int .i64 b) ∧ w.heap.size < w1.heap.size := by
  refine ⟨(hb.cell (p := ⟨w.heap.size, 0, none⟩) (by simp)).trans (by simp [go_sem]), (hb.cell (p := ⟨w.heap.size, 1, none⟩) (by simp)).trans (by simp [go_sem]), ?_⟩
  have := hb.size
  simp at this
  omega
theorem below_pair {w0 w w1 : World} {o : Obj} (h : Below w0.heap.size w0 w) (hb : Below (w.alloc o).heap.size (w.alloc o) w1) : Below w0.heap.size w0 w1 :=
  (h.alloc h.size o).trans (hb.mono (by have := h.size; simp; omega))

set_option maxHeartbeats 1000000 in
theorem may_any (B : Nat) (A : Option Addr) (n c : Nat) (f : Nat → Int × Int) (w : World) (hn : n ≤ 1000) (hr : PRow w B A n f) (hB : B ≤ w.heap.size) :
    Calls Tryz.prog 96 #[.slice A n c] w fun e w' => e = .returned (.bool (mayB f n)) ∧ Below w.heap.size w w' := by
  have HR := Lib.hid hr
  clear hr
  by_cases h1 : n < 1
  · have HM := Lib.hid (mayB_short (f := f) (n := n) (.inl h1))
    obtain rfl : n = 0 := by omega
    go_enter Tryz.func96, Tryz.ntmps96
    go_wp2
    go_ret
    exact ⟨rint HM.out.symm, Below.refl _ _⟩
  by_cases h2 : 64 < n
  · have HM := Lib.hid (mayB_short (f := f) (n := n) (.inr h2))
    go_enter Tryz.func96, Tryz.ntmps96
    go_wp2
    go_ret
    exact ⟨rint HM.out.symm, Below.refl _ _⟩
  go_enter Tryz.func96, Tryz.ntmps96
  go_wp2
  go_loopw [3, 16] (fun v i wr => ∃ k : Nat, k ≤ n ∧ i = .int .i64 k ∧ v = .int .i64 (st f k) ∧ Good f k ∧ Below w.heap.size w wr) (fun _ i _ => n - (intOf i).toNat)
  case atStart => exact ⟨0, Nat.zero_le _, rfl, rfl, Good.zero f, Below.refl _ _⟩
  case round =>
    obtain ⟨k, hk, rfl, rfl, hg, hb⟩ := hrel
    have hs := hg.st
    have HG := Lib.hid hg
    clear hg
    by_cases hlt : k < n
    · obtain ⟨b, off, rfl, hbB, hc⟩ := (HR.out.over hb hB) (by omega)
      obtain ⟨c0, c1⟩ := hc k hlt
      have HB := Lib.hid hb
      have hz := hb.size
      clear hb hc
      cases hp : pmB (f k)
      · have HM := Lib.hid (mayB_not hlt (okB_no hp))
        have HP := Lib.hid hp
        clear hp
        go_wp2_with fail
        refine (pmay_no _ _ HP.out).mono ?_
        rintro e w1 ⟨rfl, hb1⟩
        go_wp2
        go_ret
        exact ⟨rint HM.out.symm, below_pair HB.out hb1⟩
      · have HP := Lib.hid hp
        by_cases h3 : (f k).1 = 3
        · have e3 : ((f k).1 == 3) = true := by simpa using h3
          have e2 : ((f k).1 == 2) = false := by rw [h3]; decide
          by_cases hs0 : 0 < st f k
          · have HS := Lib.hid (st_rest h3 hs0)
            have HO := Lib.hid (okB_yes hp ⟨fun _ => hs0, fun _ => h3⟩)
            have hd : decide (0 < st f k) = true := by simpa using hs0
            clear hp h3
            go_wp2_with fail
            refine (pmay_yes _ _ HP.out).mono ?_
            rintro e w1 ⟨rfl, hb1⟩
            have HB1 := Lib.hid hb1
            obtain ⟨k0, k1, hz1⟩ := pair_kept hb1
            clear hb1
            go_wp2
            go_roundw
            case rel => exact ⟨k + 1, by omega, by go_num, by rw [HS.out], HG.out.next HO.out, below_pair HB.out HB1.out⟩
            case measure => simp [intOf]; omega
          · have HM := Lib.hid (mayB_not hlt (okB_alone h3 hs0))
            have hd : decide (0 < st f k) = false := by simpa using hs0
            clear hp h3
            go_wp2_with fail
            refine (pmay_yes _ _ HP.out).mono ?_
            rintro e w1 ⟨rfl, hb1⟩
            have HB1 := Lib.hid hb1
            obtain ⟨k0, k1, hz1⟩ := pair_kept hb1
            clear hb1
            go_wp2
            go_ret
            exact ⟨rint HM.out.symm, below_pair HB.out HB1.out⟩
        · have e3 : ((f k).1 == 3) = false := by simpa using h3
          by_cases hs0 : 0 < st f k
          · have HM := Lib.hid (mayB_not hlt (okB_gap h3 hs0))
            have hd : decide (0 < st f k) = true := by simpa using hs0
            clear hp h3
            go_wp2_with fail
            refine (pmay_yes _ _ HP.out).mono ?_
            rintro e w1 ⟨rfl, hb1⟩
            have HB1 := Lib.hid hb1
            obtain ⟨k0, k1, hz1⟩ := pair_kept hb1
            clear hb1
            go_wp2
            go_ret
            exact ⟨rint HM.out.symm, below_pair HB.out HB1.out⟩
          · have HO := Lib.hid (okB_yes hp ⟨fun h => absurd h h3, fun h => absurd h hs0⟩)
            have hd : decide (0 < st f k) = false := by simpa using hs0
            have ha : (f k).1 = 2 → 1 ≤ (f k).2 ∧ (f k).2 ≤ 4 := fun h => by have := (pmB_iff _).1 hp; omega
            by_cases h2' : (f k).1 = 2
            · have HS := Lib.hid (st_large h2')
              have e2 : ((f k).1 == 2) = true := by simpa using h2'
              obtain ⟨a1, a2⟩ := ha h2'
              clear hp h3 h2' ha
              go_wp2_with fail
              refine (pmay_yes _ _ HP.out).mono ?_
              rintro e w1 ⟨rfl, hb1⟩
              have HB1 := Lib.hid hb1
              obtain ⟨k0, k1, hz1⟩ := pair_kept hb1
              clear hb1
              go_wp2
              go_roundw
              case rel => exact ⟨k + 1, by omega, by go_num, by rw [HS.out], HG.out.next HO.out, below_pair HB.out HB1.out⟩
              case measure => simp [intOf]; omega
            · have HS := Lib.hid (st_same h2' hs0)
              have e2 : ((f k).1 == 2) = false := by simpa using h2'
              clear hp h3 h2' ha
              go_wp2_with fail
              refine (pmay_yes _ _ HP.out).mono ?_
              rintro e w1 ⟨rfl, hb1⟩
              have HB1 := Lib.hid hb1
              obtain ⟨k0, k1, hz1⟩ := pair_kept hb1
              clear hb1
              go_wp2
              go_roundw
              case rel => exact ⟨k + 1, by omega, by go_num, by rw [HS.out], HG.out.next HO.out, below_pair HB.out HB1.out⟩
              case measure => simp [intOf]; omega
    · obtain rfl : k = n := by omega
      by_cases h0 : st f k = 0
      · have HM := Lib.hid (mayB_mk (by omega) (by omega) HG.out h0)
        have hd : (st f k == 0) = true := by simpa using h0
        clear h0
        go_wp2
        go_ret
        exact ⟨rint HM.out.symm, hb⟩
      · have HM := Lib.hid (mayB_end h0)
        have hd : (st f k == 0) = false := by simpa using h0
        clear h0
        go_wp2
        go_ret
        exact ⟨rint HM.out.symm, hb⟩
theorem may_yes (B : Nat) (A : Option Addr) (n c : Nat) (f : Nat → Int × Int) (w : World) (h : mayB f n = true) (hr : PRow w B A n f) (hB : B ≤ w.heap.size) :
    Calls Tryz.prog 96 #[.slice A n c] w fun e w' => e = .returned (.bool true) ∧ Below w.heap.size w w' := by
  rw [← h]
  have := (mayB_iff f n).1 h
  exact may_any B A n c f w (by omega) hr hB
theorem may_no (B : Nat) (A : Option Addr) (n c : Nat) (f : Nat → Int × Int) (w : World) (h : mayB f n = false) (hn : n ≤ 1000) (hr : PRow w B A n f) (hB : B ≤ w.heap.size) :
    Calls Tryz.prog 96 #[.slice A n c] w fun e w' => e = .returned (.bool false) ∧ Below w.heap.size w w' := by
  rw [← h]
  exact may_any B A n c f w hn hr hB
end Go.Proofs.YtccjelpfmkbmiaaGreatDoor.Cl
end
section
namespace Go.Proofs.YtccjelpfmkbmiaaGreatDoor.Cl
open Go.Proofs.YtccjelpfmkbmiaaGreatDoor
set_option maxRecDepth 100000
open Go.RowKit

theorem below_drewN {B : Nat} {w w1 : World} (h : Below B w w1) (k : Nat) : Below B w (w1.drewN k) := ⟨h.os, h.tape, h.output, h.size, h.block⟩
theorem pneq_no {a b a' b' : Int} (h : a = a' ∧ b = b') (w : World) :
    (binOp .neq 81 (.agg #[.int .i64 a, .int .i64 b]) (.agg #[.int .i64 a', .int .i64 b'])).run Tryz.prog w = .ok (.bool false) w := by
  obtain ⟨rfl, rfl⟩ := h
  go_simp
end Go.Proofs.YtccjelpfmkbmiaaGreatDoor.Cl
end
section
namespace Go.Proofs.YtccjelpfmkbmiaaGreatDoor.Cl
open Go.Proofs.YtccjelpfmkbmiaaGreatDoor
set_option maxRecDepth 100000
open Go.RowKit

/-- How many cells begin on a page, and how many words each has. -/
def numOf (p : Int × Int) : Nat := if p.1 = 1 then (if p.2 = 0 then 8 else if p.2 = 1 then 4 else if p.2 = 2 then 2 else 0) else if p.1 = 2 then 1 else 0
def roomOf (p : Int × Int) : Int := if p.1 = 1 then wordsOf p.2 else if p.1 = 2 then p.2 * 16 else 0
/-- The pages that may be, seen alone. -/
theorem pm_cases {p : Int × Int} (h : pmB p = true) : p = (0, 0) ∨ p = (1, 0) ∨ p = (1, 1) ∨ p = (1, 2) ∨ p = (2, 1) ∨ p = (2, 2) ∨ p = (2, 3) ∨ p = (2, 4) ∨ p = (3, 0) := by
  obtain ⟨a, b⟩ := p
  have := (pmB_iff _).1 h
  simp only [Prod.mk.injEq]
  simp only at this
  omega
theorem num_room {p : Int × Int} (h : pmB p = true) : numOf p ≤ 8 ∧ 0 ≤ roomOf p ∧ roomOf p ≤ 64 := by
  rcases pm_cases h with rfl | rfl | rfl | rfl | rfl | rfl | rfl | rfl | rfl <;> decide

theorem Sz.over {w w' : World} (h : Sz w) {B : Nat} (hb : Below B w w') (hB : 0 < B) : Sz w' :=
  ⟨(hb.cell (p := ⟨0, 0, none⟩) hB).trans h.1, (hb.cell (p := ⟨0, 1, none⟩) hB).trans h.2.1, (hb.cell (p := ⟨0, 2, none⟩) hB).trans h.2.2⟩
theorem Sz.pos {w : World} (h : Sz w) : 0 < w.heap.size := World.block_lt_of_cell? w _ h.1
theorem Sz.alloc {w : World} (h : Sz w) (o : Obj) : Sz (w.alloc o) := h.over ((Below.refl _ _).alloc (Nat.le_refl _) o) h.pos
theorem Sz.drewN {w : World} (h : Sz w) (k : Nat) : Sz (w.drewN k) := h
theorem cells_same {w : World} {c : Int} {m : Int} (h : perPage c = m) (hz : Sz w) : Calls Tryz.prog 168 #[.int .i64 c] w fun e w' => e = .returned (.int .i64 m) ∧ w' = w := by
  rw [← h]; exact (cells_of c w hz).mono fun _ _ ⟨h1, h2⟩ => ⟨h1, h2.symm⟩
theorem words_same {w : World} {c : Int} {m : Int} (h : wordsOf c = m) (hz : Sz w) : Calls Tryz.prog 169 #[.int .i64 c] w fun e w' => e = .returned (.int .i64 m) ∧ w' = w := by
  rw [← h]; exact (words_of c w hz).mono fun _ _ ⟨h1, h2⟩ => ⟨h1, h2.symm⟩

theorem shape_small (c : Int) (a b : Int) (w : World) (hz : Sz w) (ha : perPage c = a) (hb : wordsOf c = b) :
    Calls Tryz.prog 160 #[.agg #[.int .i64 1, .int .i64 c]] w fun e w' => e = .returned (.tuple #[.int .i64 a, .int .i64 b]) ∧ Below w.heap.size w w' := by
  have H := Lib.hid hz
  have H1 := Lib.hid ha
  have H2 := Lib.hid hb
  have HA : Hid (Sz (w.alloc (.cells #[.int .i64 1, .int .i64 c] 81))) := Lib.hid (hz.alloc _)
  clear hz ha hb
  go_enter Tryz.func160, Tryz.ntmps160
  go_wp2
  go_quiet (first | (go_at_call 168; exact Calls.quiet_of_same (cells_same H1.out (HA.out.drewN _))) | (go_at_call 169; exact Calls.quiet_of_same (words_same H2.out (HA.out.drewN _))))
  go_wp2
  go_ret2
  exact ⟨rfl, below_drewN ((Below.refl _ _).alloc (Nat.le_refl _) _) _⟩
theorem shape_large (c : Int) (a : Int) (w : World) (h0 : 0 ≤ c) (h1 : c ≤ 4) (ha : c * 16 = a) :
    Calls Tryz.prog 160 #[.agg #[.int .i64 2, .int .i64 c]] w fun e w' => e = .returned (.tuple #[.int .i64 1, .int .i64 a]) ∧ Below w.heap.size w w' := by
  subst ha
  have hs : IntKind.i64.wrap (c * 16) = c * 16 := IntWalk.i64_in _ (by omega)
  go_enter Tryz.func160, Tryz.ntmps160
  go_wp2
  go_quiet (fail)
  go_wp2
  go_ret2
  exact ⟨rfl, below_drewN ((Below.refl _ _).alloc (Nat.le_refl _) _) _⟩
theorem shape_none (c k : Int) (w : World) (h1 : k ≠ 1) (h2 : k ≠ 2) :
    Calls Tryz.prog 160 #[.agg #[.int .i64 k, .int .i64 c]] w fun e w' => e = .returned (.tuple #[.int .i64 0, .int .i64 0]) ∧ Below w.heap.size w w' := by
  have e1 : (k == 1) = false := by simpa using h1
  have e2 : (k == 2) = false := by simpa using h2
  clear h1 h2
  go_enter Tryz.func160, Tryz.ntmps160
  go_wp2
  go_ret2
  exact ⟨rfl, (Below.refl _ _).alloc (Nat.le_refl _) _⟩
theorem shape_any (p : Int × Int) (w : World) (hz : Sz w) (h : pmB p = true) :
    Calls Tryz.prog 160 #[.agg #[.int .i64 p.1, .int .i64 p.2]] w fun e w' => e = .returned (.tuple #[.int .i64 (numOf p), .int .i64 (roomOf p)]) ∧ Below w.heap.size w w' := by
  rcases pm_cases h with rfl | rfl | rfl | rfl | rfl | rfl | rfl | rfl | rfl
  · exact shape_none 0 0 w (by decide) (by decide)
  · exact shape_small 0 8 2 w hz (by decide) (by decide)
  · exact shape_small 1 4 4 w hz (by decide) (by decide)
  · exact shape_small 2 2 8 w hz (by decide) (by decide)
  · exact shape_large 1 16 w (by decide) (by decide) (by decide)
  · exact shape_large 2 32 w (by decide) (by decide) (by decide)
  · exact shape_large 3 48 w (by decide) (by decide) (by decide)
  · exact shape_large 4 64 w (by decide) (by decide) (by decide)
  · exact shape_none 0 3 w (by decide) (by decide)

/-- The value that hands on the cells of a page: what it has captured. -/
def Seqd (w : World) (k num : Nat) (room : Int) (e : Ending) (w' : World) : Prop :=
  ∃ b0 b1 b2, e = .returned (.func (.func 161) #[] #[.pointer (some ⟨b0, 0, none⟩), .pointer (some ⟨b1, 0, none⟩), .pointer (some ⟨b2, 0, none⟩)]) ∧
    (w.heap.size ≤ b0 ∧ w.heap.size ≤ b1 ∧ w.heap.size ≤ b2) ∧
    w'.cell? ⟨b0, 0, none⟩ = some (.int .i64 k) ∧ w'.cell? ⟨b1, 0, none⟩ = some (.int .i64 num) ∧ w'.cell? ⟨b2, 0, none⟩ = some (.int .i64 room) ∧ Below w.heap.size w w'

theorem on_any (B : Nat) (A : Option Addr) (n c : Nat) (f : Nat → Int × Int) (k : Nat) (w : World) (hz : Sz w) (hn : n ≤ 1000) (hk : k < n) (hp : pmB (f k) = true) (hr : PRow w B A n f) (hB : B ≤ w.heap.size) :
    Calls Tryz.prog 147 #[.slice A n c, .int .i64 k] w (Seqd w k (numOf (f k)) (roomOf (f k))) := by
  have H := Lib.hid hz
  have HP := Lib.hid hp
  have HA : Hid (Sz (w.alloc (.cells #[.int .i64 k] 3))) := Lib.hid (hz.alloc _)
  obtain ⟨b, off, rfl, hbB, hc⟩ := hr (by omega)
  obtain ⟨c0, c1⟩ := hc k hk
  have hbw : b < w.heap.size := by omega
  clear hz hp hc hr
  go_enter Tryz.func147, Tryz.ntmps147
  go_wp2_with fail
  refine (shape_any _ _ HA.out HP.out).mono ?_
  rintro e w1 ⟨rfl, hb1⟩
  have k0 : w1.cell? ⟨w.heap.size, 0, none⟩ = some (.int .i64 k) := (hb1.cell (p := ⟨w.heap.size, 0, none⟩) (by simp)).trans (by simp [go_sem])
  have hs1 : w.heap.size < w1.heap.size := by have := hb1.size; simp at this; omega
  have HB := Lib.hid (below_pair (Below.refl w.heap.size w) hb1)
  clear hb1
  go_wp2
  go_ret
  refine ⟨w.heap.size, w1.heap.size, w1.heap.size + 1, rfl, ⟨Nat.le_refl _, by omega, by omega⟩, ?_, ?_, ?_, ?_⟩
  · rw [← k0]
    exact (((Below.refl w1.heap.size w1).alloc (Nat.le_refl _) _).alloc (by simp) _).cell (p := ⟨w.heap.size, 0, none⟩) hs1
  · simp [go_sem]
  · simp [go_sem]
  · exact (HB.out.alloc (by omega) _).alloc (by simp; omega) _
end Go.Proofs.YtccjelpfmkbmiaaGreatDoor.Cl
end
section
namespace Go.Proofs.YtccjelpfmkbmiaaGreatDoor.Cl
open Go.Proofs.YtccjelpfmkbmiaaGreatDoor
set_option maxRecDepth 100000
open Go.RowKit

section
variable {α : Type}
/-- What is said of M and what has come abides whatever turns blocks of M, and lays new ones. -/
def Bides (n₀ : Nat) (J : (Nat → Prop) → List α → World → Prop) : Prop :=
  ∀ M M' pre W W', J M pre W → Below n₀ W W' → (∀ k, k < W.heap.size → ¬ M k → W'.heap[k]? = W.heap[k]?) → (∀ k, M' k → M k ∨ (W.heap.size ≤ k ∧ k < W'.heap.size)) → J M' pre W'
/-- What lay below n₀, and the blocks of M, are as they were. -/
def Kept (n₀ : Nat) (M : Nat → Prop) (W W' : World) : Prop := Below n₀ W W' ∧ ∀ k, M k → k < W.heap.size → W'.heap[k]? = W.heap[k]?
theorem Kept.refl (n₀ : Nat) (M : Nat → Prop) (W : World) : Kept n₀ M W W := ⟨Below.refl _ _, fun _ _ _ => rfl⟩
theorem Kept.trans {n₀ : Nat} {M : Nat → Prop} {A B C : World} (h : Kept n₀ M A B) (k : Kept n₀ M B C) : Kept n₀ M A C :=
  ⟨h.1.trans k.1, fun i hi hl => (k.2 i hi (Nat.lt_of_lt_of_le hl h.1.size)).trans (h.2 i hi hl)⟩
theorem Kept.less {n₀ : Nat} {M M' : Nat → Prop} {A B : World} (h : Kept n₀ M A B) (hm : ∀ k, M' k → M k) : Kept n₀ M' A B := ⟨h.1, fun i hi hl => h.2 i (hm i hi) hl⟩

/-- An iterator's value: it hands on the elements of L in their order, till a round says 'no more'. C: the blocks that it reads. -/
def Gives (P : Program) (g : Nat) (lb : Array Value) (encs : α → Array Value) (n₀ : Nat) (C : Nat → Prop) (L : List α) (w : World) : Prop :=
  ∀ (l : Nat) (J Jx : (Nat → Prop) → List α → World → Prop) (M : Nat → Prop) (W : World), Below w.heap.size w W → (∀ k, C k → M k ∨ k < n₀) → Bides n₀ J → Bides n₀ Jx →
    (∀ M pre x W1, pre ++ [x] <+: L → J M pre W1 → YieldAt Fence.wide 0 P l (encs x) W1 fun e W' => Kept n₀ M W1 W' ∧
      ((e = .returned (.bool true) ∧ J M (pre ++ [x]) W') ∨ (e = .returned (.bool false) ∧ Jx M (pre ++ [x]) W'))) →
    J M [] W →
    Calls P g (#[.func (.yield l) #[] #[]] ++ lb) W fun e W' => (∃ v, e = .returned v) ∧ ∃ M', J M' L W' ∨ ∃ pre, Jx M' pre W'
theorem Gives.later {P : Program} {g : Nat} {lb : Array Value} {encs : α → Array Value} {n₀ : Nat} {C : Nat → Prop} {L : List α} {w w' : World}
    (h : Gives P g lb encs n₀ C L w) (hb : Below w.heap.size w w') : Gives P g lb encs n₀ C L w' :=
  fun l J Jx M W hW => h l J Jx M W (hb.trans (hW.mono hb.size))

theorem roundIn_any {P : Program} {n m l : Nat} {f : FuncId} {tmps : Array Value} {assign body : Code} {w : World} {R : Ending → World → Prop}
    (h : RoundIn Fence.wide n P l f tmps assign body w R) : RoundIn Fence.wide m P l f tmps assign body w R := ⟨h.1, fun c cs _ => h.2 c cs (room_wide _)⟩
theorem roundIn_inner {P : Program} {n m l : Nat} {f : FuncId} {tmps : Array Value} {assign body : Code} {w : World} {R : Ending → World → Prop} (r : Nat)
    (h : RoundIn Fence.wide n P l f tmps assign body w R) : RoundIn (Fence.wide.inRound r) m P l f tmps assign body w R := ⟨h.1, fun c cs _ => h.2 c cs (room_wide _)⟩

/-- How a round's body may be left. -/
def Ends (n₀ : Nat) (M : Nat → Prop) (I : (Nat → Prop) → List α → World → Prop) (Ix : Code → (Nat → Prop) → List α → World → Prop) (xs : List α) (W : World) : Exit → Act → World → Prop
  | .normal, _, W' => Kept n₀ M W W' ∧ I M xs W'
  | .ret, _, W' => Kept n₀ M W W' ∧ Ix .ret M xs W'
  | .exit id, _, W' => Kept n₀ M W W' ∧ Ix (.exit id) M xs W'
  | .goto t, _, W' => Kept n₀ M W W' ∧ Ix (.goto t) M xs W'
  | .panic _, _, _ => False
  | .outgrown, _, _ => False

theorem below_turned {n₀ : Nat} {W : World} {l : Nat} (o : Obj) (h : n₀ ≤ l) : Below n₀ W (W.putObj l o) :=
  ⟨rfl, rfl, rfl, by simp, fun k hk => World.putObj_heap_other (by omega)⟩
theorem kept_turned {n₀ : Nat} {M : Nat → Prop} {W : World} {l : Nat} (o : Obj) (h : n₀ ≤ l) (hM : ¬ M l) : Kept n₀ M W (W.putObj l o) :=
  ⟨below_turned o h, fun _ hk _ => World.putObj_heap_other (fun e => hM (e ▸ hk))⟩
theorem Bides.turned {n₀ : Nat} {J : (Nat → Prop) → List α → World → Prop} (h : Bides n₀ J) {M : Nat → Prop} {pre : List α} {W : World} {l : Nat} (o : Obj) (hj : J M pre W) (hn : n₀ ≤ l) (hM : M l) : J M pre (W.putObj l o) :=
  h M M pre W _ hj (below_turned o hn) (fun _ _ hk => World.putObj_heap_other (fun e => hk (e ▸ hM))) (fun _ hk => .inl hk)
theorem Bides.more {n₀ : Nat} {J : (Nat → Prop) → List α → World → Prop} (h : Bides n₀ J) {M M' : Nat → Prop} {pre : List α} {W W' : World} (hj : J M pre W) (hb : Below W.heap.size W W') (hn : n₀ ≤ W.heap.size)
    (hM : ∀ k, M' k → M k ∨ (W.heap.size ≤ k ∧ k < W'.heap.size)) : J M' pre W' :=
  h M M' pre W W' hj (hb.mono hn) (fun k hk _ => hb.block k hk) hM

set_option maxHeartbeats 1000000 in
/-- A loop over an iterator's value, in a function's own frame. -/
theorem range_gives {P : Program} {n : Nat} {g : Operand} {ps : Array Tmp} {assign body : Code} {Q : Exit → Act → World → Prop} {a : Act} {w : World}
    {gf : Nat} {lb : Array Value} (hg : a.eval g = .func (.func gf) #[] lb) (eg : ∀ args w, (callFunc gf args).run P w = .ok (.enter gf args) w)
    {encs : α → Array Value} {n₀ : Nat} {C : Nat → Prop} {L : List α} (hseq : Gives P gf lb encs n₀ C L w) (hps : ∀ x, (encs x).size = ps.size) (hn₀ : n₀ ≤ w.heap.size)
    (M₀ : Nat → Prop) (hC : ∀ k, C k → M₀ k ∨ k < n₀) (hM₀ : ∀ k, M₀ k → k < w.heap.size)
    (I : (Nat → Prop) → List α → World → Prop) (Ix : Code → (Nat → Prop) → List α → World → Prop) (hI : Bides n₀ I) (hIx : ∀ c, Bides n₀ (Ix c)) (h0 : I M₀ [] w)
    (hround : ∀ (l : Nat) (M : Nat → Prop) (pre : List α) (x : α) (W : World), w.heap.size ≤ l → M l → l < W.heap.size → pre ++ [x] <+: L → I M pre W →
      assign.wpIn (Fence.wide.inRound l) n P (Exit.then (fun a' W' => Kept n₀ M W W' ∧ ∀ o, body.wpIn (Fence.wide.inRound l) n P (Ends n₀ M I Ix (pre ++ [x]) (W'.putObj l o)) a' (W'.putObj l o)) (fun _ _ _ => False))
        { tmps := (ps.zip (encs x)).foldl (fun t (p, v) => t.setIfInBounds p v) a.tmps, defers := [] } W)
    (hdone : ∀ (D : Nat) (M : Nat → Prop) (W : World), w.heap.size ≤ D → D < W.heap.size → M D → I M L W → W.heap[D]? = some (.deferred (some [])) → Q .normal { a with defers := { target := .collected D, args := #[] } :: a.defers } W)
    (hstop : ∀ (D : Nat) (c : Code) (M : Nat → Prop) (pre : List α) (W : World), w.heap.size ≤ D → D < W.heap.size → M D → Ix c M pre W → W.heap[D]? = some (.deferred (some [])) → c.wpIn Fence.wide n P Q { a with defers := { target := .collected D, args := #[] } :: a.defers } W) :
    (Code.rangeFunc g ps assign body).wpIn Fence.wide n P Q a w := by
  refine wpIn_rangeFunc fun fn hfn => ?_
  obtain ⟨rc, hrc⟩ : ∃ rc : LoopState → Option Code → Loop, rc = fun st pe => { state := st, pending := pe, fn, tmps := a.tmps, params := ps, assign, body, defers := w.heap.size } := ⟨_, rfl⟩
  obtain ⟨l, hl⟩ : ∃ l, l = w.heap.size + 1 := ⟨_, rfl⟩
  obtain ⟨D, hD⟩ : ∃ D, D = w.heap.size := ⟨_, rfl⟩
  obtain ⟨V, hV⟩ : ∃ V, V = (w.alloc (.deferred (some []))).alloc (.loop (rc .ready none)) := ⟨_, rfl⟩
  have hVs : V.heap.size = w.heap.size + 2 := by rw [hV]; simp
  have hVl : V.heap[l]? = some (.loop (rc .ready none)) := by
    rw [hV, hl]; have := World.alloc_heap_new (w.alloc (.deferred (some []))) (.loop (rc .ready none)); rwa [World.size_alloc] at this
  have hVD : V.heap[D]? = some (.deferred (some [])) := by
    rw [hV, hD]; exact (Below.heap_alloc _ _ _ (by simp)).trans (World.alloc_heap_new w _)
  have hVw : Below w.heap.size w V := by rw [hV]; exact ((Below.refl _ w).alloc (Nat.le_refl _) _).alloc (by simp) _
  have hDl : D < l := by omega
  -- what the iterator is told of M, and what the body is told
  let U : (Nat → Prop) → Nat → Prop := fun M k => M k ∨ k = D ∨ k = l
  let Book : (Nat → Prop) → Loop → World → Prop := fun M r W => ¬ M D ∧ ¬ M l ∧ l < W.heap.size ∧ W.heap[l]? = some (.loop r) ∧ W.heap[D]? = some (.deferred (some []))
  have book : ∀ {M M' : Nat → Prop} {r : Loop} {W W' : World}, Book M r W → Below n₀ W W' → (∀ k, k < W.heap.size → ¬ M k → W'.heap[k]? = W.heap[k]?) → (∀ k, M' k → M k ∨ (W.heap.size ≤ k ∧ k < W'.heap.size)) → Book M' r W' := by
    rintro M M' r W W' ⟨b1, b2, b3, b4, b5⟩ hb hs hm
    refine ⟨fun h => ?_, fun h => ?_, Nat.lt_of_lt_of_le b3 hb.size, (hs l b3 b2).trans b4, (hs D (by omega) b1).trans b5⟩
    · rcases hm D h with h | h
      · exact b1 h
      · omega
    · rcases hm l h with h | h
      · exact b2 h
      · omega
  have up : ∀ {M M' : Nat → Prop} {W W' : World}, (∀ k, M' k → M k ∨ (W.heap.size ≤ k ∧ k < W'.heap.size)) → ∀ k, U M' k → U M k ∨ (W.heap.size ≤ k ∧ k < W'.heap.size) := by
    rintro M M' W W' h k (hk | hk)
    · exact (h k hk).imp .inl id
    · exact .inl (.inr hk)
  have call := hseq l (fun M pre W => I (U M) pre W ∧ Book M (rc .ready none) W) (fun M pre W => ∃ c, Ix c (U M) pre W ∧ Book M (rc .done (some c)) W) M₀ V hVw hC
    (fun M M' pre W W' hj hb hs hm => ⟨hI _ _ pre W W' hj.1 hb (fun k hk hn => hs k hk (fun h => hn (.inl h))) (up hm), book hj.2 hb hs hm⟩)
    (fun M M' pre W W' hj hb hs hm => by
      obtain ⟨c, hc, hk⟩ := hj
      exact ⟨c, hIx c _ _ pre W W' hc hb (fun k hk hn => hs k hk (fun h => hn (.inl h))) (up hm), book hk hb hs hm⟩)
    (by
      rintro M pre x W hpre ⟨hi, b1, b2, b3, b4, b5⟩
      have hy := run_yield (P := P) (args := encs x) b4 (by rw [hrc]; exact hps x)
      rw [hrc] at hy
      refine ⟨fn, _, assign, body, hy, roundIn_any (n := n) (roundIn_of_wpIn hfn (wpIn_mono (hround l (U M) pre x W (by omega) (.inr (.inr rfl)) b3 hpre hi) ?_))⟩
      clear hy
      intro e1 a1 W1 h1
      cases e1 with
      | normal =>
        obtain ⟨hk1, hbody⟩ := h1
        have l1 := (hk1.2 l (.inr (.inr rfl)) b3).trans b4
        have d1 := (hk1.2 D (.inr (.inl rfl)) (by omega)).trans b5
        refine ⟨_, run_beginRound l1 (by rw [hrc]), ?_⟩
        have s1 : l < W1.heap.size := Nat.lt_of_lt_of_le b3 hk1.1.size
        refine wpIn_mono (hbody _) ?_
        have fin : ∀ (jump : Option Code) (W3 : World), Kept n₀ (U M) (W1.putObj l (.loop { rc .ready none with state := .busy })) W3 →
            (Instr.endRound l jump).run P W3 = .ok (.bool jump.isNone) (W3.putObj l (.loop (rc (if jump.isNone then .ready else .done) jump))) ∧
            Kept n₀ M W (W3.putObj l (.loop (rc (if jump.isNone then .ready else .done) jump))) ∧ Book M (rc (if jump.isNone then .ready else .done) jump) (W3.putObj l (.loop (rc (if jump.isNone then .ready else .done) jump))) := by
          intro jump W3 hk3
          have l2 : (W1.putObj l (.loop { rc .ready none with state := .busy })).heap[l]? = some (.loop { rc .ready none with state := .busy }) := World.putObj_heap_same s1
          have l3 := (hk3.2 l (.inr (.inr rfl)) (by simpa using s1)).trans l2
          have d3 := (hk3.2 D (.inr (.inl rfl)) (by simp; omega)).trans ((World.putObj_heap_other (by omega)).trans d1)
          have s3 : l < W3.heap.size := Nat.lt_of_lt_of_le s1 (by have := hk3.1.size; simpa using this)
          have r3 := run_endRound (P := P) jump l3
          rw [hrc] at r3 ⊢
          refine ⟨r3, ?_, b1, b2, by simpa using s3, World.putObj_heap_same s3, (World.putObj_heap_other (by omega)).trans d3⟩
          exact ((hk1.less (fun _ h => .inl h)).trans (kept_turned _ (by omega) b2)).trans ((hk3.less (fun _ h => .inl h)).trans (kept_turned _ (by omega) b2))
        rintro e a3 W3 hp
        cases e with
        | normal =>
          obtain ⟨hk3, hi3⟩ := hp
          obtain ⟨hr, hk, hbk⟩ := fin none W3 hk3
          exact ⟨_, _, hr, hk, .inl ⟨rfl, hI.turned _ hi3 (by omega) (.inr (.inr rfl)), hbk⟩⟩
        | ret =>
          obtain ⟨hk3, hi3⟩ := hp
          obtain ⟨hr, hk, hbk⟩ := fin (some .ret) W3 hk3
          exact ⟨_, _, hr, hk, .inr ⟨rfl, .ret, (hIx _).turned _ hi3 (by omega) (.inr (.inr rfl)), hbk⟩⟩
        | exit id =>
          obtain ⟨hk3, hi3⟩ := hp
          obtain ⟨hr, hk, hbk⟩ := fin (some (.exit id)) W3 hk3
          exact ⟨_, _, hr, hk, .inr ⟨rfl, .exit id, (hIx _).turned _ hi3 (by omega) (.inr (.inr rfl)), hbk⟩⟩
        | goto t =>
          obtain ⟨hk3, hi3⟩ := hp
          obtain ⟨hr, hk, hbk⟩ := fin (some (.goto t)) W3 hk3
          exact ⟨_, _, hr, hk, .inr ⟨rfl, .goto t, (hIx _).turned _ hi3 (by omega) (.inr (.inr rfl)), hbk⟩⟩
        | panic ch => exact hp.elim
        | outgrown => exact hp.elim
      | ret => exact h1.elim
      | exit id => exact h1.elim
      | goto t => exact h1.elim
      | panic ch => exact h1.elim
      | outgrown => exact h1.elim)
    ⟨hI.more h0 hVw hn₀ (fun k hk => by
        rcases hk with hk | hk | hk
        · exact .inl hk
        · exact .inr (by omega)
        · exact .inr (by omega)),
      fun h => by have := hM₀ D h; omega, fun h => by have := hM₀ l h; omega, by omega, hVl, hVD⟩
  refine ⟨l, [{ target := .collected D, args := #[] }], V, { target := .fn (.func gf) lb, args := #[.func (.yield l) #[] #[]] }, V, gf, #[.func (.yield l) #[] #[]] ++ lb, V, ?_, ?_, ?_, ?_, fun h => by simp [Fence.wide] at h, ?_⟩
  · rw [hV, hD, hl, hrc]; exact run_enterLoop_outer _ _ _ _ _
  · simp only [resolve, hg]
    simp [go_sem]
  · intro f' _; exact trivial
  · simp [invoke, go_sem, eg]
  · refine callsIn_wide.2 (call.mono ?_)
    rintro e W2 ⟨⟨v, rfl⟩, M, (⟨hi, b1, b2, b3, b4, b5⟩ | ⟨pre, c, hi, b1, b2, b3, b4, b5⟩)⟩
    · refine ⟨none, _, by have := run_endLoop (P := P) b4 (by rw [hrc]; simp); rw [hrc] at this; exact this, hdone D (U M) _ (by omega) (by simp; omega) (.inr (.inl rfl)) (hI.turned _ hi (by omega) (.inr (.inr rfl))) ((World.putObj_heap_other (by omega)).trans b5)⟩
    · refine ⟨some c, _, by have := run_endLoop (P := P) b4 (by rw [hrc]; simp); rw [hrc] at this; exact this, hstop D c (U M) pre _ (by omega) (by simp; omega) (.inr (.inl rfl)) ((hIx c).turned _ hi (by omega) (.inr (.inr rfl))) ((World.putObj_heap_other (by omega)).trans b5)⟩

/-- At a function's return: the marks of its loops are taken off, each block shut. -/
theorem leave_marks {F : Fence} {n : Nat} {P : Program} {fn : Func} {tmps : Array Value} {R : Ending → World → Prop} :
    ∀ (ds : List Nat) (W : World), ds.Nodup → (∀ D ∈ ds, W.heap[D]? = some (.deferred (some []))) →
      (∀ W', W'.os = W.os → W'.tape = W.tape → W'.output = W.output → W'.heap.size = W.heap.size → (∀ k, k ∉ ds → W'.heap[k]? = W.heap[k]?) → LeavesIn F n P fn tmps R [] .returning W') →
      LeavesInM F n P fn tmps R (ds.map fun D => { target := .collected D, args := #[] }) .returning W
  | [], W, _, _, h => h W rfl rfl rfl rfl (fun _ _ => rfl)
  | D :: ds, W, hnd, hd, h => by
    refine ⟨by simp, .inl ⟨D, _, rfl, run_takeDeferred (hd D (by simp)), ?_⟩⟩
    have hn := List.nodup_cons.1 hnd
    refine leave_marks ds _ hn.2 (fun E hE => (World.putObj_heap_other (by rintro rfl; exact hn.1 hE)).trans (hd E (by simp [hE]))) (fun W' h1 h2 h3 h4 h5 => ?_)
    refine h W' (h1.trans rfl) (h2.trans rfl) (h3.trans rfl) (h4.trans (by simp)) (fun k hk => ?_)
    simp only [List.mem_cons, not_or] at hk
    exact (h5 k hk.2).trans (World.putObj_heap_other hk.1)
end
end Go.Proofs.YtccjelpfmkbmiaaGreatDoor.Cl
end
section
namespace Go.Proofs.YtccjelpfmkbmiaaGreatDoor.Cl
open Go.Proofs.YtccjelpfmkbmiaaGreatDoor
set_option maxRecDepth 100000
open Go.RowKit Go.Shelf
attribute [local go_sem] Oper.semAt_some

/-- A page's cells: where each begins, and its room. -/
def pageL (k num : Nat) (room : Int) : List (Int × Int) := (List.range num).map fun (j : Nat) => (16 + (k : Int) * 16 + (j : Int) * room, room)
theorem pageL_length (k num : Nat) (room : Int) : (pageL k num room).length = num := by simp [pageL]
theorem pageL_get (k num : Nat) (room : Int) (j : Nat) (h : j < num) : (pageL k num room)[j]? = some (16 + k * 16 + j * room, room) := by simp [pageL, h]
theorem take_next {α : Type} {L : List α} {j : Nat} {x : α} (h : L[j]? = some x) : L.take (j + 1) = L.take j ++ [x] := by
  obtain ⟨hj, hx⟩ := List.getElem?_eq_some_iff.1 h
  rw [List.take_succ_eq_append_getElem hj, hx]
theorem take_pre {α : Type} {L : List α} {j : Nat} {x : α} (h : L[j]? = some x) : L.take j ++ [x] <+: L := by
  rw [← take_next h]
  exact List.take_prefix _ _
def encC (c : Int × Int) : Array Value := #[.agg #[.int .i64 c.1, .int .i64 c.2]]

theorem Kept.cell {n₀ : Nat} {M : Nat → Prop} {W W' : World} (h : Kept n₀ M W W') {b o : Nat} {v : Value} (hb : M b ∨ b < n₀) (hc : W.cell? ⟨b, o, none⟩ = some v) : W'.cell? ⟨b, o, none⟩ = some v := by
  have hlt : b < W.heap.size := World.block_lt_of_cell? W _ hc
  rcases hb with hb | hb
  · exact (World.cell?_of_block (a := ⟨b, o, none⟩) (h.2 b hb hlt)).trans hc
  · exact (h.1.cell (p := ⟨b, o, none⟩) hb).trans hc

set_option maxRecDepth 100000 in
set_option maxHeartbeats 1000000 in
theorem on_gives (n₀ k num : Nat) (room : Int) (b0 b1 b2 : Nat) (w : World) (hk : k ≤ 64) (hnum : num ≤ 8) (hr0 : 0 ≤ room) (hr1 : room ≤ 64)
    (h0 : w.cell? ⟨b0, 0, none⟩ = some (.int .i64 k)) (h1 : w.cell? ⟨b1, 0, none⟩ = some (.int .i64 num)) (h2 : w.cell? ⟨b2, 0, none⟩ = some (.int .i64 room)) :
    Gives Tryz.prog 161 #[.pointer (some ⟨b0, 0, none⟩), .pointer (some ⟨b1, 0, none⟩), .pointer (some ⟨b2, 0, none⟩)] encC n₀ (fun b => b = b0 ∨ b = b1 ∨ b = b2) (pageL k num room) w := by
  intro l J Jx M W hW hC _ _ hY hJ0
  have l0 : b0 < w.heap.size := World.block_lt_of_cell? w _ h0
  have l1 : b1 < w.heap.size := World.block_lt_of_cell? w _ h1
  have l2 : b2 < w.heap.size := World.block_lt_of_cell? w _ h2
  have c0 : W.cell? ⟨b0, 0, none⟩ = some (.int .i64 k) := (hW.cell (p := ⟨b0, 0, none⟩) l0).trans h0
  have c1 : W.cell? ⟨b1, 0, none⟩ = some (.int .i64 num) := (hW.cell (p := ⟨b1, 0, none⟩) l1).trans h1
  have c2 : W.cell? ⟨b2, 0, none⟩ = some (.int .i64 room) := (hW.cell (p := ⟨b2, 0, none⟩) l2).trans h2
  have HY := Lib.hid hY
  have HJ := Lib.hid hJ0
  have HC := Lib.hid (hC b2 (by simp))
  clear hY hJ0 hC hW h0 h1 h2 l0 l1 l2
  refine (callsIn_wide (n := 1)).1 ?_
  refine callsIn_of_wp Tryz.func161 rfl trivial ?_ rfl
  simp only [Tryz.ntmps161, List.size_toArray, List.length_cons, List.length_nil, Nat.reduceAdd, Nat.reduceSub, Array.replicate_succ, Array.replicate_zero, List.push_toArray, List.append_toArray, List.nil_append, List.cons_append]
  gi_wp2
  clear c0 c1
  gi_loopw [5, 10] (fun at_ i wr => ∃ (j : Nat) (q : Int), j ≤ num ∧ i = .int .i64 j ∧ at_ = .int .i64 q ∧ Hid (q = 16 + k * 16 + j * room) ∧ 0 ≤ q ∧ q ≤ 16 + k * 16 + 64 * j ∧ Hid (J M ((pageL k num room).take j) wr) ∧ wr.cell? ⟨b2, 0, none⟩ = some (.int .i64 room))
    (fun _ i _ => num - (intOf i).toNat)
  case atStart => exact ⟨0, 16 + k * 16, Nat.zero_le _, rfl, by go_num, Lib.hid (by simp), by omega, by omega, HJ, c2⟩
  case round =>
    clear c2 HJ
    obtain ⟨j, q, hj, rfl, rfl, HQ, hq0, hq1, HJ, c2⟩ := hrel
    by_cases hlt : j < num
    · have hg : (pageL k num room)[j]? = some (q, room) := by rw [pageL_get k num room j hlt, HQ.out]
      have HN := Lib.hid (take_next hg)
      have HL := Lib.hid (show ((j + 1 : Nat) : Int) * room = j * room + room by rw [Int.natCast_add, Int.add_mul]; simp)
      obtain ⟨fn, tmps, assign, body, hy, hR⟩ := HY.out M _ (q, room) wr (take_pre hg) HJ.out
      have HR := Lib.hid hR
      dsimp only [encC] at hy
      clear hg hR
      gi_wp2
      refine (roundIn_any HR.out).mono ?_
      rintro e W3 ⟨hk3, (⟨rfl, hJ3⟩ | ⟨rfl, hx3⟩)⟩
      · have c3 := hk3.cell HC.out c2
        have HJ3 := Lib.hid hJ3
        clear hk3 hJ3 c2 HR hy
        gi_wp2
        go_roundw
        case rel => exact ⟨j + 1, q + room, by omega, by go_num, by go_num, Lib.hid (by rw [HQ.out, HL.out]; omega), by omega, by omega, Lib.hid (by rw [HN.out]; exact HJ3.out), c3⟩
        case measure => simp [intOf]; omega
      · have HX := Lib.hid hx3
        clear hk3 hx3 c2 HR hy
        gi_wp2
        refine bodyPost_ret (results_none rfl _ _ _) rfl ?_
        exact ⟨⟨_, rfl⟩, M, .inr ⟨_, HX.out⟩⟩
    · obtain rfl : j = num := by omega
      have HT := Lib.hid (List.take_of_length_le (l := pageL k j room) (i := j) (by rw [pageL_length]; omega))
      gi_wp2
      go_end0
      exact ⟨⟨_, rfl⟩, M, .inl (by have := HJ.out; rwa [HT.out] at this)⟩
end Go.Proofs.YtccjelpfmkbmiaaGreatDoor.Cl
end
section
namespace Go.Proofs.YtccjelpfmkbmiaaGreatDoor.Cl
open Go.Proofs.YtccjelpfmkbmiaaGreatDoor
set_option maxRecDepth 100000
open Go.RowKit Go.Shelf
attribute [local go_sem] Oper.semAt_some

/-- The cells of the first k pages; of pages that may be, or none. -/
def cellsL (f : Nat → Int × Int) : Nat → List (Int × Int)
  | 0 => []
  | k + 1 => cellsL f k ++ pageL k (numOf (f k)) (roomOf (f k))
def allL (f : Nat → Int × Int) (n : Nat) : List (Int × Int) := if mayB f n = true then cellsL f n else []
theorem cellsL_succ (f : Nat → Int × Int) (k : Nat) : cellsL f (k + 1) = cellsL f k ++ pageL k (numOf (f k)) (roomOf (f k)) := rfl
theorem cellsL_prefix (f : Nat → Int × Int) {j : Nat} : ∀ {k : Nat}, j ≤ k → cellsL f j <+: cellsL f k
  | 0, h => by obtain rfl : j = 0 := by omega
               exact List.prefix_refl _
  | k + 1, h => by
    by_cases e : j = k + 1
    · subst e; exact List.prefix_refl _
    · exact (cellsL_prefix f (k := k) (by omega)).trans (List.prefix_append _ _)
theorem cellsL_in {f : Nat → Int × Int} {k n : Nat} (hk : k < n) {pre : List (Int × Int)} {x : Int × Int} (h : pre ++ [x] <+: pageL k (numOf (f k)) (roomOf (f k))) : (cellsL f k ++ pre) ++ [x] <+: cellsL f n := by
  refine List.IsPrefix.trans ?_ (cellsL_prefix f (j := k + 1) hk)
  rw [List.append_assoc, cellsL_succ]
  exact (List.prefix_append_right_inj _).2 h

theorem each_any (A : Option Addr) (n c : Nat) (w : World) :
    Calls Tryz.prog 131 #[.slice A n c] w fun e w' => e = .returned (.func (.func 146) #[] #[.pointer (some ⟨w.heap.size, 0, none⟩)]) ∧ w' = w.alloc (.cells #[.slice A n c] 23) := by
  go_enter Tryz.func131, Tryz.ntmps131
  go_wp2
  go_ret
  exact ⟨rfl, rfl⟩

/-- Between two pages: what the walk over all cells holds. -/
structure Going (n₀ : Nat) (W : World) (J : List (Int × Int) → World → Prop) (L : (Nat → Int × Int) → Nat → List (Int × Int)) (f : Nat → Int × Int) (n : Nat) (A : Option Addr) (c b l y : Nat) (M : Nat → Prop) (ds : List Nat) (k : Nat) (wr : World) : Prop where
  le : k ≤ n
  j : J (L f k) wr
  my : M y
  mb : M b ∨ b < n₀
  y : wr.cell? ⟨y, 0, none⟩ = some (.func (.yield l) #[] #[])
  d : wr.cell? ⟨b, 0, none⟩ = some (.slice A n c)
  bel : Below n₀ W wr
  nd : ds.Nodup
  ds : ∀ D ∈ ds, M D ∧ n₀ ≤ D ∧ wr.heap[D]? = some (.deferred (some []))

/-- .. and between two cells of a page. -/
structure Within (n₀ : Nat) (W : World) (J : (Nat → Prop) → List (Int × Int) → World → Prop) (done : List (Int × Int)) (A : Option Addr) (n c b l y : Nat) (M : Nat → Prop) (ds : List Nat) (M' : Nat → Prop) (pre : List (Int × Int)) (V : World) : Prop where
  j : J (fun k => M k ∨ M' k) (done ++ pre) V
  my : M y ∧ ¬ M' y
  mb : (M b ∨ b < n₀) ∧ ¬ M' b
  y : V.cell? ⟨y, 0, none⟩ = some (.func (.yield l) #[] #[])
  d : V.cell? ⟨b, 0, none⟩ = some (.slice A n c)
  bel : Below n₀ W V
  nd : ds.Nodup
  ds : ∀ D ∈ ds, M D ∧ ¬ M' D ∧ n₀ ≤ D ∧ V.heap[D]? = some (.deferred (some []))
theorem Within.bides {n₀ : Nat} {W : World} {J : (Nat → Prop) → List (Int × Int) → World → Prop} {done : List (Int × Int)} {A : Option Addr} {n c b l y : Nat} {M : Nat → Prop} {ds : List Nat} (h : Bides n₀ J) :
    Bides n₀ (Within n₀ W J done A n c b l y M ds) := by
  intro M' M'' pre V V' hw hb hs hm
  have hy := World.block_lt_of_cell? V _ hw.y
  have hd := World.block_lt_of_cell? V _ hw.d
  have no : ∀ k, k < V.heap.size → ¬ M' k → ¬ M'' k := fun k hk hn h => by
    rcases hm k h with h | h
    · exact hn h
    · omega
  refine ⟨h _ _ _ V V' hw.j hb (fun k hk hn => hs k hk (fun h => hn (.inr h))) (fun k hk => ?_), ⟨hw.my.1, no _ hy hw.my.2⟩, ⟨hw.mb.1, no _ hd hw.mb.2⟩, (World.cell?_of_block (a := ⟨y, 0, none⟩) (hs _ hy hw.my.2)).trans hw.y, (World.cell?_of_block (a := ⟨b, 0, none⟩) (hs _ hd hw.mb.2)).trans hw.d, hw.bel.trans hb, hw.nd, fun D hD => ?_⟩
  · rcases hk with hk | hk
    · exact .inl (.inl hk)
    · exact (hm k hk).imp .inr id
  · obtain ⟨h1, h2, h3, h4⟩ := hw.ds D hD
    have hlt := (Array.getElem?_eq_some_iff.1 h4).1
    exact ⟨h1, no _ hlt h2, h3, (hs _ hlt h2).trans h4⟩
theorem Within.round {n₀ : Nat} {W : World} {J J' : (Nat → Prop) → List (Int × Int) → World → Prop} {done : List (Int × Int)} {A : Option Addr} {n c b l y : Nat} {M : Nat → Prop} {ds : List Nat} {M' : Nat → Prop} {pre pre' : List (Int × Int)} {V V' : World}
    (hw : Within n₀ W J done A n c b l y M ds M' pre V) (hk : Kept n₀ (fun i => M i ∨ M' i) V V') (hj : J' (fun i => M i ∨ M' i) (done ++ pre') V') : Within n₀ W J' done A n c b l y M ds M' pre' V' := by
  refine ⟨hj, hw.my, hw.mb, hk.cell (.inl (.inl hw.my.1)) hw.y, hk.cell (hw.mb.1.imp .inl id) hw.d, hw.bel.trans hk.1, hw.nd, fun D hD => ?_⟩
  obtain ⟨h1, h2, h3, h4⟩ := hw.ds D hD
  exact ⟨h1, h2, h3, (hk.2 D (.inl h1) (Array.getElem?_eq_some_iff.1 h4).1).trans h4⟩
/-- A word of the caller's behind the marks' blocks. -/
theorem Bides.left {α : Type} {n₀ : Nat} {J : (Nat → Prop) → List α → World → Prop} (h : Bides n₀ J) {M : Nat → Prop} {pre : List α} {W W' : World} {ds : List Nat} (hj : J M pre W) (hd : ∀ D ∈ ds, M D ∧ n₀ ≤ D)
    (h1 : W'.os = W.os) (h2 : W'.tape = W.tape) (h3 : W'.output = W.output) (h4 : W'.heap.size = W.heap.size) (h5 : ∀ k, k ∉ ds → W'.heap[k]? = W.heap[k]?) : J M pre W' :=
  h M M pre W W' hj ⟨h1, h2, h3, by omega, fun k hk => h5 k (fun hm => by have := (hd k hm).2; omega)⟩ (fun k _ hn => h5 k (fun hm => hn (hd k hm).1)) (fun _ hk => .inl hk)

set_option maxRecDepth 100000 in
set_option maxHeartbeats 1000000 in
theorem each_gives (B n₀ : Nat) (A : Option Addr) (n c b : Nat) (f : Nat → Int × Int) (w : World) (hn : n ≤ 1000) (hz : Sz w) (hr : PRow w B A n f) (hB : B ≤ n₀) (hp : 0 < n₀) (hn₀ : n₀ ≤ w.heap.size)
    (hb : w.cell? ⟨b, 0, none⟩ = some (.slice A n c)) :
    Gives Tryz.prog 146 #[.pointer (some ⟨b, 0, none⟩)] encC n₀ (fun k => k = b) (allL f n) w := by
  intro l J Jx M0 W hW hC hBJ hBX hY hJ0
  have lb : b < w.heap.size := World.block_lt_of_cell? w _ hb
  have cb : W.cell? ⟨b, 0, none⟩ = some (.slice A n c) := (hW.cell (p := ⟨b, 0, none⟩) lb).trans hb
  have HZ := Lib.hid (hz.over hW hz.pos)
  have HR := Lib.hid (hr.over hW (by omega))
  have hnW : n₀ ≤ W.heap.size := by have := hW.size; omega
  have HY := Lib.hid hY
  have HJ := Lib.hid hJ0
  have HC := Lib.hid (hC b rfl)
  have HBJ := Lib.hid hBJ
  have HBX := Lib.hid hBX
  have lbW : b < W.heap.size := by have := hW.size; omega
  clear hY hJ0 hC hW hb hBJ hBX hz hr
  have HZ1 : Hid (Sz (W.alloc (.cells #[.func (.yield l) #[] #[]] 126))) := Lib.hid (HZ.out.alloc _)
  have HR1 : Hid (PRow (W.alloc (.cells #[.func (.yield l) #[] #[]] 126)) B A n f) := Lib.hid (HR.out.alloc _ (by omega))
  refine (callsIn_wide (n := 1)).1 ?_
  refine callsIn_of_wp_marks Tryz.func146 rfl trivial ?_ rfl
  simp only [Tryz.ntmps146, List.size_toArray, List.length_cons, List.length_nil, Nat.reduceAdd, Nat.reduceSub, Array.replicate_succ, Array.replicate_zero, List.push_toArray, List.append_toArray, List.nil_append, List.cons_append]
  cases hM : mayB f n
  · have HM := Lib.hid hM
    have HL := Lib.hid (show allL f n = [] from if_neg (by rw [hM]; decide))
    clear hM
    gi_wp2_with fail
    refine ⟨trivial, (callsIn_wide.2 (may_no B _ _ _ _ _ HM.out hn HR1.out (by simp; omega))).mono ?_⟩
    rintro e w1 ⟨rfl, hb1⟩
    have HB := Lib.hid (below_pair (Below.refl W.heap.size W) hb1)
    clear hb1
    gi_wp2
    refine ⟨_, results_none rfl _ _ _, ⟨_, rfl⟩, M0, .inl ?_⟩
    rw [HL.out]
    exact HBJ.out.more HJ.out HB.out hnW (fun k hk => .inl hk)
  · have HM := Lib.hid hM
    have HL := Lib.hid (show allL f n = cellsL f n from if_pos hM)
    have hn64 := ((mayB_iff f n).1 hM).2.1
    clear hM
    gi_wp2_with fail
    refine ⟨trivial, (callsIn_wide.2 (may_yes B _ _ _ _ _ HM.out HR1.out (by simp; omega))).mono ?_⟩
    rintro e w1 ⟨rfl, hb1⟩
    have y1 : w1.cell? ⟨W.heap.size, 0, none⟩ = some (.func (.yield l) #[] #[]) := (hb1.cell (p := ⟨W.heap.size, 0, none⟩) (by simp)).trans (by simp [go_sem])
    have d1 : w1.cell? ⟨b, 0, none⟩ = some (.slice A n c) := by
      refine (hb1.cell (p := ⟨b, 0, none⟩) (by simp; omega)).trans ?_
      exact (((Below.refl W.heap.size W).alloc (Nat.le_refl _) _).cell (p := ⟨b, 0, none⟩) lbW).trans cb
    have hs1 : W.heap.size < w1.heap.size := by have := hb1.size; simp at this; omega
    have HB := Lib.hid (below_pair (Below.refl W.heap.size W) hb1)
    have HZ2 := Lib.hid (HZ1.out.over hb1 (by simp))
    have HR2 := Lib.hid (HR1.out.over hb1 (by simp; omega))
    clear hb1 cb
    gi_wp2
    refine wpIn_loop (fun a wr => ∃ (k : Nat) (u3 u11 u12 u13 u14 u15 u21 : Value) (M : Nat → Prop) (ds : List Nat),
        Hid (Going n₀ W (J M) cellsL f n A c b l W.heap.size M ds k wr) ∧
        a = { tmps := #[.func (.yield l) #[] #[], .pointer (some ⟨b, 0, none⟩), .pointer (some ⟨W.heap.size, 0, none⟩), u3, undef, .slice A n c, .bool true, .bool false, .slice A n c, .int .i64 n, .int .i64 k,
          u11, u12, u13, u14, u15, undef, undef, undef, undef, undef, u21], defers := ds.map fun D => { target := .collected D, args := #[] } })
      (fun a _ => n - (intOf (a.tmps.getD 10 undef)).toNat) ?_ ?_
    · refine ⟨0, _, _, _, _, _, _, _, fun k => M0 k ∨ k = W.heap.size, [], Lib.hid ⟨Nat.zero_le _, ?_, .inr rfl, HC.out.imp .inl id, y1, d1, HB.out.mono hnW, by simp, by simp⟩, rfl⟩
      refine HBJ.out.more HJ.out HB.out hnW ?_
      rintro k (hk | rfl)
      · exact .inl hk
      · exact .inr ⟨Nat.le_refl _, hs1⟩
    · rintro _ wr ⟨k, u3, u11, u12, u13, u14, u15, u21, M, ds, HG, rfl⟩
      clear y1 d1 HJ
      have hG := HG.out
      have y1 := hG.y
      have d1 := hG.d
      have hsz := hG.bel.size
      have hkn := hG.le
      have HRk := Lib.hid (HR.out.over hG.bel hB)
      have HZk := Lib.hid (HZ.out.over hG.bel hp)
      clear hG
      by_cases hlt : k < n
      · have HPk := Lib.hid ((okB_iff f k).1 (((mayB_iff f n).1 HM.out).2.2.1 k hlt)).1
        gi_wp2_with fail
        refine ⟨trivial, (callsIn_wide.2 (on_any B _ _ _ f k wr HZk.out hn hlt HPk.out HRk.out (by omega))).mono ?_⟩
        rintro e w2 ⟨b0, b1, b2, rfl, ⟨g0, g1, g2⟩, c0, c1, c2, hb2⟩
        have HB2 := Lib.hid hb2
        have hz2 := hb2.size
        have lb0 : b0 < w2.heap.size := World.block_lt_of_cell? w2 _ c0
        have lb1 : b1 < w2.heap.size := World.block_lt_of_cell? w2 _ c1
        have lb2 : b2 < w2.heap.size := World.block_lt_of_cell? w2 _ c2
        have HI : Hid (Within n₀ W J (cellsL f k) A n c b l W.heap.size M ds (fun i => i = b0 ∨ i = b1 ∨ i = b2) [] w2) := by
          have hG := HG.out
          have hy := World.block_lt_of_cell? wr _ y1
          have hd := World.block_lt_of_cell? wr _ d1
          refine ⟨?_, ⟨hG.my, by simp only at hy; omega⟩, ⟨hG.mb, by simp only at hd; omega⟩, (hb2.cell (p := ⟨W.heap.size, 0, none⟩) hy).trans y1, (hb2.cell (p := ⟨b, 0, none⟩) hd).trans d1, hG.bel.trans (hb2.mono (by omega)), hG.nd, fun D hD => ?_⟩
          · rw [List.append_nil]
            refine HBJ.out.more hG.j hb2 (by omega) (fun i hi => ?_)
            rcases hi with hi | rfl | rfl | rfl
            · exact .inl hi
            · exact .inr ⟨g0, lb0⟩
            · exact .inr ⟨g1, lb1⟩
            · exact .inr ⟨g2, lb2⟩
          · obtain ⟨h1, h2, h3⟩ := hG.ds D hD
            have hlt := (Array.getElem?_eq_some_iff.1 h3).1
            exact ⟨h1, by omega, h2, (hb2.block D hlt).trans h3⟩
        have HS := Lib.hid (on_gives n₀ k (numOf (f k)) (roomOf (f k)) b0 b1 b2 w2 (by omega) (num_room HPk.out).1 (num_room HPk.out).2.1 (num_room HPk.out).2.2 c0 c1 c2)
        clear hb2 c0 c1 c2 y1 d1
        gi_wp2
        refine range_gives (gf := 161) rfl (enters_of Tryz.func161 (by kernel_rfl) rfl) HS.out (fun _ => rfl) (by omega) (fun i => i = b0 ∨ i = b1 ∨ i = b2) (fun _ h => .inl h) (by rintro i (rfl | rfl | rfl) <;> assumption)
          (Within n₀ W J (cellsL f k) A n c b l W.heap.size M ds) (fun code M' pre V => code = .ret ∧ Within n₀ W Jx (cellsL f k) A n c b l W.heap.size M ds M' pre V) (Within.bides HBJ.out)
          (fun code M' M'' pre V V' hj hb hs hm => ⟨hj.1, Within.bides HBX.out M' M'' pre V V' hj.2 hb hs hm⟩) HI.out ?round ?done ?stop
        case round =>
          intro l2 M' pre x V hl2 hM2 hlt2 hpre hw
          obtain ⟨q, r⟩ := x
          have HW := Lib.hid hw
          have HP := Lib.hid (cellsL_in (n := n) hlt hpre)
          clear hw hpre
          dsimp only [encC]
          gi_wp2
          refine ⟨⟨(Below.refl _ _).alloc (by have := HW.out.bel.size; omega) _, fun i _ hi => Below.heap_alloc _ _ _ hi⟩, fun o => ?_⟩
          obtain ⟨V2, hV2⟩ : ∃ V2, V2 = (V.alloc (.cells #[.int .i64 q, .int .i64 r] 123)).putObj l2 o := ⟨_, rfl⟩
          rw [← hV2]
          have hb2 : Below n₀ V V2 := by rw [hV2]; exact ((Below.refl _ _).alloc (by have := HW.out.bel.size; omega) _).trans (below_turned _ (by omega))
          have hs2 : ∀ i, i < V.heap.size → i ≠ l2 → V2.heap[i]? = V.heap[i]? := fun i hi hn => by rw [hV2]; exact (World.putObj_heap_other hn).trans (Below.heap_alloc _ _ _ hi)
          have HW2 := Lib.hid (Within.bides HBJ.out M' M' pre V V2 HW.out hb2 (fun i hi hn => hs2 i hi (fun e => hn (e ▸ hM2))) (fun i hi => .inl hi))
          have e0 : V2.cell? ⟨V.heap.size, 0, none⟩ = some (.int .i64 q) := by
            rw [hV2, World.cell?_of_block (a := ⟨V.heap.size, 0, none⟩) (World.putObj_heap_other (w := V.alloc _) (k := V.heap.size) (by omega))]
            simp [go_sem]
          have e1 : V2.cell? ⟨V.heap.size, 1, none⟩ = some (.int .i64 r) := by
            rw [hV2, World.cell?_of_block (a := ⟨V.heap.size, 1, none⟩) (World.putObj_heap_other (w := V.alloc _) (k := V.heap.size) (by omega))]
            simp [go_sem]
          clear hV2 hb2 hs2
          have y2 := HW2.out.y
          obtain ⟨fn, tmps, assign, body, hy, hR⟩ := HY.out (fun i => M i ∨ M' i) _ (q, r) V2 (by rw [HL.out]; exact HP.out) HW2.out.j
          have HRR := Lib.hid hR
          dsimp only [encC] at hy
          clear hR
          gi_wp2
          refine (roundIn_inner l2 HRR.out).mono ?_
          rintro e W3 ⟨hk3, (⟨rfl, hJ3⟩ | ⟨rfl, hx3⟩)⟩
          · have HK := Lib.hid hk3
            have HJ3 := Lib.hid hJ3
            clear hk3 hJ3 hy HRR
            gi_wp2
            exact ⟨HK.out.less (fun _ h => .inr h), HW2.out.round HK.out (by rw [← List.append_assoc]; exact HJ3.out)⟩
          · have HK := Lib.hid hk3
            have HX := Lib.hid hx3
            clear hk3 hx3 hy HRR
            gi_wp2
            exact ⟨HK.out.less (fun _ h => .inr h), rfl, HW2.out.round HK.out (by rw [← List.append_assoc]; exact HX.out)⟩
        case done =>
          intro D M' V hD hDV hMD hw hdef
          have HG2 : Hid (Going n₀ W (J (fun i => M i ∨ M' i)) cellsL f n A c b l W.heap.size (fun i => M i ∨ M' i) (D :: ds) (k + 1) V) := Lib.hid ⟨hlt, by rw [cellsL_succ]; exact hw.j, .inl hw.my.1, hw.mb.1.imp .inl id, hw.y, hw.d, hw.bel,
            List.nodup_cons.2 ⟨fun h => (hw.ds D h).2.1 hMD, hw.nd⟩, by
              intro E hE
              rcases List.mem_cons.1 hE with rfl | hE
              · exact ⟨.inr hMD, by omega, hdef⟩
              · obtain ⟨h1, h2, h3, h4⟩ := hw.ds E hE
                exact ⟨.inl h1, h3, h4⟩⟩
          clear hw hdef
          dsimp only
          gi_wp2
          exact ⟨⟨k + 1, _, _, _, _, _, _, _, _, D :: ds, HG2, rfl⟩, by simp [intOf]; omega⟩
        case stop =>
          rintro D _ M' pre V hD hDV hMD ⟨rfl, hw⟩ hdef
          have HW := Lib.hid hw
          clear hw
          dsimp only
          gi_wp2
          refine leave_marks (D :: ds) V (List.nodup_cons.2 ⟨fun h => (HW.out.ds D h).2.1 hMD, HW.out.nd⟩) ?_ (fun W' h1 h2 h3 h4 h5 => ⟨_, results_none rfl _ _ _, ⟨_, rfl⟩, (fun i => M i ∨ M' i), .inr ⟨cellsL f k ++ pre, ?_⟩⟩)
          · intro E hE
            rcases List.mem_cons.1 hE with rfl | hE
            · exact hdef
            · exact (HW.out.ds E hE).2.2.2
          · refine HBX.out.left HW.out.j (ds := D :: ds) (fun E hE => ?_) h1 h2 h3 h4 h5
            rcases List.mem_cons.1 hE with rfl | hE
            · exact ⟨.inr hMD, by omega⟩
            · exact ⟨.inl (HW.out.ds E hE).1, (HW.out.ds E hE).2.2.1⟩
      · obtain rfl : k = n := by omega
        gi_wp2
        refine leave_marks ds wr HG.out.nd (fun D hD => (HG.out.ds D hD).2.2) (fun W' h1 h2 h3 h4 h5 => ⟨_, results_none rfl _ _ _, ⟨_, rfl⟩, M, .inl ?_⟩)
        rw [HL.out]
        exact HBJ.out.left HG.out.j (fun D hD => ⟨(HG.out.ds D hD).1, (HG.out.ds D hD).2.1⟩) h1 h2 h3 h4 h5
end Go.Proofs.YtccjelpfmkbmiaaGreatDoor.Cl
end
