/-
  Merged texts: Calls, Unpack, Awake, Ref, RefUn, HpUn, ClsWalks, ClsCalls, ClsRef, HpCell, PgPlain, PgCount, PgMay, PgMayAll, PgRefMay.
-/
import Derived.Test.YtccjelpfmkbmiaaGreatDoorRows
import Derived.Test.YtccjelpfmkbmiaaGreatDoorHpXA
import Derived.WalkKit
import Derived.Below
import Derived.WalkSmall
import Derived.RegionTactic
import Derived.ChangeAlike
import Derived.Deep.QuietTactic
import Derived.BigQuiet
import Derived.Lib.Hide
import Derived.LoopTactic
import Derived.WalkSpells
section
namespace Go.Proofs.YtccjelpfmkbmiaaGreatDoor.Hd
open Go.Proofs.YtccjelpfmkbmiaaGreatDoor
set_option maxRecDepth 100000
open Go.RowKit

/-- A block that was there holds what it held. -/
theorem old_cell {a z : World} (h : Below a.heap.size a z) : ∀ i k, i < a.heap.size → z.cell? ⟨i, k, none⟩ = a.cell? ⟨i, k, none⟩ := by
  intro i k hi
  exact h.cell (p := ⟨i, k, none⟩) hi
/-- .. and is marked as it was. -/
theorem old_mark {a z : World} (h : Below a.heap.size a z) : ∀ i k, i < a.heap.size → z.frozen? ⟨i, k, none⟩ = a.frozen? ⟨i, k, none⟩ := by
  intro i k hi
  exact h.frozen (p := ⟨i, k, none⟩) hi

theorem upTo_yes (n m : Int) (w : World) (h0 : 0 ≤ n) (h1 : n ≤ m) :
    Calls Tryz.prog 138 #[.int .i64 n, .int .i64 m] w fun e w' => e = .returned (.bool true) ∧ w = w' := by
  go_enter Tryz.func138, Tryz.ntmps138
  go_wp2
  go_ret
  exact ⟨rfl, rfl⟩
theorem upTo_no (n m : Int) (w : World) (h : n < 0 ∨ m < n) :
    Calls Tryz.prog 138 #[.int .i64 n, .int .i64 m] w fun e w' => e = .returned (.bool false) ∧ w = w' := by
  by_cases h0 : n < 0
  · go_enter Tryz.func138, Tryz.ntmps138
    go_wp2
    go_ret
    exact ⟨rfl, rfl⟩
  · have h1 : m < n := by omega
    have h2 : 0 ≤ n := by omega
    have h3 : decide (n ≤ m) = false := by simp; omega
    clear h
    go_enter Tryz.func138, Tryz.ntmps138
    go_wp2
    go_ret
    exact ⟨rfl, rfl⟩

theorem may_used (o d : Bool) (n b m : Int) (w : World) (n0 : 0 ≤ n) (n1 : n ≤ 63) (b0 : 0 ≤ b) (b1 : b ≤ 1048576) (m0 : 0 ≤ m) (m1 : m ≤ 1048576) :
    Calls Tryz.prog 111 #[.agg #[.bool true, .bool o, .bool d, .int .i64 n, .int .i64 b, .int .i64 m]] w fun e w' => e = .returned (.bool true) ∧ Below w.heap.size w w' := by
  go_enter Tryz.func111, Tryz.ntmps111
  go_wp2
  go_ret
  exact ⟨rfl, (Below.refl _ _).alloc (Nat.le_refl _) _⟩
theorem may_free (w : World) :
    Calls Tryz.prog 111 #[.agg #[.bool false, .bool false, .bool false, .int .i64 0, .int .i64 0, .int .i64 0]] w fun e w' => e = .returned (.bool true) ∧ Below w.heap.size w w' := by
  go_enter Tryz.func111, Tryz.ntmps111
  go_wp2
  go_ret
  exact ⟨rfl, (Below.refl _ _).alloc (Nat.le_refl _) _⟩
theorem may_yes (u o d : Bool) (n b m : Int) (w : World) (h : mayB u o d n b m = true) :
    Calls Tryz.prog 111 #[.agg #[.bool u, .bool o, .bool d, .int .i64 n, .int .i64 b, .int .i64 m]] w fun e w' => e = .returned (.bool true) ∧ Below w.heap.size w w' := by
  cases u
  · obtain ⟨rfl, rfl, rfl, rfl, rfl⟩ := (may_free_iff _ _ _ _ _).1 h
    exact may_free w
  · obtain ⟨a1, a2, a3, a4, a5, a6⟩ := (may_used_iff _ _ _ _ _).1 h
    exact may_used o d n b m w a1 a2 a3 a4 a5 a6
theorem no_n (o d : Bool) (n b m : Int) (w : World) (h : n < 0 ∨ 63 < n) :
    Calls Tryz.prog 111 #[.agg #[.bool true, .bool o, .bool d, .int .i64 n, .int .i64 b, .int .i64 m]] w fun e w' => e = .returned (.bool false) ∧ Below w.heap.size w w' := by
  have H := Lib.hid h
  clear h
  go_enter Tryz.func111, Tryz.ntmps111
  go_wp2_with (go_at_call 138; refine (upTo_no _ _ _ H.out).mono ?_; rintro e w' ⟨rfl, rfl⟩)
  go_ret
  exact ⟨rfl, (Below.refl _ _).alloc (Nat.le_refl _) _⟩
theorem no_b (o d : Bool) (n b m : Int) (w : World) (n0 : 0 ≤ n) (n1 : n ≤ 63) (h : b < 0 ∨ 1048576 < b) :
    Calls Tryz.prog 111 #[.agg #[.bool true, .bool o, .bool d, .int .i64 n, .int .i64 b, .int .i64 m]] w fun e w' => e = .returned (.bool false) ∧ Below w.heap.size w w' := by
  have H := Lib.hid h
  clear h
  go_enter Tryz.func111, Tryz.ntmps111
  go_wp2_with (go_at_call 138; first | ((with_reducible refine (upTo_yes n 63 _ n0 n1).mono ?_); rintro e w' ⟨rfl, rfl⟩) | ((with_reducible refine (upTo_no b 1048576 _ H.out).mono ?_); rintro e w' ⟨rfl, rfl⟩))
  go_ret
  exact ⟨rfl, (Below.refl _ _).alloc (Nat.le_refl _) _⟩
theorem no_m (o d : Bool) (n b m : Int) (w : World) (n0 : 0 ≤ n) (n1 : n ≤ 63) (b0 : 0 ≤ b) (b1 : b ≤ 1048576) (h : m < 0 ∨ 1048576 < m) :
    Calls Tryz.prog 111 #[.agg #[.bool true, .bool o, .bool d, .int .i64 n, .int .i64 b, .int .i64 m]] w fun e w' => e = .returned (.bool false) ∧ Below w.heap.size w w' := by
  have H := Lib.hid h
  clear h
  go_enter Tryz.func111, Tryz.ntmps111
  go_wp2_with (go_at_call 138; first | ((with_reducible refine (upTo_yes n 63 _ n0 n1).mono ?_); rintro e w' ⟨rfl, rfl⟩) | ((with_reducible refine (upTo_yes b 1048576 _ b0 b1).mono ?_); rintro e w' ⟨rfl, rfl⟩) | ((with_reducible refine (upTo_no m 1048576 _ H.out).mono ?_); rintro e w' ⟨rfl, rfl⟩))
  go_ret
  exact ⟨rfl, (Below.refl _ _).alloc (Nat.le_refl _) _⟩
theorem no_free (o d : Bool) (n b m : Int) (w : World) (h : mayB false o d n b m = false) :
    Calls Tryz.prog 111 #[.agg #[.bool false, .bool o, .bool d, .int .i64 n, .int .i64 b, .int .i64 m]] w fun e w' => e = .returned (.bool false) ∧ Below w.heap.size w w' := by
  have H := Lib.hid h
  clear h
  cases o
  · cases d
    · by_cases hn : (n == 0) = true
      · obtain rfl : n = 0 := by simpa using hn
        clear hn
        by_cases hb : (b == 0) = true
        · obtain rfl : b = 0 := by simpa using hb
          clear hb
          have hm : (m == 0) = false := by
            have := H.out
            simp [mayB] at this
            simp [this]
          go_enter Tryz.func111, Tryz.ntmps111
          go_wp2
          go_ret
          exact ⟨rfl, (Below.refl _ _).alloc (Nat.le_refl _) _⟩
        · have hb' : (b == 0) = false := by simpa using hb
          clear hb
          go_enter Tryz.func111, Tryz.ntmps111
          go_wp2
          go_ret
          exact ⟨rfl, (Below.refl _ _).alloc (Nat.le_refl _) _⟩
      · have hn' : (n == 0) = false := by simpa using hn
        clear hn
        go_enter Tryz.func111, Tryz.ntmps111
        go_wp2
        go_ret
        exact ⟨rfl, (Below.refl _ _).alloc (Nat.le_refl _) _⟩
    · go_enter Tryz.func111, Tryz.ntmps111
      go_wp2
      go_ret
      exact ⟨rfl, (Below.refl _ _).alloc (Nat.le_refl _) _⟩
  · go_enter Tryz.func111, Tryz.ntmps111
    go_wp2
    go_ret
    exact ⟨rfl, (Below.refl _ _).alloc (Nat.le_refl _) _⟩
theorem may_no (u o d : Bool) (n b m : Int) (w : World) (h : mayB u o d n b m = false) :
    Calls Tryz.prog 111 #[.agg #[.bool u, .bool o, .bool d, .int .i64 n, .int .i64 b, .int .i64 m]] w fun e w' => e = .returned (.bool false) ∧ Below w.heap.size w w' := by
  cases u
  · exact no_free o d n b m w h
  · have h' : ¬ (0 ≤ n ∧ n ≤ 63 ∧ 0 ≤ b ∧ b ≤ 1048576 ∧ 0 ≤ m ∧ m ≤ 1048576) := fun c => by
      rw [(may_used_iff o d n b m).2 c] at h; cases h
    by_cases hn : 0 ≤ n ∧ n ≤ 63
    · by_cases hb : 0 ≤ b ∧ b ≤ 1048576
      · exact no_m o d n b m w hn.1 hn.2 hb.1 hb.2 (by omega)
      · exact no_b o d n b m w hn.1 hn.2 (by omega)
    · exact no_n o d n b m w (by omega)

theorem bit_any (u : Bool) (k : Int) (w : World) :
    Calls Tryz.prog 143 #[.bool u, .int .i64 k] w fun e w' => e = .returned (.int .i64 (bitOf u k)) ∧ w' = w := by
  cases u
  · go_enter Tryz.func143, Tryz.ntmps143
    go_wp2
    go_ret
    exact ⟨rfl, rfl⟩
  · go_enter Tryz.func143, Tryz.ntmps143
    go_wp2
    go_ret
    exact ⟨rfl, rfl⟩
theorem packed_below {w w1 : World} {o : Obj} (hb : Below (w.alloc o).heap.size (w.alloc o) w1) (n : Nat) : Below w.heap.size w (w1.drewN n) :=
  below_drewN (((Below.refl _ _).alloc (Nat.le_refl _) _).trans (hb.mono (by simp))) n
theorem pack_free (w : World) :
    Calls Tryz.prog 127 #[.agg #[.bool false, .bool false, .bool false, .int .i64 0, .int .i64 0, .int .i64 0]] w fun e w' => e = .returned (.tuple #[.int .i64 0, .int .i64 0]) ∧ Below w.heap.size w w' := by
  go_enter Tryz.func127, Tryz.ntmps127
  go_wp2_with (go_at_call 111; refine (may_free _).mono ?_; rintro e w1 ⟨rfl, hb⟩; have hc := old_cell hb; have hf := old_mark hb)
  go_quiet ((go_at_call 143; exact Calls.quiet_of_same (bit_any _ _ _)))
  go_wp2
  go_ret2
  exact ⟨rfl, packed_below hb _⟩
theorem or_first (o : Bool) : bits .or .i64 (bitOf true 1) (bitOf o 2) = 1 + bitOf o 2 := by cases o <;> rfl
theorem or_second (o d : Bool) : bits .or .i64 (1 + bitOf o 2) (bitOf d 4) = 1 + bitOf o 2 + bitOf d 4 := by cases o <;> cases d <;> rfl
theorem pack_used (o d : Bool) (n b m : Int) (w : World) (n0 : 0 ≤ n) (n1 : n ≤ 63) (b0 : 0 ≤ b) (b1 : b ≤ 1048576) (m0 : 0 ≤ m) (m1 : m ≤ 1048576) :
    Calls Tryz.prog 127 #[.agg #[.bool true, .bool o, .bool d, .int .i64 n, .int .i64 b, .int .i64 m]] w fun e w' => e = .returned (.tuple #[.int .i64 (1 + bitOf o 2 + bitOf d 4 + n * 8 + b * 1024 + m * 4294967296), .int .i64 0]) ∧ Below w.heap.size w w' := by
  obtain ⟨o0, o1⟩ := bit_le o 2 (by decide)
  obtain ⟨d0, d1⟩ := bit_le d 4 (by decide)
  have e1 := or_first o
  have e2 := or_second o d
  have e3 := or_3 (1 + bitOf o 2 + bitOf d 4) n (by omega) (by omega) n0 n1
  have e4 := or_10 (1 + bitOf o 2 + bitOf d 4 + n * 8) b (by omega) (by omega) b0 b1
  have e5 := or_32 (1 + bitOf o 2 + bitOf d 4 + n * 8 + b * 1024) m (by omega) (by omega) m0 m1
  go_enter Tryz.func127, Tryz.ntmps127
  go_wp2_with (go_at_call 111; refine (may_used _ _ _ _ _ _ n0 n1 b0 b1 m0 m1).mono ?_; rintro e w1 ⟨rfl, hb⟩; have hc := old_cell hb; have hf := old_mark hb)
  go_quiet ((go_at_call 143; exact Calls.quiet_of_same (bit_any _ _ _)))
  go_wp2
  go_ret2
  exact ⟨rfl, packed_below hb _⟩
theorem pack_yes (u o d : Bool) (n b m : Int) (w : World) (h : mayB u o d n b m = true) :
    Calls Tryz.prog 127 #[.agg #[.bool u, .bool o, .bool d, .int .i64 n, .int .i64 b, .int .i64 m]] w fun e w' => e = .returned (.tuple #[.int .i64 (word u o d n b m), .int .i64 0]) ∧ Below w.heap.size w w' := by
  cases u
  · obtain ⟨rfl, rfl, rfl, rfl, rfl⟩ := (may_free_iff _ _ _ _ _).1 h
    exact pack_free w
  · obtain ⟨a1, a2, a3, a4, a5, a6⟩ := (may_used_iff _ _ _ _ _).1 h
    exact pack_used o d n b m w a1 a2 a3 a4 a5 a6
end Go.Proofs.YtccjelpfmkbmiaaGreatDoor.Hd
end
section
namespace Go.Proofs.YtccjelpfmkbmiaaGreatDoor.Hd
open Go.Proofs.YtccjelpfmkbmiaaGreatDoor
set_option maxRecDepth 100000
open Go.RowKit

theorem unpacked_below {w w1 : World} {o o' : Obj} (hb : Below ((w.alloc o).alloc o').heap.size ((w.alloc o).alloc o') w1) : Below w.heap.size w w1 :=
  (((Below.refl _ _).alloc (Nat.le_refl _) _).alloc (by simp) _).trans (hb.mono (by simp; omega))
theorem six_below {B b : Nat} {w w1 : World} (h : Below B w w1) (hb : B ≤ b) (v0 v1 v2 v3 v4 v5 : Value) :
    Below B w ((((((w1.setCell ⟨b, 0, none⟩ v0).setCell ⟨b, 1, none⟩ v1).setCell ⟨b, 2, none⟩ v2).setCell ⟨b, 3, none⟩ v3).setCell ⟨b, 4, none⟩ v4).setCell ⟨b, 5, none⟩ v5) :=
  (((((h.setCell hb v0).setCell hb v1).setCell hb v2).setCell hb v3).setCell hb v4).setCell hb v5

theorem first_cells {w w1 : World} {o' : Obj} {cs : Array Value} {t : TypeId} (hb : Below ((w.alloc (.cells cs t)).alloc o').heap.size ((w.alloc (.cells cs t)).alloc o') w1) (k : Nat) :
    w1.cell? ⟨w.heap.size, k, none⟩ = cs[k]? := by
  rw [old_cell hb _ _ (by simp; omega)]
  simp [go_sem]
theorem unpack_core_yes (x : Int) (u o d : Bool) (n b m : Int) (w : World) (h : mayB u o d n b m = true)
    (eu : (bits .and .i64 x 1 != 0) = u) (eo : (bits .and .i64 x 2 != 0) = o) (ed : (bits .and .i64 x 4 != 0) = d) (en : bits .and .i64 (x / 8) 127 = n) (eb : bits .and .i64 (x / 1024) 4194303 = b) (em : x / 4294967296 = m) :
    Calls Tryz.prog 70 #[.int .i64 x] w fun e w' => e = .returned (.tuple #[.agg #[.bool u, .bool o, .bool d, .int .i64 n, .int .i64 b, .int .i64 m], .bool true]) ∧ Below w.heap.size w w' := by
  have H := Lib.hid h
  clear h
  go_enter Tryz.func70, Tryz.ntmps70
  go_wp2_with fail
  refine (may_yes _ _ _ _ _ _ _ H.out).mono ?_
  rintro e w1 ⟨rfl, hb⟩
  have hc := old_cell hb
  have hf := old_mark hb
  clear eu eo ed en eb em
  have c0 := first_cells hb 0
  have c1 := first_cells hb 1
  have c2 := first_cells hb 2
  have c3 := first_cells hb 3
  have c4 := first_cells hb 4
  have c5 := first_cells hb 5
  simp at c0 c1 c2 c3 c4 c5
  go_wp2
  refine bodyPost_ret (v := .tuple #[.agg #[.bool u, .bool o, .bool d, .int .i64 n, .int .i64 b, .int .i64 m], .bool true]) ?_ rfl ⟨rfl, six_below (unpacked_below hb) (Nat.le_refl _) _ _ _ _ _ _⟩
  simp [results, Tryz.results70, go_sem, c0, c1, c2, c3, c4, c5]
theorem unpack_core_no (x : Int) (u o d : Bool) (n b m : Int) (w : World) (h : mayB u o d n b m = false)
    (eu : (bits .and .i64 x 1 != 0) = u) (eo : (bits .and .i64 x 2 != 0) = o) (ed : (bits .and .i64 x 4 != 0) = d) (en : bits .and .i64 (x / 8) 127 = n) (eb : bits .and .i64 (x / 1024) 4194303 = b) (em : x / 4294967296 = m) :
    Calls Tryz.prog 70 #[.int .i64 x] w fun e w' => e = .returned (.tuple #[.agg #[.bool false, .bool false, .bool false, .int .i64 0, .int .i64 0, .int .i64 0], .bool false]) ∧ Below w.heap.size w w' := by
  have H := Lib.hid h
  clear h
  go_enter Tryz.func70, Tryz.ntmps70
  go_wp2_with fail
  refine (may_no _ _ _ _ _ _ _ H.out).mono ?_
  rintro e w1 ⟨rfl, hb⟩
  have hc := old_cell hb
  have hf := old_mark hb
  clear eu eo ed en eb em
  have c0 := first_cells hb 0
  have c1 := first_cells hb 1
  have c2 := first_cells hb 2
  have c3 := first_cells hb 3
  have c4 := first_cells hb 4
  have c5 := first_cells hb 5
  simp at c0 c1 c2 c3 c4 c5
  go_wp2
  refine bodyPost_ret (v := .tuple #[.agg #[.bool false, .bool false, .bool false, .int .i64 0, .int .i64 0, .int .i64 0], .bool false]) ?_ rfl ⟨rfl, six_below (unpacked_below hb) (Nat.le_refl _) _ _ _ _ _ _⟩
  simp [results, Tryz.results70, go_sem, c0, c1, c2, c3, c4, c5]

theorem unpack_no (x : Int) (w : World) (h : isWord x = false) :
    Calls Tryz.prog 70 #[.int .i64 x] w fun e w' => e = .returned (.tuple #[.agg #[.bool false, .bool false, .bool false, .int .i64 0, .int .i64 0, .int .i64 0], .bool false]) ∧ Below w.heap.size w w' :=
  unpack_core_no x _ _ _ _ _ _ w h (bit_1 x) (bit_2 x) (bit_4 x) (and_127 _) (and_4194303 _) rfl
theorem unpack_yes (x : Int) (w : World) (h : isWord x = true) :
    Calls Tryz.prog 70 #[.int .i64 x] w fun e w' => e = .returned (.tuple #[.agg #[.bool (decide (x % 2 = 1)), .bool (decide (x / 2 % 2 = 1)), .bool (decide (x / 4 % 2 = 1)), .int .i64 (x / 8 % 128), .int .i64 (x / 1024 % 4194304), .int .i64 (x / 4294967296)], .bool true]) ∧ Below w.heap.size w w' :=
  unpack_core_yes x _ _ _ _ _ _ w h (bit_1 x) (bit_2 x) (bit_4 x) (and_127 _) (and_4194303 _) rfl
end Go.Proofs.YtccjelpfmkbmiaaGreatDoor.Hd
end
section
namespace Go.Proofs.YtccjelpfmkbmiaaGreatDoor.Hd
open Go.Proofs.YtccjelpfmkbmiaaGreatDoor
set_option maxRecDepth 100000
open Go.RowKit

end Go.Proofs.YtccjelpfmkbmiaaGreatDoor.Hd
end
section
namespace Go.Proofs.YtccjelpfmkbmiaaGreatDoor.Hd
open Go.Proofs.YtccjelpfmkbmiaaGreatDoor
set_option maxRecDepth 100000
open Go.RowKit

theorem rmay_used (o e : Bool) (n b m : Int) (w : World) (n0 : 0 ≤ n) (n1 : n ≤ 63) (b0 : 0 ≤ b) (b1 : b ≤ 1048576) (m0 : 0 ≤ m) (m1 : m ≤ 1048576) :
    Calls Tryz.prog 125 #[.agg #[.bool true, .bool o, .bool e, .int .i64 n, .int .i64 b, .int .i64 m]] w fun r w' => r = .returned (.bool true) ∧ Below w.heap.size w w' := by
  go_enter Tryz.func125, Tryz.ntmps125
  go_wp2
  go_ret
  exact ⟨rfl, (Below.refl _ _).alloc (Nat.le_refl _) _⟩
theorem rmay_free  (w : World)  :
    Calls Tryz.prog 125 #[.agg #[.bool false, .bool false, .bool false, .int .i64 0, .int .i64 0, .int .i64 0]] w fun r w' => r = .returned (.bool true) ∧ Below w.heap.size w w' := by
  go_enter Tryz.func125, Tryz.ntmps125
  go_wp2
  go_ret
  exact ⟨rfl, (Below.refl _ _).alloc (Nat.le_refl _) _⟩
theorem rno_n0 (u o e : Bool) (n b m : Int) (w : World) (h : n < 0) :
    Calls Tryz.prog 125 #[.agg #[.bool u, .bool o, .bool e, .int .i64 n, .int .i64 b, .int .i64 m]] w fun r w' => r = .returned (.bool false) ∧ Below w.heap.size w w' := by
  go_enter Tryz.func125, Tryz.ntmps125
  go_wp2
  go_ret
  exact ⟨rfl, (Below.refl _ _).alloc (Nat.le_refl _) _⟩
theorem rno_n1 (u o e : Bool) (n b m : Int) (w : World) (n0 : 0 ≤ n) (h : 63 < n) :
    Calls Tryz.prog 125 #[.agg #[.bool u, .bool o, .bool e, .int .i64 n, .int .i64 b, .int .i64 m]] w fun r w' => r = .returned (.bool false) ∧ Below w.heap.size w w' := by
  go_enter Tryz.func125, Tryz.ntmps125
  go_wp2
  go_ret
  exact ⟨rfl, (Below.refl _ _).alloc (Nat.le_refl _) _⟩
theorem rno_b0 (u o e : Bool) (n b m : Int) (w : World) (n0 : 0 ≤ n) (n1 : n ≤ 63) (h : b < 0) :
    Calls Tryz.prog 125 #[.agg #[.bool u, .bool o, .bool e, .int .i64 n, .int .i64 b, .int .i64 m]] w fun r w' => r = .returned (.bool false) ∧ Below w.heap.size w w' := by
  go_enter Tryz.func125, Tryz.ntmps125
  go_wp2
  go_ret
  exact ⟨rfl, (Below.refl _ _).alloc (Nat.le_refl _) _⟩
theorem rno_b1 (u o e : Bool) (n b m : Int) (w : World) (n0 : 0 ≤ n) (n1 : n ≤ 63) (b0 : 0 ≤ b) (h : 1048576 < b) :
    Calls Tryz.prog 125 #[.agg #[.bool u, .bool o, .bool e, .int .i64 n, .int .i64 b, .int .i64 m]] w fun r w' => r = .returned (.bool false) ∧ Below w.heap.size w w' := by
  go_enter Tryz.func125, Tryz.ntmps125
  go_wp2
  go_ret
  exact ⟨rfl, (Below.refl _ _).alloc (Nat.le_refl _) _⟩
theorem rno_m0 (u o e : Bool) (n b m : Int) (w : World) (n0 : 0 ≤ n) (n1 : n ≤ 63) (b0 : 0 ≤ b) (b1 : b ≤ 1048576) (h : m < 0) :
    Calls Tryz.prog 125 #[.agg #[.bool u, .bool o, .bool e, .int .i64 n, .int .i64 b, .int .i64 m]] w fun r w' => r = .returned (.bool false) ∧ Below w.heap.size w w' := by
  go_enter Tryz.func125, Tryz.ntmps125
  go_wp2
  go_ret
  exact ⟨rfl, (Below.refl _ _).alloc (Nat.le_refl _) _⟩
theorem rno_m1 (u o e : Bool) (n b m : Int) (w : World) (n0 : 0 ≤ n) (n1 : n ≤ 63) (b0 : 0 ≤ b) (b1 : b ≤ 1048576) (m0 : 0 ≤ m) (h : 1048576 < m) :
    Calls Tryz.prog 125 #[.agg #[.bool u, .bool o, .bool e, .int .i64 n, .int .i64 b, .int .i64 m]] w fun r w' => r = .returned (.bool false) ∧ Below w.heap.size w w' := by
  go_enter Tryz.func125, Tryz.ntmps125
  go_wp2
  go_ret
  exact ⟨rfl, (Below.refl _ _).alloc (Nat.le_refl _) _⟩
theorem rno_o (e : Bool) (n b m : Int) (w : World) (n0 : 0 ≤ n) (n1 : n ≤ 63) (b0 : 0 ≤ b) (b1 : b ≤ 1048576) (m0 : 0 ≤ m) (m1 : m ≤ 1048576) :
    Calls Tryz.prog 125 #[.agg #[.bool false, .bool true, .bool e, .int .i64 n, .int .i64 b, .int .i64 m]] w fun r w' => r = .returned (.bool false) ∧ Below w.heap.size w w' := by
  go_enter Tryz.func125, Tryz.ntmps125
  go_wp2
  go_ret
  exact ⟨rfl, (Below.refl _ _).alloc (Nat.le_refl _) _⟩
theorem rno_e (n b m : Int) (w : World) (n0 : 0 ≤ n) (n1 : n ≤ 63) (b0 : 0 ≤ b) (b1 : b ≤ 1048576) (m0 : 0 ≤ m) (m1 : m ≤ 1048576) :
    Calls Tryz.prog 125 #[.agg #[.bool false, .bool false, .bool true, .int .i64 n, .int .i64 b, .int .i64 m]] w fun r w' => r = .returned (.bool false) ∧ Below w.heap.size w w' := by
  go_enter Tryz.func125, Tryz.ntmps125
  go_wp2
  go_ret
  exact ⟨rfl, (Below.refl _ _).alloc (Nat.le_refl _) _⟩
theorem rno_n (n b m : Int) (w : World) (n0 : 0 ≤ n) (n1 : n ≤ 63) (b0 : 0 ≤ b) (b1 : b ≤ 1048576) (m0 : 0 ≤ m) (m1 : m ≤ 1048576) (h : (n == 0) = false) :
    Calls Tryz.prog 125 #[.agg #[.bool false, .bool false, .bool false, .int .i64 n, .int .i64 b, .int .i64 m]] w fun r w' => r = .returned (.bool false) ∧ Below w.heap.size w w' := by
  go_enter Tryz.func125, Tryz.ntmps125
  go_wp2
  go_ret
  exact ⟨rfl, (Below.refl _ _).alloc (Nat.le_refl _) _⟩
theorem rno_b (b m : Int) (w : World) (b0 : 0 ≤ b) (b1 : b ≤ 1048576) (m0 : 0 ≤ m) (m1 : m ≤ 1048576) (h : (b == 0) = false) :
    Calls Tryz.prog 125 #[.agg #[.bool false, .bool false, .bool false, .int .i64 0, .int .i64 b, .int .i64 m]] w fun r w' => r = .returned (.bool false) ∧ Below w.heap.size w w' := by
  go_enter Tryz.func125, Tryz.ntmps125
  go_wp2
  go_ret
  exact ⟨rfl, (Below.refl _ _).alloc (Nat.le_refl _) _⟩
theorem rno_m (m : Int) (w : World) (m0 : 0 ≤ m) (m1 : m ≤ 1048576) (h : (m == 0) = false) :
    Calls Tryz.prog 125 #[.agg #[.bool false, .bool false, .bool false, .int .i64 0, .int .i64 0, .int .i64 m]] w fun r w' => r = .returned (.bool false) ∧ Below w.heap.size w w' := by
  go_enter Tryz.func125, Tryz.ntmps125
  go_wp2
  go_ret
  exact ⟨rfl, (Below.refl _ _).alloc (Nat.le_refl _) _⟩
theorem rmay_yes (u o e : Bool) (n b m : Int) (w : World) (h : mayB u o e n b m = true) :
    Calls Tryz.prog 125 #[.agg #[.bool u, .bool o, .bool e, .int .i64 n, .int .i64 b, .int .i64 m]] w fun r w' => r = .returned (.bool true) ∧ Below w.heap.size w w' := by
  cases u
  · obtain ⟨rfl, rfl, rfl, rfl, rfl⟩ := (may_free_iff _ _ _ _ _).1 h
    exact rmay_free w
  · obtain ⟨a1, a2, a3, a4, a5, a6⟩ := (may_used_iff _ _ _ _ _).1 h
    exact rmay_used o e n b m w a1 a2 a3 a4 a5 a6
theorem rmay_no (u o e : Bool) (n b m : Int) (w : World) (h : mayB u o e n b m = false) :
    Calls Tryz.prog 125 #[.agg #[.bool u, .bool o, .bool e, .int .i64 n, .int .i64 b, .int .i64 m]] w fun r w' => r = .returned (.bool false) ∧ Below w.heap.size w w' := by
  by_cases n0 : 0 ≤ n
  · by_cases n1 : n ≤ 63
    · by_cases b0 : 0 ≤ b
      · by_cases b1 : b ≤ 1048576
        · by_cases m0 : 0 ≤ m
          · by_cases m1 : m ≤ 1048576
            · cases u
              · cases o
                · cases e
                  · by_cases z : n = 0
                    · subst z
                      by_cases z : b = 0
                      · subst z
                        have z : m ≠ 0 := fun z => by subst z; cases h
                        exact rno_m m w m0 m1 (beq_eq_false_iff_ne.2 z)
                      · exact rno_b b m w b0 b1 m0 m1 (beq_eq_false_iff_ne.2 z)
                    · exact rno_n n b m w n0 n1 b0 b1 m0 m1 (beq_eq_false_iff_ne.2 z)
                  · exact rno_e n b m w n0 n1 b0 b1 m0 m1
                · exact rno_o e n b m w n0 n1 b0 b1 m0 m1
              · have := (may_used_iff o e n b m).2 ⟨n0, n1, b0, b1, m0, m1⟩
                rw [this] at h
                cases h
            · exact rno_m1 u o e n b m w n0 n1 b0 b1 m0 (by omega)
          · exact rno_m0 u o e n b m w n0 n1 b0 b1 (by omega)
        · exact rno_b1 u o e n b m w n0 n1 b0 (by omega)
      · exact rno_b0 u o e n b m w n0 n1 (by omega)
    · exact rno_n1 u o e n b m w n0 (by omega)
  · exact rno_n0 u o e n b m w (by omega)

end Go.Proofs.YtccjelpfmkbmiaaGreatDoor.Hd
end
section
namespace Go.Proofs.YtccjelpfmkbmiaaGreatDoor.Hd
open Go.Proofs.YtccjelpfmkbmiaaGreatDoor
set_option maxRecDepth 100000
open Go.RowKit

theorem runpack_zero (w : World) :
    Calls Tryz.prog 81 #[.int .i64 0] w fun r w' => r = .returned (.tuple #[.agg #[.bool false, .bool false, .bool false, .int .i64 0, .int .i64 0, .int .i64 0], .bool true]) ∧ Below w.heap.size w w' := by
  go_enter Tryz.func81, Tryz.ntmps81
  go_wp2
  refine bodyPost_ret (v := .tuple #[.agg #[.bool false, .bool false, .bool false, .int .i64 0, .int .i64 0, .int .i64 0], .bool true]) ?_ rfl ⟨rfl, (((Below.refl _ _).alloc (Nat.le_refl _) _).alloc (by simp) _)⟩
  simp [results, Tryz.results81, go_sem]
theorem runpack_less (x : Int) (w : World) (h : x < 0) :
    Calls Tryz.prog 81 #[.int .i64 x] w fun r w' => r = .returned (.tuple #[.agg #[.bool false, .bool false, .bool false, .int .i64 0, .int .i64 0, .int .i64 0], .bool false]) ∧ Below w.heap.size w w' := by
  go_enter Tryz.func81, Tryz.ntmps81
  go_wp2
  refine bodyPost_ret (v := .tuple #[.agg #[.bool false, .bool false, .bool false, .int .i64 0, .int .i64 0, .int .i64 0], .bool false]) ?_ rfl ⟨rfl, (((Below.refl _ _).alloc (Nat.le_refl _) _).alloc (by simp) _)⟩
  simp [results, Tryz.results81, go_sem]
theorem runpack_even (x : Int) (w : World) (x0 : 1 ≤ x) (x1 : x ≤ 9223372036854775807) (h : x % 2 = 0) :
    Calls Tryz.prog 81 #[.int .i64 x] w fun r w' => r = .returned (.tuple #[.agg #[.bool false, .bool false, .bool false, .int .i64 0, .int .i64 0, .int .i64 0], .bool false]) ∧ Below w.heap.size w w' := by
  go_enter Tryz.func81, Tryz.ntmps81
  go_wp2
  refine bodyPost_ret (v := .tuple #[.agg #[.bool false, .bool false, .bool false, .int .i64 0, .int .i64 0, .int .i64 0], .bool false]) ?_ rfl ⟨rfl, (((Below.refl _ _).alloc (Nat.le_refl _) _).alloc (by simp) _)⟩
  simp [results, Tryz.results81, go_sem]
theorem three_below {w w1 : World} {c c' c'' : Obj} (hb : Below (((w.alloc c).alloc c').alloc c'').heap.size (((w.alloc c).alloc c').alloc c'') w1) : Below w.heap.size w w1 :=
  ((((Below.refl _ _).alloc (Nat.le_refl _) _).alloc (by simp) _).alloc (by simp; omega) _).trans (hb.mono (by simp; omega))
theorem far_cells {w w1 : World} {c' c'' : Obj} {cs : Array Value} {t : TypeId} (hb : Below (((w.alloc (.cells cs t)).alloc c').alloc c'').heap.size (((w.alloc (.cells cs t)).alloc c').alloc c'') w1) (k : Nat) :
    w1.cell? ⟨w.heap.size, k, none⟩ = cs[k]? := by
  rw [old_cell hb _ _ (by simp; omega)]
  simp [go_sem]
theorem runpack_odd (x : Int) (o e : Bool) (n b m : Int) (w : World) (h : mayB true o e n b m = true) (x0 : 1 ≤ x) (x1 : x ≤ 9223372036854775807) (h1 : x % 2 = 1) (eo : (x / 2 % 2 == 1) = o) (ee : (x / 4 % 2 == 1) = e) (en : x / 8 % 128 = n) (eb : x / 1024 % 4194304 = b) (em : x / 4294967296 = m) :
    Calls Tryz.prog 81 #[.int .i64 x] w fun r w' => r = .returned (.tuple #[.agg #[.bool true, .bool o, .bool e, .int .i64 n, .int .i64 b, .int .i64 m], .bool true]) ∧ Below w.heap.size w w' := by
  have H := Lib.hid h
  clear h
  go_enter Tryz.func81, Tryz.ntmps81
  go_wp2_with fail
  refine (rmay_yes _ _ _ _ _ _ _ H.out).mono ?_
  rintro r w1 ⟨rfl, hb⟩
  have hc := old_cell hb; have hf := old_mark hb
  clear x0 x1 h1 eo ee en eb em
  have c0 := far_cells hb 0
  have c1 := far_cells hb 1
  have c2 := far_cells hb 2
  have c3 := far_cells hb 3
  have c4 := far_cells hb 4
  have c5 := far_cells hb 5
  simp at c0 c1 c2 c3 c4 c5
  go_wp2
  refine bodyPost_ret (v := .tuple #[.agg #[.bool true, .bool o, .bool e, .int .i64 n, .int .i64 b, .int .i64 m], .bool true]) ?_ rfl ⟨rfl, six_below (three_below hb) (Nat.le_refl _) _ _ _ _ _ _⟩
  simp [results, Tryz.results81, go_sem, c0, c1, c2, c3, c4, c5]
theorem runpack_bad (x : Int) (o e : Bool) (n b m : Int) (w : World) (h : mayB true o e n b m = false) (x0 : 1 ≤ x) (x1 : x ≤ 9223372036854775807) (h1 : x % 2 = 1) (eo : (x / 2 % 2 == 1) = o) (ee : (x / 4 % 2 == 1) = e) (en : x / 8 % 128 = n) (eb : x / 1024 % 4194304 = b) (em : x / 4294967296 = m) :
    Calls Tryz.prog 81 #[.int .i64 x] w fun r w' => r = .returned (.tuple #[.agg #[.bool false, .bool false, .bool false, .int .i64 0, .int .i64 0, .int .i64 0], .bool false]) ∧ Below w.heap.size w w' := by
  have H := Lib.hid h
  clear h
  go_enter Tryz.func81, Tryz.ntmps81
  go_wp2_with fail
  refine (rmay_no _ _ _ _ _ _ _ H.out).mono ?_
  rintro r w1 ⟨rfl, hb⟩
  have hc := old_cell hb; have hf := old_mark hb
  clear x0 x1 h1 eo ee en eb em
  have c0 := far_cells hb 0
  have c1 := far_cells hb 1
  have c2 := far_cells hb 2
  have c3 := far_cells hb 3
  have c4 := far_cells hb 4
  have c5 := far_cells hb 5
  simp at c0 c1 c2 c3 c4 c5
  go_wp2
  refine bodyPost_ret (v := .tuple #[.agg #[.bool false, .bool false, .bool false, .int .i64 0, .int .i64 0, .int .i64 0], .bool false]) ?_ rfl ⟨rfl, six_below (three_below hb) (Nat.le_refl _) _ _ _ _ _ _⟩
  simp [results, Tryz.results81, go_sem, c0, c1, c2, c3, c4, c5]
theorem beq_one (x : Int) : (x == 1) = decide (x = 1) := by
  rw [Bool.eq_iff_iff]; simp
theorem runpack_no (x : Int) (w : World) (x0 : -9223372036854775808 ≤ x) (x1 : x ≤ 9223372036854775807) (h : isWord x = false) :
    Calls Tryz.prog 81 #[.int .i64 x] w fun r w' => r = .returned (.tuple #[.agg #[.bool false, .bool false, .bool false, .int .i64 0, .int .i64 0, .int .i64 0], .bool false]) ∧ Below w.heap.size w w' := by
  by_cases h0 : x < 0
  · exact runpack_less x w h0
  · by_cases h1 : x % 2 = 1
    · unfold isWord at h
      rw [decide_eq_true h1] at h
      exact runpack_bad x _ _ _ _ _ w h (by omega) x1 h1 (beq_one _) (beq_one _) rfl rfl rfl
    · by_cases h2 : x = 0
      · subst h2
        cases h
      · exact runpack_even x w (by omega) x1 (by omega)
theorem runpack_word (u o e : Bool) (n b m : Int) (w : World) (h : mayB u o e n b m = true) :
    Calls Tryz.prog 81 #[.int .i64 (word u o e n b m)] w fun r w' => r = .returned (.tuple #[.agg #[.bool u, .bool o, .bool e, .int .i64 n, .int .i64 b, .int .i64 m], .bool true]) ∧ Below w.heap.size w w' := by
  cases u
  · obtain ⟨rfl, rfl, rfl, rfl, rfl⟩ := (may_free_iff _ _ _ _ _).1 h
    exact runpack_zero w
  · have r := word_range h
    obtain ⟨p1, p2, p3, p4, p5, p6⟩ := word_parts h
    refine runpack_odd _ o e n b m w h (by omega) (by omega) p1 ?_ ?_ p4 p5 p6
    · rw [beq_one, Bool.eq_iff_iff, decide_eq_true_iff]
      exact p2
    · rw [beq_one, Bool.eq_iff_iff, decide_eq_true_iff]
      exact p3
end Go.Proofs.YtccjelpfmkbmiaaGreatDoor.Hd
end
section
namespace Go.Proofs.YtccjelpfmkbmiaaGreatDoor
open Go.RowKit

def headOf (x : Int) : Value :=
  if Hd.isWord x then .agg #[.bool (decide (x % 2 = 1)), .bool (decide (x / 2 % 2 = 1)), .bool (decide (x / 4 % 2 = 1)), .int .i64 (x / 8 % 128), .int .i64 (x / 1024 % 4194304), .int .i64 (x / 4294967296)]
  else .agg #[.bool false, .bool false, .bool false, .int .i64 0, .int .i64 0, .int .i64 0]
theorem unpack_any (x : Int) (w : World) : Calls Tryz.prog 70 #[.int .i64 x] w fun e w' => e = .returned (.tuple #[headOf x, .bool (Hd.isWord x)]) ∧ Below w.heap.size w w' := by
  unfold headOf
  cases h : Hd.isWord x
  · exact Hd.unpack_no x w h
  · exact Hd.unpack_yes x w h
theorem runpack_any (x : Int) (w : World) (x0 : -9223372036854775808 ≤ x) (x1 : x ≤ 9223372036854775807) : Calls Tryz.prog 81 #[.int .i64 x] w fun e w' => e = .returned (.tuple #[headOf x, .bool (Hd.isWord x)]) ∧ Below w.heap.size w w' := by
  unfold headOf
  cases h : Hd.isWord x
  · exact Hd.runpack_no x w x0 x1 h
  · obtain ⟨u, o, d, n, b, m, h', e, e1, e2, e3, e4, e5, e6⟩ := Hd.isWord_cases x h
    have := Hd.runpack_word u o d n b m w h'
    rw [← e, e1, e2, e3, e4, e5, e6] at this
    exact this
end Go.Proofs.YtccjelpfmkbmiaaGreatDoor
end
section
namespace Go.Proofs.YtccjelpfmkbmiaaGreatDoor.Cl
open Go.Proofs.YtccjelpfmkbmiaaGreatDoor
set_option maxRecDepth 100000
open Go.RowKit

theorem words_any (n : Int) (w : World) (h0 : 1 ≤ n) (h1 : n ≤ 63) :
    Calls Tryz.prog 132 #[.int .i64 n] w fun e w' => e = .returned (.int .i64 (1 + n)) ∧ w = w' := by
  go_enter Tryz.func132, Tryz.ntmps132
  go_wp2
  go_ret
  exact ⟨rfl, rfl⟩

/-- The table of sizes lies as it is written. -/
def Sz (w : World) : Prop := w.cell? ⟨0, 0, none⟩ = some (.int .i64 2) ∧ w.cell? ⟨0, 1, none⟩ = some (.int .i64 4) ∧ w.cell? ⟨0, 2, none⟩ = some (.int .i64 8)

theorem of_low (n : Int) (w : World) (h : n < 1) :
    Calls Tryz.prog 99 #[.int .i64 n] w fun e w' => e = .returned (.tuple #[.int .i64 0, .int .i64 1]) ∧ w = w' := by
  go_enter Tryz.func99, Tryz.ntmps99
  go_wp2
  go_ret2
  exact ⟨rfl, rfl⟩
theorem of_high (n : Int) (w : World) (h : 63 < n) :
    Calls Tryz.prog 99 #[.int .i64 n] w fun e w' => e = .returned (.tuple #[.int .i64 0, .int .i64 2]) ∧ w = w' := by
  go_enter Tryz.func99, Tryz.ntmps99
  go_wp2
  go_ret2
  exact ⟨rfl, rfl⟩
theorem index_at0 (w : World) : (Instr.index 151 (.agg #[.int .i64 2, .int .i64 4, .int .i64 8]) (.int .i64 0)).run Tryz.prog w = .ok (.int .i64 2) w := by kernel_rfl
theorem index_at1 (w : World) : (Instr.index 151 (.agg #[.int .i64 2, .int .i64 4, .int .i64 8]) (.int .i64 1)).run Tryz.prog w = .ok (.int .i64 4) w := by kernel_rfl
theorem index_at2 (w : World) : (Instr.index 151 (.agg #[.int .i64 2, .int .i64 4, .int .i64 8]) (.int .i64 2)).run Tryz.prog w = .ok (.int .i64 8) w := by kernel_rfl
theorem of_0 (n : Int) (w : World) (hz : Sz w) (h0 : 1 ≤ n) (h1 : n ≤ 1) :
    Calls Tryz.prog 99 #[.int .i64 n] w fun e w' => e = .returned (.tuple #[.int .i64 0, .int .i64 0]) ∧ w = w' := by
  obtain ⟨z0, z1, z2⟩ := hz
  have d1 : decide (n < 1) = false := by simp; omega
  have d2 : decide (63 < n) = false := by simp; omega
  go_enter Tryz.func99, Tryz.ntmps99
  go_wp2
  clear z0 z1 z2
  go_loop [11] (fun i => ∃ k : Nat, k ≤ 0 ∧ i = .int .i64 k) (fun i => 3 - (intOf i).toNat)
  case atStart => exact ⟨0, by omega, rfl⟩
  case round =>
    obtain ⟨k, hk, rfl⟩ := hrel
    have hc : k = 0 := by omega
    clear hk
    subst hc
    · have ix := index_at0 w
      go_wp2_with (go_at_call 132; refine (words_any _ _ (by omega) (by omega)).mono ?_; rintro e w1 ⟨rfl, rfl⟩)
      go_ret2
      exact ⟨rfl, rfl⟩
theorem of_1 (n : Int) (w : World) (hz : Sz w) (h0 : 2 ≤ n) (h1 : n ≤ 3) :
    Calls Tryz.prog 99 #[.int .i64 n] w fun e w' => e = .returned (.tuple #[.int .i64 1, .int .i64 0]) ∧ w = w' := by
  obtain ⟨z0, z1, z2⟩ := hz
  have d1 : decide (n < 1) = false := by simp; omega
  have d2 : decide (63 < n) = false := by simp; omega
  go_enter Tryz.func99, Tryz.ntmps99
  go_wp2
  clear z0 z1 z2
  go_loop [11] (fun i => ∃ k : Nat, k ≤ 1 ∧ i = .int .i64 k) (fun i => 3 - (intOf i).toNat)
  case atStart => exact ⟨0, by omega, rfl⟩
  case round =>
    obtain ⟨k, hk, rfl⟩ := hrel
    have hc : k = 0 ∨ k = 1 := by omega
    clear hk
    rcases hc with rfl | rfl
    · have ix := index_at0 w
      go_wp2_with (go_at_call 132; refine (words_any _ _ (by omega) (by omega)).mono ?_; rintro e w1 ⟨rfl, rfl⟩)
      go_round
      case rel => exact ⟨1, by omega, by go_num⟩
      case measure => simp [intOf]
    · have ix := index_at1 w
      go_wp2_with (go_at_call 132; refine (words_any _ _ (by omega) (by omega)).mono ?_; rintro e w1 ⟨rfl, rfl⟩)
      go_ret2
      exact ⟨rfl, rfl⟩
theorem of_2 (n : Int) (w : World) (hz : Sz w) (h0 : 4 ≤ n) (h1 : n ≤ 7) :
    Calls Tryz.prog 99 #[.int .i64 n] w fun e w' => e = .returned (.tuple #[.int .i64 2, .int .i64 0]) ∧ w = w' := by
  obtain ⟨z0, z1, z2⟩ := hz
  have d1 : decide (n < 1) = false := by simp; omega
  have d2 : decide (63 < n) = false := by simp; omega
  go_enter Tryz.func99, Tryz.ntmps99
  go_wp2
  clear z0 z1 z2
  go_loop [11] (fun i => ∃ k : Nat, k ≤ 2 ∧ i = .int .i64 k) (fun i => 3 - (intOf i).toNat)
  case atStart => exact ⟨0, by omega, rfl⟩
  case round =>
    obtain ⟨k, hk, rfl⟩ := hrel
    have hc : k = 0 ∨ k = 1 ∨ k = 2 := by omega
    clear hk
    rcases hc with rfl | rfl | rfl
    · have ix := index_at0 w
      go_wp2_with (go_at_call 132; refine (words_any _ _ (by omega) (by omega)).mono ?_; rintro e w1 ⟨rfl, rfl⟩)
      go_round
      case rel => exact ⟨1, by omega, by go_num⟩
      case measure => simp [intOf]
    · have ix := index_at1 w
      go_wp2_with (go_at_call 132; refine (words_any _ _ (by omega) (by omega)).mono ?_; rintro e w1 ⟨rfl, rfl⟩)
      go_round
      case rel => exact ⟨2, by omega, by go_num⟩
      case measure => simp [intOf]
    · have ix := index_at2 w
      go_wp2_with (go_at_call 132; refine (words_any _ _ (by omega) (by omega)).mono ?_; rintro e w1 ⟨rfl, rfl⟩)
      go_ret2
      exact ⟨rfl, rfl⟩
theorem of_3 (n : Int) (w : World) (hz : Sz w) (h0 : 8 ≤ n) (h1 : n ≤ 63) :
    Calls Tryz.prog 99 #[.int .i64 n] w fun e w' => e = .returned (.tuple #[.int .i64 3, .int .i64 0]) ∧ w = w' := by
  obtain ⟨z0, z1, z2⟩ := hz
  have d1 : decide (n < 1) = false := by simp; omega
  have d2 : decide (63 < n) = false := by simp; omega
  go_enter Tryz.func99, Tryz.ntmps99
  go_wp2
  clear z0 z1 z2
  go_loop [11] (fun i => ∃ k : Nat, k ≤ 3 ∧ i = .int .i64 k) (fun i => 3 - (intOf i).toNat)
  case atStart => exact ⟨0, by omega, rfl⟩
  case round =>
    obtain ⟨k, hk, rfl⟩ := hrel
    have hc : k = 0 ∨ k = 1 ∨ k = 2 ∨ k = 3 := by omega
    clear hk
    rcases hc with rfl | rfl | rfl | rfl
    · have ix := index_at0 w
      go_wp2_with (go_at_call 132; refine (words_any _ _ (by omega) (by omega)).mono ?_; rintro e w1 ⟨rfl, rfl⟩)
      go_round
      case rel => exact ⟨1, by omega, by go_num⟩
      case measure => simp [intOf]
    · have ix := index_at1 w
      go_wp2_with (go_at_call 132; refine (words_any _ _ (by omega) (by omega)).mono ?_; rintro e w1 ⟨rfl, rfl⟩)
      go_round
      case rel => exact ⟨2, by omega, by go_num⟩
      case measure => simp [intOf]
    · have ix := index_at2 w
      go_wp2_with (go_at_call 132; refine (words_any _ _ (by omega) (by omega)).mono ?_; rintro e w1 ⟨rfl, rfl⟩)
      go_round
      case rel => exact ⟨3, by omega, by go_num⟩
      case measure => simp [intOf]
    · go_wp2
      go_ret2
      exact ⟨rfl, rfl⟩
end Go.Proofs.YtccjelpfmkbmiaaGreatDoor.Cl
end
section
namespace Go.Proofs.YtccjelpfmkbmiaaGreatDoor.Cl
open Go.Proofs.YtccjelpfmkbmiaaGreatDoor
set_option maxRecDepth 100000
open Go.RowKit

/-- A cell's words, by its class. -/
def wordsOf (c : Int) : Int := if c = 0 then 2 else if c = 1 then 4 else if c = 2 then 8 else 0
/-- How many cells of a class a page has. -/
def perPage (c : Int) : Int := if c = 0 then 8 else if c = 1 then 4 else if c = 2 then 2 else 0
theorem wordsOf_no {c : Int} (h : c < 0 ∨ 2 < c) : wordsOf c = 0 := by
  unfold wordsOf
  rw [if_neg (by omega), if_neg (by omega), if_neg (by omega)]
theorem perPage_no {c : Int} (h : c < 0 ∨ 2 < c) : perPage c = 0 := by
  unfold perPage
  rw [if_neg (by omega), if_neg (by omega), if_neg (by omega)]
/-- The class, the pages, and the errors, by the number of fields. -/
def classOf (n : Int) : Int := if n < 1 ∨ 63 < n then 0 else if n ≤ 1 then 0 else if n ≤ 3 then 1 else if n ≤ 7 then 2 else 3
def classErr (n : Int) : Int := if n < 1 then 1 else if 63 < n then 2 else 0
def runOf (n : Int) : Int := if n < 8 ∨ 63 < n then 0 else if n ≤ 15 then 1 else if n ≤ 31 then 2 else if n ≤ 47 then 3 else 4
def runErr (n : Int) : Int := if n < 1 then 1 else if 63 < n then 2 else if n ≤ 7 then 3 else 0
theorem words_at0 (w : World) (hz : Sz w) :
    Calls Tryz.prog 169 #[.int .i64 0] w fun e w' => e = .returned (.int .i64 2) ∧ w = w' := by
  obtain ⟨z0, z1, z2⟩ := hz
  go_enter Tryz.func169, Tryz.ntmps169
  go_wp2
  go_ret
  exact ⟨rfl, rfl⟩
theorem words_at1 (w : World) (hz : Sz w) :
    Calls Tryz.prog 169 #[.int .i64 1] w fun e w' => e = .returned (.int .i64 4) ∧ w = w' := by
  obtain ⟨z0, z1, z2⟩ := hz
  go_enter Tryz.func169, Tryz.ntmps169
  go_wp2
  go_ret
  exact ⟨rfl, rfl⟩
theorem words_at2 (w : World) (hz : Sz w) :
    Calls Tryz.prog 169 #[.int .i64 2] w fun e w' => e = .returned (.int .i64 8) ∧ w = w' := by
  obtain ⟨z0, z1, z2⟩ := hz
  go_enter Tryz.func169, Tryz.ntmps169
  go_wp2
  go_ret
  exact ⟨rfl, rfl⟩
theorem words_low (c : Int) (w : World) (h : c < 0) :
    Calls Tryz.prog 169 #[.int .i64 c] w fun e w' => e = .returned (.int .i64 0) ∧ w = w' := by
  go_enter Tryz.func169, Tryz.ntmps169
  go_wp2
  go_ret
  exact ⟨rfl, rfl⟩
theorem words_high (c : Int) (w : World) (h : 2 < c) :
    Calls Tryz.prog 169 #[.int .i64 c] w fun e w' => e = .returned (.int .i64 0) ∧ w = w' := by
  have d : (3 : Int) ≤ c := by omega
  have d0 : ¬ c < 0 := by omega
  go_enter Tryz.func169, Tryz.ntmps169
  go_wp2
  go_ret
  exact ⟨rfl, rfl⟩
theorem words_of (c : Int) (w : World) (hz : Sz w) :
    Calls Tryz.prog 169 #[.int .i64 c] w fun e w' => e = .returned (.int .i64 (wordsOf c)) ∧ w = w' := by
  by_cases h : c < 0 ∨ 2 < c
  · rw [wordsOf_no h]
    rcases h with h | h
    · exact words_low c w h
    · exact words_high c w h
  · have hc : c = 0 ∨ c = 1 ∨ c = 2 := by omega
    clear h
    rcases hc with rfl | rfl | rfl
    · exact words_at0 w hz
    · exact words_at1 w hz
    · exact words_at2 w hz
theorem cells_at0 (w : World) (hz : Sz w) :
    Calls Tryz.prog 168 #[.int .i64 0] w fun e w' => e = .returned (.int .i64 8) ∧ w = w' := by
  have H := Lib.hid hz
  clear hz
  go_enter Tryz.func168, Tryz.ntmps168
  go_wp2_with (go_at_call 169; (with_reducible refine (words_at0 _ H.out).mono ?_); rintro e w1 ⟨rfl, rfl⟩)
  go_ret
  exact ⟨rfl, rfl⟩
theorem cells_at1 (w : World) (hz : Sz w) :
    Calls Tryz.prog 168 #[.int .i64 1] w fun e w' => e = .returned (.int .i64 4) ∧ w = w' := by
  have H := Lib.hid hz
  clear hz
  go_enter Tryz.func168, Tryz.ntmps168
  go_wp2_with (go_at_call 169; (with_reducible refine (words_at1 _ H.out).mono ?_); rintro e w1 ⟨rfl, rfl⟩)
  go_ret
  exact ⟨rfl, rfl⟩
theorem cells_at2 (w : World) (hz : Sz w) :
    Calls Tryz.prog 168 #[.int .i64 2] w fun e w' => e = .returned (.int .i64 2) ∧ w = w' := by
  have H := Lib.hid hz
  clear hz
  go_enter Tryz.func168, Tryz.ntmps168
  go_wp2_with (go_at_call 169; (with_reducible refine (words_at2 _ H.out).mono ?_); rintro e w1 ⟨rfl, rfl⟩)
  go_ret
  exact ⟨rfl, rfl⟩
theorem cells_low (c : Int) (w : World) (h : c < 0) :
    Calls Tryz.prog 168 #[.int .i64 c] w fun e w' => e = .returned (.int .i64 0) ∧ w = w' := by
  go_enter Tryz.func168, Tryz.ntmps168
  go_wp2_with (go_at_call 169; (with_reducible refine (words_low _ _ h).mono ?_); rintro e w1 ⟨rfl, rfl⟩)
  go_ret
  exact ⟨rfl, rfl⟩
theorem cells_high (c : Int) (w : World) (h : 2 < c) :
    Calls Tryz.prog 168 #[.int .i64 c] w fun e w' => e = .returned (.int .i64 0) ∧ w = w' := by
  go_enter Tryz.func168, Tryz.ntmps168
  go_wp2_with (go_at_call 169; (with_reducible refine (words_high _ _ h).mono ?_); rintro e w1 ⟨rfl, rfl⟩)
  go_ret
  exact ⟨rfl, rfl⟩
theorem cells_of (c : Int) (w : World) (hz : Sz w) :
    Calls Tryz.prog 168 #[.int .i64 c] w fun e w' => e = .returned (.int .i64 (perPage c)) ∧ w = w' := by
  by_cases h : c < 0 ∨ 2 < c
  · rw [perPage_no h]
    rcases h with h | h
    · exact cells_low c w h
    · exact cells_high c w h
  · have hc : c = 0 ∨ c = 1 ∨ c = 2 := by omega
    clear h
    rcases hc with rfl | rfl | rfl
    · exact cells_at0 w hz
    · exact cells_at1 w hz
    · exact cells_at2 w hz
theorem of_of (n : Int) (w : World) (hz : Sz w) :
    Calls Tryz.prog 99 #[.int .i64 n] w fun e w' => e = .returned (.tuple #[.int .i64 (classOf n), .int .i64 (classErr n)]) ∧ w = w' := by
  have key : ∀ {a b : Int}, classOf n = a → classErr n = b → Calls Tryz.prog 99 #[.int .i64 n] w (fun e w' => e = .returned (.tuple #[.int .i64 a, .int .i64 b]) ∧ w = w') → Calls Tryz.prog 99 #[.int .i64 n] w (fun e w' => e = .returned (.tuple #[.int .i64 (classOf n), .int .i64 (classErr n)]) ∧ w = w') := by
    intro a b h1 h2 h3
    rw [h1, h2]
    exact h3
  by_cases c1 : n < 1
  · exact key (by simp [classOf, c1]) (by simp [classErr, c1]) (of_low n w c1)
  by_cases c2 : 63 < n
  · exact key (by simp [classOf, c2]) (by simp [classErr, c1, c2]) (of_high n w c2)
  by_cases c3 : n ≤ 1
  · exact key (by simp [classOf, c1, c2, c3]) (by simp [classErr, c1, c2]) (of_0 n w hz (by omega) c3)
  by_cases c4 : n ≤ 3
  · exact key (by simp [classOf, c1, c2, c3, c4]) (by simp [classErr, c1, c2]) (of_1 n w hz (by omega) c4)
  by_cases c5 : n ≤ 7
  · exact key (by simp [classOf, c1, c2, c3, c4, c5]) (by simp [classErr, c1, c2]) (of_2 n w hz (by omega) c5)
  exact key (by simp [classOf, c1, c2, c3, c4, c5]) (by simp [classErr, c1, c2]) (of_3 n w hz (by omega) (by omega))
theorem run_low (n : Int) (w : World) (h : n < 1) :
    Calls Tryz.prog 100 #[.int .i64 n] w fun e w' => e = .returned (.tuple #[.int .i64 0, .int .i64 1]) ∧ w = w' := by
  go_enter Tryz.func100, Tryz.ntmps100
  go_wp2_with (go_at_call 99; (with_reducible refine (of_low _ _ h).mono ?_); rintro e w1 ⟨rfl, rfl⟩)
  go_ret2
  exact ⟨rfl, rfl⟩
theorem run_high (n : Int) (w : World) (h : 63 < n) :
    Calls Tryz.prog 100 #[.int .i64 n] w fun e w' => e = .returned (.tuple #[.int .i64 0, .int .i64 2]) ∧ w = w' := by
  go_enter Tryz.func100, Tryz.ntmps100
  go_wp2_with (go_at_call 99; (with_reducible refine (of_high _ _ h).mono ?_); rintro e w1 ⟨rfl, rfl⟩)
  go_ret2
  exact ⟨rfl, rfl⟩
theorem run_s0 (n : Int) (w : World) (hz : Sz w) (h0 : 1 ≤ n) (h1 : n ≤ 1) :
    Calls Tryz.prog 100 #[.int .i64 n] w fun e w' => e = .returned (.tuple #[.int .i64 0, .int .i64 3]) ∧ w = w' := by
  have H := Lib.hid hz
  clear hz
  go_enter Tryz.func100, Tryz.ntmps100
  go_wp2_with (go_at_call 99; (with_reducible refine (of_0 _ _ H.out h0 h1).mono ?_); rintro e w1 ⟨rfl, rfl⟩)
  go_ret2
  exact ⟨rfl, rfl⟩
theorem run_s1 (n : Int) (w : World) (hz : Sz w) (h0 : 2 ≤ n) (h1 : n ≤ 3) :
    Calls Tryz.prog 100 #[.int .i64 n] w fun e w' => e = .returned (.tuple #[.int .i64 0, .int .i64 3]) ∧ w = w' := by
  have H := Lib.hid hz
  clear hz
  go_enter Tryz.func100, Tryz.ntmps100
  go_wp2_with (go_at_call 99; (with_reducible refine (of_1 _ _ H.out h0 h1).mono ?_); rintro e w1 ⟨rfl, rfl⟩)
  go_ret2
  exact ⟨rfl, rfl⟩
theorem run_s2 (n : Int) (w : World) (hz : Sz w) (h0 : 4 ≤ n) (h1 : n ≤ 7) :
    Calls Tryz.prog 100 #[.int .i64 n] w fun e w' => e = .returned (.tuple #[.int .i64 0, .int .i64 3]) ∧ w = w' := by
  have H := Lib.hid hz
  clear hz
  go_enter Tryz.func100, Tryz.ntmps100
  go_wp2_with (go_at_call 99; (with_reducible refine (of_2 _ _ H.out h0 h1).mono ?_); rintro e w1 ⟨rfl, rfl⟩)
  go_ret2
  exact ⟨rfl, rfl⟩
theorem run_1part (n : Int) (w : World) (hz : Sz w) (h0 : 8 ≤ n) (h1 : n ≤ 14) :
    Calls Tryz.prog 100 #[.int .i64 n] w fun e w' => e = .returned (.tuple #[.int .i64 1, .int .i64 0]) ∧ w = w' := by
  have H := Lib.hid hz
  clear hz
  have q : (1 + n) / 16 = 0 := by omega
  have r : 0 < (1 + n) % 16 := by omega
  go_enter Tryz.func100, Tryz.ntmps100
  go_wp2_with (first | ((go_at_call 99; (with_reducible refine (of_3 _ _ H.out (by omega) (by omega)).mono ?_); rintro e w1 ⟨rfl, rfl⟩)) | ((go_at_call 132; (with_reducible refine (words_any _ _ (by omega) (by omega)).mono ?_); rintro e w1 ⟨rfl, rfl⟩)))
  go_ret2
  exact ⟨rfl, rfl⟩
theorem run_1full (w : World) (hz : Sz w) :
    Calls Tryz.prog 100 #[.int .i64 15] w fun e w' => e = .returned (.tuple #[.int .i64 1, .int .i64 0]) ∧ w = w' := by
  have H := Lib.hid hz
  clear hz
  go_enter Tryz.func100, Tryz.ntmps100
  go_wp2_with (first | ((go_at_call 99; (with_reducible refine (of_3 _ _ H.out (by omega) (by omega)).mono ?_); rintro e w1 ⟨rfl, rfl⟩)) | ((go_at_call 132; (with_reducible refine (words_any _ _ (by omega) (by omega)).mono ?_); rintro e w1 ⟨rfl, rfl⟩)))
  go_ret2
  exact ⟨rfl, rfl⟩
theorem run_1 (n : Int) (w : World) (hz : Sz w) (h0 : 8 ≤ n) (h1 : n ≤ 15) :
    Calls Tryz.prog 100 #[.int .i64 n] w fun e w' => e = .returned (.tuple #[.int .i64 1, .int .i64 0]) ∧ w = w' := by
  by_cases h : n = 15
  · subst h
    exact run_1full w hz
  · exact run_1part n w hz h0 (by omega)
theorem run_2part (n : Int) (w : World) (hz : Sz w) (h0 : 16 ≤ n) (h1 : n ≤ 30) :
    Calls Tryz.prog 100 #[.int .i64 n] w fun e w' => e = .returned (.tuple #[.int .i64 2, .int .i64 0]) ∧ w = w' := by
  have H := Lib.hid hz
  clear hz
  have q : (1 + n) / 16 = 1 := by omega
  have r : 0 < (1 + n) % 16 := by omega
  go_enter Tryz.func100, Tryz.ntmps100
  go_wp2_with (first | ((go_at_call 99; (with_reducible refine (of_3 _ _ H.out (by omega) (by omega)).mono ?_); rintro e w1 ⟨rfl, rfl⟩)) | ((go_at_call 132; (with_reducible refine (words_any _ _ (by omega) (by omega)).mono ?_); rintro e w1 ⟨rfl, rfl⟩)))
  go_ret2
  exact ⟨rfl, rfl⟩
theorem run_2full (w : World) (hz : Sz w) :
    Calls Tryz.prog 100 #[.int .i64 31] w fun e w' => e = .returned (.tuple #[.int .i64 2, .int .i64 0]) ∧ w = w' := by
  have H := Lib.hid hz
  clear hz
  go_enter Tryz.func100, Tryz.ntmps100
  go_wp2_with (first | ((go_at_call 99; (with_reducible refine (of_3 _ _ H.out (by omega) (by omega)).mono ?_); rintro e w1 ⟨rfl, rfl⟩)) | ((go_at_call 132; (with_reducible refine (words_any _ _ (by omega) (by omega)).mono ?_); rintro e w1 ⟨rfl, rfl⟩)))
  go_ret2
  exact ⟨rfl, rfl⟩
theorem run_2 (n : Int) (w : World) (hz : Sz w) (h0 : 16 ≤ n) (h1 : n ≤ 31) :
    Calls Tryz.prog 100 #[.int .i64 n] w fun e w' => e = .returned (.tuple #[.int .i64 2, .int .i64 0]) ∧ w = w' := by
  by_cases h : n = 31
  · subst h
    exact run_2full w hz
  · exact run_2part n w hz h0 (by omega)
theorem run_3part (n : Int) (w : World) (hz : Sz w) (h0 : 32 ≤ n) (h1 : n ≤ 46) :
    Calls Tryz.prog 100 #[.int .i64 n] w fun e w' => e = .returned (.tuple #[.int .i64 3, .int .i64 0]) ∧ w = w' := by
  have H := Lib.hid hz
  clear hz
  have q : (1 + n) / 16 = 2 := by omega
  have r : 0 < (1 + n) % 16 := by omega
  go_enter Tryz.func100, Tryz.ntmps100
  go_wp2_with (first | ((go_at_call 99; (with_reducible refine (of_3 _ _ H.out (by omega) (by omega)).mono ?_); rintro e w1 ⟨rfl, rfl⟩)) | ((go_at_call 132; (with_reducible refine (words_any _ _ (by omega) (by omega)).mono ?_); rintro e w1 ⟨rfl, rfl⟩)))
  go_ret2
  exact ⟨rfl, rfl⟩
theorem run_3full (w : World) (hz : Sz w) :
    Calls Tryz.prog 100 #[.int .i64 47] w fun e w' => e = .returned (.tuple #[.int .i64 3, .int .i64 0]) ∧ w = w' := by
  have H := Lib.hid hz
  clear hz
  go_enter Tryz.func100, Tryz.ntmps100
  go_wp2_with (first | ((go_at_call 99; (with_reducible refine (of_3 _ _ H.out (by omega) (by omega)).mono ?_); rintro e w1 ⟨rfl, rfl⟩)) | ((go_at_call 132; (with_reducible refine (words_any _ _ (by omega) (by omega)).mono ?_); rintro e w1 ⟨rfl, rfl⟩)))
  go_ret2
  exact ⟨rfl, rfl⟩
theorem run_3 (n : Int) (w : World) (hz : Sz w) (h0 : 32 ≤ n) (h1 : n ≤ 47) :
    Calls Tryz.prog 100 #[.int .i64 n] w fun e w' => e = .returned (.tuple #[.int .i64 3, .int .i64 0]) ∧ w = w' := by
  by_cases h : n = 47
  · subst h
    exact run_3full w hz
  · exact run_3part n w hz h0 (by omega)
theorem run_4part (n : Int) (w : World) (hz : Sz w) (h0 : 48 ≤ n) (h1 : n ≤ 62) :
    Calls Tryz.prog 100 #[.int .i64 n] w fun e w' => e = .returned (.tuple #[.int .i64 4, .int .i64 0]) ∧ w = w' := by
  have H := Lib.hid hz
  clear hz
  have q : (1 + n) / 16 = 3 := by omega
  have r : 0 < (1 + n) % 16 := by omega
  go_enter Tryz.func100, Tryz.ntmps100
  go_wp2_with (first | ((go_at_call 99; (with_reducible refine (of_3 _ _ H.out (by omega) (by omega)).mono ?_); rintro e w1 ⟨rfl, rfl⟩)) | ((go_at_call 132; (with_reducible refine (words_any _ _ (by omega) (by omega)).mono ?_); rintro e w1 ⟨rfl, rfl⟩)))
  go_ret2
  exact ⟨rfl, rfl⟩
theorem run_4full (w : World) (hz : Sz w) :
    Calls Tryz.prog 100 #[.int .i64 63] w fun e w' => e = .returned (.tuple #[.int .i64 4, .int .i64 0]) ∧ w = w' := by
  have H := Lib.hid hz
  clear hz
  go_enter Tryz.func100, Tryz.ntmps100
  go_wp2_with (first | ((go_at_call 99; (with_reducible refine (of_3 _ _ H.out (by omega) (by omega)).mono ?_); rintro e w1 ⟨rfl, rfl⟩)) | ((go_at_call 132; (with_reducible refine (words_any _ _ (by omega) (by omega)).mono ?_); rintro e w1 ⟨rfl, rfl⟩)))
  go_ret2
  exact ⟨rfl, rfl⟩
theorem run_4 (n : Int) (w : World) (hz : Sz w) (h0 : 48 ≤ n) (h1 : n ≤ 63) :
    Calls Tryz.prog 100 #[.int .i64 n] w fun e w' => e = .returned (.tuple #[.int .i64 4, .int .i64 0]) ∧ w = w' := by
  by_cases h : n = 63
  · subst h
    exact run_4full w hz
  · exact run_4part n w hz h0 (by omega)
theorem run_of (n : Int) (w : World) (hz : Sz w) :
    Calls Tryz.prog 100 #[.int .i64 n] w fun e w' => e = .returned (.tuple #[.int .i64 (runOf n), .int .i64 (runErr n)]) ∧ w = w' := by
  have key : ∀ {a b : Int}, runOf n = a → runErr n = b → Calls Tryz.prog 100 #[.int .i64 n] w (fun e w' => e = .returned (.tuple #[.int .i64 a, .int .i64 b]) ∧ w = w') → Calls Tryz.prog 100 #[.int .i64 n] w (fun e w' => e = .returned (.tuple #[.int .i64 (runOf n), .int .i64 (runErr n)]) ∧ w = w') := by
    intro a b h1 h2 h3
    rw [h1, h2]
    exact h3
  by_cases c1 : n < 1
  · exact key (by unfold runOf; rw [if_pos (by omega)]) (by unfold runErr; rw [if_pos (by omega)]) (run_low n w c1)
  by_cases c2 : 63 < n
  · exact key (by unfold runOf; rw [if_pos (by omega)]) (by unfold runErr; rw [if_neg (by omega), if_pos (by omega)]) (run_high n w c2)
  by_cases d0 : n ≤ 1
  · exact key (by unfold runOf; rw [if_pos (by omega)]) (by unfold runErr; rw [if_neg (by omega), if_neg (by omega), if_pos (by omega)]) (run_s0 n w hz (by omega) d0)
  by_cases d1 : n ≤ 3
  · exact key (by unfold runOf; rw [if_pos (by omega)]) (by unfold runErr; rw [if_neg (by omega), if_neg (by omega), if_pos (by omega)]) (run_s1 n w hz (by omega) d1)
  by_cases d2 : n ≤ 7
  · exact key (by unfold runOf; rw [if_pos (by omega)]) (by unfold runErr; rw [if_neg (by omega), if_neg (by omega), if_pos (by omega)]) (run_s2 n w hz (by omega) d2)
  by_cases e1 : n ≤ 15
  · exact key (by unfold runOf; rw [if_neg (by omega), if_pos (by omega)]) (by unfold runErr; rw [if_neg (by omega), if_neg (by omega), if_neg (by omega)]) (run_1 n w hz (by omega) e1)
  by_cases e2 : n ≤ 31
  · exact key (by unfold runOf; rw [if_neg (by omega), if_neg (by omega), if_pos (by omega)]) (by unfold runErr; rw [if_neg (by omega), if_neg (by omega), if_neg (by omega)]) (run_2 n w hz (by omega) e2)
  by_cases e3 : n ≤ 47
  · exact key (by unfold runOf; rw [if_neg (by omega), if_neg (by omega), if_neg (by omega), if_pos (by omega)]) (by unfold runErr; rw [if_neg (by omega), if_neg (by omega), if_neg (by omega)]) (run_3 n w hz (by omega) e3)
  exact key (by unfold runOf; rw [if_neg (by omega), if_neg (by omega), if_neg (by omega), if_neg (by omega)]) (by unfold runErr; rw [if_neg (by omega), if_neg (by omega), if_neg (by omega)]) (run_4 n w hz (by omega) (by omega))
end Go.Proofs.YtccjelpfmkbmiaaGreatDoor.Cl
end
section
namespace Go.Proofs.YtccjelpfmkbmiaaGreatDoor.Cl
open Go.Proofs.YtccjelpfmkbmiaaGreatDoor
set_option maxRecDepth 100000
open Go.RowKit

theorem rwords_at0 (w : World) :
    Calls Tryz.prog 124 #[.int .i64 0] w fun e w' => e = .returned (.int .i64 2) ∧ w = w' := by
  go_enter Tryz.func124, Tryz.ntmps124
  go_wp2
  go_ret
  exact ⟨rfl, rfl⟩
theorem rwords_at1 (w : World) :
    Calls Tryz.prog 124 #[.int .i64 1] w fun e w' => e = .returned (.int .i64 4) ∧ w = w' := by
  go_enter Tryz.func124, Tryz.ntmps124
  go_wp2
  go_ret
  exact ⟨rfl, rfl⟩
theorem rwords_at2 (w : World) :
    Calls Tryz.prog 124 #[.int .i64 2] w fun e w' => e = .returned (.int .i64 8) ∧ w = w' := by
  go_enter Tryz.func124, Tryz.ntmps124
  go_wp2
  go_ret
  exact ⟨rfl, rfl⟩
theorem rwords_low (c : Int) (w : World) (h : c < 0) :
    Calls Tryz.prog 124 #[.int .i64 c] w fun e w' => e = .returned (.int .i64 0) ∧ w = w' := by
  have b0 : (c == 0) = false := by simp; omega
  have b1 : (c == 1) = false := by simp; omega
  have b2 : (c == 2) = false := by simp; omega
  go_enter Tryz.func124, Tryz.ntmps124
  go_wp2
  go_ret
  exact ⟨rfl, rfl⟩
theorem rwords_high (c : Int) (w : World) (h : 2 < c) :
    Calls Tryz.prog 124 #[.int .i64 c] w fun e w' => e = .returned (.int .i64 0) ∧ w = w' := by
  have b0 : (c == 0) = false := by simp; omega
  have b1 : (c == 1) = false := by simp; omega
  have b2 : (c == 2) = false := by simp; omega
  go_enter Tryz.func124, Tryz.ntmps124
  go_wp2
  go_ret
  exact ⟨rfl, rfl⟩
theorem rwords_of (c : Int) (w : World) :
    Calls Tryz.prog 124 #[.int .i64 c] w fun e w' => e = .returned (.int .i64 (wordsOf c)) ∧ w = w' := by
  by_cases h : c < 0 ∨ 2 < c
  · rw [wordsOf_no h]
    rcases h with h | h
    · exact rwords_low c w h
    · exact rwords_high c w h
  · have hc : c = 0 ∨ c = 1 ∨ c = 2 := by omega
    clear h
    rcases hc with rfl | rfl | rfl
    · exact rwords_at0 w
    · exact rwords_at1 w
    · exact rwords_at2 w
theorem rof_low (n : Int) (w : World) (h : n < 1) :
    Calls Tryz.prog 140 #[.int .i64 n] w fun e w' => e = .returned (.tuple #[.int .i64 0, .int .i64 1]) ∧ w = w' := by
  go_enter Tryz.func140, Tryz.ntmps140
  go_wp2
  go_ret2
  exact ⟨rfl, rfl⟩
theorem rof_high (n : Int) (w : World) (h : 63 < n) :
    Calls Tryz.prog 140 #[.int .i64 n] w fun e w' => e = .returned (.tuple #[.int .i64 0, .int .i64 2]) ∧ w = w' := by
  go_enter Tryz.func140, Tryz.ntmps140
  go_wp2
  go_ret2
  exact ⟨rfl, rfl⟩
theorem rof_0 (n : Int) (w : World) (h0 : 1 ≤ n) (h1 : n ≤ 1) :
    Calls Tryz.prog 140 #[.int .i64 n] w fun e w' => e = .returned (.tuple #[.int .i64 0, .int .i64 0]) ∧ w = w' := by
  have d1 : decide (n < 1) = false := by simp; omega
  have d2 : decide (63 < n) = false := by simp; omega
  go_enter Tryz.func140, Tryz.ntmps140
  go_wp2
  go_loop [4] (fun i => ∃ k : Nat, k ≤ 0 ∧ i = .int .i64 k) (fun i => 3 - (intOf i).toNat)
  case atStart => exact ⟨0, by omega, rfl⟩
  case round =>
    obtain ⟨k, hk, rfl⟩ := hrel
    have hc : k = 0 := by omega
    clear hk
    subst hc
    · have t : decide (n + 1 ≤ (2 : Int)) = true := by simp; omega
      go_wp2_with (go_at_call 124; (with_reducible refine (rwords_at0 _).mono ?_); rintro e w1 ⟨rfl, rfl⟩)
      go_ret2
      exact ⟨rfl, rfl⟩
theorem rof_1 (n : Int) (w : World) (h0 : 2 ≤ n) (h1 : n ≤ 3) :
    Calls Tryz.prog 140 #[.int .i64 n] w fun e w' => e = .returned (.tuple #[.int .i64 1, .int .i64 0]) ∧ w = w' := by
  have d1 : decide (n < 1) = false := by simp; omega
  have d2 : decide (63 < n) = false := by simp; omega
  go_enter Tryz.func140, Tryz.ntmps140
  go_wp2
  go_loop [4] (fun i => ∃ k : Nat, k ≤ 1 ∧ i = .int .i64 k) (fun i => 3 - (intOf i).toNat)
  case atStart => exact ⟨0, by omega, rfl⟩
  case round =>
    obtain ⟨k, hk, rfl⟩ := hrel
    have hc : k = 0 ∨ k = 1 := by omega
    clear hk
    rcases hc with rfl | rfl
    · have t : decide (n + 1 ≤ (2 : Int)) = false := by simp; omega
      go_wp2_with (go_at_call 124; (with_reducible refine (rwords_at0 _).mono ?_); rintro e w1 ⟨rfl, rfl⟩)
      go_round
      case rel => exact ⟨1, by omega, by go_num⟩
      case measure => simp [intOf]
    · have t : decide (n + 1 ≤ (4 : Int)) = true := by simp; omega
      go_wp2_with (go_at_call 124; (with_reducible refine (rwords_at1 _).mono ?_); rintro e w1 ⟨rfl, rfl⟩)
      go_ret2
      exact ⟨rfl, rfl⟩
theorem rof_2 (n : Int) (w : World) (h0 : 4 ≤ n) (h1 : n ≤ 7) :
    Calls Tryz.prog 140 #[.int .i64 n] w fun e w' => e = .returned (.tuple #[.int .i64 2, .int .i64 0]) ∧ w = w' := by
  have d1 : decide (n < 1) = false := by simp; omega
  have d2 : decide (63 < n) = false := by simp; omega
  go_enter Tryz.func140, Tryz.ntmps140
  go_wp2
  go_loop [4] (fun i => ∃ k : Nat, k ≤ 2 ∧ i = .int .i64 k) (fun i => 3 - (intOf i).toNat)
  case atStart => exact ⟨0, by omega, rfl⟩
  case round =>
    obtain ⟨k, hk, rfl⟩ := hrel
    have hc : k = 0 ∨ k = 1 ∨ k = 2 := by omega
    clear hk
    rcases hc with rfl | rfl | rfl
    · have t : decide (n + 1 ≤ (2 : Int)) = false := by simp; omega
      go_wp2_with (go_at_call 124; (with_reducible refine (rwords_at0 _).mono ?_); rintro e w1 ⟨rfl, rfl⟩)
      go_round
      case rel => exact ⟨1, by omega, by go_num⟩
      case measure => simp [intOf]
    · have t : decide (n + 1 ≤ (4 : Int)) = false := by simp; omega
      go_wp2_with (go_at_call 124; (with_reducible refine (rwords_at1 _).mono ?_); rintro e w1 ⟨rfl, rfl⟩)
      go_round
      case rel => exact ⟨2, by omega, by go_num⟩
      case measure => simp [intOf]
    · have t : decide (n + 1 ≤ (8 : Int)) = true := by simp; omega
      go_wp2_with (go_at_call 124; (with_reducible refine (rwords_at2 _).mono ?_); rintro e w1 ⟨rfl, rfl⟩)
      go_ret2
      exact ⟨rfl, rfl⟩
theorem rof_3 (n : Int) (w : World) (h0 : 8 ≤ n) (h1 : n ≤ 63) :
    Calls Tryz.prog 140 #[.int .i64 n] w fun e w' => e = .returned (.tuple #[.int .i64 3, .int .i64 0]) ∧ w = w' := by
  have d1 : decide (n < 1) = false := by simp; omega
  have d2 : decide (63 < n) = false := by simp; omega
  go_enter Tryz.func140, Tryz.ntmps140
  go_wp2
  go_loop [4] (fun i => ∃ k : Nat, k ≤ 3 ∧ i = .int .i64 k) (fun i => 3 - (intOf i).toNat)
  case atStart => exact ⟨0, by omega, rfl⟩
  case round =>
    obtain ⟨k, hk, rfl⟩ := hrel
    have hc : k = 0 ∨ k = 1 ∨ k = 2 ∨ k = 3 := by omega
    clear hk
    rcases hc with rfl | rfl | rfl | rfl
    · have t : decide (n + 1 ≤ (2 : Int)) = false := by simp; omega
      go_wp2_with (go_at_call 124; (with_reducible refine (rwords_at0 _).mono ?_); rintro e w1 ⟨rfl, rfl⟩)
      go_round
      case rel => exact ⟨1, by omega, by go_num⟩
      case measure => simp [intOf]
    · have t : decide (n + 1 ≤ (4 : Int)) = false := by simp; omega
      go_wp2_with (go_at_call 124; (with_reducible refine (rwords_at1 _).mono ?_); rintro e w1 ⟨rfl, rfl⟩)
      go_round
      case rel => exact ⟨2, by omega, by go_num⟩
      case measure => simp [intOf]
    · have t : decide (n + 1 ≤ (8 : Int)) = false := by simp; omega
      go_wp2_with (go_at_call 124; (with_reducible refine (rwords_at2 _).mono ?_); rintro e w1 ⟨rfl, rfl⟩)
      go_round
      case rel => exact ⟨3, by omega, by go_num⟩
      case measure => simp [intOf]
    · go_wp2
      go_ret2
      exact ⟨rfl, rfl⟩
theorem rof_of (n : Int) (w : World) :
    Calls Tryz.prog 140 #[.int .i64 n] w fun e w' => e = .returned (.tuple #[.int .i64 (classOf n), .int .i64 (classErr n)]) ∧ w = w' := by
  have key : ∀ {a b : Int}, classOf n = a → classErr n = b → Calls Tryz.prog 140 #[.int .i64 n] w (fun e w' => e = .returned (.tuple #[.int .i64 a, .int .i64 b]) ∧ w = w') → Calls Tryz.prog 140 #[.int .i64 n] w (fun e w' => e = .returned (.tuple #[.int .i64 (classOf n), .int .i64 (classErr n)]) ∧ w = w') := by
    intro a b h1 h2 h3
    rw [h1, h2]
    exact h3
  by_cases c1 : n < 1
  · exact key (by simp [classOf, c1]) (by simp [classErr, c1]) (rof_low n w c1)
  by_cases c2 : 63 < n
  · exact key (by simp [classOf, c2]) (by simp [classErr, c1, c2]) (rof_high n w c2)
  by_cases c3 : n ≤ 1
  · exact key (by simp [classOf, c1, c2, c3]) (by simp [classErr, c1, c2]) (rof_0 n w (by omega) c3)
  by_cases c4 : n ≤ 3
  · exact key (by simp [classOf, c1, c2, c3, c4]) (by simp [classErr, c1, c2]) (rof_1 n w (by omega) c4)
  by_cases c5 : n ≤ 7
  · exact key (by simp [classOf, c1, c2, c3, c4, c5]) (by simp [classErr, c1, c2]) (rof_2 n w (by omega) c5)
  exact key (by simp [classOf, c1, c2, c3, c4, c5]) (by simp [classErr, c1, c2]) (rof_3 n w (by omega) (by omega))
theorem rrun_low (n : Int) (w : World) (h : n < 1) :
    Calls Tryz.prog 141 #[.int .i64 n] w fun e w' => e = .returned (.tuple #[.int .i64 0, .int .i64 1]) ∧ w = w' := by
  go_enter Tryz.func141, Tryz.ntmps141
  go_wp2_with (go_at_call 140; (with_reducible refine (rof_low _ _ h).mono ?_); rintro e w1 ⟨rfl, rfl⟩)
  go_ret2
  exact ⟨rfl, rfl⟩
theorem rrun_high (n : Int) (w : World) (h : 63 < n) :
    Calls Tryz.prog 141 #[.int .i64 n] w fun e w' => e = .returned (.tuple #[.int .i64 0, .int .i64 2]) ∧ w = w' := by
  go_enter Tryz.func141, Tryz.ntmps141
  go_wp2_with (go_at_call 140; (with_reducible refine (rof_high _ _ h).mono ?_); rintro e w1 ⟨rfl, rfl⟩)
  go_ret2
  exact ⟨rfl, rfl⟩
theorem rrun_s0 (n : Int) (w : World) (h0 : 1 ≤ n) (h1 : n ≤ 1) :
    Calls Tryz.prog 141 #[.int .i64 n] w fun e w' => e = .returned (.tuple #[.int .i64 0, .int .i64 3]) ∧ w = w' := by
  go_enter Tryz.func141, Tryz.ntmps141
  go_wp2_with (go_at_call 140; (with_reducible refine (rof_0 _ _ h0 h1).mono ?_); rintro e w1 ⟨rfl, rfl⟩)
  go_ret2
  exact ⟨rfl, rfl⟩
theorem rrun_s1 (n : Int) (w : World) (h0 : 2 ≤ n) (h1 : n ≤ 3) :
    Calls Tryz.prog 141 #[.int .i64 n] w fun e w' => e = .returned (.tuple #[.int .i64 0, .int .i64 3]) ∧ w = w' := by
  go_enter Tryz.func141, Tryz.ntmps141
  go_wp2_with (go_at_call 140; (with_reducible refine (rof_1 _ _ h0 h1).mono ?_); rintro e w1 ⟨rfl, rfl⟩)
  go_ret2
  exact ⟨rfl, rfl⟩
theorem rrun_s2 (n : Int) (w : World) (h0 : 4 ≤ n) (h1 : n ≤ 7) :
    Calls Tryz.prog 141 #[.int .i64 n] w fun e w' => e = .returned (.tuple #[.int .i64 0, .int .i64 3]) ∧ w = w' := by
  go_enter Tryz.func141, Tryz.ntmps141
  go_wp2_with (go_at_call 140; (with_reducible refine (rof_2 _ _ h0 h1).mono ?_); rintro e w1 ⟨rfl, rfl⟩)
  go_ret2
  exact ⟨rfl, rfl⟩
theorem rrun_1 (n : Int) (w : World) (h0 : 8 ≤ n) (h1 : n ≤ 15) :
    Calls Tryz.prog 141 #[.int .i64 n] w fun e w' => e = .returned (.tuple #[.int .i64 1, .int .i64 0]) ∧ w = w' := by
  go_enter Tryz.func141, Tryz.ntmps141
  go_wp2_with (go_at_call 140; (with_reducible refine (rof_3 _ _ (by omega) (by omega)).mono ?_); rintro e w1 ⟨rfl, rfl⟩)
  go_loop [6] (fun i => ∃ k : Nat, k ≤ 1 ∧ i = .int .i64 k) (fun i => 4 - (intOf i).toNat)
  case atStart => exact ⟨0, by omega, rfl⟩
  case round =>
    obtain ⟨k, hk, rfl⟩ := hrel
    have hc : k = 0 ∨ k = 1 := by omega
    clear hk
    rcases hc with rfl | rfl
    · have t : decide ((0 : Int) < n + 1) = true := by simp; omega
      go_wp2
      go_round
      case rel => exact ⟨1, by omega, by go_num⟩
      case measure => simp [intOf]
    · have t : decide ((16 : Int) < n + 1) = false := by simp; omega
      go_wp2
      go_ret2
      exact ⟨rfl, rfl⟩
theorem rrun_2 (n : Int) (w : World) (h0 : 16 ≤ n) (h1 : n ≤ 31) :
    Calls Tryz.prog 141 #[.int .i64 n] w fun e w' => e = .returned (.tuple #[.int .i64 2, .int .i64 0]) ∧ w = w' := by
  go_enter Tryz.func141, Tryz.ntmps141
  go_wp2_with (go_at_call 140; (with_reducible refine (rof_3 _ _ (by omega) (by omega)).mono ?_); rintro e w1 ⟨rfl, rfl⟩)
  go_loop [6] (fun i => ∃ k : Nat, k ≤ 2 ∧ i = .int .i64 k) (fun i => 4 - (intOf i).toNat)
  case atStart => exact ⟨0, by omega, rfl⟩
  case round =>
    obtain ⟨k, hk, rfl⟩ := hrel
    have hc : k = 0 ∨ k = 1 ∨ k = 2 := by omega
    clear hk
    rcases hc with rfl | rfl | rfl
    · have t : decide ((0 : Int) < n + 1) = true := by simp; omega
      go_wp2
      go_round
      case rel => exact ⟨1, by omega, by go_num⟩
      case measure => simp [intOf]
    · have t : decide ((16 : Int) < n + 1) = true := by simp; omega
      go_wp2
      go_round
      case rel => exact ⟨2, by omega, by go_num⟩
      case measure => simp [intOf]
    · have t : decide ((32 : Int) < n + 1) = false := by simp; omega
      go_wp2
      go_ret2
      exact ⟨rfl, rfl⟩
theorem rrun_3 (n : Int) (w : World) (h0 : 32 ≤ n) (h1 : n ≤ 47) :
    Calls Tryz.prog 141 #[.int .i64 n] w fun e w' => e = .returned (.tuple #[.int .i64 3, .int .i64 0]) ∧ w = w' := by
  go_enter Tryz.func141, Tryz.ntmps141
  go_wp2_with (go_at_call 140; (with_reducible refine (rof_3 _ _ (by omega) (by omega)).mono ?_); rintro e w1 ⟨rfl, rfl⟩)
  go_loop [6] (fun i => ∃ k : Nat, k ≤ 3 ∧ i = .int .i64 k) (fun i => 4 - (intOf i).toNat)
  case atStart => exact ⟨0, by omega, rfl⟩
  case round =>
    obtain ⟨k, hk, rfl⟩ := hrel
    have hc : k = 0 ∨ k = 1 ∨ k = 2 ∨ k = 3 := by omega
    clear hk
    rcases hc with rfl | rfl | rfl | rfl
    · have t : decide ((0 : Int) < n + 1) = true := by simp; omega
      go_wp2
      go_round
      case rel => exact ⟨1, by omega, by go_num⟩
      case measure => simp [intOf]
    · have t : decide ((16 : Int) < n + 1) = true := by simp; omega
      go_wp2
      go_round
      case rel => exact ⟨2, by omega, by go_num⟩
      case measure => simp [intOf]
    · have t : decide ((32 : Int) < n + 1) = true := by simp; omega
      go_wp2
      go_round
      case rel => exact ⟨3, by omega, by go_num⟩
      case measure => simp [intOf]
    · have t : decide ((48 : Int) < n + 1) = false := by simp; omega
      go_wp2
      go_ret2
      exact ⟨rfl, rfl⟩
theorem rrun_4 (n : Int) (w : World) (h0 : 48 ≤ n) (h1 : n ≤ 63) :
    Calls Tryz.prog 141 #[.int .i64 n] w fun e w' => e = .returned (.tuple #[.int .i64 4, .int .i64 0]) ∧ w = w' := by
  go_enter Tryz.func141, Tryz.ntmps141
  go_wp2_with (go_at_call 140; (with_reducible refine (rof_3 _ _ (by omega) (by omega)).mono ?_); rintro e w1 ⟨rfl, rfl⟩)
  go_loop [6] (fun i => ∃ k : Nat, k ≤ 4 ∧ i = .int .i64 k) (fun i => 4 - (intOf i).toNat)
  case atStart => exact ⟨0, by omega, rfl⟩
  case round =>
    obtain ⟨k, hk, rfl⟩ := hrel
    have hc : k = 0 ∨ k = 1 ∨ k = 2 ∨ k = 3 ∨ k = 4 := by omega
    clear hk
    rcases hc with rfl | rfl | rfl | rfl | rfl
    · have t : decide ((0 : Int) < n + 1) = true := by simp; omega
      go_wp2
      go_round
      case rel => exact ⟨1, by omega, by go_num⟩
      case measure => simp [intOf]
    · have t : decide ((16 : Int) < n + 1) = true := by simp; omega
      go_wp2
      go_round
      case rel => exact ⟨2, by omega, by go_num⟩
      case measure => simp [intOf]
    · have t : decide ((32 : Int) < n + 1) = true := by simp; omega
      go_wp2
      go_round
      case rel => exact ⟨3, by omega, by go_num⟩
      case measure => simp [intOf]
    · have t : decide ((48 : Int) < n + 1) = true := by simp; omega
      go_wp2
      go_round
      case rel => exact ⟨4, by omega, by go_num⟩
      case measure => simp [intOf]
    · have t : decide ((64 : Int) < n + 1) = false := by simp; omega
      go_wp2
      go_ret2
      exact ⟨rfl, rfl⟩
theorem rrun_of (n : Int) (w : World) :
    Calls Tryz.prog 141 #[.int .i64 n] w fun e w' => e = .returned (.tuple #[.int .i64 (runOf n), .int .i64 (runErr n)]) ∧ w = w' := by
  have key : ∀ {a b : Int}, runOf n = a → runErr n = b → Calls Tryz.prog 141 #[.int .i64 n] w (fun e w' => e = .returned (.tuple #[.int .i64 a, .int .i64 b]) ∧ w = w') → Calls Tryz.prog 141 #[.int .i64 n] w (fun e w' => e = .returned (.tuple #[.int .i64 (runOf n), .int .i64 (runErr n)]) ∧ w = w') := by
    intro a b h1 h2 h3
    rw [h1, h2]
    exact h3
  by_cases c1 : n < 1
  · exact key (by unfold runOf; rw [if_pos (by omega)]) (by unfold runErr; rw [if_pos (by omega)]) (rrun_low n w c1)
  by_cases c2 : 63 < n
  · exact key (by unfold runOf; rw [if_pos (by omega)]) (by unfold runErr; rw [if_neg (by omega), if_pos (by omega)]) (rrun_high n w c2)
  by_cases d0 : n ≤ 1
  · exact key (by unfold runOf; rw [if_pos (by omega)]) (by unfold runErr; rw [if_neg (by omega), if_neg (by omega), if_pos (by omega)]) (rrun_s0 n w (by omega) d0)
  by_cases d1 : n ≤ 3
  · exact key (by unfold runOf; rw [if_pos (by omega)]) (by unfold runErr; rw [if_neg (by omega), if_neg (by omega), if_pos (by omega)]) (rrun_s1 n w (by omega) d1)
  by_cases d2 : n ≤ 7
  · exact key (by unfold runOf; rw [if_pos (by omega)]) (by unfold runErr; rw [if_neg (by omega), if_neg (by omega), if_pos (by omega)]) (rrun_s2 n w (by omega) d2)
  by_cases e1 : n ≤ 15
  · exact key (by unfold runOf; rw [if_neg (by omega), if_pos (by omega)]) (by unfold runErr; rw [if_neg (by omega), if_neg (by omega), if_neg (by omega)]) (rrun_1 n w (by omega) e1)
  by_cases e2 : n ≤ 31
  · exact key (by unfold runOf; rw [if_neg (by omega), if_neg (by omega), if_pos (by omega)]) (by unfold runErr; rw [if_neg (by omega), if_neg (by omega), if_neg (by omega)]) (rrun_2 n w (by omega) e2)
  by_cases e3 : n ≤ 47
  · exact key (by unfold runOf; rw [if_neg (by omega), if_neg (by omega), if_neg (by omega), if_pos (by omega)]) (by unfold runErr; rw [if_neg (by omega), if_neg (by omega), if_neg (by omega)]) (rrun_3 n w (by omega) e3)
  exact key (by unfold runOf; rw [if_neg (by omega), if_neg (by omega), if_neg (by omega), if_neg (by omega)]) (by unfold runErr; rw [if_neg (by omega), if_neg (by omega), if_neg (by omega)]) (rrun_4 n w (by omega) (by omega))
end Go.Proofs.YtccjelpfmkbmiaaGreatDoor.Cl
end
section
namespace Go.Proofs.YtccjelpfmkbmiaaGreatDoor
open Go.RowKit
set_option maxRecDepth 100000

/-- The box of a heap. -/
structure HBox (W : World) (b : Nat) (s : Hs) : Prop where
  c0 : W.cell? ⟨b, 0, none⟩ = some (.slice s.w.a s.w.n s.w.c)
  c1 : W.cell? ⟨b, 1, none⟩ = some (.slice s.p.a s.p.n s.p.c)
  c2 : W.cell? ⟨b, 2, none⟩ = some (.slice (s.u 0).a (s.u 0).n (s.u 0).c)
  c3 : W.cell? ⟨b, 3, none⟩ = some (.slice (s.u 1).a (s.u 1).n (s.u 1).c)
  c4 : W.cell? ⟨b, 4, none⟩ = some (.slice (s.u 2).a (s.u 2).n (s.u 2).c)
  c5 : W.cell? ⟨b, 5, none⟩ = some (.slice s.c.a s.c.n s.c.c)
  lt : b < W.heap.size
theorem HBox.new (w : World) (s : Hs) (t : TypeId) : HBox (w.alloc (.cells #[.slice s.w.a s.w.n s.w.c, .slice s.p.a s.p.n s.p.c, .slice (s.u 0).a (s.u 0).n (s.u 0).c, .slice (s.u 1).a (s.u 1).n (s.u 1).c, .slice (s.u 2).a (s.u 2).n (s.u 2).c, .slice s.c.a s.c.n s.c.c] t)) w.heap.size s := by
  refine ⟨?_, ?_, ?_, ?_, ?_, ?_, by simp⟩ <;> simp [go_sem]
theorem HBox.next {W W' : World} {b : Nat} {s : Hs} (h : HBox W b s) (hb : Below W.heap.size W W') : HBox W' b s :=
  ⟨(hb.cell (p := ⟨b, 0, none⟩) h.lt).trans h.c0, (hb.cell (p := ⟨b, 1, none⟩) h.lt).trans h.c1, (hb.cell (p := ⟨b, 2, none⟩) h.lt).trans h.c2, (hb.cell (p := ⟨b, 3, none⟩) h.lt).trans h.c3, (hb.cell (p := ⟨b, 4, none⟩) h.lt).trans h.c4, (hb.cell (p := ⟨b, 5, none⟩) h.lt).trans h.c5, Nat.lt_of_lt_of_le h.lt hb.size⟩

def nOf (x : Int) : Int := x / 8 % 128
def cellB (x : Int) (p : Int × Int) : Bool :=
  if Hd.isWord x = true ∧ x % 2 = 1 then (Cl.classErr (nOf x) == 0) && (if p.1 = 1 then Cl.classOf (nOf x) == p.2 else (Cl.runErr (nOf x) == 0) && (Cl.runOf (nOf x) == p.2))
  else Hd.isWord x && (p.1 == 1)
theorem headOf_no {x : Int} (h : Hd.isWord x = false) : headOf x = .agg #[.bool false, .bool false, .bool false, .int .i64 0, .int .i64 0, .int .i64 0] := by simp [headOf, h]
theorem headOf_yes {x : Int} (h : Hd.isWord x = true) : headOf x = .agg #[.bool (decide (x % 2 = 1)), .bool (decide (x / 2 % 2 = 1)), .bool (decide (x / 4 % 2 = 1)), .int .i64 (nOf x), .int .i64 (x / 1024 % 4194304), .int .i64 (x / 4294967296)] := by simp [headOf, h, nOf]
section
variable (s : Hs) (d : Hd_) (w : World) (a : Int) (i j : Nat) (x : Int) (p : Int × Int)
/-- What a walk through cell has when Unpack has answered. -/
theorem rcell_start (hp : Hp w w.heap.size s d) (hi : i < s.w.n) (hj : j < s.p.n) (hwn : s.w.n ≤ 4000) (hpn : s.p.n ≤ 4000) (ha : a - 16 = i) (hb : a / 16 - 1 = j) (hx : x = d.ws.getD i 0) (hpp : p = d.f j) (x0 : -9223372036854775808 ≤ x) (x1 : x ≤ 9223372036854775807)
    (u o e : Bool) (n b m : Int) (ok : Bool) (R : Bool) (hun : headOf x = .agg #[.bool u, .bool o, .bool e, .int .i64 n, .int .i64 b, .int .i64 m]) (hok : Hd.isWord x = ok)
    (hR : R = if ok = true ∧ u = true then (Cl.classErr n == 0) && (if p.1 = 1 then Cl.classOf n == p.2 else (Cl.runErr n == 0) && (Cl.runOf n == p.2)) else ok && (p.1 == 1)) :
    Calls Tryz.prog 121 #[(.agg #[.slice s.w.a s.w.n s.w.c, .slice s.p.a s.p.n s.p.c, .slice (s.u 0).a (s.u 0).n (s.u 0).c, .slice (s.u 1).a (s.u 1).n (s.u 1).c, .slice (s.u 2).a (s.u 2).n (s.u 2).c, .slice s.c.a s.c.n s.c.c]), .int .i64 a] w fun e w' => e = .returned (.bool R) ∧ Below w.heap.size w w' := by
  rcases s with ⟨⟨aw, nw, cw⟩, ⟨ap, np, cp⟩, su, ⟨ac, nc, cc⟩⟩
  dsimp only at hi hj hwn hpn ⊢
  obtain ⟨bw, ow, rfl, hbw, hcw⟩ := hp.words.2 (show 0 < nw by omega)
  obtain ⟨bp, op, rfl, hbp, hcp⟩ := hp.pages (show 0 < np by omega)
  have hw0 := hcw i hi
  obtain ⟨hp0, hp1⟩ := hcp j hj
  rw [← hx] at hw0
  rw [← hpp] at hp0 hp1
  have HR := Lib.hid hR
  have HOK := Lib.hid hok
  have HUN := Lib.hid hun
  have i0 : (0 : Int) ≤ i := by omega
  have i1 : (i : Int) < nw := by omega
  have j0 : (0 : Int) ≤ j := by omega
  have j1 : (j : Int) < np := by omega
  clear hcw hcp hx hpp hR hok hun hp
  go_enter Tryz.func121, Tryz.ntmps121
  go_wp2_with fail
  refine (runpack_any x _ x0 x1).mono ?_
  rw [HUN.out, HOK.out]
  rintro r w1 ⟨rfl, hb1⟩
  have HB0 := (HBox.new w ⟨⟨some ⟨bw, ow, none⟩, nw, cw⟩, ⟨some ⟨bp, op, none⟩, np, cp⟩, su, ⟨ac, nc, cc⟩⟩ 28).next hb1
  have q1 := HB0.c1
  dsimp only at q1
  have ql := HB0.lt
  have BW := Lib.hid ((((Below.refl w.heap.size w).alloc (Nat.le_refl _) _).trans (hb1.mono (by simp))))
  have hpl : bp < w1.heap.size := by have := HB0.lt; omega
  have r0 := (BW.out.cell (p := ⟨bp, op + j * 2, none⟩) hbp).trans hp0
  have r1 := (BW.out.cell (p := ⟨bp, op + j * 2 + 1, none⟩) hbp).trans hp1
  clear hb1 HB0 hp0 hp1 hw0 hbw ha i0 i1
  cases ok
  · have R0 : R = false := by rw [HR.out]; simp
    subst R0
    go_wp2
    go_ret
    exact ⟨rfl, ((BW.out.alloc (by have := BW.out.size; omega) _).alloc (by simp; have := BW.out.size; omega) _)⟩
  cases u
  · have R0 : R = (p.1 == 1) := by rw [HR.out]; simp
    subst R0
    go_wp2
    go_ret
    exact ⟨rfl, ((BW.out.alloc (by have := BW.out.size; omega) _).alloc (by simp; have := BW.out.size; omega) _)⟩
  have R0 : R = ((Cl.classErr n == 0) && (if p.1 = 1 then Cl.classOf n == p.2 else (Cl.runErr n == 0) && (Cl.runOf n == p.2))) := by rw [HR.out]; simp
  go_wp2_with fail
  refine (Cl.rof_of n _).mono ?_
  rintro r w2 ⟨rfl, rfl⟩
  clear HR
  by_cases he : Cl.classErr n = 0
  · rw [he] at R0 ⊢
    clear he
    by_cases hk : p.1 = 1
    · have k1 : (p.1 == 1) = true := by simp [hk]
      have R1 : R = (Cl.classOf n == p.2) := by rw [R0, if_pos hk]; simp
      subst R1
      clear R0 hk
      go_wp2
      go_ret
      exact ⟨rfl, ((BW.out.alloc (by have := BW.out.size; omega) _).alloc (by simp; have := BW.out.size; omega) _)⟩
    · have k1 : (p.1 == 1) = false := by simp [hk]
      have R1 : R = ((Cl.runErr n == 0) && (Cl.runOf n == p.2)) := by rw [R0, if_neg hk]; simp
      clear R0 hk
      go_wp2_with fail
      refine (Cl.rrun_of n _).mono ?_
      rintro r w2 ⟨rfl, rfl⟩
      cases hr : (Cl.runErr n == 0)
      · rw [hr] at R1
        have R2 : R = false := by rw [R1]; simp
        subst R2
        clear R1
        go_wp2
        go_ret
        exact ⟨rfl, ((BW.out.alloc (by have := BW.out.size; omega) _).alloc (by simp; have := BW.out.size; omega) _)⟩
      · rw [hr] at R1
        have R2 : R = (Cl.runOf n == p.2) := by rw [R1]; simp
        subst R2
        clear R1
        go_wp2
        go_ret
        exact ⟨rfl, ((BW.out.alloc (by have := BW.out.size; omega) _).alloc (by simp; have := BW.out.size; omega) _)⟩
  · have h1 : (Cl.classErr n == 0) = false := by simp [he]
    have h2 : (Cl.classErr n != 0) = true := by simp [he]
    have R1 : R = false := by rw [R0, h1]; simp
    subst R1
    clear R0 he
    go_wp2
    go_ret
    exact ⟨rfl, ((BW.out.alloc (by have := BW.out.size; omega) _).alloc (by simp; have := BW.out.size; omega) _)⟩
end
theorem rcell_any (s : Hs) (d : Hd_) (w : World) (a : Int) (i j : Nat) (hp : Hp w w.heap.size s d) (hi : i < s.w.n) (hj : j < s.p.n) (hwn : s.w.n ≤ 4000) (hpn : s.p.n ≤ 4000) (ha : a - 16 = i) (hb : a / 16 - 1 = j) (x0 : -9223372036854775808 ≤ d.ws.getD i 0) (x1 : d.ws.getD i 0 ≤ 9223372036854775807) :
    Calls Tryz.prog 121 #[(.agg #[.slice s.w.a s.w.n s.w.c, .slice s.p.a s.p.n s.p.c, .slice (s.u 0).a (s.u 0).n (s.u 0).c, .slice (s.u 1).a (s.u 1).n (s.u 1).c, .slice (s.u 2).a (s.u 2).n (s.u 2).c, .slice s.c.a s.c.n s.c.c]), .int .i64 a] w fun e w' => e = .returned (.bool (cellB (d.ws.getD i 0) (d.f j))) ∧ Below w.heap.size w w' := by
  generalize hx : d.ws.getD i 0 = x at x0 x1 ⊢
  cases hw : Hd.isWord x
  · refine rcell_start s d w a i j _ _ hp hi hj hwn hpn ha hb hx.symm rfl x0 x1 _ _ _ _ _ _ _ _ (headOf_no hw) hw ?_
    simp [cellB, hw]
  · refine rcell_start s d w a i j _ _ hp hi hj hwn hpn ha hb hx.symm rfl x0 x1 _ _ _ _ _ _ _ _ (headOf_yes hw) hw ?_
    simp [cellB, hw]
end Go.Proofs.YtccjelpfmkbmiaaGreatDoor
end
section
namespace Go.Proofs.YtccjelpfmkbmiaaGreatDoor.Cl
open Go.Proofs.YtccjelpfmkbmiaaGreatDoor
set_option maxRecDepth 100000

/-- A page, seen alone. -/
def pmB (p : Int × Int) : Bool := (p.1 == 0 && p.2 == 0) || (p.1 == 1 && decide (0 ≤ p.2) && decide (p.2 ≤ 2)) || (p.1 == 2 && decide (1 ≤ p.2) && decide (p.2 ≤ 4)) || (p.1 == 3 && p.2 == 0)
theorem pmB_iff (p : Int × Int) : pmB p = true ↔ (p.1 = 0 ∧ p.2 = 0) ∨ (p.1 = 1 ∧ 0 ≤ p.2 ∧ p.2 ≤ 2) ∨ (p.1 = 2 ∧ 1 ≤ p.2 ∧ p.2 ≤ 4) ∨ (p.1 = 3 ∧ p.2 = 0) := by
  simp [pmB, or_assoc, and_assoc]

/-- How many pages the large object ahead of page k still asks for. -/
def st (f : Nat → Int × Int) : Nat → Int
  | 0 => 0
  | k + 1 => if (f k).1 = 2 then (f k).2 - 1 else if 0 < st f k then st f k - 1 else st f k
def okB (f : Nat → Int × Int) (k : Nat) : Bool := pmB (f k) && (decide ((f k).1 = 3) == decide (0 < st f k))
theorem okB_iff (f : Nat → Int × Int) (k : Nat) : okB f k = true ↔ pmB (f k) = true ∧ ((f k).1 = 3 ↔ 0 < st f k) := by
  simp [okB]
def mayB (f : Nat → Int × Int) (n : Nat) : Bool := decide (1 ≤ n) && decide (n ≤ 64) && (List.range n).all (okB f) && (st f n == 0)
theorem mayB_iff (f : Nat → Int × Int) (n : Nat) : mayB f n = true ↔ 1 ≤ n ∧ n ≤ 64 ∧ (∀ k, k < n → okB f k = true) ∧ st f n = 0 := by
  simp [mayB, and_assoc]
theorem mayB_short {f : Nat → Int × Int} {n : Nat} (h : n < 1 ∨ 64 < n) : mayB f n = false := by
  rw [Bool.eq_false_iff]
  intro h'
  have := (mayB_iff f n).1 h'
  omega
theorem mayB_not {f : Nat → Int × Int} {n k : Nat} (hk : k < n) (h : okB f k = false) : mayB f n = false := by
  rw [Bool.eq_false_iff]
  intro h'
  have := ((mayB_iff f n).1 h').2.2.1 k hk
  rw [h] at this
  cases this
theorem mayB_end {f : Nat → Int × Int} {n : Nat} (h : st f n ≠ 0) : mayB f n = false := by
  rw [Bool.eq_false_iff]
  intro h'
  exact h ((mayB_iff f n).1 h').2.2.2
theorem mayB_mk {f : Nat → Int × Int} {n : Nat} (h0 : 1 ≤ n) (h1 : n ≤ 64) (h2 : ∀ k, k < n → okB f k = true) (h3 : st f n = 0) : mayB f n = true := (mayB_iff f n).2 ⟨h0, h1, h2, h3⟩
theorem st_nonneg {f : Nat → Int × Int} {n : Nat} (h : ∀ k, k < n → okB f k = true) : ∀ k, k ≤ n → 0 ≤ st f k ∧ st f k ≤ 3
  | 0, _ => by simp [st]
  | k + 1, hk => by
    have hr := st_nonneg h k (by omega)
    have h1 := (okB_iff f k).1 (h k (by omega))
    have h2 := (pmB_iff _).1 h1.1
    unfold st
    split
    · omega
    · split <;> omega
/-- n pages from page a on are free. -/
def freeB (f : Nat → Int × Int) (a n : Nat) : Bool := (List.range n).all fun j => (f (a + j)).1 == 0
theorem put_ne {f : Nat → Int × Int} {a j : Nat} {p : Int × Int} (h : j ≠ a) : put f a p j = f j := if_neg h
/-- A large object's m pages from a place on. -/
def large (f : Nat → Int × Int) (a : Nat) (m : Int) : Nat → Int × Int := fun j => if j = a then (2, m) else if a < j ∧ (j : Int) < a + m then (3, 0) else f j
/-- How many pages begin at page a, where a small or a large one does. -/
def wide (f : Nat → Int × Int) (a : Nat) : Int := if (f a).1 = 2 then (f a).2 else 1
def drop (f : Nat → Int × Int) (a : Nat) : Nat → Int × Int := fun j => if a ≤ j ∧ (j : Int) < a + wide f a then (0, 0) else f j
end Go.Proofs.YtccjelpfmkbmiaaGreatDoor.Cl
end
section
namespace Go.Proofs.YtccjelpfmkbmiaaGreatDoor.Cl
open Go.Proofs.YtccjelpfmkbmiaaGreatDoor
set_option maxRecDepth 100000
open Go.RowKit

end Go.Proofs.YtccjelpfmkbmiaaGreatDoor.Cl
end
section
namespace Go.Proofs.YtccjelpfmkbmiaaGreatDoor.Cl
open Go.Proofs.YtccjelpfmkbmiaaGreatDoor
set_option maxRecDepth 100000
open Go.RowKit

/-- Is there such a class? May a large object have so many pages? -/
def clB (c : Int) : Bool := decide (0 ≤ c) && decide (c ≤ 2)
def runB (n : Int) : Bool := decide (1 ≤ n) && decide (n ≤ 4)
theorem clB_iff (c : Int) : clB c = true ↔ 0 ≤ c ∧ c ≤ 2 := by simp [clB]
theorem runB_iff (c : Int) : runB c = true ↔ 1 ≤ c ∧ c ≤ 4 := by simp [runB]
theorem clB_not {c : Int} (h : ¬ (0 ≤ c ∧ c ≤ 2)) : clB c = false := by
  rw [Bool.eq_false_iff]
  exact fun h' => h ((clB_iff c).1 h')
theorem runB_not {c : Int} (h : ¬ (1 ≤ c ∧ c ≤ 4)) : runB c = false := by
  rw [Bool.eq_false_iff]
  exact fun h' => h ((runB_iff c).1 h')

theorem isClass_any (c : Int) (w : World) :
    Calls Tryz.prog 144 #[.int .i64 c] w fun e w' => e = .returned (.bool (clB c)) ∧ w = w' := by
  by_cases h0 : 0 ≤ c
  · by_cases h1 : c ≤ 2
    · have e := Lib.hid ((clB_iff c).2 ⟨h0, h1⟩)
      have d0 : decide (c < 3) = true := by simp; omega
      go_enter Tryz.func144, Tryz.ntmps144
      go_wp2
      go_ret
      exact ⟨by rw [e.out]; rfl, rfl⟩
    · have e := Lib.hid (clB_not (c := c) (by omega))
      have d0 : decide (c < 3) = false := by simp; omega
      go_enter Tryz.func144, Tryz.ntmps144
      go_wp2
      go_ret
      exact ⟨by rw [e.out]; rfl, rfl⟩
  · have e := Lib.hid (clB_not (c := c) (by omega))
    have d0 : decide (0 ≤ c) = false := by simpa using h0
    go_enter Tryz.func144, Tryz.ntmps144
    go_wp2
    go_ret
    exact ⟨by rw [e.out]; rfl, rfl⟩
theorem isRun_any (c : Int) (w : World) :
    Calls Tryz.prog 145 #[.int .i64 c] w fun e w' => e = .returned (.bool (runB c)) ∧ w = w' := by
  by_cases h0 : 1 ≤ c
  · by_cases h1 : c ≤ 4
    · have e := Lib.hid ((runB_iff c).2 ⟨h0, h1⟩)
      have d0 : decide (c ≤ 4) = true := by simp; omega
      go_enter Tryz.func145, Tryz.ntmps145
      go_wp2
      go_ret
      exact ⟨by rw [e.out]; rfl, rfl⟩
    · have e := Lib.hid (runB_not (c := c) (by omega))
      have d0 : decide (c ≤ 4) = false := by simp; omega
      go_enter Tryz.func145, Tryz.ntmps145
      go_wp2
      go_ret
      exact ⟨by rw [e.out]; rfl, rfl⟩
  · have e := Lib.hid (runB_not (c := c) (by omega))
    have d0 : decide (1 ≤ c) = false := by simpa using h0
    go_enter Tryz.func145, Tryz.ntmps145
    go_wp2
    go_ret
    exact ⟨by rw [e.out]; rfl, rfl⟩

theorem pmB_small (b : Int) : pmB (1, b) = clB b := by simp [pmB, clB]
theorem pmB_large (b : Int) : pmB (2, b) = runB b := by simp [pmB, runB]
theorem pmB_free (b : Int) : pmB (0, b) = (b == 0) := by simp [pmB]
theorem pmB_rest (b : Int) : pmB (3, b) = (b == 0) := by simp [pmB]
theorem pmB_no (a b : Int) (h0 : a ≠ 0) (h1 : a ≠ 1) (h2 : a ≠ 2) (h3 : a ≠ 3) : pmB (a, b) = false := by simp [pmB, h0, h1, h2, h3]

theorem pmay_any (p : Int × Int) (w : World) :
    Calls Tryz.prog 129 #[.agg #[.int .i64 p.1, .int .i64 p.2]] w fun e w' => e = .returned (.bool (pmB p)) ∧ Below w.heap.size w w' := by
  obtain ⟨a, b⟩ := p
  show Calls Tryz.prog 129 #[.agg #[.int .i64 a, .int .i64 b]] w _
  by_cases h1 : a = 1
  · subst h1
    rw [pmB_small]
    go_enter Tryz.func129, Tryz.ntmps129
    go_wp2_with fail
    refine (isClass_any _ _).mono ?_
    rintro e w1 ⟨rfl, rfl⟩
    go_wp2
    go_ret
    exact ⟨rfl, (Below.refl _ _).alloc (Nat.le_refl _) _⟩
  by_cases h2 : a = 2
  · subst h2
    rw [pmB_large]
    go_enter Tryz.func129, Tryz.ntmps129
    go_wp2_with fail
    refine (isRun_any _ _).mono ?_
    rintro e w1 ⟨rfl, rfl⟩
    go_wp2
    go_ret
    exact ⟨rfl, (Below.refl _ _).alloc (Nat.le_refl _) _⟩
  by_cases h0 : a = 0
  · subst h0
    rw [pmB_free]
    go_enter Tryz.func129, Tryz.ntmps129
    go_wp2
    go_ret
    exact ⟨rfl, (Below.refl _ _).alloc (Nat.le_refl _) _⟩
  by_cases h3 : a = 3
  · subst h3
    rw [pmB_rest]
    go_enter Tryz.func129, Tryz.ntmps129
    go_wp2
    go_ret
    exact ⟨rfl, (Below.refl _ _).alloc (Nat.le_refl _) _⟩
  rw [pmB_no a b h0 h1 h2 h3]
  have e0 : (a == 0) = false := by simpa using h0
  have e1 : (a == 1) = false := by simpa using h1
  have e2 : (a == 2) = false := by simpa using h2
  have e3 : (a == 3) = false := by simpa using h3
  clear h0 h1 h2 h3
  go_enter Tryz.func129, Tryz.ntmps129
  go_wp2
  go_ret
  exact ⟨rfl, (Below.refl _ _).alloc (Nat.le_refl _) _⟩
end Go.Proofs.YtccjelpfmkbmiaaGreatDoor.Cl
end
section
namespace Go.Proofs.YtccjelpfmkbmiaaGreatDoor.Cl
open Go.Proofs.YtccjelpfmkbmiaaGreatDoor
set_option maxRecDepth 100000
open Go.RowKit

theorem pmay_yes (p : Int × Int) (w : World) (h : pmB p = true) :
    Calls Tryz.prog 129 #[.agg #[.int .i64 p.1, .int .i64 p.2]] w fun e w' => e = .returned (.bool true) ∧ Below w.heap.size w w' := by
  rw [← h]; exact pmay_any p w
theorem pmay_no (p : Int × Int) (w : World) (h : pmB p = false) :
    Calls Tryz.prog 129 #[.agg #[.int .i64 p.1, .int .i64 p.2]] w fun e w' => e = .returned (.bool false) ∧ Below w.heap.size w w' := by
  rw [← h]; exact pmay_any p w

/-- The first k pages are right. -/
def Good (f : Nat → Int × Int) (k : Nat) : Prop := ∀ j, j < k → okB f j = true
theorem Good.zero (f : Nat → Int × Int) : Good f 0 := fun j h => absurd h (by omega)
theorem Good.next {f : Nat → Int × Int} {k : Nat} (h : Good f k) (hk : okB f k = true) : Good f (k + 1) := fun j hj => by
  by_cases e : j = k
  · rw [e]; exact hk
  · exact h j (by omega)
theorem Good.st {f : Nat → Int × Int} {k : Nat} (h : Good f k) : 0 ≤ st f k ∧ st f k ≤ 3 := st_nonneg h k (Nat.le_refl _)
theorem okB_no {f : Nat → Int × Int} {k : Nat} (h : pmB (f k) = false) : okB f k = false := by simp [okB, h]
theorem okB_alone {f : Nat → Int × Int} {k : Nat} (h3 : (f k).1 = 3) (h : ¬ 0 < st f k) : okB f k = false := by simp [okB, h3]; omega
theorem okB_gap {f : Nat → Int × Int} {k : Nat} (h3 : (f k).1 ≠ 3) (h : 0 < st f k) : okB f k = false := by simp [okB, h3]; omega
theorem okB_yes {f : Nat → Int × Int} {k : Nat} (h : pmB (f k) = true) (h3 : (f k).1 = 3 ↔ 0 < st f k) : okB f k = true := (okB_iff f k).2 ⟨h, h3⟩
theorem st_large {f : Nat → Int × Int} {k : Nat} (h : (f k).1 = 2) : Go.Proofs.YtccjelpfmkbmiaaGreatDoor.Cl.st f (k + 1) = (f k).2 - 1 := by
  show (if (f k).1 = 2 then _ else _) = _
  rw [if_pos h]
theorem st_rest {f : Nat → Int × Int} {k : Nat} (h : (f k).1 = 3) (hs : 0 < Go.Proofs.YtccjelpfmkbmiaaGreatDoor.Cl.st f k) : Go.Proofs.YtccjelpfmkbmiaaGreatDoor.Cl.st f (k + 1) = Go.Proofs.YtccjelpfmkbmiaaGreatDoor.Cl.st f k - 1 := by
  show (if (f k).1 = 2 then _ else _) = _
  rw [if_neg (by omega), if_pos hs]
theorem st_same {f : Nat → Int × Int} {k : Nat} (h : (f k).1 ≠ 2) (hs : ¬ 0 < Go.Proofs.YtccjelpfmkbmiaaGreatDoor.Cl.st f k) : Go.Proofs.YtccjelpfmkbmiaaGreatDoor.Cl.st f (k + 1) = Go.Proofs.YtccjelpfmkbmiaaGreatDoor.Cl.st f k := by
  show (if (f k).1 = 2 then _ else _) = _
  rw [if_neg h, if_neg hs]
theorem rint {a b : Bool} (h : a = b) : Ending.returned (.bool a) = .returned (.bool b) := by rw [h]
/-- A block of two numbers that was just laid, behind a call that left it. -/
theorem pair_kept {w w1 : World} {a b : Int} {t : TypeId} (hb : Below (w.alloc (.cells #[.int .i64 a, .int .i64 b] t)).heap.size (w.alloc (.cells #[.int .i64 a, .int .i64 b] t)) w1) :
    w1.cell? ⟨w.heap.size, 0, none⟩ = some (.int .i64 a) ∧ w1.cell? ⟨w.heap.size, 1, none⟩ = some (.int .i64 b) ∧ w.heap.size < w1.heap.size := by
  refine ⟨(hb.cell (p := ⟨w.heap.size, 0, none⟩) (by simp)).trans (by simp [go_sem]), (hb.cell (p := ⟨w.heap.size, 1, none⟩) (by simp)).trans (by simp [go_sem]), ?_⟩
  have := hb.size
  simp at this
  omega
theorem below_pair {w0 w w1 : World} {o : Obj} (h : Below w0.heap.size w0 w) (hb : Below (w.alloc o).heap.size (w.alloc o) w1) : Below w0.heap.size w0 w1 :=
  (h.alloc h.size o).trans (hb.mono (by have := h.size; simp; omega))

set_option maxHeartbeats 1000000 in
theorem may_any (B : Nat) (A : Option Addr) (n c : Nat) (f : Nat → Int × Int) (w : World) (hn : n ≤ 1000) (hr : PRow w B A n f) (hB : B ≤ w.heap.size) :
    Calls Tryz.prog 96 #[.slice A n c] w fun e w' => e = .returned (.bool (mayB f n)) ∧ Below w.heap.size w w' := by
  have HR := Lib.hid hr
  clear hr
  by_cases h1 : n < 1
  · have HM := Lib.hid (mayB_short (f := f) (n := n) (.inl h1))
    obtain rfl : n = 0 := by omega
    go_enter Tryz.func96, Tryz.ntmps96
    go_wp2
    go_ret
    exact ⟨rint HM.out.symm, Below.refl _ _⟩
  by_cases h2 : 64 < n
  · have HM := Lib.hid (mayB_short (f := f) (n := n) (.inr h2))
    go_enter Tryz.func96, Tryz.ntmps96
    go_wp2
    go_ret
    exact ⟨rint HM.out.symm, Below.refl _ _⟩
  go_enter Tryz.func96, Tryz.ntmps96
  go_wp2
  go_loopw [3, 16] (fun v i wr => ∃ k : Nat, k ≤ n ∧ i = .int .i64 k ∧ v = .int .i64 (st f k) ∧ Good f k ∧ Below w.heap.size w wr) (fun _ i _ => n - (intOf i).toNat)
  case atStart => exact ⟨0, Nat.zero_le _, rfl, rfl, Good.zero f, Below.refl _ _⟩
  case round =>
    obtain ⟨k, hk, rfl, rfl, hg, hb⟩ := hrel
    have hs := hg.st
    have HG := Lib.hid hg
    clear hg
    by_cases hlt : k < n
    · obtain ⟨b, off, rfl, hbB, hc⟩ := (HR.out.over hb hB) (by omega)
      obtain ⟨c0, c1⟩ := hc k hlt
      have HB := Lib.hid hb
      have hz := hb.size
      clear hb hc
      cases hp : pmB (f k)
      · have HM := Lib.hid (mayB_not hlt (okB_no hp))
        have HP := Lib.hid hp
        clear hp
        go_wp2_with fail
        refine (pmay_no _ _ HP.out).mono ?_
        rintro e w1 ⟨rfl, hb1⟩
        go_wp2
        go_ret
        exact ⟨rint HM.out.symm, below_pair HB.out hb1⟩
      · have HP := Lib.hid hp
        by_cases h3 : (f k).1 = 3
        · have e3 : ((f k).1 == 3) = true := by simpa using h3
          have e2 : ((f k).1 == 2) = false := by rw [h3]; decide
          by_cases hs0 : 0 < st f k
          · have HS := Lib.hid (st_rest h3 hs0)
            have HO := Lib.hid (okB_yes hp ⟨fun _ => hs0, fun _ => h3⟩)
            have hd : decide (0 < st f k) = true := by simpa using hs0
            clear hp h3
            go_wp2_with fail
            refine (pmay_yes _ _ HP.out).mono ?_
            rintro e w1 ⟨rfl, hb1⟩
            have HB1 := Lib.hid hb1
            obtain ⟨k0, k1, hz1⟩ := pair_kept hb1
            clear hb1
            go_wp2
            go_roundw
            case rel => exact ⟨k + 1, by omega, by go_num, by rw [HS.out], HG.out.next HO.out, below_pair HB.out HB1.out⟩
            case measure => simp [intOf]; omega
          · have HM := Lib.hid (mayB_not hlt (okB_alone h3 hs0))
            have hd : decide (0 < st f k) = false := by simpa using hs0
            clear hp h3
            go_wp2_with fail
            refine (pmay_yes _ _ HP.out).mono ?_
            rintro e w1 ⟨rfl, hb1⟩
            have HB1 := Lib.hid hb1
            obtain ⟨k0, k1, hz1⟩ := pair_kept hb1
            clear hb1
            go_wp2
            go_ret
            exact ⟨rint HM.out.symm, below_pair HB.out HB1.out⟩
        · have e3 : ((f k).1 == 3) = false := by simpa using h3
          by_cases hs0 : 0 < st f k
          · have HM := Lib.hid (mayB_not hlt (okB_gap h3 hs0))
            have hd : decide (0 < st f k) = true := by simpa using hs0
            clear hp h3
            go_wp2_with fail
            refine (pmay_yes _ _ HP.out).mono ?_
            rintro e w1 ⟨rfl, hb1⟩
            have HB1 := Lib.hid hb1
            obtain ⟨k0, k1, hz1⟩ := pair_kept hb1
            clear hb1
            go_wp2
            go_ret
            exact ⟨rint HM.out.symm, below_pair HB.out HB1.out⟩
          · have HO := Lib.hid (okB_yes hp ⟨fun h => absurd h h3, fun h => absurd h hs0⟩)
            have hd : decide (0 < st f k) = false := by simpa using hs0
            have ha : (f k).1 = 2 → 1 ≤ (f k).2 ∧ (f k).2 ≤ 4 := fun h => by have := (pmB_iff _).1 hp; omega
            by_cases h2' : (f k).1 = 2
            · have HS := Lib.hid (st_large h2')
              have e2 : ((f k).1 == 2) = true := by simpa using h2'
              obtain ⟨a1, a2⟩ := ha h2'
              clear hp h3 h2' ha
              go_wp2_with fail
              refine (pmay_yes _ _ HP.out).mono ?_
              rintro e w1 ⟨rfl, hb1⟩
              have HB1 := Lib.hid hb1
              obtain ⟨k0, k1, hz1⟩ := pair_kept hb1
              clear hb1
              go_wp2
              go_roundw
              case rel => exact ⟨k + 1, by omega, by go_num, by rw [HS.out], HG.out.next HO.out, below_pair HB.out HB1.out⟩
              case measure => simp [intOf]; omega
            · have HS := Lib.hid (st_same h2' hs0)
              have e2 : ((f k).1 == 2) = false := by simpa using h2'
              clear hp h3 h2' ha
              go_wp2_with fail
              refine (pmay_yes _ _ HP.out).mono ?_
              rintro e w1 ⟨rfl, hb1⟩
              have HB1 := Lib.hid hb1
              obtain ⟨k0, k1, hz1⟩ := pair_kept hb1
              clear hb1
              go_wp2
              go_roundw
              case rel => exact ⟨k + 1, by omega, by go_num, by rw [HS.out], HG.out.next HO.out, below_pair HB.out HB1.out⟩
              case measure => simp [intOf]; omega
    · obtain rfl : k = n := by omega
      by_cases h0 : st f k = 0
      · have HM := Lib.hid (mayB_mk (by omega) (by omega) HG.out h0)
        have hd : (st f k == 0) = true := by simpa using h0
        clear h0
        go_wp2
        go_ret
        exact ⟨rint HM.out.symm, hb⟩
      · have HM := Lib.hid (mayB_end h0)
        have hd : (st f k == 0) = false := by simpa using h0
        clear h0
        go_wp2
        go_ret
        exact ⟨rint HM.out.symm, hb⟩
theorem may_yes (B : Nat) (A : Option Addr) (n c : Nat) (f : Nat → Int × Int) (w : World) (h : mayB f n = true) (hr : PRow w B A n f) (hB : B ≤ w.heap.size) :
    Calls Tryz.prog 96 #[.slice A n c] w fun e w' => e = .returned (.bool true) ∧ Below w.heap.size w w' := by
  rw [← h]
  have := (mayB_iff f n).1 h
  exact may_any B A n c f w (by omega) hr hB
theorem may_no (B : Nat) (A : Option Addr) (n c : Nat) (f : Nat → Int × Int) (w : World) (h : mayB f n = false) (hn : n ≤ 1000) (hr : PRow w B A n f) (hB : B ≤ w.heap.size) :
    Calls Tryz.prog 96 #[.slice A n c] w fun e w' => e = .returned (.bool false) ∧ Below w.heap.size w w' := by
  rw [← h]
  exact may_any B A n c f w hn hr hB
end Go.Proofs.YtccjelpfmkbmiaaGreatDoor.Cl
end
section
namespace Go.Proofs.YtccjelpfmkbmiaaGreatDoor.Cl
open Go.Proofs.YtccjelpfmkbmiaaGreatDoor
set_option maxRecDepth 100000
open Go.RowKit

theorem below_drewN {B : Nat} {w w1 : World} (h : Below B w w1) (k : Nat) : Below B w (w1.drewN k) := ⟨h.os, h.tape, h.output, h.size, h.block⟩
theorem pneq_no {a b a' b' : Int} (h : a = a' ∧ b = b') (w : World) :
    (binOp .neq 81 (.agg #[.int .i64 a, .int .i64 b]) (.agg #[.int .i64 a', .int .i64 b'])).run Tryz.prog w = .ok (.bool false) w := by
  obtain ⟨rfl, rfl⟩ := h
  go_simp
theorem pneq_yes {a b a' b' : Int} (h : ¬ (a = a' ∧ b = b')) (w : World) :
    (binOp .neq 81 (.agg #[.int .i64 a, .int .i64 b]) (.agg #[.int .i64 a', .int .i64 b'])).run Tryz.prog w = .ok (.bool true) w := by
  by_cases h0 : a = a'
  · by_cases h1 : b = b'
    · exact absurd ⟨h0, h1⟩ h
    · clear h; go_simp
  · clear h; go_simp

theorem rest_only {f : Nat → Int × Int} {k : Nat} (h : ¬ ((f k).1 = 3 ∧ (f k).2 = 0)) (hs : 0 < st f k) : okB f k = false := by
  cases he : okB f k
  · rfl
  · exfalso
    have := (okB_iff f k).1 he
    have h3 := this.2.2 hs
    have := (pmB_iff _).1 this.1
    omega
theorem rest_ok {f : Nat → Int × Int} {k : Nat} (h : (f k).1 = 3 ∧ (f k).2 = 0) (hs : 0 < st f k) : okB f k = true :=
  okB_yes ((pmB_iff _).2 (by omega)) ⟨fun _ => hs, fun _ => h.1⟩
theorem head_only {f : Nat → Int × Int} {k : Nat} (h0 : ¬ ((f k).1 = 0 ∧ (f k).2 = 0)) (h1 : ¬ ((f k).1 = 1 ∧ 0 ≤ (f k).2 ∧ (f k).2 ≤ 2)) (h2 : ¬ ((f k).1 = 2 ∧ 1 ≤ (f k).2 ∧ (f k).2 ≤ 4)) (hs : st f k = 0) : okB f k = false := by
  cases he : okB f k
  · rfl
  · exfalso
    have := (okB_iff f k).1 he
    have h3 : (f k).1 ≠ 3 := fun h => by have := this.2.1 h; omega
    have := (pmB_iff _).1 this.1
    omega
theorem alone_ok {f : Nat → Int × Int} {k : Nat} (h : ((f k).1 = 0 ∧ (f k).2 = 0) ∨ ((f k).1 = 1 ∧ 0 ≤ (f k).2 ∧ (f k).2 ≤ 2)) (hs : st f k = 0) : okB f k = true ∧ st f (k + 1) = 0 :=
  ⟨okB_yes ((pmB_iff _).2 (by omega)) ⟨fun h => by omega, fun h => by omega⟩, by rw [st_same (by omega) (by omega), hs]⟩
theorem large_ok {f : Nat → Int × Int} {k : Nat} (h : (f k).1 = 2 ∧ 1 ≤ (f k).2 ∧ (f k).2 ≤ 4) (hs : st f k = 0) : okB f k = true ∧ st f (k + 1) = (f k).2 - 1 :=
  ⟨okB_yes ((pmB_iff _).2 (by omega)) ⟨fun h => by omega, fun h => by omega⟩, st_large h.1⟩

set_option maxHeartbeats 2000000 in
theorem rmay_any (B : Nat) (A : Option Addr) (n c : Nat) (f : Nat → Int × Int) (w : World) (hn : n ≤ 1000) (hr : PRow w B A n f) (hB : B ≤ w.heap.size) :
    Calls Tryz.prog 120 #[.slice A n c] w fun e w' => e = .returned (.bool (mayB f n)) ∧ Below w.heap.size w w' := by
  have HR := Lib.hid hr
  clear hr
  by_cases h1 : n < 1
  · have HM := Lib.hid (mayB_short (f := f) (n := n) (.inl h1))
    obtain rfl : n = 0 := by omega
    go_enter Tryz.func120, Tryz.ntmps120
    go_wp2
    go_ret
    exact ⟨rint HM.out.symm, Below.refl _ _⟩
  by_cases h2 : 64 < n
  · have HM := Lib.hid (mayB_short (f := f) (n := n) (.inr h2))
    go_enter Tryz.func120, Tryz.ntmps120
    go_wp2
    go_ret
    exact ⟨rint HM.out.symm, Below.refl _ _⟩
  go_enter Tryz.func120, Tryz.ntmps120
  go_wp2
  go_loopw [3] (fun i wr => ∃ k : Nat, k ≤ n ∧ i = .int .i64 k ∧ Hid (st f k = 0) ∧ Good f k ∧ Below w.heap.size w wr) (fun i _ => n - (intOf i).toNat)
  case atStart => exact ⟨0, Nat.zero_le _, rfl, Lib.hid rfl, Good.zero f, Below.refl _ _⟩
  case round =>
    obtain ⟨k, hk, rfl, HZ, hg, hb⟩ := hrel
    have HG := Lib.hid hg
    clear hg
    by_cases hlt : k < n
    · obtain ⟨b, off, rfl, hbB, hc⟩ := (HR.out.over hb hB) (by omega)
      obtain ⟨c0, c1⟩ := hc k hlt
      have HB := Lib.hid hb
      have hz := hb.size
      clear hb hc
      by_cases g0 : (f k).1 = 0 ∧ (f k).2 = 0
      · obtain ⟨ho, hs⟩ := alone_ok (.inl g0) HZ.out
        have HO := Lib.hid ho
        have HS := Lib.hid hs
        have e0 : ((f k).1 == 0) = true := by simpa using g0.1
        have e1 : ((f k).2 == 0) = true := by simpa using g0.2
        clear ho hs g0
        go_wp2
        go_roundw
        case rel => exact ⟨k + 1, by omega, by go_num, HS, HG.out.next HO.out, HB.out.alloc hz _⟩
        case measure => simp [intOf]; omega
      by_cases g1 : (f k).1 = 1 ∧ 0 ≤ (f k).2 ∧ (f k).2 ≤ 2
      · obtain ⟨ho, hs⟩ := alone_ok (.inr g1) HZ.out
        have HO := Lib.hid ho
        have HS := Lib.hid hs
        have e0 : ((f k).1 == 0) = false := by rw [g1.1]; decide
        have e1 : ((f k).1 == 1) = true := by simpa using g1.1
        have d0 : decide (0 ≤ (f k).2) = true := by simpa using g1.2.1
        have d1 : decide ((f k).2 ≤ 2) = true := by simpa using g1.2.2
        clear ho hs g0 g1
        go_wp2
        go_roundw
        case rel => exact ⟨k + 1, by omega, by go_num, HS, HG.out.next HO.out, HB.out.alloc hz _⟩
        case measure => simp [intOf]; omega
      by_cases g2 : (f k).1 = 2 ∧ 1 ≤ (f k).2 ∧ (f k).2 ≤ 4
      · obtain ⟨ho, hs⟩ := large_ok g2 HZ.out
        have HO := Lib.hid ho
        have HS := Lib.hid hs
        obtain ⟨g20, g21, g22⟩ := g2
        have G20 := Lib.hid g20
        have e0 : ((f k).1 == 0) = false := by rw [g20]; decide
        have e1 : ((f k).1 == 1) = false := by rw [g20]; decide
        have e2 : ((f k).1 != 2) = false := by rw [g20]; decide
        have d0 : decide ((f k).2 < 1) = false := by simp; omega
        have d1 : decide (4 < (f k).2) = false := by simp; omega
        clear ho hs g0 g1 g20
        obtain ⟨wo, rfl⟩ : ∃ wo : World, wo = wr := ⟨_, rfl⟩
        go_wp2
        go_loopw [3, 5] (fun i j wi => ∃ m q : Nat, 1 ≤ m ∧ (m : Int) ≤ (f k).2 ∧ q ≤ n ∧ k + m ≤ q ∧ q ≤ k + m ∧ j = .int .i64 m ∧ i = .int .i64 q ∧ Hid (st f q = (f k).2 - m) ∧ Good f q ∧
          Below (wo.alloc (.cells #[.int .i64 (f k).1, .int .i64 (f k).2] 81)).heap.size (wo.alloc (.cells #[.int .i64 (f k).1, .int .i64 (f k).2] 81)) wi) (fun _ j _ => ((f k).2 - intOf j).toNat)
        case atStart => exact ⟨1, k + 1, by omega, by omega, by omega, by omega, by omega, rfl, by go_num, Lib.hid HS.out, HG.out.next HO.out, Below.refl _ _⟩
        case round =>
          obtain ⟨m, q, hm1, hm2, hqn, hq1, hq2, rfl, rfl, HT, hg2, hb2⟩ := hrel
          have HG2 := Lib.hid hg2
          obtain ⟨k0, k1, hz1⟩ := pair_kept hb2
          have HB2 := Lib.hid hb2
          have HB3 := Lib.hid (below_pair HB.out hb2)
          have hz3 := HB3.out.size
          have hz4 := hb2.size
          clear hg2
          by_cases hm : (m : Int) < (f k).2
          · have hd : decide ((m : Int) < (f k).2) = true := by simpa using hm
            by_cases hkn : q < n
            · obtain ⟨b', off', ea, hb', hc'⟩ := (HR.out.over HB3.out hB) (by omega)
              simp at ea
              obtain ⟨rfl, rfl⟩ := ea
              obtain ⟨p0, p1⟩ := hc' q hkn
              have hbw : b < wr.heap.size := by omega
              clear hc' hb2
              have h0s : 0 < st f q := by rw [HT.out]; omega
              have hdn : decide (n ≤ q) = false := by simp; omega
              by_cases hrest : (f q).1 = 3 ∧ (f q).2 = 0
              · have HO2 := Lib.hid (rest_ok hrest h0s)
                have HS2 := Lib.hid (st_rest hrest.1 h0s)
                have HQ := pneq_no hrest
                clear hrest h0s
                go_wp2
                go_quiet (fail)
                go_wp2
                go_roundw
                case rel => exact ⟨m + 1, q + 1, by omega, by omega, by omega, by omega, by omega, by go_num, by go_num, Lib.hid (by have := HT.out; have := HS2.out; omega), HG2.out.next HO2.out, below_drewN (HB2.out.alloc hz4 _) _⟩
                case measure => simp [intOf]; omega
              · have HM := Lib.hid (mayB_not hkn (rest_only hrest h0s))
                have HQ := pneq_yes hrest
                clear hrest h0s
                go_wp2
                go_quiet (fail)
                go_wp2
                go_ret
                exact ⟨rint HM.out.symm, below_drewN (HB3.out.alloc hz3 _) _⟩
            · obtain rfl : n = q := by omega
              have HM := Lib.hid (mayB_end (f := f) (n := n) (by rw [HT.out]; omega))
              clear hb2
              go_wp2
              go_quiet (fail)
              go_wp2
              go_ret
              exact ⟨rint HM.out.symm, below_drewN (HB3.out.alloc hz3 _) _⟩
          · have hd : decide ((m : Int) < (f k).2) = false := by simpa using hm
            have HE := Lib.hid (show st f q = 0 by rw [HT.out]; omega)
            clear hb2
            go_wp2
            go_roundw
            case rel => exact ⟨q, by assumption, rfl, HE, HG2.out, HB3.out⟩
            case measure => simp [intOf]; omega
      · have HM := Lib.hid (mayB_not hlt (head_only g0 g1 g2 HZ.out))
        have G0 := Lib.hid g0
        have G1 := Lib.hid g1
        have G2 := Lib.hid g2
        clear g0 g1 g2
        go_wp2
        all_goals first
          | (go_ret; exact ⟨rint HM.out.symm, HB.out.alloc hz _⟩)
          | (exfalso; have g0 := G0.out; have g1 := G1.out; have g2 := G2.out; omega)
          | (exfalso; have g0 := G0.out; have g1 := G1.out; have g2 := G2.out; simp_all)
    · obtain rfl : k = n := by omega
      have HM := Lib.hid (mayB_mk (by omega) (by omega) HG.out HZ.out)
      go_wp2
      go_ret
      exact ⟨rint HM.out.symm, hb⟩
theorem rmay_yes (B : Nat) (A : Option Addr) (n c : Nat) (f : Nat → Int × Int) (w : World) (h : mayB f n = true) (hr : PRow w B A n f) (hB : B ≤ w.heap.size) :
    Calls Tryz.prog 120 #[.slice A n c] w fun e w' => e = .returned (.bool true) ∧ Below w.heap.size w w' := by
  rw [← h]
  have := (mayB_iff f n).1 h
  exact rmay_any B A n c f w (by omega) hr hB
theorem rmay_no (B : Nat) (A : Option Addr) (n c : Nat) (f : Nat → Int × Int) (w : World) (h : mayB f n = false) (hn : n ≤ 1000) (hr : PRow w B A n f) (hB : B ≤ w.heap.size) :
    Calls Tryz.prog 120 #[.slice A n c] w fun e w' => e = .returned (.bool false) ∧ Below w.heap.size w w' := by
  rw [← h]
  exact rmay_any B A n c f w hn hr hB
end Go.Proofs.YtccjelpfmkbmiaaGreatDoor.Cl
end
