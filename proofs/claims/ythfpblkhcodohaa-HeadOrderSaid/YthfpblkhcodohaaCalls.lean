/-
  What the calls of package head return, and that they leave what was in memory as it was: May, Pack and Unpack, by the parts of the head.
-/
import Derived.Test.YthfpblkhcodohaaRows
import Derived.Test.YthfpblkhcodohaaWord
import Derived.WalkKit
import Derived.Below
import Derived.WalkSmall
import Derived.RegionTactic
import Derived.ChangeAlike
import Derived.Deep.QuietTactic
import Derived.BigQuiet
import Derived.Lib.Hide
namespace Go.Proofs.Ythfpblkhcodohaa
open Go.RowKit

/-- A block that was there holds what it held. -/
theorem old_cell {a z : World} (h : Below a.heap.size a z) : ∀ i k, i < a.heap.size → z.cell? ⟨i, k, none⟩ = a.cell? ⟨i, k, none⟩ := by
  intro i k hi
  exact h.cell (p := ⟨i, k, none⟩) hi
/-- .. and is marked as it was. -/
theorem old_mark {a z : World} (h : Below a.heap.size a z) : ∀ i k, i < a.heap.size → z.frozen? ⟨i, k, none⟩ = a.frozen? ⟨i, k, none⟩ := by
  intro i k hi
  exact h.frozen (p := ⟨i, k, none⟩) hi

theorem upTo_yes (n m : Int) (w : World) (h0 : 0 ≤ n) (h1 : n ≤ m) :
    Calls Try.prog 18 #[.int .i64 n, .int .i64 m] w fun e w' => e = .returned (.bool true) ∧ w = w' := by
  go_enter Try.func18, Try.ntmps18
  go_wp2
  go_ret
  exact ⟨rfl, rfl⟩
theorem upTo_no (n m : Int) (w : World) (h : n < 0 ∨ m < n) :
    Calls Try.prog 18 #[.int .i64 n, .int .i64 m] w fun e w' => e = .returned (.bool false) ∧ w = w' := by
  by_cases h0 : n < 0
  · go_enter Try.func18, Try.ntmps18
    go_wp2
    go_ret
    exact ⟨rfl, rfl⟩
  · have h1 : m < n := by omega
    have h2 : 0 ≤ n := by omega
    have h3 : decide (n ≤ m) = false := by simp; omega
    clear h
    go_enter Try.func18, Try.ntmps18
    go_wp2
    go_ret
    exact ⟨rfl, rfl⟩

theorem may_used (o d : Bool) (n b m : Int) (w : World) (n0 : 0 ≤ n) (n1 : n ≤ 63) (b0 : 0 ≤ b) (b1 : b ≤ 1048576) (m0 : 0 ≤ m) (m1 : m ≤ 1048576) :
    Calls Try.prog 14 #[.agg #[.bool true, .bool o, .bool d, .int .i64 n, .int .i64 b, .int .i64 m]] w fun e w' => e = .returned (.bool true) ∧ Below w.heap.size w w' := by
  go_enter Try.func14, Try.ntmps14
  go_wp2
  go_ret
  exact ⟨rfl, (Below.refl _ _).alloc (Nat.le_refl _) _⟩
theorem may_free (w : World) :
    Calls Try.prog 14 #[.agg #[.bool false, .bool false, .bool false, .int .i64 0, .int .i64 0, .int .i64 0]] w fun e w' => e = .returned (.bool true) ∧ Below w.heap.size w w' := by
  go_enter Try.func14, Try.ntmps14
  go_wp2
  go_ret
  exact ⟨rfl, (Below.refl _ _).alloc (Nat.le_refl _) _⟩
theorem may_yes (u o d : Bool) (n b m : Int) (w : World) (h : mayB u o d n b m = true) :
    Calls Try.prog 14 #[.agg #[.bool u, .bool o, .bool d, .int .i64 n, .int .i64 b, .int .i64 m]] w fun e w' => e = .returned (.bool true) ∧ Below w.heap.size w w' := by
  cases u
  · obtain ⟨rfl, rfl, rfl, rfl, rfl⟩ := (may_free_iff _ _ _ _ _).1 h
    exact may_free w
  · obtain ⟨a1, a2, a3, a4, a5, a6⟩ := (may_used_iff _ _ _ _ _).1 h
    exact may_used o d n b m w a1 a2 a3 a4 a5 a6
theorem no_n (o d : Bool) (n b m : Int) (w : World) (h : n < 0 ∨ 63 < n) :
    Calls Try.prog 14 #[.agg #[.bool true, .bool o, .bool d, .int .i64 n, .int .i64 b, .int .i64 m]] w fun e w' => e = .returned (.bool false) ∧ Below w.heap.size w w' := by
  have H := Lib.hid h
  clear h
  go_enter Try.func14, Try.ntmps14
  go_wp2_with (go_at_call 18; refine (upTo_no _ _ _ H.out).mono ?_; rintro e w' ⟨rfl, rfl⟩)
  go_ret
  exact ⟨rfl, (Below.refl _ _).alloc (Nat.le_refl _) _⟩
theorem no_b (o d : Bool) (n b m : Int) (w : World) (n0 : 0 ≤ n) (n1 : n ≤ 63) (h : b < 0 ∨ 1048576 < b) :
    Calls Try.prog 14 #[.agg #[.bool true, .bool o, .bool d, .int .i64 n, .int .i64 b, .int .i64 m]] w fun e w' => e = .returned (.bool false) ∧ Below w.heap.size w w' := by
  have H := Lib.hid h
  clear h
  go_enter Try.func14, Try.ntmps14
  go_wp2_with (go_at_call 18; first | ((with_reducible refine (upTo_yes n 63 _ n0 n1).mono ?_); rintro e w' ⟨rfl, rfl⟩) | ((with_reducible refine (upTo_no b 1048576 _ H.out).mono ?_); rintro e w' ⟨rfl, rfl⟩))
  go_ret
  exact ⟨rfl, (Below.refl _ _).alloc (Nat.le_refl _) _⟩
theorem no_m (o d : Bool) (n b m : Int) (w : World) (n0 : 0 ≤ n) (n1 : n ≤ 63) (b0 : 0 ≤ b) (b1 : b ≤ 1048576) (h : m < 0 ∨ 1048576 < m) :
    Calls Try.prog 14 #[.agg #[.bool true, .bool o, .bool d, .int .i64 n, .int .i64 b, .int .i64 m]] w fun e w' => e = .returned (.bool false) ∧ Below w.heap.size w w' := by
  have H := Lib.hid h
  clear h
  go_enter Try.func14, Try.ntmps14
  go_wp2_with (go_at_call 18; first | ((with_reducible refine (upTo_yes n 63 _ n0 n1).mono ?_); rintro e w' ⟨rfl, rfl⟩) | ((with_reducible refine (upTo_yes b 1048576 _ b0 b1).mono ?_); rintro e w' ⟨rfl, rfl⟩) | ((with_reducible refine (upTo_no m 1048576 _ H.out).mono ?_); rintro e w' ⟨rfl, rfl⟩))
  go_ret
  exact ⟨rfl, (Below.refl _ _).alloc (Nat.le_refl _) _⟩
theorem no_free (o d : Bool) (n b m : Int) (w : World) (h : mayB false o d n b m = false) :
    Calls Try.prog 14 #[.agg #[.bool false, .bool o, .bool d, .int .i64 n, .int .i64 b, .int .i64 m]] w fun e w' => e = .returned (.bool false) ∧ Below w.heap.size w w' := by
  have H := Lib.hid h
  clear h
  cases o
  · cases d
    · by_cases hn : (n == 0) = true
      · obtain rfl : n = 0 := by simpa using hn
        clear hn
        by_cases hb : (b == 0) = true
        · obtain rfl : b = 0 := by simpa using hb
          clear hb
          have hm : (m == 0) = false := by
            have := H.out
            simp [mayB] at this
            simp [this]
          go_enter Try.func14, Try.ntmps14
          go_wp2
          go_ret
          exact ⟨rfl, (Below.refl _ _).alloc (Nat.le_refl _) _⟩
        · have hb' : (b == 0) = false := by simpa using hb
          clear hb
          go_enter Try.func14, Try.ntmps14
          go_wp2
          go_ret
          exact ⟨rfl, (Below.refl _ _).alloc (Nat.le_refl _) _⟩
      · have hn' : (n == 0) = false := by simpa using hn
        clear hn
        go_enter Try.func14, Try.ntmps14
        go_wp2
        go_ret
        exact ⟨rfl, (Below.refl _ _).alloc (Nat.le_refl _) _⟩
    · go_enter Try.func14, Try.ntmps14
      go_wp2
      go_ret
      exact ⟨rfl, (Below.refl _ _).alloc (Nat.le_refl _) _⟩
  · go_enter Try.func14, Try.ntmps14
    go_wp2
    go_ret
    exact ⟨rfl, (Below.refl _ _).alloc (Nat.le_refl _) _⟩
theorem may_no (u o d : Bool) (n b m : Int) (w : World) (h : mayB u o d n b m = false) :
    Calls Try.prog 14 #[.agg #[.bool u, .bool o, .bool d, .int .i64 n, .int .i64 b, .int .i64 m]] w fun e w' => e = .returned (.bool false) ∧ Below w.heap.size w w' := by
  cases u
  · exact no_free o d n b m w h
  · have h' : ¬ (0 ≤ n ∧ n ≤ 63 ∧ 0 ≤ b ∧ b ≤ 1048576 ∧ 0 ≤ m ∧ m ≤ 1048576) := fun c => by
      rw [(may_used_iff o d n b m).2 c] at h; cases h
    by_cases hn : 0 ≤ n ∧ n ≤ 63
    · by_cases hb : 0 ≤ b ∧ b ≤ 1048576
      · exact no_m o d n b m w hn.1 hn.2 hb.1 hb.2 (by omega)
      · exact no_b o d n b m w hn.1 hn.2 (by omega)
    · exact no_n o d n b m w (by omega)

theorem bit_any (u : Bool) (k : Int) (w : World) :
    Calls Try.prog 16 #[.bool u, .int .i64 k] w fun e w' => e = .returned (.int .i64 (bitOf u k)) ∧ w' = w := by
  cases u
  · go_enter Try.func16, Try.ntmps16
    go_wp2
    go_ret
    exact ⟨rfl, rfl⟩
  · go_enter Try.func16, Try.ntmps16
    go_wp2
    go_ret
    exact ⟨rfl, rfl⟩
theorem pack_no (u o d : Bool) (n b m : Int) (w : World) (h : mayB u o d n b m = false) :
    Calls Try.prog 10 #[.agg #[.bool u, .bool o, .bool d, .int .i64 n, .int .i64 b, .int .i64 m]] w fun e w' => e = .returned (.tuple #[.int .i64 0, .int .i64 1]) ∧ Below w.heap.size w w' := by
  have H := Lib.hid h
  clear h
  go_enter Try.func10, Try.ntmps10
  go_wp2_with (go_at_call 14; refine (may_no _ _ _ _ _ _ _ H.out).mono ?_; rintro e w1 ⟨rfl, hb⟩; have hc := old_cell hb; have hf := old_mark hb)
  go_ret2
  exact ⟨rfl, ((Below.refl _ _).alloc (Nat.le_refl _) _).trans (hb.mono (by simp))⟩
theorem packed_below {w w1 : World} {o : Obj} (hb : Below (w.alloc o).heap.size (w.alloc o) w1) (n : Nat) : Below w.heap.size w (w1.drewN n) :=
  below_drewN (((Below.refl _ _).alloc (Nat.le_refl _) _).trans (hb.mono (by simp))) n
theorem pack_free (w : World) :
    Calls Try.prog 10 #[.agg #[.bool false, .bool false, .bool false, .int .i64 0, .int .i64 0, .int .i64 0]] w fun e w' => e = .returned (.tuple #[.int .i64 0, .int .i64 0]) ∧ Below w.heap.size w w' := by
  go_enter Try.func10, Try.ntmps10
  go_wp2_with (go_at_call 14; refine (may_free _).mono ?_; rintro e w1 ⟨rfl, hb⟩; have hc := old_cell hb; have hf := old_mark hb)
  go_quiet ((go_at_call 16; exact Calls.quiet_of_same (bit_any _ _ _)))
  go_wp2
  go_ret2
  exact ⟨rfl, packed_below hb _⟩
theorem or_first (o : Bool) : bits .or .i64 (bitOf true 1) (bitOf o 2) = 1 + bitOf o 2 := by cases o <;> rfl
theorem or_second (o d : Bool) : bits .or .i64 (1 + bitOf o 2) (bitOf d 4) = 1 + bitOf o 2 + bitOf d 4 := by cases o <;> cases d <;> rfl
theorem pack_used (o d : Bool) (n b m : Int) (w : World) (n0 : 0 ≤ n) (n1 : n ≤ 63) (b0 : 0 ≤ b) (b1 : b ≤ 1048576) (m0 : 0 ≤ m) (m1 : m ≤ 1048576) :
    Calls Try.prog 10 #[.agg #[.bool true, .bool o, .bool d, .int .i64 n, .int .i64 b, .int .i64 m]] w fun e w' => e = .returned (.tuple #[.int .i64 (1 + bitOf o 2 + bitOf d 4 + n * 8 + b * 1024 + m * 4294967296), .int .i64 0]) ∧ Below w.heap.size w w' := by
  obtain ⟨o0, o1⟩ := bit_le o 2 (by decide)
  obtain ⟨d0, d1⟩ := bit_le d 4 (by decide)
  have e1 := or_first o
  have e2 := or_second o d
  have e3 := or_3 (1 + bitOf o 2 + bitOf d 4) n (by omega) (by omega) n0 n1
  have e4 := or_10 (1 + bitOf o 2 + bitOf d 4 + n * 8) b (by omega) (by omega) b0 b1
  have e5 := or_32 (1 + bitOf o 2 + bitOf d 4 + n * 8 + b * 1024) m (by omega) (by omega) m0 m1
  go_enter Try.func10, Try.ntmps10
  go_wp2_with (go_at_call 14; refine (may_used _ _ _ _ _ _ n0 n1 b0 b1 m0 m1).mono ?_; rintro e w1 ⟨rfl, hb⟩; have hc := old_cell hb; have hf := old_mark hb)
  go_quiet ((go_at_call 16; exact Calls.quiet_of_same (bit_any _ _ _)))
  go_wp2
  go_ret2
  exact ⟨rfl, packed_below hb _⟩
theorem pack_yes (u o d : Bool) (n b m : Int) (w : World) (h : mayB u o d n b m = true) :
    Calls Try.prog 10 #[.agg #[.bool u, .bool o, .bool d, .int .i64 n, .int .i64 b, .int .i64 m]] w fun e w' => e = .returned (.tuple #[.int .i64 (word u o d n b m), .int .i64 0]) ∧ Below w.heap.size w w' := by
  cases u
  · obtain ⟨rfl, rfl, rfl, rfl, rfl⟩ := (may_free_iff _ _ _ _ _).1 h
    exact pack_free w
  · obtain ⟨a1, a2, a3, a4, a5, a6⟩ := (may_used_iff _ _ _ _ _).1 h
    exact pack_used o d n b m w a1 a2 a3 a4 a5 a6
end Go.Proofs.Ythfpblkhcodohaa
