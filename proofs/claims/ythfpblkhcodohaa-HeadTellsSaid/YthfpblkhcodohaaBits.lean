/-
  Plain facts on 64-bit integers' bits (masks, single bits, and parts that do not overlap), and on a head's word as a sum. No program is in sight.
-/
import Derived.WalkKit
namespace Go.Proofs.Ythfpblkhcodohaa
open Go.RowKit

theorem ofInt_and (x : Int) (m : Nat) (hm : m < 9223372036854775808) : bits .and .i64 x (m : Int) = (((x % 18446744073709551616).toNat &&& m : Nat) : Int) := by
  have h2 : m % 18446744073709551616 = m := Nat.mod_eq_of_lt (by omega)
  have h3 : ((x % 18446744073709551616).toNat &&& m) ≤ m := Nat.and_le_right
  have e : (BitVec.ofInt 64 x).toNat = (x % 18446744073709551616).toNat := by
    rw [BitVec.toNat_ofInt]; rfl
  have e2 : (BitVec.ofInt 64 (m : Int)).toNat = m := by
    rw [BitVec.ofInt_natCast, BitVec.toNat_ofNat]; exact h2
  have e3 : (BitVec.ofInt 64 x &&& BitVec.ofInt 64 (m : Int)).toNat = ((x % 18446744073709551616).toNat &&& m) := by
    rw [BitVec.toNat_and, e, e2]
  show IntKind.i64.wrap (((BitVec.ofInt 64 x &&& BitVec.ofInt 64 (m : Int)).toNat : Nat) : Int) = _
  rw [e3]
  exact IntWalk.i64_in _ ⟨by omega, by omega⟩

theorem and_1 (x : Int) : bits .and .i64 x 1 = x % 2 := by
  refine (ofInt_and x 1 (by decide)).trans ?_
  rw [Nat.and_one_is_mod]
  omega
theorem and_2 (x : Int) : bits .and .i64 x 2 = x / 2 % 2 * 2 := by
  refine (ofInt_and x 2 (by decide)).trans ?_
  rw [nat_bit1]
  omega
theorem and_4 (x : Int) : bits .and .i64 x 4 = x / 4 % 2 * 4 := by
  refine (ofInt_and x 4 (by decide)).trans ?_
  rw [nat_bit2]
  omega
theorem and_127 (x : Int) : bits .and .i64 x 127 = x % 128 := by
  refine (ofInt_and x 127 (by decide)).trans ?_
  rw [nat_mask7]
  omega
theorem and_4194303 (x : Int) : bits .and .i64 x 4194303 = x % 4194304 := by
  refine (ofInt_and x 4194303 (by decide)).trans ?_
  rw [nat_mask22]
  omega

theorem wraps_i64 (n : Int) (h₀ : 0 ≤ n) (h₁ : n < 2 ^ 63) : IntKind.i64.wrap n = n := IntWalk.i64_in _ (by omega)
/-- Parts that do not overlap are added. -/
theorem or_add (i : Nat) (y x : Int) (hx₀ : 0 ≤ x) (hx : x % 2 ^ i = 0) (hx₁ : x < 9223372036854775808) (hy₀ : 0 ≤ y) (hy : y < 2 ^ i) (hy₁ : y < 9223372036854775808) : bits .or .i64 y x = y + x := by
  have h := bits_join .i64 63 (by decide) wraps_i64 i x y hx₀ hx (by simpa using hx₁) hy₀ hy (by simpa using hy₁)
  have c : bits .or .i64 y x = bits .or .i64 x y := by
    unfold bits
    simp only [BitVec.or_comm]
  rw [c, h]; omega

theorem or_0_2 (x : Int) (h : x = 0 ∨ x = 1) : bits .or .i64 x 2 = x + 2 := or_add 1 x 2 (by decide) (by decide) (by decide) (by omega) (by omega) (by omega)
theorem or_0_4 (x : Int) (h₀ : 0 ≤ x) (h : x ≤ 3) : bits .or .i64 x 4 = x + 4 := or_add 2 x 4 (by decide) (by decide) (by decide) (by omega) (by omega) (by omega)
theorem or_0 (x : Int) (h₀ : 0 ≤ x) (h : x ≤ 9223372036854775807) : bits .or .i64 x 0 = x := by
  have := or_add 63 x 0 (by decide) (by decide) (by decide) h₀ (by omega) (by omega)
  rw [this]; omega
theorem or_3 (x n : Int) (h₀ : 0 ≤ x) (h : x ≤ 7) (n₀ : 0 ≤ n) (n₁ : n ≤ 63) : bits .or .i64 x (n * 8) = x + n * 8 := or_add 3 x (n * 8) (by omega) (by omega) (by omega) (by omega) (by omega) (by omega)
theorem or_10 (x n : Int) (h₀ : 0 ≤ x) (h : x ≤ 511) (n₀ : 0 ≤ n) (n₁ : n ≤ 1048576) : bits .or .i64 x (n * 1024) = x + n * 1024 := or_add 10 x (n * 1024) (by omega) (by omega) (by omega) (by omega) (by omega) (by omega)
theorem or_32 (x n : Int) (h₀ : 0 ≤ x) (h : x ≤ 1073742335) (n₀ : 0 ≤ n) (n₁ : n ≤ 1048576) : bits .or .i64 x (n * 4294967296) = x + n * 4294967296 := or_add 32 x (n * 4294967296) (by omega) (by omega) (by omega) (by omega) (by omega) (by omega)
end Go.Proofs.Ythfpblkhcodohaa
