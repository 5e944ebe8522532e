/-
  The reference's Ints: two slices that hold the same numbers are told to be the same.
-/
import Derived.Test.YtndjocfnepikhaaMake
namespace Go.Proofs.Ytndjocfnepikhaa
open Go.RowKit

theorem below_drawn {B : Nat} {a w : World} (h : Below B a w) (n : Nat) : Below B a (w.drewN n) := ⟨h.os, h.tape, h.output, h.size, h.block⟩

theorem ints_same (B C : Nat) (A A' : Option Addr) (n c c' : Nat) (xs : List Int) (w : World) (hn : n ≤ 9223372036854775806) (hr : Row w B A n xs) (hs : Row w C A' n xs) :
    Calls Try.prog 15 #[.slice A n c, .slice A' n c'] w fun e w' => e = .returned (.bool true) ∧ Below w.heap.size w w' := by
  have HR := Lib.hid hr
  have HS := Lib.hid hs
  clear hr hs
  go_enter Try.func15, Try.ntmps15
  go_wp2
  go_loopw [5] (fun i wr => ∃ k d : Nat, k ≤ n ∧ i = .int .i64 k ∧ wr = w.drewN d) (fun i _ => n - (intOf i).toNat)
  case atStart => exact ⟨0, 0, Nat.zero_le _, rfl, rfl⟩
  case round =>
    obtain ⟨k, d, hk, rfl, rfl⟩ := hrel
    by_cases hlt : k < n
    · obtain ⟨b, off, rfl, _, hc⟩ := HR.out.2 (by omega)
      obtain ⟨b', off', rfl, _, hc'⟩ := HS.out.2 (by omega)
      have h1 := hc k hlt
      have h2 := hc' k hlt
      clear hc hc'
      go_wp2
      go_quiet (fail)
      go_wp2
      go_roundw
      case rel => exact ⟨k + 1, _, by omega, by go_num, rfl⟩
      case measure => simp [intOf]; omega
    · go_wp2
      go_ret
      exact ⟨rfl, below_drawn (Below.refl _ _) _⟩
theorem ints_none (w : World) :
    Calls Try.prog 15 #[.slice none 0 0, .slice none 0 0] w fun e w' => e = .returned (.bool true) ∧ Below w.heap.size w w' :=
  ints_same 0 0 none none 0 0 0 [] w (by omega) (Row.none_ _ _) (Row.none_ _ _)

/-- 'append([]int(nil), s...)' of any slice: as many numbers, the same ones, in memory of the call's own, or none. -/
def Copied (w : World) (n : Nat) (xs : List Int) (v : Value) (w' : World) : Prop :=
  ∃ a c, v = .slice a n c ∧ Row w' w'.heap.size a n xs ∧ Below w.heap.size w w'
theorem append_nil_nil (w : World) (A : Option Addr) (c : Nat) (ty : TypeId) : (Builtin.append_ #[22, 22] ty #[.slice none 0 0, .slice A 0 c]).run Try.prog w = .ok (.slice none 0 0) w := by
  obtain ⟨i0, hi, hz0, hz1, hz2⟩ := info_parts info_int
  cases A <;> simp [Builtin.append_, run_underlying Try.underlying22, sizeOf, typeInfo, hi, Builtin.lenOf, Builtin.firstCells, loadCells, loadCellsFrom]
end Go.Proofs.Ytndjocfnepikhaa
