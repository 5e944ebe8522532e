/-
  Package arena's calls that make no memory: May, span, Get, Page and At: what each returns, by how many words there are and the address.
-/
import Derived.Test.YtndjocfnepikhaaRows
import Derived.Test.YtndjocfnepikhaaRow
import Derived.WalkKit
import Derived.Below
import Derived.WalkSmall
import Derived.RegionTactic
import Derived.ChangeAlike
import Derived.Deep.QuietTactic
import Derived.BigQuiet
import Derived.Lib.Hide
namespace Go.Proofs.Ytndjocfnepikhaa
open Go.RowKit

/-- Words may be. -/
def mayB (n : Nat) : Bool := decide (16 ≤ n ∧ n ≤ 1024 ∧ n % 16 = 0)
theorem mayB_iff {n : Nat} : mayB n = true ↔ 16 ≤ n ∧ n ≤ 1024 ∧ n % 16 = 0 := by simp [mayB]
theorem mayB_no {n : Nat} (h : mayB n = false) : ¬ (16 ≤ n ∧ n ≤ 1024 ∧ n % 16 = 0) := fun c => by rw [mayB_iff.2 c] at h; cases h

theorem may_yes (A : Option Addr) (n c : Nat) (w : World) (h : mayB n = true) :
    Calls Try.prog 22 #[.slice A n c] w fun e w' => e = .returned (.bool true) ∧ w = w' := by
  obtain ⟨h1, h2, h3⟩ := mayB_iff.1 h
  have e1 : ((n : Int) % 16 == 0) = true := by simp; omega
  have e2 : (1 : Int) ≤ (n : Int) / 16 := by omega
  have e3 : (n : Int) / 16 ≤ 64 := by omega
  clear h h3
  go_enter Try.func22, Try.ntmps22
  go_wp2
  go_ret
  exact ⟨rfl, rfl⟩
theorem may_no (A : Option Addr) (n c : Nat) (w : World) (hn : n ≤ 9223372036854775807) (h : mayB n = false) :
    Calls Try.prog 22 #[.slice A n c] w fun e w' => e = .returned (.bool false) ∧ w = w' := by
  have h0 := mayB_no h
  clear h
  by_cases h1 : n % 16 = 0
  · have e1 : ((n : Int) % 16 == 0) = true := by simp; omega
    by_cases h2 : n < 16
    · have e2 : decide ((1 : Int) ≤ (n : Int) / 16) = false := by simp; omega
      clear h0 h1 h2
      go_enter Try.func22, Try.ntmps22
      go_wp2
      go_ret
      exact ⟨rfl, rfl⟩
    · have e2 : (1 : Int) ≤ (n : Int) / 16 := by omega
      have e3 : decide ((n : Int) / 16 ≤ 64) = false := by simp; omega
      clear h0 h1 h2
      go_enter Try.func22, Try.ntmps22
      go_wp2
      go_ret
      exact ⟨rfl, rfl⟩
  · have e1 : ((n : Int) % 16 == 0) = false := by simp; omega
    clear h0 h1
    go_enter Try.func22, Try.ntmps22
    go_wp2
    go_ret
    exact ⟨rfl, rfl⟩

theorem span_bad (A : Option Addr) (n c : Nat) (a k : Int) (w : World) (hn : n ≤ 9223372036854775807) (h : mayB n = false) :
    Calls Try.prog 26 #[.slice A n c, .int .i64 a, .int .i64 k] w fun e w' => e = .returned (.tuple #[.int .i64 0, .int .i64 0, .int .i64 1]) ∧ w = w' := by
  have H := Lib.hid h
  clear h
  go_enter Try.func26, Try.ntmps26
  go_wp2_with (go_at_call 22; refine (may_no _ _ _ _ hn H.out).mono ?_; rintro e w' ⟨rfl, rfl⟩)
  go_ret3
  exact ⟨rfl, rfl⟩
theorem span_neg (A : Option Addr) (n c : Nat) (a k : Int) (w : World) (h : mayB n = true) (hk : k < 0) :
    Calls Try.prog 26 #[.slice A n c, .int .i64 a, .int .i64 k] w fun e w' => e = .returned (.tuple #[.int .i64 0, .int .i64 0, .int .i64 1]) ∧ w = w' := by
  have H := Lib.hid h
  clear h
  go_enter Try.func26, Try.ntmps26
  go_wp2_with (go_at_call 22; refine (may_yes _ _ _ _ H.out).mono ?_; rintro e w' ⟨rfl, rfl⟩)
  go_ret3
  exact ⟨rfl, rfl⟩
theorem span_zero (A : Option Addr) (n c : Nat) (a : Int) (w : World) (h : mayB n = true) :
    Calls Try.prog 26 #[.slice A n c, .int .i64 a, .int .i64 0] w fun e w' => e = .returned (.tuple #[.int .i64 0, .int .i64 0, .int .i64 0]) ∧ w = w' := by
  have H := Lib.hid h
  clear h
  go_enter Try.func26, Try.ntmps26
  go_wp2_with (go_at_call 22; refine (may_yes _ _ _ _ H.out).mono ?_; rintro e w' ⟨rfl, rfl⟩)
  go_ret3
  exact ⟨rfl, rfl⟩
theorem span_none (A : Option Addr) (n c : Nat) (a k : Int) (w : World) (h : mayB n = true) (hk : 0 < k) (ha : a < 16 ∨ 16 + n - a < k) (_hi : a ≤ 9223372036854775807) :
    Calls Try.prog 26 #[.slice A n c, .int .i64 a, .int .i64 k] w fun e w' => e = .returned (.tuple #[.int .i64 0, .int .i64 0, .int .i64 3]) ∧ w = w' := by
  have hn := (mayB_iff.1 h).2.1
  have e0 : (k == 0) = false := by simp; omega
  have e1 : ¬ k < 0 := by omega
  have H := Lib.hid h
  clear h
  by_cases h16 : a < 16
  · clear ha
    go_enter Try.func26, Try.ntmps26
    go_wp2_with (go_at_call 22; refine (may_yes _ _ _ _ H.out).mono ?_; rintro e w' ⟨rfl, rfl⟩)
    go_ret3
    exact ⟨rfl, rfl⟩
  · have hb : 16 + (n : Int) - a < k := by omega
    have ha0 : 16 ≤ a := by omega
    clear ha
    go_enter Try.func26, Try.ntmps26
    go_wp2_with (go_at_call 22; refine (may_yes _ _ _ _ H.out).mono ?_; rintro e w' ⟨rfl, rfl⟩)
    go_ret3
    exact ⟨rfl, rfl⟩
theorem span_ok (A : Option Addr) (n c : Nat) (a k : Int) (w : World) (h : mayB n = true) (hk : 0 < k) (ha : 16 ≤ a) (hb : k ≤ 16 + n - a) :
    Calls Try.prog 26 #[.slice A n c, .int .i64 a, .int .i64 k] w fun e w' => e = .returned (.tuple #[.int .i64 (a - 16), .int .i64 (a - 16 + k), .int .i64 0]) ∧ w = w' := by
  have hn := (mayB_iff.1 h).2.1
  have e0 : (k == 0) = false := by simp; omega
  have e1 : ¬ k < 0 := by omega
  have H := Lib.hid h
  clear h
  go_enter Try.func26, Try.ntmps26
  go_wp2_with (go_at_call 22; refine (may_yes _ _ _ _ H.out).mono ?_; rintro e w' ⟨rfl, rfl⟩)
  go_ret3
  exact ⟨rfl, rfl⟩

theorem get_bad (A : Option Addr) (n c : Nat) (a : Int) (w : World) (hn : n ≤ 9223372036854775807) (h : mayB n = false) :
    Calls Try.prog 11 #[.slice A n c, .int .i64 a] w fun e w' => e = .returned (.tuple #[.int .i64 0, .int .i64 1]) ∧ w = w' := by
  have H := Lib.hid h
  clear h
  go_enter Try.func11, Try.ntmps11
  go_wp2_with (go_at_call 26; refine (span_bad _ _ _ _ _ _ hn H.out).mono ?_; rintro e w' ⟨rfl, rfl⟩)
  go_ret2
  exact ⟨rfl, rfl⟩
theorem get_none (A : Option Addr) (n c : Nat) (a : Int) (w : World) (h : mayB n = true) (ha : a < 16 ∨ 16 + n ≤ a) (hi : a ≤ 9223372036854775807) :
    Calls Try.prog 11 #[.slice A n c, .int .i64 a] w fun e w' => e = .returned (.tuple #[.int .i64 0, .int .i64 3]) ∧ w = w' := by
  have H := Lib.hid h
  clear h
  have HA := Lib.hid ha
  clear ha
  go_enter Try.func11, Try.ntmps11
  go_wp2_with (go_at_call 26; refine (span_none _ _ _ _ _ _ H.out (by omega) (by have := HA.out; omega) hi).mono ?_; rintro e w' ⟨rfl, rfl⟩)
  go_ret2
  exact ⟨rfl, rfl⟩

theorem page_bad (A : Option Addr) (n c : Nat) (a : Int) (w : World) (hn : n ≤ 9223372036854775807) (h : mayB n = false) :
    Calls Try.prog 18 #[.slice A n c, .int .i64 a] w fun e w' => e = .returned (.tuple #[.int .i64 0, .int .i64 1]) ∧ w = w' := by
  have H := Lib.hid h
  clear h
  go_enter Try.func18, Try.ntmps18
  go_wp2_with (go_at_call 26; refine (span_bad _ _ _ _ _ _ hn H.out).mono ?_; rintro e w' ⟨rfl, rfl⟩)
  go_ret2
  exact ⟨rfl, rfl⟩
theorem page_none (A : Option Addr) (n c : Nat) (a : Int) (w : World) (h : mayB n = true) (ha : a < 16 ∨ 16 + n ≤ a) (hi : a ≤ 9223372036854775807) :
    Calls Try.prog 18 #[.slice A n c, .int .i64 a] w fun e w' => e = .returned (.tuple #[.int .i64 0, .int .i64 3]) ∧ w = w' := by
  have H := Lib.hid h
  clear h
  have HA := Lib.hid ha
  clear ha
  go_enter Try.func18, Try.ntmps18
  go_wp2_with (go_at_call 26; refine (span_none _ _ _ _ _ _ H.out (by omega) (by have := HA.out; omega) hi).mono ?_; rintro e w' ⟨rfl, rfl⟩)
  go_ret2
  exact ⟨rfl, rfl⟩
theorem get_ok (B : Nat) (A : Option Addr) (n c : Nat) (xs : List Int) (a : Int) (w : World) (h : mayB n = true) (h0 : 16 ≤ a) (h1 : a < 16 + n) (hr : Row w B A n xs) :
    Calls Try.prog 11 #[.slice A n c, .int .i64 a] w fun e w' => e = .returned (.tuple #[.int .i64 (xs.getD (a - 16).toNat 0), .int .i64 0]) ∧ w = w' := by
  obtain ⟨i, rfl⟩ : ∃ i : Nat, a = 16 + i := ⟨(a - 16).toNat, by omega⟩
  have hn := (mayB_iff.1 h).2.1
  have hi : i < n := by omega
  obtain ⟨b, off, rfl, _, hc⟩ := hr.2 (by omega)
  have hcell := hc i hi
  have ei : (16 + (i : Int) - 16).toNat = i := by omega
  rw [ei]
  have EI : (16 : Int) + i - 16 = i := by omega
  have H := Lib.hid h
  clear h hc hr ei
  have HS : Calls Try.prog 26 #[.slice (some ⟨b, off, none⟩) n c, .int .i64 (16 + i), .int .i64 1] w fun e w' => e = .returned (.tuple #[.int .i64 i, .int .i64 (i + 1), .int .i64 0]) ∧ w = w' := by
    have := span_ok (some ⟨b, off, none⟩) n c (16 + i) 1 w H.out (by omega) (by omega) (by omega)
    rw [EI] at this
    exact this
  have HT := Lib.hid HS
  clear EI HS h0 h1
  go_enter Try.func11, Try.ntmps11
  go_wp2_with (go_at_call 26; refine (HT.out).mono ?_; rintro e w' ⟨rfl, rfl⟩)
  go_ret2
  exact ⟨rfl, rfl⟩
theorem page_ok (A : Option Addr) (n c : Nat) (a : Int) (w : World) (h : mayB n = true) (h0 : 16 ≤ a) (h1 : a < 16 + n) :
    Calls Try.prog 18 #[.slice A n c, .int .i64 a] w fun e w' => e = .returned (.tuple #[.int .i64 ((a - 16) / 16), .int .i64 0]) ∧ w = w' := by
  have hn := (mayB_iff.1 h).2.1
  have H := Lib.hid h
  clear h
  go_enter Try.func18, Try.ntmps18
  go_wp2_with (go_at_call 26; refine (span_ok _ _ _ _ _ _ H.out (by omega) (by omega) (by omega)).mono ?_; rintro e w' ⟨rfl, rfl⟩)
  go_ret2
  exact ⟨rfl, rfl⟩

theorem at_bad (A : Option Addr) (n c : Nat) (p : Int) (w : World) (hn : n ≤ 9223372036854775807) (h : mayB n = false) :
    Calls Try.prog 20 #[.slice A n c, .int .i64 p] w fun e w' => e = .returned (.tuple #[.int .i64 0, .int .i64 1]) ∧ w = w' := by
  have H := Lib.hid h
  clear h
  go_enter Try.func20, Try.ntmps20
  go_wp2_with (go_at_call 22; refine (may_no _ _ _ _ hn H.out).mono ?_; rintro e w' ⟨rfl, rfl⟩)
  go_ret2
  exact ⟨rfl, rfl⟩
theorem at_none (A : Option Addr) (n c : Nat) (p : Int) (w : World) (h : mayB n = true) (hp : p < 0 ∨ (n : Int) ≤ 16 * p) :
    Calls Try.prog 20 #[.slice A n c, .int .i64 p] w fun e w' => e = .returned (.tuple #[.int .i64 0, .int .i64 3]) ∧ w = w' := by
  have hn := (mayB_iff.1 h)
  by_cases h0 : p < 0
  · have H := Lib.hid h
    clear h hp hn
    go_enter Try.func20, Try.ntmps20
    go_wp2_with (go_at_call 22; refine (may_yes _ _ _ _ H.out).mono ?_; rintro e w' ⟨rfl, rfl⟩)
    go_ret2
    exact ⟨rfl, rfl⟩
  · have h1 : (n : Int) / 16 ≤ p := by omega
    have h2 : 0 ≤ p := by omega
    have h3 : n ≤ 1024 := hn.2.1
    have H := Lib.hid h
    clear h hp hn h0
    go_enter Try.func20, Try.ntmps20
    go_wp2_with (go_at_call 22; refine (may_yes _ _ _ _ H.out).mono ?_; rintro e w' ⟨rfl, rfl⟩)
    go_ret2
    exact ⟨rfl, rfl⟩
theorem at_ok (A : Option Addr) (n c : Nat) (p : Int) (w : World) (h : mayB n = true) (h0 : 0 ≤ p) (h1 : 16 * p < n) :
    Calls Try.prog 20 #[.slice A n c, .int .i64 p] w fun e w' => e = .returned (.tuple #[.int .i64 (16 + p * 16), .int .i64 0]) ∧ w = w' := by
  have hn := (mayB_iff.1 h)
  have h3 : p < (n : Int) / 16 := by omega
  have h4 : n ≤ 1024 := hn.2.1
  have H := Lib.hid h
  clear h hn
  go_enter Try.func20, Try.ntmps20
  go_wp2_with (go_at_call 22; refine (may_yes _ _ _ _ H.out).mono ?_; rintro e w' ⟨rfl, rfl⟩)
  go_ret2
  exact ⟨rfl, rfl⟩
end Go.Proofs.Ytndjocfnepikhaa
