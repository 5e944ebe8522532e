/-
  The reference's Ints: whether two slices hold the same numbers.
-/
import Derived.Test.YtlmaeppckaempaaDoorClPlain
import Derived.Deep.QuietTactic
import Derived.BigQuiet
namespace Go.Proofs.YtlmaeppckaempaaDoor
open Go.RowKit

theorem ints_same (B C : Nat) (A A' : Option Addr) (n c c' : Nat) (xs : List Int) (w : World) (hn : n ≤ 9223372036854775806) (hr : Row w B A n xs) (hs : Row w C A' n xs) :
    Calls Tryd.prog 11 #[.slice A n c, .slice A' n c'] w fun e w' => e = .returned (.bool true) ∧ Below w.heap.size w w' := by
  have HR := Lib.hid hr
  have HS := Lib.hid hs
  clear hr hs
  go_enter Tryd.func11, Tryd.ntmps11
  go_wp2
  go_loopw [5] (fun i wr => ∃ k d : Nat, k ≤ n ∧ i = .int .i64 k ∧ wr = w.drewN d) (fun i _ => n - (intOf i).toNat)
  case atStart => exact ⟨0, 0, Nat.zero_le _, rfl, rfl⟩
  case round =>
    obtain ⟨k, d, hk, rfl, rfl⟩ := hrel
    by_cases hlt : k < n
    · obtain ⟨b, off, rfl, _, hc⟩ := HR.out.2 (by omega)
      obtain ⟨b', off', rfl, _, hc'⟩ := HS.out.2 (by omega)
      have h1 := hc k hlt
      have h2 := hc' k hlt
      clear hc hc'
      go_wp2
      go_quiet (fail)
      go_wp2
      go_roundw
      case rel => exact ⟨k + 1, _, by omega, by go_num, rfl⟩
      case measure => simp [intOf]; omega
    · go_wp2
      go_ret
      exact ⟨rfl, below_drewN (Below.refl _ _) _⟩

theorem ints_other {xs ys : List Int} {k : Nat} (h : ¬ xs.getD k 0 = ys.getD k 0) : decide (xs = ys) = false := by
  simp only [decide_eq_false_iff_not]
  rintro rfl
  exact h rfl
theorem ints_all {xs ys : List Int} {n : Nat} (h1 : xs.length = n) (h2 : ys.length = n) (h : ∀ j, j < n → xs.getD j 0 = ys.getD j 0) : decide (xs = ys) = true := by
  simp only [decide_eq_true_eq]
  apply List.ext_getElem (by omega)
  intro i hi hj
  have := h i (by omega)
  simpa [List.getD, hi, hj] using this
theorem ints_any (B C : Nat) (A A' : Option Addr) (n m c c' : Nat) (xs ys : List Int) (w : World) (hn : n ≤ 1000) (hm : m ≤ 1000) (hr : Row w B A n xs) (hs : Row w C A' m ys) :
    Calls Tryd.prog 11 #[.slice A n c, .slice A' m c'] w fun e w' => e = .returned (.bool (decide (xs = ys))) ∧ Below w.heap.size w w' := by
  by_cases hnm : n = m
  · subst hnm
    have HR := Lib.hid hr
    have HS := Lib.hid hs
    clear hr hs
    go_enter Tryd.func11, Tryd.ntmps11
    go_wp2
    go_loopw [5] (fun i wr => ∃ k d : Nat, k ≤ n ∧ i = .int .i64 k ∧ wr = w.drewN d ∧ Hid (∀ j, j < k → xs.getD j 0 = ys.getD j 0)) (fun i _ => n - (intOf i).toNat)
    case atStart => exact ⟨0, 0, Nat.zero_le _, rfl, rfl, Lib.hid fun j h => absurd h (by omega)⟩
    case round =>
      obtain ⟨k, d, hk, rfl, rfl, HE⟩ := hrel
      by_cases hlt : k < n
      · obtain ⟨b, off, rfl, _, hc⟩ := HR.out.2 (by omega)
        obtain ⟨b', off', rfl, _, hc'⟩ := HS.out.2 (by omega)
        have h1 := hc k hlt
        have h2 := hc' k hlt
        clear hc hc'
        by_cases he : xs.getD k 0 = ys.getD k 0
        · have HE2 : Hid (∀ j, j < k + 1 → xs.getD j 0 = ys.getD j 0) := Lib.hid fun j hj => by
            by_cases e : j = k
            · rw [e]; exact he
            · exact HE.out j (by omega)
          rw [← he] at h2
          clear he HE
          go_wp2
          go_quiet (fail)
          go_wp2
          go_roundw
          case rel => exact ⟨k + 1, _, by omega, by go_num, rfl, HE2⟩
          case measure => simp [intOf]; omega
        · have HO := Lib.hid (ints_other he)
          obtain ⟨x, hx⟩ : ∃ x, x = xs.getD k 0 := ⟨_, rfl⟩
          obtain ⟨y, hy⟩ : ∃ y, y = ys.getD k 0 := ⟨_, rfl⟩
          rw [← hx, ← hy] at he
          rw [← hx] at h1
          rw [← hy] at h2
          have hd : (x != y) = true := by simpa using he
          clear he hx hy HE
          go_wp2
          go_quiet (fail)
          go_wp2
          go_ret
          exact ⟨rint HO.out.symm, below_drewN (below_drewN (Below.refl _ _) _) _⟩
      · obtain rfl : k = n := by omega
        have HO := Lib.hid (ints_all HR.out.1 HS.out.1 HE.out)
        clear HE
        go_wp2
        go_ret
        exact ⟨rint HO.out.symm, below_drewN (Below.refl _ _) _⟩
  · have hd : ((n : Int) != m) = true := by simp; omega
    have HO : Hid (decide (xs = ys) = false) := Lib.hid (by
      simp only [decide_eq_false_iff_not]
      rintro rfl
      exact hnm (hr.1.symm.trans hs.1))
    clear hr hs hnm
    go_enter Tryd.func11, Tryd.ntmps11
    go_wp2
    go_ret
    exact ⟨rint HO.out.symm, Below.refl _ _⟩
end Go.Proofs.YtlmaeppckaempaaDoor
