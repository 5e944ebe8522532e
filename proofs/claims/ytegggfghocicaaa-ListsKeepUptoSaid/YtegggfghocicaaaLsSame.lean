/-
  The law's 'same': two of one length, every number of the first one in the second one.
-/
import Derived.Test.YtegggfghocicaaaLsHas
namespace Go.Proofs.Ytegggfghocicaaa
open Go.RowKit

set_option maxHeartbeats 1000000 in
theorem sameLaw_any (B C : Nat) (A A' : Option Addr) (n c c' : Nat) (xs ys : List Int) (w : World) (hn : n ≤ 4000000) (hr : Row w B A n xs) (hs : Row w C A' n ys) (hm : ∀ x, x ∈ xs → x ∈ ys) :
    Calls Try.prog 25 #[.slice A n c, .slice A' n c'] w (Tells w true) := by
  have HR := Lib.hid hr
  have HS := Lib.hid hs
  have HM := Lib.hid hm
  have hxl := hr.1
  have hyl := hs.1
  have HXL := Lib.hid hxl
  have HYL := Lib.hid hyl
  clear hr hs hm hxl hyl
  go_enter Try.func25, Try.ntmps25
  go_wp2
  go_loopw [5, 6, 7] (fun i _ _ wr => ∃ k d : Nat, k ≤ n ∧ i = .int .i64 k ∧ wr = w.drewN d) (fun i _ _ _ => n - (intOf i).toNat)
  case atStart => exact ⟨0, 0, Nat.zero_le _, rfl, rfl⟩
  case round =>
    obtain ⟨k, d, hk, rfl, rfl⟩ := hrel
    by_cases hlt : k < n
    · have hlt' : (k : Int) < n := by omega
      have i0 : (0 : Int) ≤ k := by omega
      go_wp2
      go_loopw [6, 7] (fun b j wr => ∃ (q e : Nat), q ≤ n ∧ b = .bool (decide (∃ p, p < q ∧ ys.getD p 0 = xs.getD k 0)) ∧ j = .int .i64 q ∧ wr = w.drewN e) (fun _ j _ => n - (intOf j).toNat)
      case atStart => exact ⟨0, _, Nat.zero_le _, by simp, rfl, rfl⟩
      case round =>
        obtain ⟨q, e, hq, rfl, rfl, rfl⟩ := hrel
        by_cases hlq : q < n
        · obtain ⟨b, off, rfl, _, hc⟩ := HR.out.2 (by omega)
          obtain ⟨b', off', rfl, _, hc'⟩ := HS.out.2 (by omega)
          have h1 := hc k hlt
          have h2 := hc' q hlq
          have j0 : (0 : Int) ≤ q := by omega
          have j1 : (q : Int) < n := by omega
          clear hc hc'
          obtain ⟨x, hx⟩ : ∃ x, x = xs.getD k 0 := ⟨_, rfl⟩
          obtain ⟨y, hy⟩ : ∃ y, y = ys.getD q 0 := ⟨_, rfl⟩
          rw [← hx] at h1 ⊢
          rw [← hy] at h2
          by_cases hex : ∃ p, p < q ∧ ys.getD p 0 = x
          · have hd : decide (∃ p, p < q ∧ ys.getD p 0 = x) = true := decide_eq_true hex
            have hd2 : decide (∃ p, p < q + 1 ∧ ys.getD p 0 = x) = true := decide_eq_true (by obtain ⟨p, h, e⟩ := hex; exact ⟨p, by omega, e⟩)
            have HD := Lib.hid hd2
            rw [hd]
            clear hex hd hd2 hy hx
            go_wp2
            go_quiet (fail)
            go_wp2
            go_roundw
            case rel => exact ⟨q + 1, _, by omega, by rw [HD.out], by go_num, rfl⟩
            case measure => simp [intOf]; omega
          · have hd : decide (∃ p, p < q ∧ ys.getD p 0 = x) = false := decide_eq_false hex
            have hd2 : decide (∃ p, p < q + 1 ∧ ys.getD p 0 = x) = (y == x) := by
              rw [Bool.eq_iff_iff, decide_eq_true_iff, beq_iff_eq, hy]
              constructor
              · rintro ⟨p, h, e⟩
                by_cases hp : p = q
                · rw [← hp]; exact e
                · exact absurd ⟨p, by omega, e⟩ hex
              · intro e
                exact ⟨q, by omega, e⟩
            have HD := Lib.hid hd2
            rw [hd]
            clear hex hd hd2 hy hx
            go_wp2
            go_quiet (fail)
            go_wp2
            go_roundw
            case rel => exact ⟨q + 1, _, by omega, by rw [HD.out], by go_num, rfl⟩
            case measure => simp [intOf]; omega
        · obtain rfl : q = n := by omega
          have hd : decide (∃ p, p < q ∧ ys.getD p 0 = xs.getD k 0) = true := decide_eq_true (by
            have hxl := HXL.out
            have hyl := HYL.out
            have hmem : xs.getD k 0 ∈ xs := by
              have : xs.getD k 0 = xs[k] := by simp [List.getD, show k < xs.length by omega]
              rw [this]
              exact List.getElem_mem _
            obtain ⟨p, hp, e⟩ := List.getElem_of_mem (HM.out _ hmem)
            exact ⟨p, by omega, by rw [← e]; simp [List.getD, hp]⟩)
          rw [hd]
          clear hd
          go_wp2
          go_roundw
          case rel => exact ⟨k + 1, _, by omega, by go_num, rfl⟩
          case measure => simp [intOf]; omega
    · obtain rfl : k = n := by omega
      go_wp2
      go_ret
      exact ⟨rfl, below_drewN (Below.refl _ _) _⟩
end Go.Proofs.Ytegggfghocicaaa
