/-
  The reference's May: which pages may be.
-/
import Derived.Test.YtlmaeppckaempaaDoorPgMayAll
namespace Go.Proofs.YtlmaeppckaempaaDoor
open Go.RowKit

theorem below_drewN {B : Nat} {w w1 : World} (h : Below B w w1) (k : Nat) : Below B w (w1.drewN k) := ⟨h.os, h.tape, h.output, h.size, h.block⟩
theorem pneq_no {a b a' b' : Int} (h : a = a' ∧ b = b') (w : World) :
    (binOp .neq 34 (.agg #[.int .i64 a, .int .i64 b]) (.agg #[.int .i64 a', .int .i64 b'])).run Tryd.prog w = .ok (.bool false) w := by
  obtain ⟨rfl, rfl⟩ := h
  go_simp
theorem pneq_yes {a b a' b' : Int} (h : ¬ (a = a' ∧ b = b')) (w : World) :
    (binOp .neq 34 (.agg #[.int .i64 a, .int .i64 b]) (.agg #[.int .i64 a', .int .i64 b'])).run Tryd.prog w = .ok (.bool true) w := by
  by_cases h0 : a = a'
  · by_cases h1 : b = b'
    · exact absurd ⟨h0, h1⟩ h
    · clear h; go_simp
  · clear h; go_simp

theorem rest_only {f : Nat → Int × Int} {k : Nat} (h : ¬ ((f k).1 = 3 ∧ (f k).2 = 0)) (hs : 0 < st f k) : okB f k = false := by
  cases he : okB f k
  · rfl
  · exfalso
    have := (okB_iff f k).1 he
    have h3 := this.2.2 hs
    have := (pmB_iff _).1 this.1
    omega
theorem rest_ok {f : Nat → Int × Int} {k : Nat} (h : (f k).1 = 3 ∧ (f k).2 = 0) (hs : 0 < st f k) : okB f k = true :=
  okB_yes ((pmB_iff _).2 (by omega)) ⟨fun _ => hs, fun _ => h.1⟩
theorem head_only {f : Nat → Int × Int} {k : Nat} (h0 : ¬ ((f k).1 = 0 ∧ (f k).2 = 0)) (h1 : ¬ ((f k).1 = 1 ∧ 0 ≤ (f k).2 ∧ (f k).2 ≤ 2)) (h2 : ¬ ((f k).1 = 2 ∧ 1 ≤ (f k).2 ∧ (f k).2 ≤ 4)) (hs : st f k = 0) : okB f k = false := by
  cases he : okB f k
  · rfl
  · exfalso
    have := (okB_iff f k).1 he
    have h3 : (f k).1 ≠ 3 := fun h => by have := this.2.1 h; omega
    have := (pmB_iff _).1 this.1
    omega
theorem alone_ok {f : Nat → Int × Int} {k : Nat} (h : ((f k).1 = 0 ∧ (f k).2 = 0) ∨ ((f k).1 = 1 ∧ 0 ≤ (f k).2 ∧ (f k).2 ≤ 2)) (hs : st f k = 0) : okB f k = true ∧ st f (k + 1) = 0 :=
  ⟨okB_yes ((pmB_iff _).2 (by omega)) ⟨fun h => by omega, fun h => by omega⟩, by rw [st_same (by omega) (by omega), hs]⟩
theorem large_ok {f : Nat → Int × Int} {k : Nat} (h : (f k).1 = 2 ∧ 1 ≤ (f k).2 ∧ (f k).2 ≤ 4) (hs : st f k = 0) : okB f k = true ∧ st f (k + 1) = (f k).2 - 1 :=
  ⟨okB_yes ((pmB_iff _).2 (by omega)) ⟨fun h => by omega, fun h => by omega⟩, st_large h.1⟩

set_option maxHeartbeats 2000000 in
theorem rmay_any (B : Nat) (A : Option Addr) (n c : Nat) (f : Nat → Int × Int) (w : World) (hn : n ≤ 1000) (hr : PRow w B A n f) (hB : B ≤ w.heap.size) :
    Calls Tryd.prog 33 #[.slice A n c] w fun e w' => e = .returned (.bool (mayB f n)) ∧ Below w.heap.size w w' := by
  have HR := Lib.hid hr
  clear hr
  by_cases h1 : n < 1
  · have HM := Lib.hid (mayB_short (f := f) (n := n) (.inl h1))
    obtain rfl : n = 0 := by omega
    go_enter Tryd.func33, Tryd.ntmps33
    go_wp2
    go_ret
    exact ⟨rint HM.out.symm, Below.refl _ _⟩
  by_cases h2 : 64 < n
  · have HM := Lib.hid (mayB_short (f := f) (n := n) (.inr h2))
    go_enter Tryd.func33, Tryd.ntmps33
    go_wp2
    go_ret
    exact ⟨rint HM.out.symm, Below.refl _ _⟩
  go_enter Tryd.func33, Tryd.ntmps33
  go_wp2
  go_loopw [3] (fun i wr => ∃ k : Nat, k ≤ n ∧ i = .int .i64 k ∧ Hid (st f k = 0) ∧ Good f k ∧ Below w.heap.size w wr) (fun i _ => n - (intOf i).toNat)
  case atStart => exact ⟨0, Nat.zero_le _, rfl, Lib.hid rfl, Good.zero f, Below.refl _ _⟩
  case round =>
    obtain ⟨k, hk, rfl, HZ, hg, hb⟩ := hrel
    have HG := Lib.hid hg
    clear hg
    by_cases hlt : k < n
    · obtain ⟨b, off, rfl, hbB, hc⟩ := (HR.out.over hb hB) (by omega)
      obtain ⟨c0, c1⟩ := hc k hlt
      have HB := Lib.hid hb
      have hz := hb.size
      clear hb hc
      by_cases g0 : (f k).1 = 0 ∧ (f k).2 = 0
      · obtain ⟨ho, hs⟩ := alone_ok (.inl g0) HZ.out
        have HO := Lib.hid ho
        have HS := Lib.hid hs
        have e0 : ((f k).1 == 0) = true := by simpa using g0.1
        have e1 : ((f k).2 == 0) = true := by simpa using g0.2
        clear ho hs g0
        go_wp2
        go_roundw
        case rel => exact ⟨k + 1, by omega, by go_num, HS, HG.out.next HO.out, HB.out.alloc hz _⟩
        case measure => simp [intOf]; omega
      by_cases g1 : (f k).1 = 1 ∧ 0 ≤ (f k).2 ∧ (f k).2 ≤ 2
      · obtain ⟨ho, hs⟩ := alone_ok (.inr g1) HZ.out
        have HO := Lib.hid ho
        have HS := Lib.hid hs
        have e0 : ((f k).1 == 0) = false := by rw [g1.1]; decide
        have e1 : ((f k).1 == 1) = true := by simpa using g1.1
        have d0 : decide (0 ≤ (f k).2) = true := by simpa using g1.2.1
        have d1 : decide ((f k).2 ≤ 2) = true := by simpa using g1.2.2
        clear ho hs g0 g1
        go_wp2
        go_roundw
        case rel => exact ⟨k + 1, by omega, by go_num, HS, HG.out.next HO.out, HB.out.alloc hz _⟩
        case measure => simp [intOf]; omega
      by_cases g2 : (f k).1 = 2 ∧ 1 ≤ (f k).2 ∧ (f k).2 ≤ 4
      · obtain ⟨ho, hs⟩ := large_ok g2 HZ.out
        have HO := Lib.hid ho
        have HS := Lib.hid hs
        obtain ⟨g20, g21, g22⟩ := g2
        have G20 := Lib.hid g20
        have e0 : ((f k).1 == 0) = false := by rw [g20]; decide
        have e1 : ((f k).1 == 1) = false := by rw [g20]; decide
        have e2 : ((f k).1 != 2) = false := by rw [g20]; decide
        have d0 : decide ((f k).2 < 1) = false := by simp; omega
        have d1 : decide (4 < (f k).2) = false := by simp; omega
        clear ho hs g0 g1 g20
        obtain ⟨wo, rfl⟩ : ∃ wo : World, wo = wr := ⟨_, rfl⟩
        go_wp2
        go_loopw [3, 5] (fun i j wi => ∃ m q : Nat, 1 ≤ m ∧ (m : Int) ≤ (f k).2 ∧ q ≤ n ∧ k + m ≤ q ∧ q ≤ k + m ∧ j = .int .i64 m ∧ i = .int .i64 q ∧ Hid (st f q = (f k).2 - m) ∧ Good f q ∧
          Below (wo.alloc (.cells #[.int .i64 (f k).1, .int .i64 (f k).2] 34)).heap.size (wo.alloc (.cells #[.int .i64 (f k).1, .int .i64 (f k).2] 34)) wi) (fun _ j _ => ((f k).2 - intOf j).toNat)
        case atStart => exact ⟨1, k + 1, by omega, by omega, by omega, by omega, by omega, rfl, by go_num, Lib.hid HS.out, HG.out.next HO.out, Below.refl _ _⟩
        case round =>
          obtain ⟨m, q, hm1, hm2, hqn, hq1, hq2, rfl, rfl, HT, hg2, hb2⟩ := hrel
          have HG2 := Lib.hid hg2
          obtain ⟨k0, k1, hz1⟩ := pair_kept hb2
          have HB2 := Lib.hid hb2
          have HB3 := Lib.hid (below_pair HB.out hb2)
          have hz3 := HB3.out.size
          have hz4 := hb2.size
          clear hg2
          by_cases hm : (m : Int) < (f k).2
          · have hd : decide ((m : Int) < (f k).2) = true := by simpa using hm
            by_cases hkn : q < n
            · obtain ⟨b', off', ea, hb', hc'⟩ := (HR.out.over HB3.out hB) (by omega)
              simp at ea
              obtain ⟨rfl, rfl⟩ := ea
              obtain ⟨p0, p1⟩ := hc' q hkn
              have hbw : b < wr.heap.size := by omega
              clear hc' hb2
              have h0s : 0 < st f q := by rw [HT.out]; omega
              have hdn : decide (n ≤ q) = false := by simp; omega
              by_cases hrest : (f q).1 = 3 ∧ (f q).2 = 0
              · have HO2 := Lib.hid (rest_ok hrest h0s)
                have HS2 := Lib.hid (st_rest hrest.1 h0s)
                have HQ := pneq_no hrest
                clear hrest h0s
                go_wp2
                go_quiet (fail)
                go_wp2
                go_roundw
                case rel => exact ⟨m + 1, q + 1, by omega, by omega, by omega, by omega, by omega, by go_num, by go_num, Lib.hid (by have := HT.out; have := HS2.out; omega), HG2.out.next HO2.out, below_drewN (HB2.out.alloc hz4 _) _⟩
                case measure => simp [intOf]; omega
              · have HM := Lib.hid (mayB_not hkn (rest_only hrest h0s))
                have HQ := pneq_yes hrest
                clear hrest h0s
                go_wp2
                go_quiet (fail)
                go_wp2
                go_ret
                exact ⟨rint HM.out.symm, below_drewN (HB3.out.alloc hz3 _) _⟩
            · obtain rfl : n = q := by omega
              have HM := Lib.hid (mayB_end (f := f) (n := n) (by rw [HT.out]; omega))
              clear hb2
              go_wp2
              go_quiet (fail)
              go_wp2
              go_ret
              exact ⟨rint HM.out.symm, below_drewN (HB3.out.alloc hz3 _) _⟩
          · have hd : decide ((m : Int) < (f k).2) = false := by simpa using hm
            have HE := Lib.hid (show st f q = 0 by rw [HT.out]; omega)
            clear hb2
            go_wp2
            go_roundw
            case rel => exact ⟨q, by assumption, rfl, HE, HG2.out, HB3.out⟩
            case measure => simp [intOf]; omega
      · have HM := Lib.hid (mayB_not hlt (head_only g0 g1 g2 HZ.out))
        have G0 := Lib.hid g0
        have G1 := Lib.hid g1
        have G2 := Lib.hid g2
        clear g0 g1 g2
        go_wp2
        all_goals first
          | (go_ret; exact ⟨rint HM.out.symm, HB.out.alloc hz _⟩)
          | (exfalso; have g0 := G0.out; have g1 := G1.out; have g2 := G2.out; omega)
          | (exfalso; have g0 := G0.out; have g1 := G1.out; have g2 := G2.out; simp_all)
    · obtain rfl : k = n := by omega
      have HM := Lib.hid (mayB_mk (by omega) (by omega) HG.out HZ.out)
      go_wp2
      go_ret
      exact ⟨rint HM.out.symm, hb⟩
theorem rmay_yes (B : Nat) (A : Option Addr) (n c : Nat) (f : Nat → Int × Int) (w : World) (h : mayB f n = true) (hr : PRow w B A n f) (hB : B ≤ w.heap.size) :
    Calls Tryd.prog 33 #[.slice A n c] w fun e w' => e = .returned (.bool true) ∧ Below w.heap.size w w' := by
  rw [← h]
  have := (mayB_iff f n).1 h
  exact rmay_any B A n c f w (by omega) hr hB
theorem rmay_no (B : Nat) (A : Option Addr) (n c : Nat) (f : Nat → Int × Int) (w : World) (h : mayB f n = false) (hn : n ≤ 1000) (hr : PRow w B A n f) (hB : B ≤ w.heap.size) :
    Calls Tryd.prog 33 #[.slice A n c] w fun e w' => e = .returned (.bool false) ∧ Below w.heap.size w w' := by
  rw [← h]
  exact rmay_any B A n c f w hn hr hB
end Go.Proofs.YtlmaeppckaempaaDoor
