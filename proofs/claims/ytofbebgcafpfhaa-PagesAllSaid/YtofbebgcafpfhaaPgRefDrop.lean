/-
  The reference's Drop and Same.
-/
import Derived.Test.YtofbebgcafpfhaaPgRefTake
namespace Go.Proofs.Ytofbebgcafpfhaa
open Go.RowKit

theorem drop_two {f : Nat → Int × Int} {a m : Nat} (h : wide f a = m) (hm : 1 ≤ m) (i : Nat) : drop f a i = put (fillF f (a + 1) (m - 1) (0, 0)) a (0, 0) i := by
  unfold drop put fillF
  rw [h]
  by_cases h0 : i = a
  · rw [if_pos h0, if_pos (by omega)]
  · rw [if_neg h0]
    by_cases h2 : a ≤ i ∧ (i : Int) < a + m
    · rw [if_pos h2, if_pos (by omega)]
    · rw [if_neg h2, if_neg (by omega)]

set_option maxHeartbeats 1000000 in
theorem rdrop_core (B : Nat) (A : Option Addr) (n c : Nat) (f : Nat → Int × Int) (a : Nat) (w : World) (hM : mayB f n = true) (ha : a < n) (hk : (f a).1 = 1 ∨ (f a).1 = 2) (hr : PRow w B A n f) (hB : B ≤ w.heap.size) :
    Calls Try.prog 23 #[.slice A n c, .int .i64 a] w (TOut w (dropE f n a) n (dropF f a)) := by
  have HE := Lib.hid (dropE_ok hM ha hk)
  obtain ⟨w1', w4', hfit, -, -⟩ := wide_facts hM ha hk
  obtain ⟨m, hm⟩ : ∃ m : Nat, wide f a = m := ⟨(wide f a).toNat, by omega⟩
  have HW := Lib.hid hm
  rw [hm] at w1' w4' hfit
  have ham : a + m ≤ n := by omega
  have hm1 : 1 ≤ m := by omega
  obtain ⟨n1, n64, -, -⟩ := (mayB_iff f n).1 hM
  have hn : n ≤ 1000 := by omega
  have HM := Lib.hid hM
  have HR := Lib.hid hr
  obtain ⟨b, off, rfl, hbB, -⟩ := hr (by omega)
  clear hM hr w1' w4' hfit
  have dn : decide ((n : Int) ≤ a) = false := by simp; omega
  rcases hk with hk | hk
  · have em : m = 1 := by
      have := HW.out
      unfold wide at this
      rw [hk] at this
      simp at this
      omega
    subst em
    have e1 : ((f a).1 != 1) = false := by rw [hk]; decide
    have e2 : ((f a).1 == 2) = false := by rw [hk]; decide
    clear hk hm
    go_enter Try.func23, Try.ntmps23
    go_wp2_with fail
    refine (rmay_yes B _ _ _ _ _ HM.out HR.out hB).mono ?_
    rintro e w1 ⟨rfl, hb1⟩
    have HR1 := Lib.hid (HR.out.over hb1 hB)
    obtain ⟨_, _, ea, hb', hc'⟩ := HR1.out (by omega)
    simp at ea
    obtain ⟨rfl, rfl⟩ := ea
    obtain ⟨p0, p1⟩ := hc' a ha
    have hz1 := hb1.size
    have HB1 := Lib.hid hb1
    clear hb1 hc'
    go_wp2_with (at_builtin; refine wpList_pcopied rfl _ _ rfl rfl B _ n c f rfl HR1.out ?n0 ?n1 ?_)
    case n0 => omega
    case n1 => omega
    intro g c' w2 hm hb2
    have q0 := (hb2.cell (p := ⟨b, off + a * 2, none⟩) (by simp; omega)).trans p0
    have q1 := (hb2.cell (p := ⟨b, off + a * 2 + 1, none⟩) (by simp; omega)).trans p1
    have f0 := hm.free (a * 2)
    have f1 := hm.free (a * 2 + 1)
    obtain ⟨k0, k1⟩ := hm.cells a ha
    have hg := hm.2.1
    have hgr := hm.2.2.1
    have hcc := hm.2.2.2.1
    have HM2 := Lib.hid (hm.stored a (0, 0))
    have HB2 := Lib.hid (HB1.out.trans (hb2.mono hz1))
    clear hm hb2
    go_wp2
    go_ret2
    refine tout_ok rfl HE.out (HM2.out.lower hz1) (fun i _ => ?_) ((HB2.out.setCell (by simpa using (show w.heap.size ≤ g by omega)) _).setCell (by simpa using (show w.heap.size ≤ g by omega)) _)
    have := drop_two HW.out (Nat.le_refl _) i
    rwa [Nat.sub_self, fillF_zero] at this
  · have em : (f a).2 = m := by
      have := HW.out
      unfold wide at this
      rw [if_pos hk] at this
      exact this
    have e1 : ((f a).1 != 1) = true := by rw [hk]; decide
    have e2' : ((f a).1 != 2) = false := by rw [hk]; decide
    have e2 : ((f a).1 == 2) = true := by rw [hk]; decide
    have EM := Lib.hid em
    clear hk hm em
    go_enter Try.func23, Try.ntmps23
    go_wp2_with fail
    refine (rmay_yes B _ _ _ _ _ HM.out HR.out hB).mono ?_
    rintro e w1 ⟨rfl, hb1⟩
    have HR1 := Lib.hid (HR.out.over hb1 hB)
    obtain ⟨_, _, ea, hb', hc'⟩ := HR1.out (by omega)
    simp at ea
    obtain ⟨rfl, rfl⟩ := ea
    obtain ⟨p0, p1⟩ := hc' a ha
    rw [EM.out] at p1
    have hz1 := hb1.size
    have HB1 := Lib.hid hb1
    clear hb1 hc'
    go_wp2_with (at_builtin; refine wpList_pcopied rfl _ _ rfl rfl B _ n c f rfl HR1.out ?n0 ?n1 ?_)
    case n0 => omega
    case n1 => omega
    intro g c' w2 hm hb2
    have q0 := (hb2.cell (p := ⟨b, off + a * 2, none⟩) (by simp; omega)).trans p0
    have q1 := (hb2.cell (p := ⟨b, off + a * 2 + 1, none⟩) (by simp; omega)).trans p1
    have hg := hm.2.1
    have hcc := hm.2.2.2.1
    have HM2 := Lib.hid hm
    have HB2 := Lib.hid hb2
    have hz2 := hb2.size
    clear hm hb2
    go_wp2
    go_loopw [8] (fun i wr => ∃ k : Nat, 1 ≤ k ∧ k ≤ m ∧ i = .int .i64 k ∧ PMine wr w1.heap.size 36 g n c' (fillF f (a + 1) (k - 1) (0, 0)) ∧ Below w1.heap.size w1 wr) (fun i _ => m - (intOf i).toNat)
    case atStart => exact ⟨1, by omega, by omega, rfl, by rw [Nat.sub_self, fillF_zero]; exact HM2.out, HB2.out⟩
    case round =>
      obtain ⟨k, hk1, hk2, rfl, hm, hb⟩ := hrel
      have HB := Lib.hid hb
      have HK := Lib.hid hm
      have r1 := (hb.cell (p := ⟨b, off + a * 2 + 1, none⟩) (by simp; omega)).trans p1
      by_cases hlt : k < m
      · have f0 := hm.free ((a + k) * 2)
        have f1 := hm.free ((a + k) * 2 + 1)
        have hgr := hm.2.2.1
        obtain ⟨d0', d1'⟩ := hm.cells (a + k) (by omega)
        clear hm hb
        go_wp2
        go_roundw
        case rel =>
          refine ⟨k + 1, by omega, by omega, by go_num, ?_, ?_⟩
          · have := HK.out.stored (a + k) (0, 0)
            rw [show a + k = a + 1 + (k - 1) by omega, fillF_succ, show a + 1 + (k - 1) = a + k by omega, show k - 1 + 1 = k + 1 - 1 by omega] at this
            exact this
          · exact (HB.out.setCell (by simpa using hg) _).setCell (by simpa using hg) _
        case measure => simp [intOf]; omega
      · obtain rfl : k = m := by omega
        have f0 := hm.free (a * 2)
        have f1 := hm.free (a * 2 + 1)
        have hgr := hm.2.2.1
        obtain ⟨d0', d1'⟩ := hm.cells a (by omega)
        clear hm hb
        go_wp2
        go_ret2
        exact tout_ok rfl HE.out ((HK.out.stored a (0, 0)).lower hz1) (fun i _ => drop_two HW.out hm1 i)
          ((HB1.out.trans (HB.out.mono hz1)).setCell (by simpa using (show w.heap.size ≤ g by omega)) _ |>.setCell (by simpa using (show w.heap.size ≤ g by omega)) _)

theorem rdrop_any (B : Nat) (A : Option Addr) (n c : Nat) (f : Nat → Int × Int) (at_ : Int) (w : World) (hn : n ≤ 1000) (hr : PRow w B A n f) (hB : B ≤ w.heap.size) :
    Calls Try.prog 23 #[.slice A n c, .int .i64 at_] w (TOut w (dropE f n at_) n (dropF f at_)) := by
  cases hM : mayB f n
  · have HE := Lib.hid (dropE_may (at_ := at_) hM)
    have HM := Lib.hid hM
    have HR := Lib.hid hr
    clear hM hr
    go_enter Try.func23, Try.ntmps23
    go_wp2_with fail
    refine (rmay_no B _ _ _ _ _ HM.out hn HR.out hB).mono ?_
    rintro e w1 ⟨rfl, hb1⟩
    go_wp2
    go_ret2
    exact tout_err rfl HE.out (by decide) hb1
  by_cases hat : at_ < 0 ∨ (n : Int) ≤ at_
  · have HE := Lib.hid (dropE_none hM hat)
    have HM := Lib.hid hM
    have HR := Lib.hid hr
    clear hM hr
    by_cases h0 : at_ < 0
    · have d0 : decide (at_ < 0) = true := by simpa using h0
      clear hat
      go_enter Try.func23, Try.ntmps23
      go_wp2_with fail
      refine (rmay_yes B _ _ _ _ _ HM.out HR.out hB).mono ?_
      rintro e w1 ⟨rfl, hb1⟩
      go_wp2
      go_ret2
      exact tout_err rfl HE.out (by decide) hb1
    · have d0 : decide (at_ < 0) = false := by simpa using h0
      have h1 : (n : Int) ≤ at_ := by omega
      have d1 : decide ((n : Int) ≤ at_) = true := by simpa using h1
      clear hat
      go_enter Try.func23, Try.ntmps23
      go_wp2_with fail
      refine (rmay_yes B _ _ _ _ _ HM.out HR.out hB).mono ?_
      rintro e w1 ⟨rfl, hb1⟩
      go_wp2
      go_ret2
      exact tout_err rfl HE.out (by decide) hb1
  obtain ⟨a, rfl⟩ : ∃ a : Nat, at_ = a := ⟨at_.toNat, by omega⟩
  have ha : a < n := by omega
  rcases (show ((f a).1 = 0 ∨ (f a).1 = 3) ∨ ((f a).1 = 1 ∨ (f a).1 = 2) by have := kinds hM ha; omega) with hk | hk
  · have HE := Lib.hid (dropE_kind hM ha hk)
    have HM := Lib.hid hM
    have HR := Lib.hid hr
    obtain ⟨b, off, rfl, hbB, -⟩ := hr (by omega)
    have e1 : ((f a).1 != 1) = true := by rcases hk with hk | hk <;> rw [hk] <;> decide
    have e2 : ((f a).1 != 2) = true := by rcases hk with hk | hk <;> rw [hk] <;> decide
    have dn : decide ((n : Int) ≤ a) = false := by simp; omega
    clear hM hr hat hk
    go_enter Try.func23, Try.ntmps23
    go_wp2_with fail
    refine (rmay_yes B _ _ _ _ _ HM.out HR.out hB).mono ?_
    rintro e w1 ⟨rfl, hb1⟩
    obtain ⟨_, _, ea, hb', hc'⟩ := (HR.out.over hb1 hB) (by omega)
    simp at ea
    obtain ⟨rfl, rfl⟩ := ea
    obtain ⟨p0, p1⟩ := hc' a ha
    have HB1 := Lib.hid hb1
    clear hb1 hc'
    go_wp2
    go_ret2
    exact tout_err rfl HE.out (by decide) HB1.out
  · exact rdrop_core B A n c f a w hM ha hk hr hB

set_option maxHeartbeats 1000000 in
theorem same_yes (B B' : Nat) (A A' : Option Addr) (n c c' : Nat) (f g : Nat → Int × Int) (w : World) (hn : n ≤ 1000) (he : ∀ i, i < n → g i = f i) (hr : PRow w B A n f) (hr' : PRow w B' A' n g) (hB : B ≤ w.heap.size) (hB' : B' ≤ w.heap.size) :
    Calls Try.prog 19 #[.slice A n c, .slice A' n c'] w fun e w' => e = .returned (.bool true) ∧ Below w.heap.size w w' := by
  have HR := Lib.hid hr
  have HR' := Lib.hid (hr'.congr (fun i hi => (he i hi).symm))
  clear hr hr' he
  go_enter Try.func19, Try.ntmps19
  go_wp2
  go_loopw [5] (fun i wr => ∃ k : Nat, k ≤ n ∧ i = .int .i64 k ∧ Below w.heap.size w wr) (fun i _ => n - (intOf i).toNat)
  case atStart => exact ⟨0, Nat.zero_le _, rfl, Below.refl _ _⟩
  case round =>
    obtain ⟨k, hk, rfl, hb⟩ := hrel
    by_cases hlt : k < n
    · obtain ⟨b, off, rfl, hbB, hc⟩ := (HR.out.over hb hB) (by omega)
      obtain ⟨p0, p1⟩ := hc k hlt
      obtain ⟨b', off', rfl, hbB', hc'⟩ := (HR'.out.over hb hB') (by omega)
      obtain ⟨q0, q1⟩ := hc' k hlt
      have HB := Lib.hid hb
      have hz := hb.size
      have HQ := pneq_no (a := (f k).1) (b := (f k).2) ⟨rfl, rfl⟩
      clear hb hc hc'
      go_wp2
      go_quiet (fail)
      go_wp2
      go_roundw
      case rel => exact ⟨k + 1, by omega, by go_num, below_drewN HB.out _⟩
      case measure => simp [intOf]; omega
    · go_wp2
      go_ret
      exact ⟨rfl, hb⟩
end Go.Proofs.Ytofbebgcafpfhaa
