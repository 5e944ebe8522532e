/-
  The reference's Small, Large, Drop and Same.
-/
import Derived.Test.YtofbebgcafpfhaaPgDrop
namespace Go.Proofs.Ytofbebgcafpfhaa
open Go.RowKit

theorem wpList_pcopied {w : World} {ops : Array Oper} {rest : List Oper} {o : Oper} {a : Act} {Q : Exit → Act → World → Prop} (hgd : o.guard = none) (s x : Operand)
    (ho : o.op = .call { callee := .builtin .append, args := #[s, x], argTypes := #[22, 22] }) (hs : a.eval s = .slice none 0 0)
    (B : Nat) (A : Option Addr) (n c : Nat) (f : Nat → Int × Int) (hx : a.eval x = .slice A n c) (hr : PRow w B A n f) (hn : 0 < n) (hbig : n ≤ 1000)
    (h : ∀ g c' w', PMine w' w.heap.size 36 g n c' f → Below w.heap.size w w' → wpList Try.prog ops Q rest (a.put o.dst (.slice (some ⟨g, 0, none⟩) n c')) w') : wpList Try.prog ops Q (o :: rest) a w := by
  obtain ⟨i0, hi, hz0, hz1, hz2⟩ := info_parts info_page
  obtain ⟨b, off, rfl, _, hc⟩ := hr hn
  refine wpList_append_own (P := Try.prog) w hgd s x 22 ho w.heap.size 36 i0 (.agg #[.int .i64 0, .int .i64 0]) 2 16 Try.underlying22 hi hz0 hz1 hz2 rfl (by decide) _ 0 [] hs (World.ownsRow_nil _ _ _ _) ⟨b, off, none⟩ n c (pcells f n) hx ?_ ?_ ?_ ?_ ?_ ?_ ?_
  · exact pcells_length f n
  · intro j u hj
    rw [Addr.add_lit]
    exact pcells_of hc j u hj
  · exact pcells_one
  · unfold maxLen; omega
  · omega
  · exact Nat.le_refl _
  · intro v' w1 hown hgrow _
    have hown' : w1.ownsRow w.heap.size 36 2 v' n (pcells f n) := by simpa using hown
    obtain ⟨g, c', rfl, hm⟩ := pmine_of hown' hn
    exact h g c' w1 hm ((Below.refl _ w).grown hgrow (Nat.le_refl _) (by intro k hk; cases hk))

theorem one_free {f : Nat → Int × Int} {a : Nat} : freeB f a 1 = ((f a).1 == 0) := by simp [freeB, List.range_succ]

set_option maxHeartbeats 1000000 in
theorem rsmall_any (B : Nat) (A : Option Addr) (n c : Nat) (f : Nat → Int × Int) (at_ cl : Int) (w : World) (hn : n ≤ 1000) (hr : PRow w B A n f) (hB : B ≤ w.heap.size) :
    Calls Try.prog 18 #[.slice A n c, .int .i64 at_, .int .i64 cl] w (TOut w (smallE f n at_ cl) n (smallF f at_ cl)) := by
  have HR := Lib.hid hr
  clear hr
  cases hM : mayB f n
  · have HE := Lib.hid (show smallE f n at_ cl = 1 by unfold smallE; rw [takeE_may hM]; simp)
    have HM := Lib.hid hM
    clear hM
    go_enter Try.func18, Try.ntmps18
    go_wp2_with fail
    refine (rmay_no B _ _ _ _ _ HM.out hn HR.out hB).mono ?_
    rintro e w1 ⟨rfl, hb1⟩
    go_wp2
    go_ret2
    exact tout_err rfl HE.out (by decide) hb1
  have HM := Lib.hid hM
  by_cases hc : 0 ≤ cl ∧ cl ≤ 2
  · have hcl := (clB_iff cl).2 hc
    obtain ⟨hc0, hc2⟩ := hc
    have d0 : decide (cl < 0) = false := by simp; omega
    have d1 : decide (2 < cl) = false := by simp; omega
    have HT := Lib.hid (show smallE f n at_ cl = takeE f n at_ 1 from if_pos hcl)
    obtain ⟨n1, n64, -, -⟩ := (mayB_iff f n).1 hM
    by_cases hat : at_ < 0 ∨ (n : Int) ≤ at_
    · have HE := Lib.hid (HT.out.trans (takeE_none hM (by omega)))
      clear hM hcl
      by_cases h0 : at_ < 0
      · have d2 : decide (at_ < 0) = true := by simpa using h0
        clear hat
        go_enter Try.func18, Try.ntmps18
        go_wp2_with fail
        refine (rmay_yes B _ _ _ _ _ HM.out HR.out hB).mono ?_
        rintro e w1 ⟨rfl, hb1⟩
        go_wp2
        go_ret2
        exact tout_err rfl HE.out (by decide) hb1
      · have d2 : decide (at_ < 0) = false := by simpa using h0
        have h1 : (n : Int) ≤ at_ := by omega
        have d3 : decide ((n : Int) ≤ at_) = true := by simpa using h1
        clear hat
        go_enter Try.func18, Try.ntmps18
        go_wp2_with fail
        refine (rmay_yes B _ _ _ _ _ HM.out HR.out hB).mono ?_
        rintro e w1 ⟨rfl, hb1⟩
        go_wp2
        go_ret2
        exact tout_err rfl HE.out (by decide) hb1
    obtain ⟨a, rfl⟩ : ∃ a : Nat, at_ = a := ⟨at_.toNat, by omega⟩
    have ha : a < n := by omega
    obtain ⟨b, off, rfl, hbB, -⟩ := HR.out (by omega)
    by_cases hf : (f a).1 = 0
    · have HE := Lib.hid (HT.out.trans (takeE_ok hM (by omega) (by simpa [one_free] using hf)))
      have e0 : ((f a).1 != 0) = false := by simpa using hf
      clear hM hcl hf hat
      go_enter Try.func18, Try.ntmps18
      go_wp2_with fail
      refine (rmay_yes B _ _ _ _ _ HM.out HR.out hB).mono ?_
      rintro e w1 ⟨rfl, hb1⟩
      have HR1 := Lib.hid (HR.out.over hb1 hB)
      obtain ⟨_, _, ea, hb', hc'⟩ := HR1.out (by omega)
      simp at ea
      obtain ⟨rfl, rfl⟩ := ea
      obtain ⟨p0, p1⟩ := hc' a ha
      have HB1 := Lib.hid hb1
      have hz1 := hb1.size
      clear hb1 hc'
      go_wp2_with (at_builtin; refine wpList_pcopied rfl _ _ rfl rfl B _ n c f rfl HR1.out ?n0 ?n1 ?_)
      case n0 => omega
      case n1 => omega
      intro g c' w2 hm hb2
      have f0 := hm.free (a * 2)
      have f1 := hm.free (a * 2 + 1)
      obtain ⟨k0, k1⟩ := hm.cells a ha
      have hg := hm.2.1
      have hgr := hm.2.2.1
      have hcc := hm.2.2.2.1
      have HM2 := Lib.hid (hm.stored a (1, cl))
      have HB2 := Lib.hid (HB1.out.trans (hb2.mono hz1))
      clear hm hb2
      go_wp2
      go_ret2
      exact tout_ok rfl HE.out (HM2.out.lower hz1) (fun i _ => rfl) ((HB2.out.setCell (by simpa using (show w.heap.size ≤ g by omega)) _).setCell (by simpa using (show w.heap.size ≤ g by omega)) _)
    · have HE := Lib.hid (HT.out.trans (takeE_full hM (by omega) (by simpa [one_free] using hf)))
      have e0 : ((f a).1 != 0) = true := by simpa using hf
      clear hM hcl hf hat
      go_enter Try.func18, Try.ntmps18
      go_wp2_with fail
      refine (rmay_yes B _ _ _ _ _ HM.out HR.out hB).mono ?_
      rintro e w1 ⟨rfl, hb1⟩
      obtain ⟨_, _, ea, hb', hc'⟩ := (HR.out.over hb1 hB) (by omega)
      simp at ea
      obtain ⟨rfl, rfl⟩ := ea
      obtain ⟨p0, p1⟩ := hc' a ha
      have HB1 := Lib.hid hb1
      clear hb1 hc'
      go_wp2
      go_ret2
      exact tout_err rfl HE.out (by decide) HB1.out
  · have HE := Lib.hid (show smallE f n at_ cl = 1 from if_neg (by rw [clB_not hc]; decide))
    clear hM
    by_cases h0 : cl < 0
    · have d0 : decide (cl < 0) = true := by simpa using h0
      clear hc
      go_enter Try.func18, Try.ntmps18
      go_wp2_with fail
      refine (rmay_yes B _ _ _ _ _ HM.out HR.out hB).mono ?_
      rintro e w1 ⟨rfl, hb1⟩
      go_wp2
      go_ret2
      exact tout_err rfl HE.out (by decide) hb1
    · have d0 : decide (cl < 0) = false := by simpa using h0
      have h1 : 2 < cl := by omega
      have d1 : decide (2 < cl) = true := by simpa using h1
      clear hc
      go_enter Try.func18, Try.ntmps18
      go_wp2_with fail
      refine (rmay_yes B _ _ _ _ _ HM.out HR.out hB).mono ?_
      rintro e w1 ⟨rfl, hb1⟩
      go_wp2
      go_ret2
      exact tout_err rfl HE.out (by decide) hb1

set_option maxHeartbeats 1000000 in
theorem rlarge_any (B : Nat) (A : Option Addr) (n c : Nat) (f : Nat → Int × Int) (at_ m : Int) (w : World) (hn : n ≤ 1000) (hr : PRow w B A n f) (hB : B ≤ w.heap.size) :
    Calls Try.prog 21 #[.slice A n c, .int .i64 at_, .int .i64 m] w (TOut w (largeE f n at_ m) n (largeF f at_ m)) := by
  have HR := Lib.hid hr
  clear hr
  cases hM : mayB f n
  · have HE := Lib.hid (show largeE f n at_ m = 1 by unfold largeE; rw [takeE_may hM]; simp)
    have HM := Lib.hid hM
    clear hM
    go_enter Try.func21, Try.ntmps21
    go_wp2_with fail
    refine (rmay_no B _ _ _ _ _ HM.out hn HR.out hB).mono ?_
    rintro e w1 ⟨rfl, hb1⟩
    go_wp2
    go_ret2
    exact tout_err rfl HE.out (by decide) hb1
  have HM := Lib.hid hM
  by_cases hc : 1 ≤ m ∧ m ≤ 4
  · have hcl := (runB_iff m).2 hc
    obtain ⟨hc0, hc2⟩ := hc
    obtain ⟨q, rfl⟩ : ∃ q : Nat, m = q := ⟨m.toNat, by omega⟩
    have d0 : decide ((q : Int) < 1) = false := by simp; omega
    have d1 : decide (4 < (q : Int)) = false := by simp; omega
    have HT := Lib.hid (show largeE f n at_ q = takeE f n at_ q from if_pos hcl)
    obtain ⟨n1, n64, -, -⟩ := (mayB_iff f n).1 hM
    by_cases hat : at_ < 0 ∨ (n : Int) - q < at_
    · have HE := Lib.hid (HT.out.trans (takeE_none hM hat))
      clear hM hcl
      by_cases h0 : at_ < 0
      · have d2 : decide (at_ < 0) = true := by simpa using h0
        clear hat
        go_enter Try.func21, Try.ntmps21
        go_wp2_with fail
        refine (rmay_yes B _ _ _ _ _ HM.out HR.out hB).mono ?_
        rintro e w1 ⟨rfl, hb1⟩
        go_wp2
        go_ret2
        exact tout_err rfl HE.out (by decide) hb1
      have d2 : decide (at_ < 0) = false := by simpa using h0
      by_cases h1 : (n : Int) ≤ at_
      · have d3 : decide ((n : Int) ≤ at_) = true := by simpa using h1
        clear hat
        go_enter Try.func21, Try.ntmps21
        go_wp2_with fail
        refine (rmay_yes B _ _ _ _ _ HM.out HR.out hB).mono ?_
        rintro e w1 ⟨rfl, hb1⟩
        go_wp2
        go_ret2
        exact tout_err rfl HE.out (by decide) hb1
      · have d3 : decide ((n : Int) ≤ at_) = false := by simpa using h1
        have d4 : decide ((n : Int) - at_ < q) = true := by simp; omega
        clear hat
        go_enter Try.func21, Try.ntmps21
        go_wp2_with fail
        refine (rmay_yes B _ _ _ _ _ HM.out HR.out hB).mono ?_
        rintro e w1 ⟨rfl, hb1⟩
        go_wp2
        go_ret2
        exact tout_err rfl HE.out (by decide) hb1
    obtain ⟨a, rfl⟩ : ∃ a : Nat, at_ = a := ⟨at_.toNat, by omega⟩
    have ha : a + q ≤ n := by omega
    have d4 : decide ((n : Int) - a < q) = false := by simp; omega
    obtain ⟨b, off, rfl, hbB, -⟩ := HR.out (by omega)
    cases hf : freeB f a q
    · have HE := Lib.hid (HT.out.trans (takeE_full hM hat (by simpa using hf)))
      have HF := Lib.hid hf
      clear hM hcl hf hat
      go_enter Try.func21, Try.ntmps21
      go_wp2_with fail
      refine (rmay_yes B _ _ _ _ _ HM.out HR.out hB).mono ?_
      rintro e w1 ⟨rfl, hb1⟩
      have HR1 := Lib.hid (HR.out.over hb1 hB)
      have HB1 := Lib.hid hb1
      clear hb1
      go_wp2_with fail
      refine (rfree_no B _ _ _ _ _ _ _ HF.out hn ha HR1.out).mono ?_
      rintro e w2 ⟨rfl, rfl⟩
      go_wp2
      go_ret2
      exact tout_err rfl HE.out (by decide) HB1.out
    · have HE := Lib.hid (HT.out.trans (takeE_ok hM hat (by simpa using hf)))
      have HF := Lib.hid hf
      clear hM hcl hf hat
      go_enter Try.func21, Try.ntmps21
      go_wp2_with fail
      refine (rmay_yes B _ _ _ _ _ HM.out HR.out hB).mono ?_
      rintro e w1 ⟨rfl, hb1⟩
      have HR1 := Lib.hid (HR.out.over hb1 hB)
      have HB1 := Lib.hid hb1
      have hz1 := hb1.size
      clear hb1
      go_wp2_with fail
      refine (rfree_yes B _ _ _ _ _ _ _ HF.out hn ha HR1.out).mono ?_
      rintro e w2 ⟨rfl, rfl⟩
      go_wp2_with (at_builtin; refine wpList_pcopied rfl _ _ rfl rfl B _ n c f rfl HR1.out ?n0 ?n1 ?_)
      case n0 => omega
      case n1 => omega
      intro g c' w2 hm hb2
      have f0 := hm.free (a * 2)
      have f1 := hm.free (a * 2 + 1)
      obtain ⟨k0, k1⟩ := hm.cells a (by omega)
      have hg := hm.2.1
      have hgr := hm.2.2.1
      have hcc := hm.2.2.2.1
      have HM2 := Lib.hid (hm.stored a (2, q))
      have HB2 := Lib.hid ((HB1.out.trans (hb2.mono hz1)).setCell (p := ⟨g, a * 2, none⟩) (by simpa using (show w.heap.size ≤ g by omega)) (.int .i64 2) |>.setCell (p := ⟨g, a * 2 + 1, none⟩) (by simpa using (show w.heap.size ≤ g by omega)) (.int .i64 q))
      clear hm hb2
      go_wp2
      go_loopw [10] (fun i wr => ∃ k : Nat, 1 ≤ k ∧ k ≤ q ∧ i = .int .i64 k ∧ PMine wr w1.heap.size 36 g n c' (fillF (put f a (2, (q : Int))) (a + 1) (k - 1) (3, 0)) ∧ Below w.heap.size w wr) (fun i _ => q - (intOf i).toNat)
      case atStart => exact ⟨1, by omega, by omega, rfl, by rw [Nat.sub_self, fillF_zero]; exact HM2.out, HB2.out⟩
      case round =>
        obtain ⟨k, hk1, hk2, rfl, hm, hb⟩ := hrel
        have HB := Lib.hid hb
        have HK := Lib.hid hm
        by_cases hlt : k < q
        · have f0 := hm.free ((a + k) * 2)
          have f1 := hm.free ((a + k) * 2 + 1)
          have hgr := hm.2.2.1
          obtain ⟨d0', d1'⟩ := hm.cells (a + k) (by omega)
          clear hm hb
          go_wp2
          go_roundw
          case rel =>
            refine ⟨k + 1, by omega, by omega, by go_num, ?_, ?_⟩
            · have := HK.out.stored (a + k) (3, 0)
              rw [show a + k = a + 1 + (k - 1) by omega, fillF_succ, show a + 1 + (k - 1) = a + k by omega, show k - 1 + 1 = k + 1 - 1 by omega] at this
              exact this
            · exact (HB.out.setCell (by simpa using (show w.heap.size ≤ g by omega)) _).setCell (by simpa using (show w.heap.size ≤ g by omega)) _
          case measure => simp [intOf]; omega
        · obtain rfl : k = q := by omega
          clear hm hb
          go_wp2
          go_ret2
          refine tout_ok rfl HE.out (HK.out.lower hz1) (fun i _ => ?_) HB.out
          show large f a k i = _
          unfold large fillF put
          by_cases h : i = a
          · rw [if_pos h, if_neg (by omega), if_pos h]
          · rw [if_neg h, if_neg h]
            by_cases h2 : a < i ∧ (i : Int) < a + k
            · rw [if_pos h2, if_pos (by omega)]
            · rw [if_neg h2, if_neg (by omega)]
  · have HE := Lib.hid (show largeE f n at_ m = 1 from if_neg (by rw [runB_not hc]; decide))
    clear hM
    by_cases h0 : m < 1
    · have d0 : decide (m < 1) = true := by simpa using h0
      clear hc
      go_enter Try.func21, Try.ntmps21
      go_wp2_with fail
      refine (rmay_yes B _ _ _ _ _ HM.out HR.out hB).mono ?_
      rintro e w1 ⟨rfl, hb1⟩
      go_wp2
      go_ret2
      exact tout_err rfl HE.out (by decide) hb1
    · have d0 : decide (m < 1) = false := by simpa using h0
      have h1 : 4 < m := by omega
      have d1 : decide (4 < m) = true := by simpa using h1
      clear hc
      go_enter Try.func21, Try.ntmps21
      go_wp2_with fail
      refine (rmay_yes B _ _ _ _ _ HM.out HR.out hB).mono ?_
      rintro e w1 ⟨rfl, hb1⟩
      go_wp2
      go_ret2
      exact tout_err rfl HE.out (by decide) hb1
end Go.Proofs.Ytofbebgcafpfhaa
