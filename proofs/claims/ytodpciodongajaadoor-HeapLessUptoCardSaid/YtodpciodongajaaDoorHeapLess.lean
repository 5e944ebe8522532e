/-
  HeapLess.
-/
import Derived.Test.YtodpciodongajaaDoorHpAwake
import Derived.Test.YtodpciodongajaaDoorHpLess
import Derived.Deep.DeepHandedRow
import Derived.Deep.DeepWitnessRowRef
namespace Go.Proofs.YtodpciodongajaaDoor.HeapLess
open Go.Proofs.YtodpciodongajaaDoor
open Go.ChangeShapes Go.WideShapes Go.ChangeAt Go.RowKit
set_option maxRecDepth 100000

section
variable (s : Hs) (d : Hd_) (A : Option Addr) (m c : Nat) (U : Nat → Nat → Ls.Sl) (F : Nat → Nat → List Int) (w : World)
theorem walk_few (hz : Cl.Sz w) (hf : fewH s = false) (hp : Hp w w.heap.size s d) : Calls Tryd.prog 8 #[(.agg #[.slice s.w.a s.w.n s.w.c, .slice s.p.a s.p.n s.p.c, .slice (s.u 0).a (s.u 0).n (s.u 0).c, .slice (s.u 1).a (s.u 1).n (s.u 1).c, .slice (s.u 2).a (s.u 2).n (s.u 2).c, .slice s.c.a s.c.n s.c.c]), .slice A m c] w fun e w' => e = .returned (.bool true) ∧ Below w.heap.size w w' := by
  have HZ := Lib.hid hz
  have hz0 := hz.pos
  have HP := Lib.hid hp
  have HF := Lib.hid hf
  clear hz hf hp
  go_enter Tryd.func8, Tryd.ntmps8
  go_wp2_with fail
  have b0 := (Below.refl w.heap.size w).alloc (Nat.le_refl _) (.cells #[.slice s.w.a s.w.n s.w.c, .slice s.p.a s.p.n s.p.c, .slice (s.u 0).a (s.u 0).n (s.u 0).c, .slice (s.u 1).a (s.u 1).n (s.u 1).c, .slice (s.u 2).a (s.u 2).n (s.u 2).c, .slice s.c.a s.c.n s.c.c] 28)
  refine (awake_any _ (HZ.out.over b0 hz0)).mono ?_
  rintro e w1 ⟨rfl, hb1⟩
  have N1 := Lib.hid (HNow.mk (d := d) ((HBox.new w s 28).next hb1) (b0.trans (hb1.mono b0.size)) (HP.out.below (b0.trans (hb1.mono b0.size))))
  have q0 := N1.out.box.c0
  have q1 := N1.out.box.c1
  have q2 := N1.out.box.c2
  have q3 := N1.out.box.c3
  have q4 := N1.out.box.c4
  have q5 := N1.out.box.c5
  have ql := N1.out.box.lt
  clear hb1 b0
  go_wp2_with fail
  refine (rfew_any s _).mono ?_
  rw [HF.out]
  rintro e w2 ⟨rfl, hb2⟩
  have N2 := Lib.hid (N1.out.next hb2)
  clear hb2 N1
  clear q0 q1 q2 q3 q4 q5 ql
  go_wp2
  go_ret
  exact ⟨rfl, N2.out.bel⟩
theorem walk_none (hz : Cl.Sz w) (hf : fewH s = true) (hm : m = 0) (hp : Hp w w.heap.size s d) : Calls Tryd.prog 8 #[(.agg #[.slice s.w.a s.w.n s.w.c, .slice s.p.a s.p.n s.p.c, .slice (s.u 0).a (s.u 0).n (s.u 0).c, .slice (s.u 1).a (s.u 1).n (s.u 1).c, .slice (s.u 2).a (s.u 2).n (s.u 2).c, .slice s.c.a s.c.n s.c.c]), .slice A m c] w fun e w' => e = .returned (.bool true) ∧ Below w.heap.size w w' := by
  subst hm
  have HZ := Lib.hid hz
  have hz0 := hz.pos
  have HP := Lib.hid hp
  have HF := Lib.hid hf
  clear hz hf hp
  go_enter Tryd.func8, Tryd.ntmps8
  go_wp2_with fail
  have b0 := (Below.refl w.heap.size w).alloc (Nat.le_refl _) (.cells #[.slice s.w.a s.w.n s.w.c, .slice s.p.a s.p.n s.p.c, .slice (s.u 0).a (s.u 0).n (s.u 0).c, .slice (s.u 1).a (s.u 1).n (s.u 1).c, .slice (s.u 2).a (s.u 2).n (s.u 2).c, .slice s.c.a s.c.n s.c.c] 28)
  refine (awake_any _ (HZ.out.over b0 hz0)).mono ?_
  rintro e w1 ⟨rfl, hb1⟩
  have N1 := Lib.hid (HNow.mk (d := d) ((HBox.new w s 28).next hb1) (b0.trans (hb1.mono b0.size)) (HP.out.below (b0.trans (hb1.mono b0.size))))
  have q0 := N1.out.box.c0
  have q1 := N1.out.box.c1
  have q2 := N1.out.box.c2
  have q3 := N1.out.box.c3
  have q4 := N1.out.box.c4
  have q5 := N1.out.box.c5
  have ql := N1.out.box.lt
  clear hb1 b0
  go_wp2_with fail
  refine (rfew_any s _).mono ?_
  rw [HF.out]
  rintro e w2 ⟨rfl, hb2⟩
  have N2 := Lib.hid (N1.out.next hb2)
  clear hb2 N1
  clear q0 q1 q2 q3 q4 q5 ql
  go_wp2
  go_ret
  exact ⟨rfl, N2.out.bel⟩
theorem walk_many (hz : Cl.Sz w) (hf : fewH s = true) (hm : 4 < m) (hp : Hp w w.heap.size s d) : Calls Tryd.prog 8 #[(.agg #[.slice s.w.a s.w.n s.w.c, .slice s.p.a s.p.n s.p.c, .slice (s.u 0).a (s.u 0).n (s.u 0).c, .slice (s.u 1).a (s.u 1).n (s.u 1).c, .slice (s.u 2).a (s.u 2).n (s.u 2).c, .slice s.c.a s.c.n s.c.c]), .slice A m c] w fun e w' => e = .returned (.bool true) ∧ Below w.heap.size w w' := by
  have d1 : decide ((m : Int) < 1) = false := by simp; omega
  have d1' : decide (m < 1) = false := by simp; omega
  have d2 : decide ((4 : Int) < m) = true := by simp; omega
  have HZ := Lib.hid hz
  have hz0 := hz.pos
  have HP := Lib.hid hp
  have HF := Lib.hid hf
  clear hz hf hp
  go_enter Tryd.func8, Tryd.ntmps8
  go_wp2_with fail
  have b0 := (Below.refl w.heap.size w).alloc (Nat.le_refl _) (.cells #[.slice s.w.a s.w.n s.w.c, .slice s.p.a s.p.n s.p.c, .slice (s.u 0).a (s.u 0).n (s.u 0).c, .slice (s.u 1).a (s.u 1).n (s.u 1).c, .slice (s.u 2).a (s.u 2).n (s.u 2).c, .slice s.c.a s.c.n s.c.c] 28)
  refine (awake_any _ (HZ.out.over b0 hz0)).mono ?_
  rintro e w1 ⟨rfl, hb1⟩
  have N1 := Lib.hid (HNow.mk (d := d) ((HBox.new w s 28).next hb1) (b0.trans (hb1.mono b0.size)) (HP.out.below (b0.trans (hb1.mono b0.size))))
  have q0 := N1.out.box.c0
  have q1 := N1.out.box.c1
  have q2 := N1.out.box.c2
  have q3 := N1.out.box.c3
  have q4 := N1.out.box.c4
  have q5 := N1.out.box.c5
  have ql := N1.out.box.lt
  clear hb1 b0
  go_wp2_with fail
  refine (rfew_any s _).mono ?_
  rw [HF.out]
  rintro e w2 ⟨rfl, hb2⟩
  have N2 := Lib.hid (N1.out.next hb2)
  clear hb2 N1
  clear q0 q1 q2 q3 q4 q5 ql
  go_wp2
  go_ret
  exact ⟨rfl, N2.out.bel⟩
theorem walk_may (hz : Cl.Sz w) (hf : fewH s = true) (hm0 : 1 ≤ m) (hm : m ≤ 4) (hp : Hp w w.heap.size s d) (hv : Fit64 d.ws) (hl : Ls.LRow w w.heap.size A m U F) (hlen : (Ls.allOf (ahead d.F F) (1 + m)).length ≤ 2000000) (hr : mayH s d m F = false) : Calls Tryd.prog 8 #[(.agg #[.slice s.w.a s.w.n s.w.c, .slice s.p.a s.p.n s.p.c, .slice (s.u 0).a (s.u 0).n (s.u 0).c, .slice (s.u 1).a (s.u 1).n (s.u 1).c, .slice (s.u 2).a (s.u 2).n (s.u 2).c, .slice s.c.a s.c.n s.c.c]), .slice A m c] w fun e w' => e = .returned (.bool true) ∧ Below w.heap.size w w' := by
  have HZ := Lib.hid hz
  have hz0 := hz.pos
  have HP := Lib.hid hp
  have HF := Lib.hid hf
  have HFI := Lib.hid (fine_few hf hp hv)
  have HL := Lib.hid hl
  have HLEN := Lib.hid hlen
  have HMAY := Lib.hid (fun W (h : HNow w W s d) => pmay_any s d A m c U F W (h.hp.more h.bel.size) (lrow_more (HL.out.below h.bel) h.bel.size) (by omega) (HZ.out.over h.bel hz0) HFI.out.wn (by have := HFI.out.pn; omega) HFI.out.cn HLEN.out)
  rw [hr] at HMAY
  have d1 : decide ((m : Int) < 1) = false := by simp; omega
  have d1' : decide (m < 1) = false := by simp; omega
  have d2 : decide ((4 : Int) < m) = false := by simp; omega
  clear hz hf hp hv hl hlen hr
  go_enter Tryd.func8, Tryd.ntmps8
  go_wp2_with fail
  have b0 := (Below.refl w.heap.size w).alloc (Nat.le_refl _) (.cells #[.slice s.w.a s.w.n s.w.c, .slice s.p.a s.p.n s.p.c, .slice (s.u 0).a (s.u 0).n (s.u 0).c, .slice (s.u 1).a (s.u 1).n (s.u 1).c, .slice (s.u 2).a (s.u 2).n (s.u 2).c, .slice s.c.a s.c.n s.c.c] 28)
  refine (awake_any _ (HZ.out.over b0 hz0)).mono ?_
  rintro e w1 ⟨rfl, hb1⟩
  have N1 := Lib.hid (HNow.mk (d := d) ((HBox.new w s 28).next hb1) (b0.trans (hb1.mono b0.size)) (HP.out.below (b0.trans (hb1.mono b0.size))))
  have q0 := N1.out.box.c0
  have q1 := N1.out.box.c1
  have q2 := N1.out.box.c2
  have q3 := N1.out.box.c3
  have q4 := N1.out.box.c4
  have q5 := N1.out.box.c5
  have ql := N1.out.box.lt
  clear hb1 b0
  go_wp2_with fail
  refine (rfew_any s _).mono ?_
  rw [HF.out]
  rintro e w2 ⟨rfl, hb2⟩
  have N2 := Lib.hid (N1.out.next hb2)
  clear hb2 N1
  clear q0 q1 q2 q3 q4 q5 ql
  have q0 := N2.out.box.c0
  have q1 := N2.out.box.c1
  have q2 := N2.out.box.c2
  have q3 := N2.out.box.c3
  have q4 := N2.out.box.c4
  have q5 := N2.out.box.c5
  have ql := N2.out.box.lt
  go_wp2_with fail
  refine (HMAY.out w2 N2.out).mono ?_
  rintro e w3 ⟨rfl, hb3⟩
  have N3 := Lib.hid (N2.out.next hb3)
  clear hb3 N2
  clear q0 q1 q2 q3 q4 q5 ql
  go_wp2
  go_ret
  exact ⟨rfl, N3.out.bel⟩
/-- The last cache's lengths, and whether it is empty. -/
theorem emp_cases (n0 n1 n2 : Nat) : (n0 = 0 ∧ n1 = 0 ∧ n2 = 0 ∧ decide (n0 = 0 ∧ n1 = 0 ∧ n2 = 0) = true) ∨ (n0 = 0 ∧ n1 = 0 ∧ ¬ n2 = 0 ∧ decide (n0 = 0 ∧ n1 = 0 ∧ n2 = 0) = false) ∨ (n0 = 0 ∧ ¬ n1 = 0 ∧ decide (n0 = 0 ∧ n1 = 0 ∧ n2 = 0) = false) ∨ (¬ n0 = 0 ∧ decide (n0 = 0 ∧ n1 = 0 ∧ n2 = 0) = false) := by
  by_cases h0 : n0 = 0 <;> by_cases h1 : n1 = 0 <;> by_cases h2 : n2 = 0 <;> simp [h0, h1, h2]
set_option maxHeartbeats 2000000 in
theorem walk_all (k : Nat) (R E : Bool) (n0 n1 n2 : Nat) (c0 c1 c2 : Nat) (A0 A1 A2 : Option Addr) (e0 : U k 0 = ⟨A0, n0, c0⟩) (e1 : U k 1 = ⟨A1, n1, c1⟩) (e2 : U k 2 = ⟨A2, n2, c2⟩)
    (hE : (n0 = 0 ∧ n1 = 0 ∧ n2 = 0 ∧ E = true) ∨ (n0 = 0 ∧ n1 = 0 ∧ ¬ n2 = 0 ∧ E = false) ∨ (n0 = 0 ∧ ¬ n1 = 0 ∧ E = false) ∨ (¬ n0 = 0 ∧ E = false))
    (hz : Cl.Sz w) (hf : fewH s = true) (hm : k + 1 ≤ 4) (hp : Hp w w.heap.size s d) (hv : Fit64 d.ws) (hl : Ls.LRow w w.heap.size A (k + 1) U F) (hc : k + 1 ≤ c) (hlen : (Ls.allOf (ahead d.F F) (1 + (k + 1))).length ≤ 2000000) (hr : mayH s d (k + 1) F = true) (hR : wholeH s d (k + 1) F = R) (hR2 : R = true → wholeH s d k F = E) :
    Calls Tryd.prog 8 #[(.agg #[.slice s.w.a s.w.n s.w.c, .slice s.p.a s.p.n s.p.c, .slice (s.u 0).a (s.u 0).n (s.u 0).c, .slice (s.u 1).a (s.u 1).n (s.u 1).c, .slice (s.u 2).a (s.u 2).n (s.u 2).c, .slice s.c.a s.c.n s.c.c]), .slice A (k + 1 : Nat) c] w fun e w' => e = .returned (.bool true) ∧ Below w.heap.size w w' := by
  have HZ := Lib.hid hz
  have hz0 := hz.pos
  have HP := Lib.hid hp
  have HF := Lib.hid hf
  have HFI := Lib.hid (fine_few hf hp hv)
  have HL := Lib.hid hl
  have HL2 := Lib.hid (lrow_less hl (Nat.le_succ k))
  have HLEN := Lib.hid hlen
  have HLEN2 : Hid ((Ls.allOf (ahead d.F F) (1 + k)).length ≤ 2000000) := Lib.hid (by rw [all_ahead, List.length_append] at hlen; omega)
  have HMAY := Lib.hid (fun W (h : HNow w W s d) => pmay_any s d A (k + 1) c U F W (h.hp.more h.bel.size) (lrow_more (HL.out.below h.bel) h.bel.size) (by omega) (HZ.out.over h.bel hz0) HFI.out.wn (by have := HFI.out.pn; omega) HFI.out.cn HLEN.out)
  have HMAY2 := Lib.hid (fun W (h : HNow w W s d) => pmay_any s d A k c U F W (h.hp.more h.bel.size) (lrow_more (HL2.out.below h.bel) h.bel.size) (by omega) (HZ.out.over h.bel hz0) HFI.out.wn (by have := HFI.out.pn; omega) HFI.out.cn HLEN2.out)
  have HWH := Lib.hid (fun W (h : HNow w W s d) => pwhole_any s d A (k + 1) c U F W (h.hp.more h.bel.size) (lrow_more (HL.out.below h.bel) h.bel.size) (by omega) (HZ.out.over h.bel hz0) HFI.out HLEN.out)
  have HWH2 := Lib.hid (fun W (h : HNow w W s d) => pwhole_any s d A k c U F W (h.hp.more h.bel.size) (lrow_more (HL2.out.below h.bel) h.bel.size) (by omega) (HZ.out.over h.bel hz0) HFI.out HLEN2.out)
  rw [hr] at HMAY
  rw [may_less hr] at HMAY2
  rw [hR] at HWH
  have HR2 := Lib.hid hR2
  obtain ⟨b, off, rfl, hbB, hcl⟩ := hl (Nat.succ_pos k)
  obtain ⟨hcell, -⟩ := hcl k (Nat.lt_succ_self k)
  have g0 := hcell 0 (by decide)
  have g1 := hcell 1 (by decide)
  have g2 := hcell 2 (by decide)
  rw [e0] at g0
  rw [e1] at g1
  rw [e2] at g2
  rw [Nat.add_zero] at g0
  dsimp only at g0 g1 g2
  have G0 := Lib.hid g0
  have G1 := Lib.hid g1
  have G2 := Lib.hid g2
  have hc' : k ≤ c := by omega
  have hd : (((k + 1 : Nat) : Int) - 1) = k := by omega
  have d1 : decide (((k : Int) + 1) < 1) = false := by simp; omega
  have d1' : decide (k + 1 < 1) = false := by simp
  have d2 : decide ((4 : Int) < (k : Int) + 1) = false := by simp; omega
  have hbw : b < w.heap.size := hbB
  clear hz hf hp hv hl hlen hr hR hR2 hcell hcl g0 g1 g2 hbB e0 e1 e2
  go_enter Tryd.func8, Tryd.ntmps8
  go_wp2_with fail
  have b0 := (Below.refl w.heap.size w).alloc (Nat.le_refl _) (.cells #[.slice s.w.a s.w.n s.w.c, .slice s.p.a s.p.n s.p.c, .slice (s.u 0).a (s.u 0).n (s.u 0).c, .slice (s.u 1).a (s.u 1).n (s.u 1).c, .slice (s.u 2).a (s.u 2).n (s.u 2).c, .slice s.c.a s.c.n s.c.c] 28)
  refine (awake_any _ (HZ.out.over b0 hz0)).mono ?_
  rintro e w1 ⟨rfl, hb1⟩
  have N1 := Lib.hid (HNow.mk (d := d) ((HBox.new w s 28).next hb1) (b0.trans (hb1.mono b0.size)) (HP.out.below (b0.trans (hb1.mono b0.size))))
  have q0 := N1.out.box.c0
  have q1 := N1.out.box.c1
  have q2 := N1.out.box.c2
  have q3 := N1.out.box.c3
  have q4 := N1.out.box.c4
  have q5 := N1.out.box.c5
  have ql := N1.out.box.lt
  clear hb1 b0
  go_wp2_with fail
  refine (rfew_any s _).mono ?_
  rw [HF.out]
  rintro e w2 ⟨rfl, hb2⟩
  have N2 := Lib.hid (N1.out.next hb2)
  clear hb2 N1
  clear q0 q1 q2 q3 q4 q5 ql
  have q0 := N2.out.box.c0
  have q1 := N2.out.box.c1
  have q2 := N2.out.box.c2
  have q3 := N2.out.box.c3
  have q4 := N2.out.box.c4
  have q5 := N2.out.box.c5
  have ql := N2.out.box.lt
  go_wp2_with fail
  refine (HMAY.out w2 N2.out).mono ?_
  rintro e w3 ⟨rfl, hb3⟩
  have N3 := Lib.hid (N2.out.next hb3)
  clear hb3 N2
  clear q0 q1 q2 q3 q4 q5 ql
  have g0 := (N3.out.bel.cell (p := ⟨b, off + k * 3, none⟩) hbw).trans G0.out
  have g1 := (N3.out.bel.cell (p := ⟨b, off + k * 3 + 1, none⟩) hbw).trans G1.out
  have g2 := (N3.out.bel.cell (p := ⟨b, off + k * 3 + 2, none⟩) hbw).trans G2.out
  have hbs : b < w3.heap.size := by have := N3.out.bel.size; omega
  have N4 := Lib.hid (N3.out.next ((Below.refl w3.heap.size w3).alloc (Nat.le_refl _) (.cells #[.slice A0 n0 c0, .slice A1 n1 c1, .slice A2 n2 c2] 25)))
  rcases hE with ⟨h0, h1, h2, rfl⟩ | ⟨h0, h1, h2, rfl⟩ | ⟨h0, h1, rfl⟩ | ⟨h0, rfl⟩
  · have f0 : ((n0 : Int) == 0) = true := by simp; omega
    have f1 : ((n1 : Int) == 0) = true := by simp; omega
    have f2 : ((n2 : Int) == 0) = true := by simp; omega
    clear h0 h1 h2
    have q0 := N4.out.box.c0
    have q1 := N4.out.box.c1
    have q2 := N4.out.box.c2
    have q3 := N4.out.box.c3
    have q4 := N4.out.box.c4
    have q5 := N4.out.box.c5
    have ql := N4.out.box.lt
    go_wp2_with fail
    refine (HWH.out _ N4.out).mono ?_
    rintro e w5 ⟨rfl, hb5⟩
    have N5 := Lib.hid (N4.out.next hb5)
    clear hb5 N3 N4 g0 g1 g2 hbs
    clear q0 q1 q2 q3 q4 q5 ql
    cases R
    · skip
      have q0 := N5.out.box.c0
      have q1 := N5.out.box.c1
      have q2 := N5.out.box.c2
      have q3 := N5.out.box.c3
      have q4 := N5.out.box.c4
      have q5 := N5.out.box.c5
      have ql := N5.out.box.lt
      go_wp2_with fail
      refine (HMAY2.out _ N5.out).mono ?_
      rintro e w6 ⟨rfl, hb6⟩
      have N6 := Lib.hid (N5.out.next hb6)
      clear hb6
      have HE := N6
      go_wp2
      go_ret
      exact ⟨rfl, HE.out.bel⟩
    · rw [HR2.out rfl] at HWH2
      have d9 : (true == true) = true := rfl
      have q0 := N5.out.box.c0
      have q1 := N5.out.box.c1
      have q2 := N5.out.box.c2
      have q3 := N5.out.box.c3
      have q4 := N5.out.box.c4
      have q5 := N5.out.box.c5
      have ql := N5.out.box.lt
      go_wp2_with fail
      refine (HMAY2.out _ N5.out).mono ?_
      rintro e w6 ⟨rfl, hb6⟩
      have N6 := Lib.hid (N5.out.next hb6)
      clear hb6
      clear q0 q1 q2 q3 q4 q5 ql
      have q0 := N6.out.box.c0
      have q1 := N6.out.box.c1
      have q2 := N6.out.box.c2
      have q3 := N6.out.box.c3
      have q4 := N6.out.box.c4
      have q5 := N6.out.box.c5
      have ql := N6.out.box.lt
      go_wp2_with fail
      refine (HWH2.out _ N6.out).mono ?_
      rintro e w8 ⟨rfl, hb8⟩
      have HE := Lib.hid (N6.out.next hb8)
      clear hb8
      go_wp2
      go_ret
      exact ⟨rfl, HE.out.bel⟩
  · have f0 : ((n0 : Int) == 0) = true := by simp; omega
    have f1 : ((n1 : Int) == 0) = true := by simp; omega
    have f2 : ((n2 : Int) == 0) = false := by simp; omega
    clear h0 h1 h2
    have q0 := N4.out.box.c0
    have q1 := N4.out.box.c1
    have q2 := N4.out.box.c2
    have q3 := N4.out.box.c3
    have q4 := N4.out.box.c4
    have q5 := N4.out.box.c5
    have ql := N4.out.box.lt
    go_wp2_with fail
    refine (HWH.out _ N4.out).mono ?_
    rintro e w5 ⟨rfl, hb5⟩
    have N5 := Lib.hid (N4.out.next hb5)
    clear hb5 N3 N4 g0 g1 g2 hbs
    clear q0 q1 q2 q3 q4 q5 ql
    cases R
    · skip
      have q0 := N5.out.box.c0
      have q1 := N5.out.box.c1
      have q2 := N5.out.box.c2
      have q3 := N5.out.box.c3
      have q4 := N5.out.box.c4
      have q5 := N5.out.box.c5
      have ql := N5.out.box.lt
      go_wp2_with fail
      refine (HMAY2.out _ N5.out).mono ?_
      rintro e w6 ⟨rfl, hb6⟩
      have N6 := Lib.hid (N5.out.next hb6)
      clear hb6
      have HE := N6
      go_wp2
      go_ret
      exact ⟨rfl, HE.out.bel⟩
    · rw [HR2.out rfl] at HWH2
      have d9 : (false == false) = true := rfl
      have q0 := N5.out.box.c0
      have q1 := N5.out.box.c1
      have q2 := N5.out.box.c2
      have q3 := N5.out.box.c3
      have q4 := N5.out.box.c4
      have q5 := N5.out.box.c5
      have ql := N5.out.box.lt
      go_wp2_with fail
      refine (HMAY2.out _ N5.out).mono ?_
      rintro e w6 ⟨rfl, hb6⟩
      have N6 := Lib.hid (N5.out.next hb6)
      clear hb6
      clear q0 q1 q2 q3 q4 q5 ql
      have q0 := N6.out.box.c0
      have q1 := N6.out.box.c1
      have q2 := N6.out.box.c2
      have q3 := N6.out.box.c3
      have q4 := N6.out.box.c4
      have q5 := N6.out.box.c5
      have ql := N6.out.box.lt
      go_wp2_with fail
      refine (HWH2.out _ N6.out).mono ?_
      rintro e w8 ⟨rfl, hb8⟩
      have HE := Lib.hid (N6.out.next hb8)
      clear hb8
      go_wp2
      go_ret
      exact ⟨rfl, HE.out.bel⟩
  · have f0 : ((n0 : Int) == 0) = true := by simp; omega
    have f1 : ((n1 : Int) == 0) = false := by simp; omega
    clear h0 h1
    have q0 := N4.out.box.c0
    have q1 := N4.out.box.c1
    have q2 := N4.out.box.c2
    have q3 := N4.out.box.c3
    have q4 := N4.out.box.c4
    have q5 := N4.out.box.c5
    have ql := N4.out.box.lt
    go_wp2_with fail
    refine (HWH.out _ N4.out).mono ?_
    rintro e w5 ⟨rfl, hb5⟩
    have N5 := Lib.hid (N4.out.next hb5)
    clear hb5 N3 N4 g0 g1 g2 hbs
    clear q0 q1 q2 q3 q4 q5 ql
    cases R
    · skip
      have q0 := N5.out.box.c0
      have q1 := N5.out.box.c1
      have q2 := N5.out.box.c2
      have q3 := N5.out.box.c3
      have q4 := N5.out.box.c4
      have q5 := N5.out.box.c5
      have ql := N5.out.box.lt
      go_wp2_with fail
      refine (HMAY2.out _ N5.out).mono ?_
      rintro e w6 ⟨rfl, hb6⟩
      have N6 := Lib.hid (N5.out.next hb6)
      clear hb6
      have HE := N6
      go_wp2
      go_ret
      exact ⟨rfl, HE.out.bel⟩
    · rw [HR2.out rfl] at HWH2
      have d9 : (false == false) = true := rfl
      have q0 := N5.out.box.c0
      have q1 := N5.out.box.c1
      have q2 := N5.out.box.c2
      have q3 := N5.out.box.c3
      have q4 := N5.out.box.c4
      have q5 := N5.out.box.c5
      have ql := N5.out.box.lt
      go_wp2_with fail
      refine (HMAY2.out _ N5.out).mono ?_
      rintro e w6 ⟨rfl, hb6⟩
      have N6 := Lib.hid (N5.out.next hb6)
      clear hb6
      clear q0 q1 q2 q3 q4 q5 ql
      have q0 := N6.out.box.c0
      have q1 := N6.out.box.c1
      have q2 := N6.out.box.c2
      have q3 := N6.out.box.c3
      have q4 := N6.out.box.c4
      have q5 := N6.out.box.c5
      have ql := N6.out.box.lt
      go_wp2_with fail
      refine (HWH2.out _ N6.out).mono ?_
      rintro e w8 ⟨rfl, hb8⟩
      have HE := Lib.hid (N6.out.next hb8)
      clear hb8
      go_wp2
      go_ret
      exact ⟨rfl, HE.out.bel⟩
  · have f0 : ((n0 : Int) == 0) = false := by simp; omega
    clear h0
    have q0 := N4.out.box.c0
    have q1 := N4.out.box.c1
    have q2 := N4.out.box.c2
    have q3 := N4.out.box.c3
    have q4 := N4.out.box.c4
    have q5 := N4.out.box.c5
    have ql := N4.out.box.lt
    go_wp2_with fail
    refine (HWH.out _ N4.out).mono ?_
    rintro e w5 ⟨rfl, hb5⟩
    have N5 := Lib.hid (N4.out.next hb5)
    clear hb5 N3 N4 g0 g1 g2 hbs
    clear q0 q1 q2 q3 q4 q5 ql
    cases R
    · skip
      have q0 := N5.out.box.c0
      have q1 := N5.out.box.c1
      have q2 := N5.out.box.c2
      have q3 := N5.out.box.c3
      have q4 := N5.out.box.c4
      have q5 := N5.out.box.c5
      have ql := N5.out.box.lt
      go_wp2_with fail
      refine (HMAY2.out _ N5.out).mono ?_
      rintro e w6 ⟨rfl, hb6⟩
      have N6 := Lib.hid (N5.out.next hb6)
      clear hb6
      have HE := N6
      go_wp2
      go_ret
      exact ⟨rfl, HE.out.bel⟩
    · rw [HR2.out rfl] at HWH2
      have d9 : (false == false) = true := rfl
      have q0 := N5.out.box.c0
      have q1 := N5.out.box.c1
      have q2 := N5.out.box.c2
      have q3 := N5.out.box.c3
      have q4 := N5.out.box.c4
      have q5 := N5.out.box.c5
      have ql := N5.out.box.lt
      go_wp2_with fail
      refine (HMAY2.out _ N5.out).mono ?_
      rintro e w6 ⟨rfl, hb6⟩
      have N6 := Lib.hid (N5.out.next hb6)
      clear hb6
      clear q0 q1 q2 q3 q4 q5 ql
      have q0 := N6.out.box.c0
      have q1 := N6.out.box.c1
      have q2 := N6.out.box.c2
      have q3 := N6.out.box.c3
      have q4 := N6.out.box.c4
      have q5 := N6.out.box.c5
      have ql := N6.out.box.lt
      go_wp2_with fail
      refine (HWH2.out _ N6.out).mono ?_
      rintro e w8 ⟨rfl, hb8⟩
      have HE := Lib.hid (N6.out.next hb8)
      clear hb8
      go_wp2
      go_ret
      exact ⟨rfl, HE.out.bel⟩
end
theorem walk (s : Hs) (d : Hd_) (A : Option Addr) (m c : Nat) (U : Nat → Nat → Ls.Sl) (F : Nat → Nat → List Int) (w : World) (hz : Cl.Sz w) (hp : Hp w w.heap.size s d) (hv : Fit64 d.ws) (hl : Ls.LRow w w.heap.size A m U F) (_ : m ≤ maxLen) (hc : m ≤ c) (_ : c ≤ maxLen)
    (hb : (s.u 0).n + (s.u 1).n + (s.u 2).n + (Ls.allOf F m).length ≤ 1048576) :
    Calls Tryd.prog 8 #[(.agg #[.slice s.w.a s.w.n s.w.c, .slice s.p.a s.p.n s.p.c, .slice (s.u 0).a (s.u 0).n (s.u 0).c, .slice (s.u 1).a (s.u 1).n (s.u 1).c, .slice (s.u 2).a (s.u 2).n (s.u 2).c, .slice s.c.a s.c.n s.c.c]), .slice A m c] w fun e w' => e = .returned (.bool true) ∧ Below w.heap.size w w' := by
  have hlen : (Ls.allOf (ahead d.F F) (1 + m)).length ≤ 2000000 := by
    have e0 := hp.free.len 0 (by decide)
    have e1 := hp.free.len 1 (by decide)
    have e2 := hp.free.len 2 (by decide)
    rw [ahead_len, upTo3]
    omega
  cases hf : fewH s
  · exact walk_few s d A m c w hz hf hp
  · by_cases hm0 : m = 0
    · exact walk_none s d A m c w hz hf hm0 hp
    · by_cases hm : 4 < m
      · exact walk_many s d A m c w hz hf hm hp
      · cases hr : mayH s d m F
        · exact walk_may s d A m c U F w hz hf (by omega) (by omega) hp hv hl hlen hr
        · obtain ⟨k, rfl⟩ : ∃ k, m = k + 1 := ⟨m - 1, by omega⟩
          have l3 : Ls.L3 w w.heap.size (U k) (F k) := by
            obtain ⟨_, _, _, _, h⟩ := hl (Nat.succ_pos k)
            exact (h k (Nat.lt_succ_self k)).2
          have e0 := l3.len 0 (by decide)
          have e1 := l3.len 1 (by decide)
          have e2 := l3.len 2 (by decide)
          exact walk_all s d A c U F w k _ _ _ _ _ _ _ _ _ _ _ rfl rfl rfl (emp_cases _ _ _) hz hf (by omega) hp hv hl hc hlen hr rfl fun h => by rw [whole_less h, e0, e1, e2]
-- the frame (hpframe.py)
set_option maxRecDepth 100000 in
theorem lifted (os : Os) (started : os.Started) (H : Type) (enc : TypeId × Value → H) (F : Stop.Interp) :
    ReturnsInHanded {} Tryd.checked os 8 .any ((Rows.OpenSpec.upto Rows.heapLessSpec).preRow enc Tryd.prog Tryd.f8 Rows.heapLessUptoRow.domain false Rows.heapLessUptoRow.laid) (((Rows.OpenSpec.upto Rows.heapLessSpec).at F).post enc Tryd.prog Tryd.f8 false true false false) := by
  obtain ⟨places, hx⟩ : ∃ places, DataW.whole enc Tryd.prog ((World.doorLaid Tryd.prog 400 os).forCall (fun _ _ => 0) ⟨#[], #[.agg #[.slice none 0 0, .slice none 0 0, .slice none 0 0, .slice none 0 0, .slice none 0 0, .slice none 0 0], .slice none 0 0], []⟩).memory Tryd.f8.params.toList Rows.heapLessSpec.vars false (#[.agg #[.slice none 0 0, .slice none 0 0, .slice none 0 0, .slice none 0 0, .slice none 0 0, .slice none 0 0], .slice none 0 0] : Array Value).toList 8 = some ([.agg [.nil, .nil, .agg [.nil, .nil, .nil], .nil], .nil], [], places) := ⟨[], by kernel_rfl⟩
  refine returnsInHanded_of_row (C := Tryd.checked) (s := Rows.OpenSpec.upto Rows.heapLessSpec) own started (by kernel_rfl) Tryd.func8
    (witness_row_atRef (enc := enc) (C := Tryd.checked) false (World.doorLaid Tryd.prog 400 os) #[.agg #[.slice none 0 0, .slice none 0 0, .slice none 0 0, .slice none 0 0, .slice none 0 0, .slice none 0 0], .slice none 0 0] rfl (by kernel_rfl) (by kernel_rfl) (by kernel_rfl)
      (OpenSpec.preRow_of_cond 8 hx (by kernel_rfl) (fun k hk => by cases hk; kernel_rfl) (by kernel_rfl) (door_met os _))) ?_
  intro W base args ds gs before hval0 hW _ hk0 _ hL _ _
  have hval : ∀ (j : Nat) t v, Tryd.f8.params[j]? = some t → args[j]? = some v → Value.okWide Tryd.prog W .any base t v := hval0
  have hW' := hW
  obtain ⟨p, q, hA0, hV, rfl, hfz, hnd⟩ := hW
  have hA : DataW.TrodAll enc Tryd.prog W 0 (fun _ => true) true Tryd.f8.params.toList args.toList ds p := hA0
  rw [Tryd.params8] at hA hval
  obtain ⟨v0, vs0, d0, ds0, p0, q0, hargs, rfl, rfl, h0, r0⟩ := trodAll_cons hA
  obtain ⟨v1, vs1, d1, ds1, p1, q1, rfl, rfl, rfl, h1, r1⟩ := trodAll_cons r0
  obtain ⟨rfl, rfl, rfl⟩ := trodAll_nil r1
  obtain rfl : args = #[v0, v1] := by cases args; simp_all
  obtain ⟨rfl, rfl⟩ := trodVars_none hV
  have k0 := h0
  have lt0 : ∀ x ∈ p0, x.block < W.heap.size := by obtain ⟨m, hm⟩ := k0; exact DataW.trod_lt m _ _ _ hm
  obtain ⟨s0, z0, rfl, w0, f0, b0⟩ := heap_of (hval 0 28 v0 rfl rfl) h0
  have k1 := h1
  have lt1 : ∀ x ∈ p1, x.block < W.heap.size := by obtain ⟨m, hm⟩ := k1; exact DataW.trod_lt m _ _ _ hm
  obtain ⟨a1, len1, cap1, rfl⟩ := okWide_slice Tryd.underlying29 (hval 1 29 v1 rfl rfl)
  obtain ⟨u1, z1, w1, m1, b1⟩ := rows_of h1
  have c1 := cap_of h1
  have hb : (s0.u 0).n + (s0.u 1).n + (s0.u 2).n + (Ls.allOf z1 len1).length ≤ 1048576 := by
    have h := of_decide_eq_true (hk0 _ rfl)
    simp only [Rows.uptoBulkAll, List.append_nil] at h
    omega
  clear hk0
  clear hA0 hval0
  refine (walk s0 z0 a1 len1 cap1 u1 z1 W (of_laid hL) w0 f0 w1 m1 c1.1 c1.2 hb).mono fun e W' ⟨he, bel⟩ => ?_
  subst he
  exact ⟨_, rfl, _, _, _, [], _, [], hW', trodAll_mk1 (shut_bool Tryd.underlying4 _), (trodAll_cons_mk (Below.trod laidOut (by kernel_rfl) (of_decide_eq_true (by kernel_rfl)) k0 bel lt0) (trodAll_cons_mk (Below.trod laidOut (by kernel_rfl) (of_decide_eq_true (by kernel_rfl)) k1 bel lt1) trodAll_mk0)), rfl, bel.frame _, fun h => by cases h⟩

theorem over : Rows.HeapLessUptoSaid :=
  OpenClaim.holds_of_cond 8 Tryd.f8 rfl rfl rfl rfl rfl rfl rfl ⟨rfl, rfl, rfl, rfl, rfl⟩ rfl rfl rfl rfl rfl (by kernel_rfl) Tryd.func8 (by kernel_rfl)
    (of_decide_eq_true (by kernel_rfl)) (by unfold Func.isWrapper; first | (rw [if_pos (by decide +kernel)]; kernel_rfl) | (rw [if_neg (by decide +kernel)]; exact ⟨rfl, rfl⟩))
    (fun os started H enc _ F => by rw [OpenClaim.pre_eq_preRow]; exact lifted os started H enc F)

/-- The statement: the card. -/
theorem proved : Rows.HeapLessUptoCardSaid :=
  Claim7.holds_tied_plain_at .later [] [.data] true Rows.heapLessUptoCard.stood.harness false
    over (fun _ h => by cases h) (by kernel_rfl) (fun _ h => by cases h) heapLessUpto_row_tie rfl ⟨rfl, rfl⟩ (by kernel_rfl) rfl
    (fun f fn hf hfn => by
      obtain rfl : f = 8 := Option.some.inj ((show Tryd.prog.funcNamed "ragpicker/ragpickerlaw07.HeapLess" = some 8 by kernel_rfl).symm.trans hf) |>.symm
      obtain rfl : fn = Tryd.f8 := (Option.some.inj (Tryd.func8.symm.trans hfn)).symm
      exact ⟨by kernel_rfl, fun j t ht => by
        rw [Tryd.params8] at ht
        have hm : t ∈ [28, 29] := by simpa using Array.mem_of_getElem? ht
        have hall : ([28, 29].all fun u => !Tryd.prog.wantsStandIn u) = true := by kernel_rfl
        exact (show Tryd.prog.wantsStandIn t = false by simpa using List.all_eq_true.1 hall t hm)⟩)
    (by kernel_rfl)
#print axioms proved
end Go.Proofs.YtodpciodongajaaDoor.HeapLess
