/-
  Package heap's May: what the document's answer tells.
-/
import Derived.Test.YtcbnefjfoeanoaaDoorZHpPure
import Derived.Test.YtcbnefjfoeanoaaDoorZHpConcat
namespace Go.Proofs.YtcbnefjfoeanoaaDoor
open Go.RowKit
set_option maxRecDepth 100000

theorem JM_start (n₀ : Nat) (w w2 : World) (d : Hd_) (M₀ : Nat → Prop) (hb : Below n₀ w w2) (hn : n₀ ≤ w2.heap.size) (hM : ∀ k, M₀ k → k < w2.heap.size) :
    JM n₀ w2.heap.size w d M₀ [] (w2.alloc (.cells #[.slice none 0 0, .slice none 0 0, .slice none 0 0] 25)) := by
  have R0 : Ls.Res n₀ w w2 (fun _ => none) := ⟨hb, (fun _ _ h => by cases h), (fun _ _ _ _ h => by cases h)⟩
  have R1 := (R0.add hn (Below.refl _ w2) 0 (Ls.tOwn n₀ Ls.noSl (unus d [])) ⟨fun j _ => World.ownsRow_nil _ _ _ _, fun _ _ _ _ _ _ _ h => by cases h⟩ (by rintro b ⟨j, x, _, h, _⟩; cases h)).boxed hn Ls.noSl 1
  refine ⟨_, Ls.noSl, ⟨⟨R1, ?_, Ls.upd_same _ _ _, by simp; omega⟩, fun r t hr => ?_, fun r t hr b hb hM1 => ?_⟩⟩
  · rw [Ls.upd_other _ _ (by decide), Ls.upd_same]
  · by_cases e1 : r = 1
    · exact .inr e1
    · rw [Ls.upd_other _ _ e1] at hr
      by_cases e0 : r = 0
      · exact .inl e0
      · rw [Ls.upd_other _ _ e0] at hr
        cases hr
  · by_cases e1 : r = 1
    · subst e1
      rw [Ls.upd_same] at hr
      cases hr
      have := hM b hM1
      have e : b = w2.heap.size := hb
      omega
    · rw [Ls.upd_other _ _ e1] at hr
      by_cases e0 : r = 0
      · subst e0
        rw [Ls.upd_same] at hr
        cases hr
        obtain ⟨j, x, _, h, _⟩ := hb
        cases h
      · rw [Ls.upd_other _ _ e0] at hr
        cases hr
theorem asks_may (n₀ bu : Nat) (w : World) (d : Hd_) (n : Nat) : Asks 44 #[.pointer (some ⟨bu, 0, none⟩)] n₀ d (askM d) (Cl.allS d.f n) (JM n₀ bu w d) := by
  intro M pre a W hpre hw hJ hz hfit
  have hp := (page_of (hpre.subset (by simp) : a ∈ Cl.allS d.f n)).2.2
  have hl := hpre.length_le
  have hl2 := allS_len d.f n
  rw [List.length_append] at hl
  have hn : n₀ ≤ W.heap.size := by obtain ⟨R, V, h⟩ := hJ; exact h.lst.big
  by_cases h1 : wd d a % 2 = 1
  · have e : askM d a = fillsB (nOf (wd d a)) (pgAt d a) := if_pos h1
    rw [e]
    exact mayK_used n₀ bu w d M pre a _ _ W rfl h1 hJ hn hz
  · by_cases h2 : (pgAt d a).1 = 2
    · have e : askM d a = false := by rw [askM, if_neg h1, h2]; rfl
      rw [e]
      exact mayK_large n₀ bu w d M pre a _ _ W h1 h2 hn
    · have e : askM d a = true := by rw [askM, if_neg h1]; simp [h2]
      rw [e]
      rcases (show (pgAt d a).2 = 0 ∨ (pgAt d a).2 = 1 ∨ (pgAt d a).2 = 2 by omega) with h3 | h3 | h3
      · exact mayK_free0 n₀ bu w d M pre a _ _ W rfl rfl h1 h2 h3 hJ hfit (by omega)
      · exact mayK_free1 n₀ bu w d M pre a _ _ W rfl rfl h1 h2 h3 hJ hfit (by omega)
      · exact mayK_free2 n₀ bu w d M pre a _ _ W rfl rfl h1 h2 h3 hJ hfit (by omega)
theorem mayH_no {s : Hs} {d : Hd_} {m : Nat} {F : Nat → Nat → List Int} (h : firstB s d = false) : mayH s d m F = false := by simp [mayH, h]
section
variable (s : Hs) (d : Hd_) (A : Option Addr) (m c : Nat) (U : Nat → Nat → Ls.Sl) (F : Nat → Nat → List Int) (w : World)
theorem pmay_first (hp : Hp w w.heap.size s d) (hwn : s.w.n ≤ 4000) (hpn : s.p.n ≤ 1000) (hcn : s.c.n ≤ 100000) (hf : firstB s d = false) :
    Calls Tryd.prog 19 #[(.agg #[.slice s.w.a s.w.n s.w.c, .slice s.p.a s.p.n s.p.c, .slice (s.u 0).a (s.u 0).n (s.u 0).c, .slice (s.u 1).a (s.u 1).n (s.u 1).c, .slice (s.u 2).a (s.u 2).n (s.u 2).c, .slice s.c.a s.c.n s.c.c]), .slice A m c] w fun e w' => e = .returned (.bool false) ∧ Below w.heap.size w w' := by
  have HP := Lib.hid hp
  have HF := Lib.hid hf
  clear hp hf
  go_enter Tryd.func19, Tryd.ntmps19
  go_wp2_with fail
  have hb0 := (Below.refl w.heap.size w).alloc (Nat.le_refl _) (.cells #[.slice s.w.a s.w.n s.w.c, .slice s.p.a s.p.n s.p.c, .slice (s.u 0).a (s.u 0).n (s.u 0).c, .slice (s.u 1).a (s.u 1).n (s.u 1).c, .slice (s.u 2).a (s.u 2).n (s.u 2).c, .slice s.c.a s.c.n s.c.c] 28)
  refine (sized_any s d _ (HP.out.next hb0) hwn hpn hcn).mono ?_
  rw [HF.out]
  rintro e w1 ⟨rfl, hb1⟩
  have HB := Lib.hid (hb0.trans (hb1.mono hb0.size))
  clear hb0 hb1
  go_wp2
  go_ret
  exact ⟨rfl, HB.out⟩
set_option maxHeartbeats 1000000 in
theorem pmay_rest (R : Bool) (hp : Hp w w.heap.size s d) (hl : Ls.LRow w w.heap.size A m U F) (hm : m ≤ 1000) (hz : Cl.Sz w) (hwn : s.w.n ≤ 4000) (hpn : s.p.n ≤ 1000) (hcn : s.c.n ≤ 100000) (hf : firstB s d = true) (hlen : (Ls.allOf (ahead d.F F) (1 + m)).length ≤ 2000000)
    (hR : R = ((Cl.allS d.f s.p.n).all (holdsAt d (askM d)) && (amongB (1 + m) (ahead d.F F) (unus d (Cl.allS d.f s.p.n)) && decide (Ls.allOf (ahead d.F F) (1 + m)).Nodup))) :
    Calls Tryd.prog 19 #[(.agg #[.slice s.w.a s.w.n s.w.c, .slice s.p.a s.p.n s.p.c, .slice (s.u 0).a (s.u 0).n (s.u 0).c, .slice (s.u 1).a (s.u 1).n (s.u 1).c, .slice (s.u 2).a (s.u 2).n (s.u 2).c, .slice s.c.a s.c.n s.c.c]), .slice A m c] w fun e w' => e = .returned (.bool R) ∧ Below w.heap.size w w' := by
  have HP := Lib.hid hp
  have HF := Lib.hid hf
  have HL := Lib.hid hl
  have HZ := Lib.hid hz
  have HN := Lib.hid hlen
  have HR := Lib.hid hR
  have hz0 := hz.pos
  clear hp hf hl hz hlen hR
  go_enter Tryd.func19, Tryd.ntmps19
  go_wp2_with fail
  have hb0 := (Below.refl w.heap.size w).alloc (Nat.le_refl _) (.cells #[.slice s.w.a s.w.n s.w.c, .slice s.p.a s.p.n s.p.c, .slice (s.u 0).a (s.u 0).n (s.u 0).c, .slice (s.u 1).a (s.u 1).n (s.u 1).c, .slice (s.u 2).a (s.u 2).n (s.u 2).c, .slice s.c.a s.c.n s.c.c] 28)
  refine (sized_any s d _ (HP.out.next hb0) hwn hpn hcn).mono ?_
  rw [HF.out]
  rintro e w1 ⟨rfl, hb1⟩
  have bx1 := (HBox.new w s 28).next hb1
  have B1 := Lib.hid (hb0.trans (hb1.mono hb0.size))
  have X1 := Lib.hid (bx1.next ((Below.refl w1.heap.size w1).alloc (Nat.le_refl _) (.cells #[.slice none 0 0, .slice none 0 0, .slice none 0 0] 25)))
  have q0 := X1.out.c0
  have q1 := X1.out.c1
  have q2 := X1.out.c2
  have q3 := X1.out.c3
  have q4 := X1.out.c4
  have q5 := X1.out.c5
  have ql := X1.out.lt
  have hs1 := bx1.lt
  clear hb0 hb1 bx1
  go_wp2_with fail
  have bu := B1.out.alloc (by omega) (.cells #[.slice none 0 0, .slice none 0 0, .slice none 0 0] 25)
  refine (every_any s d _ w.heap.size (fun k => k = w.heap.size) _ _ (askM d) (JM w.heap.size w1.heap.size w d) (HP.out.below bu) (by simp; omega) hz0 (HZ.out.over bu hz0) HF.out (enters_of Tryd.func44 (by kernel_rfl) rfl) (bides_JM _ _ _ _)
    (JM_start w.heap.size w w1 d _ B1.out (by omega) (by rintro k rfl; omega)) (by rintro k rfl; simp; omega) (asks_may _ _ _ _ _)).mono ?_
  rintro e w4 ⟨rfl, hk4, hj4⟩
  have BU := Lib.hid (bu.trans hk4.1)
  have X4 := Lib.hid (X1.out.same (hk4.2 _ rfl X1.out.lt) hk4.1.size)
  have HJ := Lib.hid hj4
  clear hk4 hj4 bu q0 q1 q2 q3 q4 q5 ql
  have q0 := X4.out.c0
  have q1 := X4.out.c1
  have q2 := X4.out.c2
  have q3 := X4.out.c3
  have q4 := X4.out.c4
  have q5 := X4.out.c5
  have ql := X4.out.lt
  generalize (Cl.allS d.f s.p.n).all (holdsAt d (askM d)) = b1 at HR HJ ⊢
  go_wp2_with fail
  refine (told_any s d w4 A m c U F ((HP.out.below BU.out).more BU.out.size) (lrow_more (HL.out.below BU.out) BU.out.size) hm).mono ?_
  rintro e w5 ⟨A5, c5, rfl, hl5, hb5⟩
  have L5 := Lib.hid hl5
  have B5 := Lib.hid (BU.out.trans (hb5.mono BU.out.size))
  have B45 := Lib.hid hb5
  clear hl5 hb5 q0 q1 q2 q3 q4 q5 ql
  cases b1
  · have hR0 : R = false := by rw [HR.out]; rfl
    subst hR0
    go_wp2
    go_ret
    exact ⟨rfl, B5.out⟩
  obtain ⟨M, R', V, hG⟩ := HJ.out rfl
  have bx := hG.lst.boxed.next B45.out
  have c0 := bx.cell 0 (by decide)
  have c1 := bx.cell 1 (by decide)
  have c2 := bx.cell 2 (by decide)
  have cl := bx.lt
  have HV := Lib.hid ((hG.lst.owns.l3.below B45.out).more B45.out.size)
  clear hG bx
  go_wp2_with fail
  refine (among_any w5 w5.heap.size (1 + m) c5 A5 _ _ V _ L5.out HV.out (Nat.le_refl _) (fun j _ => unus_rise d _ j) (by omega) (fun j _ => Nat.le_trans (unus_len d _ j) (by have := allS_len d.f s.p.n; omega)) (fun k hk j hj => by have := Ls.part_len (ahead d.F F) hk hj; have := HN.out; omega)).mono ?_
  rintro e w6 ⟨rfl, hb6⟩
  have L6 := Lib.hid (lrow_more (L5.out.below hb6) hb6.size)
  have B6 := Lib.hid (B5.out.trans (hb6.mono B5.out.size))
  clear hb6 c0 c1 c2 cl
  generalize amongB (1 + m) (ahead d.F F) (unus d (Cl.allS d.f s.p.n)) = b2 at HR ⊢
  cases b2
  · have hR0 : R = false := by rw [HR.out]; rfl
    subst hR0
    go_wp2
    go_ret
    exact ⟨rfl, B6.out⟩
  have hR1 : R = decide (Ls.allOf (ahead d.F F) (1 + m)).Nodup := by rw [HR.out]; rfl
  have HR1 := Lib.hid hR1
  clear hR1
  go_wp2_with fail
  refine (Ls.apart_any w6.heap.size A5 (1 + m) c5 _ _ w6 L6.out (Nat.le_refl _) (by omega) HN.out).mono ?_
  rw [← HR1.out]
  rintro e w7 ⟨rfl, hb7⟩
  have B7 := Lib.hid (B6.out.trans (hb7.mono B6.out.size))
  clear hb7
  go_wp2
  go_ret
  exact ⟨rfl, B7.out⟩
theorem pmay_any (hp : Hp w w.heap.size s d) (hl : Ls.LRow w w.heap.size A m U F) (hm : m ≤ 1000) (hz : Cl.Sz w) (hwn : s.w.n ≤ 4000) (hpn : s.p.n ≤ 1000) (hcn : s.c.n ≤ 100000) (hlen : (Ls.allOf (ahead d.F F) (1 + m)).length ≤ 2000000) :
    Calls Tryd.prog 19 #[(.agg #[.slice s.w.a s.w.n s.w.c, .slice s.p.a s.p.n s.p.c, .slice (s.u 0).a (s.u 0).n (s.u 0).c, .slice (s.u 1).a (s.u 1).n (s.u 1).c, .slice (s.u 2).a (s.u 2).n (s.u 2).c, .slice s.c.a s.c.n s.c.c]), .slice A m c] w fun e w' => e = .returned (.bool (mayH s d m F)) ∧ Below w.heap.size w w' := by
  cases hf : firstB s d
  · rw [mayH_no hf]
    exact pmay_first s d A m c w hp hwn hpn hcn hf
  · refine pmay_rest s d A m c U F w _ hp hl hm hz hwn hpn hcn hf hlen ?_
    rw [all_holds, mayH, hf, Bool.true_and]
    cases ha : (Cl.allS d.f s.p.n).all (cellAt d)
    · rfl
    · rw [among_free ha]
end
end Go.Proofs.YtcbnefjfoeanoaaDoor
