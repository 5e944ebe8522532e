/-
  ArenaTwice: of two words that are put, at different places, the order does not matter; at one place the last one stays: for all words and numbers, without a condition.
-/
import Derived.Test.YtndjocfnepikhaaArAwake
namespace Go.Proofs.Ytndjocfnepikhaa.ArenaTwice
open Go.Proofs.Ytndjocfnepikhaa
open Go.ChangeShapes Go.WideShapes Go.ChangeAt Go.RowKit

theorem short (A : Option Addr) (n c : Nat) (a : Int) (b : Int) (v : Int) (u : Int) (w : World) (hn : n ≤ 9223372036854775807) (h : 1100 < n ∨ mayB n = false) :
    Calls Try.prog 8 #[.slice A n c, .int .i64 a, .int .i64 b, .int .i64 v, .int .i64 u] w fun e w' => e = .returned (.bool true) ∧ Below w.heap.size w w' := by
  by_cases h0 : 1100 < n
  · clear h
    go_enter Try.func8, Try.ntmps8
    go_wp2_with fail
    refine (awake_yes _).mono ?_
    rintro e w1 ⟨rfl, hb1⟩
    go_wp2
    go_ret
    exact ⟨rfl, hb1⟩
  · have h0' : n ≤ 1100 := by omega
    have h3 : mayB n = false := by
      rcases h with h | h
      · omega
      · exact h
    have H := Lib.hid h3
    clear h h0 h3
    go_enter Try.func8, Try.ntmps8
    go_wp2_with fail
    refine (awake_yes _).mono ?_
    rintro e w1 ⟨rfl, hb1⟩
    go_wp2_with fail
    refine (put_bad _ _ _ _ _ _ hn H.out).mono ?_
    rintro e w' ⟨rfl, rfl⟩
    go_wp2_with fail
    refine (put_bad _ _ _ _ _ _ hn H.out).mono ?_
    rintro e w' ⟨rfl, rfl⟩
    go_wp2
    go_ret
    exact ⟨rfl, hb1⟩
theorem no_no (A : Option Addr) (n c : Nat) (xs : List Int) (a : Int) (b : Int) (v : Int) (u : Int) (w : World) (h : mayB n = true) (ha : (a < 16 ∨ 16 + n ≤ a)) (hb : (b < 16 ∨ 16 + n ≤ b)) (ma : a ≤ 9223372036854775807) (mb : b ≤ 9223372036854775807) (hr : Row w w.heap.size A n xs) :
    Calls Try.prog 8 #[.slice A n c, .int .i64 a, .int .i64 b, .int .i64 v, .int .i64 u] w fun e w' => e = .returned (.bool true) ∧ Below w.heap.size w w' := by
  obtain ⟨m0, m1, m2⟩ := mayB_iff.1 h
  have H := Lib.hid h
  have HR := Lib.hid hr
  clear h hr m2
  have HA := Lib.hid ha
  clear ha
  have HB := Lib.hid hb
  clear hb
  go_enter Try.func8, Try.ntmps8
  go_wp2_with fail
  refine (awake_yes _).mono ?_
  rintro e w1 ⟨rfl, hb1⟩
  go_wp2_with fail
  refine (put_none _ _ _ _ _ _ H.out HA.out ma).mono ?_
  rintro e w' ⟨rfl, rfl⟩
  go_wp2_with fail
  refine (put_none _ _ _ _ _ _ H.out HB.out mb).mono ?_
  rintro e w' ⟨rfl, rfl⟩
  go_wp2
  go_ret
  exact ⟨rfl, hb1⟩
theorem no_yes (A : Option Addr) (n c : Nat) (xs : List Int) (a : Int) (b : Int) (v : Int) (u : Int) (w : World) (h : mayB n = true) (ha : (a < 16 ∨ 16 + n ≤ a)) (lb : 16 ≤ b) (gb : b < 16 + n) (ma : a ≤ 9223372036854775807) (hr : Row w w.heap.size A n xs) :
    Calls Try.prog 8 #[.slice A n c, .int .i64 a, .int .i64 b, .int .i64 v, .int .i64 u] w fun e w' => e = .returned (.bool true) ∧ Below w.heap.size w w' := by
  obtain ⟨m0, m1, m2⟩ := mayB_iff.1 h
  have H := Lib.hid h
  have HR := Lib.hid hr
  clear h hr m2
  have HA := Lib.hid ha
  clear ha
  go_enter Try.func8, Try.ntmps8
  go_wp2_with fail
  refine (awake_yes _).mono ?_
  rintro e w1 ⟨rfl, hb1⟩
  go_wp2_with fail
  refine (put_none _ _ _ _ _ _ H.out HA.out ma).mono ?_
  rintro e w' ⟨rfl, rfl⟩
  go_wp2_with fail
  refine (put_ok _ _ _ _ _ _ _ _ H.out lb gb (HR.out.below hb1)).mono ?_
  rintro e w2 ⟨g, c', rfl, hm, hb2⟩
  clear hm
  go_wp2
  go_ret
  exact ⟨rfl, hb1.trans (hb2.mono hb1.size)⟩
theorem yes_no (A : Option Addr) (n c : Nat) (xs : List Int) (a : Int) (b : Int) (v : Int) (u : Int) (w : World) (h : mayB n = true) (la : 16 ≤ a) (ga : a < 16 + n) (hb : (b < 16 ∨ 16 + n ≤ b)) (mb : b ≤ 9223372036854775807) (hr : Row w w.heap.size A n xs) :
    Calls Try.prog 8 #[.slice A n c, .int .i64 a, .int .i64 b, .int .i64 v, .int .i64 u] w fun e w' => e = .returned (.bool true) ∧ Below w.heap.size w w' := by
  obtain ⟨m0, m1, m2⟩ := mayB_iff.1 h
  have H := Lib.hid h
  have HR := Lib.hid hr
  clear h hr m2
  have HB := Lib.hid hb
  clear hb
  go_enter Try.func8, Try.ntmps8
  go_wp2_with fail
  refine (awake_yes _).mono ?_
  rintro e w1 ⟨rfl, hb1⟩
  go_wp2_with fail
  refine (put_ok _ _ _ _ _ _ _ _ H.out la ga (HR.out.below hb1)).mono ?_
  rintro e w2 ⟨g, c', rfl, hm, hb2⟩
  go_wp2_with fail
  refine (put_none _ _ _ _ _ _ H.out HB.out mb).mono ?_
  rintro e w' ⟨rfl, rfl⟩
  clear hm
  go_wp2
  go_ret
  exact ⟨rfl, hb1.trans (hb2.mono hb1.size)⟩
theorem same (A : Option Addr) (n c : Nat) (xs : List Int) (a : Int) (b : Int) (v : Int) (u : Int) (w : World) (h : mayB n = true) (la : 16 ≤ a) (ga : a < 16 + n) (lb : 16 ≤ b) (gb : b < 16 + n) (e : (a == b) = true) (hr : Row w w.heap.size A n xs) :
    Calls Try.prog 8 #[.slice A n c, .int .i64 a, .int .i64 b, .int .i64 v, .int .i64 u] w fun e w' => e = .returned (.bool true) ∧ Below w.heap.size w w' := by
  obtain ⟨m0, m1, m2⟩ := mayB_iff.1 h
  have H := Lib.hid h
  have HR := Lib.hid hr
  clear h hr m2
  have EG : ((xs.set (a - 16).toNat v).set (b - 16).toNat u).getD (b - 16).toNat 0 = u := by
    have hl := HR.out.1
    simp [List.getD, show (b - 16).toNat < xs.length by omega]
  have HE := Lib.hid EG
  clear EG
  go_enter Try.func8, Try.ntmps8
  go_wp2_with fail
  refine (awake_yes _).mono ?_
  rintro e w1 ⟨rfl, hb1⟩
  go_wp2_with fail
  refine (put_ok _ _ _ _ _ _ _ _ H.out la ga (HR.out.below hb1)).mono ?_
  rintro e w2 ⟨g2, c2, rfl, hm, hb2⟩
  have R2 := Lib.hid hm.row
  clear hm
  go_wp2_with fail
  refine (put_ok _ _ _ _ _ _ _ _ H.out lb gb ((HR.out.below hb1).over hb2 hb1.size)).mono ?_
  rintro e w3 ⟨g3, c3, rfl, hm, hb3⟩
  have R3 := Lib.hid hm.row
  clear hm
  go_wp2_with fail
  refine (put_ok _ _ _ _ _ _ _ _ H.out lb gb (R2.out.below hb3)).mono ?_
  rintro e w4 ⟨g4, c4, rfl, hm, hb4⟩
  have R4 := Lib.hid hm.row
  clear hm
  go_wp2_with fail
  refine (put_ok _ _ _ _ _ _ _ _ H.out la ga (R3.out.below hb4)).mono ?_
  rintro e w5 ⟨g5, c5, rfl, hm, hb5⟩
  have R5 := Lib.hid hm.row
  clear hm
  go_wp2_with fail
  refine (get_ok _ _ _ _ _ _ _ H.out lb gb (R4.out.below hb5)).mono ?_
  rintro e w' ⟨rfl, rfl⟩
  rw [HE.out]
  go_wp2
  go_ret
  exact ⟨rfl, (((hb1.trans (hb2.mono hb1.size)).trans (hb3.mono (by have := hb1.size; have := hb2.size; omega))).trans (hb4.mono (by have := hb1.size; have := hb2.size; have := hb3.size; omega))).trans (hb5.mono (by have := hb1.size; have := hb2.size; have := hb3.size; have := hb4.size; omega))⟩
theorem other (A : Option Addr) (n c : Nat) (xs : List Int) (a : Int) (b : Int) (v : Int) (u : Int) (w : World) (h : mayB n = true) (la : 16 ≤ a) (ga : a < 16 + n) (lb : 16 ≤ b) (gb : b < 16 + n) (e : (a == b) = false) (hr : Row w w.heap.size A n xs) :
    Calls Try.prog 8 #[.slice A n c, .int .i64 a, .int .i64 b, .int .i64 v, .int .i64 u] w fun e w' => e = .returned (.bool true) ∧ Below w.heap.size w w' := by
  obtain ⟨m0, m1, m2⟩ := mayB_iff.1 h
  have H := Lib.hid h
  have HR := Lib.hid hr
  clear h hr m2
  have EQ : (xs.set (b - 16).toNat u).set (a - 16).toNat v = (xs.set (a - 16).toNat v).set (b - 16).toNat u := by
    have hne : ¬ a = b := by simpa using e
    exact List.set_comm _ _ (by omega)
  have HQ := Lib.hid EQ
  clear EQ
  have EG : ((xs.set (a - 16).toNat v).set (b - 16).toNat u).getD (b - 16).toNat 0 = u := by
    have hl := HR.out.1
    simp [List.getD, show (b - 16).toNat < xs.length by omega]
  have HE := Lib.hid EG
  clear EG
  go_enter Try.func8, Try.ntmps8
  go_wp2_with fail
  refine (awake_yes _).mono ?_
  rintro e w1 ⟨rfl, hb1⟩
  go_wp2_with fail
  refine (put_ok _ _ _ _ _ _ _ _ H.out la ga (HR.out.below hb1)).mono ?_
  rintro e w2 ⟨g2, c2, rfl, hm, hb2⟩
  have R2 := Lib.hid hm.row
  clear hm
  go_wp2_with fail
  refine (put_ok _ _ _ _ _ _ _ _ H.out lb gb ((HR.out.below hb1).over hb2 hb1.size)).mono ?_
  rintro e w3 ⟨g3, c3, rfl, hm, hb3⟩
  have R3 := Lib.hid hm.row
  clear hm
  go_wp2_with fail
  refine (put_ok _ _ _ _ _ _ _ _ H.out lb gb (R2.out.below hb3)).mono ?_
  rintro e w4 ⟨g4, c4, rfl, hm, hb4⟩
  have R4 := Lib.hid hm.row
  clear hm
  go_wp2_with fail
  refine (put_ok _ _ _ _ _ _ _ _ H.out la ga (R3.out.below hb4)).mono ?_
  rintro e w5 ⟨g5, c5, rfl, hm, hb5⟩
  have R5 := Lib.hid hm.row
  clear hm
  go_wp2_with fail
  refine (get_ok _ _ _ _ _ _ _ H.out lb gb (R4.out.below hb5)).mono ?_
  rintro e w' ⟨rfl, rfl⟩
  rw [HE.out]
  have R6 : Hid (Row w5 w5.heap.size (some ⟨g5, 0, none⟩) n ((xs.set (a - 16).toNat v).set (b - 16).toNat u)) := HQ.out ▸ R5.out
  go_wp2_with fail
  refine (ints_same _ _ _ _ _ _ _ _ _ (by omega) (R4.out.below hb5) R6.out).mono ?_
  rintro e w6 ⟨rfl, hb6⟩
  go_wp2
  go_ret
  exact ⟨rfl, ((((hb1.trans (hb2.mono hb1.size)).trans (hb3.mono (by have := hb1.size; have := hb2.size; omega))).trans (hb4.mono (by have := hb1.size; have := hb2.size; have := hb3.size; omega))).trans (hb5.mono (by have := hb1.size; have := hb2.size; have := hb3.size; have := hb4.size; omega))).trans (hb6.mono (by have := hb1.size; have := hb2.size; have := hb3.size; have := hb4.size; have := hb5.size; omega))⟩
theorem walk (A : Option Addr) (n c : Nat) (xs : List Int) (a : Int) (b : Int) (v : Int) (u : Int) (w : World) (hr : IsIn w A n c xs) (wa : (Lit.int .i64 a).wf = true) (wb : (Lit.int .i64 b).wf = true) (_wv : (Lit.int .i64 v).wf = true) (_wu : (Lit.int .i64 u).wf = true) :
    Calls Try.prog 8 #[.slice A n c, .int .i64 a, .int .i64 b, .int .i64 v, .int .i64 u] w fun e w' => e = .returned (.bool true) ∧ Below w.heap.size w w' := by
  have hn : n ≤ 9223372036854775807 := by have h1 := hr.2.1; have h2 := hr.2.2; unfold maxLen at h2; omega
  have ma := (bounds_i64 wa).2
  have mb := (bounds_i64 wb).2
  cases h : mayB n
  · exact short A n c a b v u w hn (.inr h)
  · by_cases ha : 16 ≤ a ∧ a < 16 + n <;> by_cases hb : 16 ≤ b ∧ b < 16 + n
    · cases e : (a == b)
      · exact other A n c xs a b v u w h ha.1 ha.2 hb.1 hb.2 e hr.1
      · exact same A n c xs a b v u w h ha.1 ha.2 hb.1 hb.2 e hr.1
    · exact yes_no A n c xs a b v u w h ha.1 ha.2 (by omega) mb hr.1
    · exact no_yes A n c xs a b v u w h (by omega) hb.1 hb.2 ma hr.1
    · exact no_no A n c xs a b v u w h (by omega) (by omega) ma mb hr.1

set_option maxRecDepth 100000 in
theorem lifted (os : Os) (started : os.Started) (H : Type) (enc : TypeId × Value → H) :
    ReturnsInHanded {} Try.checked os 8 .any (Rows.arenaTwiceSpec.pre6 enc Try.prog Try.f8 Rows.arenaTwiceRow.domain false) (Rows.arenaTwiceSpec.post enc Try.prog Try.f8 false true false false) := by
  refine returnsInHanded_of_change (C := Try.checked) own started (by kernel_rfl) Try.func8
    (ChangeSpec.witness6 (enc := enc) (C := Try.checked) false ⟨#[], #[.slice none 0 0, .int .i64 0, .int .i64 0, .int .i64 0, .int .i64 0], []⟩ 8 (by kernel_rfl) (by kernel_rfl) (by kernel_rfl) (by kernel_rfl)) ?_
  intro W base args ds gs before hval0 hW hcnd _
  have hval : ∀ (j : Nat) t v, Try.f8.params[j]? = some t → args[j]? = some v → Value.okWide Try.prog W .any base t v := hval0
  have hW' := hW
  obtain ⟨p, q, hA0, hV, rfl, hfz, hnd⟩ := hW
  have hA : DataW.TrodAll enc Try.prog W 0 (fun _ => true) true Try.f8.params.toList args.toList ds p := hA0
  rw [Try.params8] at hA hval
  obtain ⟨v0, vs0, d0, ds0, p0, q0, hargs, rfl, rfl, h0, r0⟩ := trodAll_cons hA
  obtain ⟨v1, vs1, d1, ds1, p1, q1, rfl, rfl, rfl, h1, r1⟩ := trodAll_cons r0
  obtain ⟨v2, vs2, d2, ds2, p2, q2, rfl, rfl, rfl, h2, r2⟩ := trodAll_cons r1
  obtain ⟨v3, vs3, d3, ds3, p3, q3, rfl, rfl, rfl, h3, r3⟩ := trodAll_cons r2
  obtain ⟨v4, vs4, d4, ds4, p4, q4, rfl, rfl, rfl, h4, r4⟩ := trodAll_cons r3
  obtain ⟨rfl, rfl, rfl⟩ := trodAll_nil r4
  obtain rfl : args = #[v0, v1, v2, v3, v4] := by cases args; simp_all
  obtain ⟨rfl, rfl⟩ := trodVars_none hV
  obtain ⟨a0, len0, cap0, rfl⟩ := okWide_slice Try.underlying22 (hval 0 22 v0 rfl rfl)
  have k0 := h0
  have lt0 : ∀ x ∈ p0, x.block < W.heap.size := by obtain ⟨m, hm⟩ := k0; exact DataW.trod_lt m _ _ _ hm
  obtain ⟨z0, w0⟩ : ∃ zs, IsIn W a0 len0 cap0 zs := in_of Try.underlying22 Try.underlying3 (by kernel_rfl) h0
  obtain ⟨a1, rfl, rfl, rfl, w1⟩ := open_int Try.underlying3 (hval 1 3 v1 rfl rfl) h1
  obtain ⟨a2, rfl, rfl, rfl, w2⟩ := open_int Try.underlying3 (hval 2 3 v2 rfl rfl) h2
  obtain ⟨a3, rfl, rfl, rfl, w3⟩ := open_int Try.underlying3 (hval 3 3 v3 rfl rfl) h3
  obtain ⟨a4, rfl, rfl, rfl, w4⟩ := open_int Try.underlying3 (hval 4 3 v4 rfl rfl) h4
  clear hA0 hval0
  refine (walk a0 len0 cap0 z0 a1 a2 a3 a4 W w0 w1 w2 w3 w4).mono fun e W' ⟨he, bel⟩ => ?_
  subst he
  exact ⟨_, rfl, _, _, _, [], _, [], hW', trodAll_mk1 (shut_bool Try.underlying4 _), (trodAll_cons_mk (Below.trod laidOut (by kernel_rfl) (of_decide_eq_true (by kernel_rfl)) k0 bel lt0) (trodAll_cons_mk (shut_int Try.underlying3 w1) (trodAll_cons_mk (shut_int Try.underlying3 w2) (trodAll_cons_mk (shut_int Try.underlying3 w3) (trodAll_cons_mk (shut_int Try.underlying3 w4) trodAll_mk0))))), rfl, bel.frame _, fun h => by cases h⟩

theorem over : Rows.arenaTwiceRow.holds Try.pinned (OpenSpec.ofChange Rows.arenaTwiceSpec) :=
  OpenClaim.holds_of_wide 8 Try.f8 rfl rfl rfl rfl rfl rfl rfl ⟨rfl, rfl, rfl, rfl, rfl⟩ rfl rfl rfl rfl rfl (by kernel_rfl) Try.func8 (by kernel_rfl)
    (of_decide_eq_true (by kernel_rfl)) (by unfold Func.isWrapper; first | (rw [if_pos (by decide +kernel)]; kernel_rfl) | (rw [if_neg (by decide +kernel)]; exact ⟨rfl, rfl⟩))
    (fun os started H enc _ => lifted os started H enc)

/-- The statement. -/
theorem proved : Rows.ArenaTwiceSaid :=
  over
#print axioms proved
end Go.Proofs.Ytndjocfnepikhaa.ArenaTwice
