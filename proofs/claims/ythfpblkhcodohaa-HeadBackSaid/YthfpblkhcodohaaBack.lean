/-
  HeadBack: what was packed is unpacked, and what is unpacked would be packed as the same word: for every head and every number, without a condition.
-/
import Derived.Test.YthfpblkhcodohaaFrame
import Derived.Test.YthfpblkhcodohaaAwake
import Derived.Test.YthfpblkhcodohaaSame
namespace Go.Proofs.Ythfpblkhcodohaa.Back
open Go.Proofs.Ythfpblkhcodohaa
open Go.ChangeShapes Go.WideShapes Go.ChangeAt Go.RowKit

theorem no_no (u o e : Bool) (n b m : Int) (x : Int) (w : World) (h : mayB u o e n b m = false) (g : isWord x = false) :
    Calls Try.prog 4 #[.agg #[.bool u, .bool o, .bool e, .int .i64 n, .int .i64 b, .int .i64 m], .int .i64 x] w fun r w' => r = .returned (.bool true) ∧ Below w.heap.size w w' := by
  have H := Lib.hid h
  clear h
  have G := Lib.hid g
  clear g
  go_enter Try.func4, Try.ntmps4
  go_wp2_with fail
  refine (awake_yes _).mono ?_
  rintro r w1 ⟨rfl, hb1⟩
  have hc1 := old_cell hb1
  have hf1 := old_mark hb1
  have s1 := hb1.size
  simp at s1
  have z1_0_0 : w.heap.size < w1.heap.size := by omega
  go_wp2_with fail
  refine (pack_no _ _ _ _ _ _ _ H.out).mono ?_
  rintro r w2 ⟨rfl, hb2⟩
  have hc2 := old_cell hb2
  have hf2 := old_mark hb2
  have s2 := hb2.size
  have z2_0_0 : w.heap.size < w2.heap.size := by omega
  go_wp2_with fail
  refine (may_no _ _ _ _ _ _ _ H.out).mono ?_
  rintro r w3 ⟨rfl, hb3⟩
  have hc3 := old_cell hb3
  have hf3 := old_mark hb3
  have s3 := hb3.size
  have z3_0_0 : w.heap.size < w3.heap.size := by omega
  go_wp2_with fail
  refine (unpack_no _ _ G.out).mono ?_
  rintro r w4 ⟨rfl, hb4⟩
  have hc4 := old_cell hb4
  have hf4 := old_mark hb4
  have s4 := hb4.size
  have z4_0_0 : w.heap.size < w4.heap.size := by omega
  have z4_0_1 : w.heap.size < w4.heap.size + 1 := by omega
  go_wp2
  go_ret
  exact ⟨rfl, (((((((((((((Below.refl _ _)).alloc (by first | omega | (simp; omega) | simp) _)).trans (hb1.mono (by first | omega | (simp; omega) | simp)))).trans (hb2.mono (by first | omega | (simp; omega) | simp)))).trans (hb3.mono (by first | omega | (simp; omega) | simp)))).trans (hb4.mono (by first | omega | (simp; omega) | simp)))).alloc (by first | omega | (simp; omega) | simp) _)⟩
theorem yes_no (u o e : Bool) (n b m : Int) (x : Int) (w : World) (h : mayB u o e n b m = true) (g : isWord x = false) :
    Calls Try.prog 4 #[.agg #[.bool u, .bool o, .bool e, .int .i64 n, .int .i64 b, .int .i64 m], .int .i64 x] w fun r w' => r = .returned (.bool true) ∧ Below w.heap.size w w' := by
  have H := Lib.hid h
  clear h
  have G := Lib.hid g
  clear g
  go_enter Try.func4, Try.ntmps4
  go_wp2_with fail
  refine (awake_yes _).mono ?_
  rintro r w1 ⟨rfl, hb1⟩
  have hc1 := old_cell hb1
  have hf1 := old_mark hb1
  have s1 := hb1.size
  simp at s1
  have z1_0_0 : w.heap.size < w1.heap.size := by omega
  go_wp2_with fail
  refine (pack_yes _ _ _ _ _ _ _ H.out).mono ?_
  rintro r w2 ⟨rfl, hb2⟩
  have hc2 := old_cell hb2
  have hf2 := old_mark hb2
  have s2 := hb2.size
  have z2_0_0 : w.heap.size < w2.heap.size := by omega
  go_wp2_with fail
  refine (may_yes _ _ _ _ _ _ _ H.out).mono ?_
  rintro r w3 ⟨rfl, hb3⟩
  have hc3 := old_cell hb3
  have hf3 := old_mark hb3
  have s3 := hb3.size
  have z3_0_0 : w.heap.size < w3.heap.size := by omega
  go_wp2_with fail
  refine (unpack_word _ _ _ _ _ _ _ H.out).mono ?_
  rintro r w4 ⟨rfl, hb4⟩
  have hc4 := old_cell hb4
  have hf4 := old_mark hb4
  have s4 := hb4.size
  have z4_0_0 : w.heap.size < w4.heap.size := by omega
  have z4_0_1 : w.heap.size < w4.heap.size + 1 := by omega
  go_wp2_with fail
  refine (unpack_no _ _ G.out).mono ?_
  rintro r w5 ⟨rfl, hb5⟩
  have hc5 := old_cell hb5
  have hf5 := old_mark hb5
  have s5 := hb5.size
  simp at s5
  have z5_0_0 : w.heap.size < w5.heap.size := by omega
  have z5_0_1 : w.heap.size < w5.heap.size + 1 := by omega
  have z5_1_0 : w4.heap.size < w5.heap.size := by omega
  have z5_1_1 : w4.heap.size < w5.heap.size + 1 := by omega
  go_wp2
  go_ret
  exact ⟨rfl, (((((((((((((((((Below.refl _ _)).alloc (by first | omega | (simp; omega) | simp) _)).trans (hb1.mono (by first | omega | (simp; omega) | simp)))).trans (hb2.mono (by first | omega | (simp; omega) | simp)))).trans (hb3.mono (by first | omega | (simp; omega) | simp)))).trans (hb4.mono (by first | omega | (simp; omega) | simp)))).alloc (by first | omega | (simp; omega) | simp) _)).trans (hb5.mono (by first | omega | (simp; omega) | simp)))).alloc (by first | omega | (simp; omega) | simp) _)⟩
theorem no_yes (u o e : Bool) (n b m : Int) (u' o' e' : Bool) (n' b' m' : Int) (w : World) (h : mayB u o e n b m = false) (g : mayB u' o' e' n' b' m' = true) :
    Calls Try.prog 4 #[.agg #[.bool u, .bool o, .bool e, .int .i64 n, .int .i64 b, .int .i64 m], .int .i64 (word u' o' e' n' b' m')] w fun r w' => r = .returned (.bool true) ∧ Below w.heap.size w w' := by
  have H := Lib.hid h
  clear h
  have G := Lib.hid g
  clear g
  go_enter Try.func4, Try.ntmps4
  go_wp2_with fail
  refine (awake_yes _).mono ?_
  rintro r w1 ⟨rfl, hb1⟩
  have hc1 := old_cell hb1
  have hf1 := old_mark hb1
  have s1 := hb1.size
  simp at s1
  have z1_0_0 : w.heap.size < w1.heap.size := by omega
  go_wp2_with fail
  refine (pack_no _ _ _ _ _ _ _ H.out).mono ?_
  rintro r w2 ⟨rfl, hb2⟩
  have hc2 := old_cell hb2
  have hf2 := old_mark hb2
  have s2 := hb2.size
  have z2_0_0 : w.heap.size < w2.heap.size := by omega
  go_wp2_with fail
  refine (may_no _ _ _ _ _ _ _ H.out).mono ?_
  rintro r w3 ⟨rfl, hb3⟩
  have hc3 := old_cell hb3
  have hf3 := old_mark hb3
  have s3 := hb3.size
  have z3_0_0 : w.heap.size < w3.heap.size := by omega
  go_wp2_with fail
  refine (unpack_word _ _ _ _ _ _ _ G.out).mono ?_
  rintro r w4 ⟨rfl, hb4⟩
  have hc4 := old_cell hb4
  have hf4 := old_mark hb4
  have s4 := hb4.size
  have z4_0_0 : w.heap.size < w4.heap.size := by omega
  have z4_0_1 : w.heap.size < w4.heap.size + 1 := by omega
  go_wp2_with fail
  refine (pack_yes _ _ _ _ _ _ _ G.out).mono ?_
  rintro r w5 ⟨rfl, hb5⟩
  have hc5 := old_cell hb5
  have hf5 := old_mark hb5
  have s5 := hb5.size
  simp at s5
  have z5_0_0 : w.heap.size < w5.heap.size := by omega
  have z5_1_0 : w4.heap.size < w5.heap.size := by omega
  go_wp2_with fail
  refine (may_yes _ _ _ _ _ _ _ G.out).mono ?_
  rintro r w6 ⟨rfl, hb6⟩
  have hc6 := old_cell hb6
  have hf6 := old_mark hb6
  have s6 := hb6.size
  have z6_0_0 : w.heap.size < w6.heap.size := by omega
  have z6_1_0 : w4.heap.size < w6.heap.size := by omega
  go_wp2
  go_ret
  exact ⟨rfl, (((((((((((((((((Below.refl _ _)).alloc (by first | omega | (simp; omega) | simp) _)).trans (hb1.mono (by first | omega | (simp; omega) | simp)))).trans (hb2.mono (by first | omega | (simp; omega) | simp)))).trans (hb3.mono (by first | omega | (simp; omega) | simp)))).trans (hb4.mono (by first | omega | (simp; omega) | simp)))).alloc (by first | omega | (simp; omega) | simp) _)).trans (hb5.mono (by first | omega | (simp; omega) | simp)))).trans (hb6.mono (by first | omega | (simp; omega) | simp)))⟩
theorem yes_yes (u o e : Bool) (n b m : Int) (u' o' e' : Bool) (n' b' m' : Int) (w : World) (h : mayB u o e n b m = true) (g : mayB u' o' e' n' b' m' = true) :
    Calls Try.prog 4 #[.agg #[.bool u, .bool o, .bool e, .int .i64 n, .int .i64 b, .int .i64 m], .int .i64 (word u' o' e' n' b' m')] w fun r w' => r = .returned (.bool true) ∧ Below w.heap.size w w' := by
  have H := Lib.hid h
  clear h
  have G := Lib.hid g
  clear g
  go_enter Try.func4, Try.ntmps4
  go_wp2_with fail
  refine (awake_yes _).mono ?_
  rintro r w1 ⟨rfl, hb1⟩
  have hc1 := old_cell hb1
  have hf1 := old_mark hb1
  have s1 := hb1.size
  simp at s1
  have z1_0_0 : w.heap.size < w1.heap.size := by omega
  go_wp2_with fail
  refine (pack_yes _ _ _ _ _ _ _ H.out).mono ?_
  rintro r w2 ⟨rfl, hb2⟩
  have hc2 := old_cell hb2
  have hf2 := old_mark hb2
  have s2 := hb2.size
  have z2_0_0 : w.heap.size < w2.heap.size := by omega
  go_wp2_with fail
  refine (may_yes _ _ _ _ _ _ _ H.out).mono ?_
  rintro r w3 ⟨rfl, hb3⟩
  have hc3 := old_cell hb3
  have hf3 := old_mark hb3
  have s3 := hb3.size
  have z3_0_0 : w.heap.size < w3.heap.size := by omega
  go_wp2_with fail
  refine (unpack_word _ _ _ _ _ _ _ H.out).mono ?_
  rintro r w4 ⟨rfl, hb4⟩
  have hc4 := old_cell hb4
  have hf4 := old_mark hb4
  have s4 := hb4.size
  have z4_0_0 : w.heap.size < w4.heap.size := by omega
  have z4_0_1 : w.heap.size < w4.heap.size + 1 := by omega
  go_wp2_with fail
  refine (unpack_word _ _ _ _ _ _ _ G.out).mono ?_
  rintro r w5 ⟨rfl, hb5⟩
  have hc5 := old_cell hb5
  have hf5 := old_mark hb5
  have s5 := hb5.size
  simp at s5
  have z5_0_0 : w.heap.size < w5.heap.size := by omega
  have z5_0_1 : w.heap.size < w5.heap.size + 1 := by omega
  have z5_1_0 : w4.heap.size < w5.heap.size := by omega
  have z5_1_1 : w4.heap.size < w5.heap.size + 1 := by omega
  go_wp2_with fail
  refine (pack_yes _ _ _ _ _ _ _ G.out).mono ?_
  rintro r w6 ⟨rfl, hb6⟩
  have hc6 := old_cell hb6
  have hf6 := old_mark hb6
  have s6 := hb6.size
  simp at s6
  have z6_0_0 : w.heap.size < w6.heap.size := by omega
  have z6_1_0 : w4.heap.size < w6.heap.size := by omega
  have z6_2_0 : w5.heap.size < w6.heap.size := by omega
  go_wp2_with fail
  refine (may_yes _ _ _ _ _ _ _ G.out).mono ?_
  rintro r w7 ⟨rfl, hb7⟩
  have hc7 := old_cell hb7
  have hf7 := old_mark hb7
  have s7 := hb7.size
  have z7_0_0 : w.heap.size < w7.heap.size := by omega
  have z7_1_0 : w4.heap.size < w7.heap.size := by omega
  have z7_2_0 : w5.heap.size < w7.heap.size := by omega
  go_wp2
  go_ret
  exact ⟨rfl, (((((((((((((((((((((Below.refl _ _)).alloc (by first | omega | (simp; omega) | simp) _)).trans (hb1.mono (by first | omega | (simp; omega) | simp)))).trans (hb2.mono (by first | omega | (simp; omega) | simp)))).trans (hb3.mono (by first | omega | (simp; omega) | simp)))).trans (hb4.mono (by first | omega | (simp; omega) | simp)))).alloc (by first | omega | (simp; omega) | simp) _)).trans (hb5.mono (by first | omega | (simp; omega) | simp)))).alloc (by first | omega | (simp; omega) | simp) _)).trans (hb6.mono (by first | omega | (simp; omega) | simp)))).trans (hb7.mono (by first | omega | (simp; omega) | simp)))⟩
theorem walk (u o e : Bool) (n b m : Int) (x : Int) (w : World) :
    Calls Try.prog 4 #[.agg #[.bool u, .bool o, .bool e, .int .i64 n, .int .i64 b, .int .i64 m], .int .i64 x] w fun r w' => r = .returned (.bool true) ∧ Below w.heap.size w w' := by
  cases g : isWord x
  · cases h : mayB u o e n b m
    · exact no_no _ _ _ _ _ _ x w h g
    · exact yes_no _ _ _ _ _ _ x w h g
  · obtain ⟨u', o', e', n', b', m', g', rfl, _⟩ := isWord_cases x g
    cases h : mayB u o e n b m
    · exact no_yes _ _ _ _ _ _ _ _ _ _ _ _ w h g'
    · exact yes_yes _ _ _ _ _ _ _ _ _ _ _ _ w h g'

theorem cellsHead : Try.prog.cellsOf 23 = 6 := by kernel_rfl
set_option maxRecDepth 100000 in
theorem lifted (os : Os) (started : os.Started) (H : Type) (enc : TypeId × Value → H) :
    ReturnsInHanded {} Try.checked os 4 .any (Rows.headBackSpec.pre6 enc Try.prog Try.f4 Rows.headBackRow.domain false) (Rows.headBackSpec.post enc Try.prog Try.f4 false true false false) := by
  refine returnsInHanded_of_change (C := Try.checked) own started (by kernel_rfl) Try.func4
    (ChangeSpec.witness6 (enc := enc) (C := Try.checked) false ⟨#[], #[.agg #[.bool false, .bool false, .bool false, .int .i64 0, .int .i64 0, .int .i64 0], .int .i64 0], []⟩ 8 (by kernel_rfl) (by kernel_rfl) (by kernel_rfl) (by kernel_rfl)) ?_
  intro W base args ds gs before hval0 hW hcnd _
  have hval : ∀ (j : Nat) t v, Try.f4.params[j]? = some t → args[j]? = some v → Value.okWide Try.prog W .any base t v := hval0
  have hW' := hW
  obtain ⟨p, q, hA0, hV, rfl, hfz, hnd⟩ := hW
  have hA : DataW.TrodAll enc Try.prog W 0 (fun _ => true) true Try.f4.params.toList args.toList ds p := hA0
  rw [Try.params4] at hA hval
  obtain ⟨v0, vs0, d0, ds0, p0, q0, hargs, rfl, rfl, h0, r0⟩ := trodAll_cons hA
  obtain ⟨v1, vs1, d1, ds1, p1, q1, rfl, rfl, rfl, h1, r1⟩ := trodAll_cons r0
  obtain ⟨rfl, rfl, rfl⟩ := trodAll_nil r1
  obtain rfl : args = #[v0, v1] := by cases args; simp_all
  obtain ⟨rfl, rfl⟩ := trodVars_none hV
  obtain ⟨u0, o0, e0, n0, b0, m0, rfl, rfl, rfl, x0, y0, z0⟩ := six_open Try.underlying23 cellsHead (by kernel_rfl) rfl Try.underlying4 Try.underlying3 (hval 0 23 v0 rfl rfl) h0
  obtain ⟨a1, rfl, rfl, rfl, x1⟩ := open_int Try.underlying3 (hval 1 3 v1 rfl rfl) h1
  clear hA0 hval0
  simp only [List.append_nil] at hW'
  refine (walk u0 o0 e0 n0 b0 m0 a1 W).mono fun e W' ⟨he, hb⟩ => ?_
  subst he
  exact ⟨_, rfl, law_post hW' (fun _ _ _ => trodAll_cons_mk (shut_bool Try.underlying4 _) trodAll_mk0) (fun _ => trodAll_cons_mk (six_shut Try.underlying23 cellsHead (by kernel_rfl) rfl Try.underlying4 Try.underlying3 _ _ _ _ _ _ x0 y0 z0) (trodAll_cons_mk (shut_int Try.underlying3 x1) trodAll_mk0)) (fun _ => rfl) hb⟩

theorem over : Rows.headBackRow.holds Try.pinned (OpenSpec.ofChange Rows.headBackSpec) :=
  OpenClaim.holds_of_wide 4 Try.f4 rfl rfl rfl rfl rfl rfl rfl ⟨rfl, rfl, rfl, rfl, rfl⟩ rfl rfl rfl rfl rfl (by kernel_rfl) Try.func4 (by kernel_rfl)
    (of_decide_eq_true (by kernel_rfl)) (by unfold Func.isWrapper; first | (rw [if_pos (by decide +kernel)]; kernel_rfl) | (rw [if_neg (by decide +kernel)]; exact ⟨rfl, rfl⟩))
    (fun os started H enc _ => lifted os started H enc)

/-- The statement. -/
theorem proved : Rows.HeadBackSaid :=
  over
#print axioms proved
end Go.Proofs.Ythfpblkhcodohaa.Back
