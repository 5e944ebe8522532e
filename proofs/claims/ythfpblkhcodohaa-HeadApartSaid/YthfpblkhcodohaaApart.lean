/-
  HeadApart: two heads that may be have one word only if they are the same, and only what is not used has the word 0: for every two heads, without a condition.
-/
import Derived.Test.YthfpblkhcodohaaFrame
import Derived.Test.YthfpblkhcodohaaAwake
import Derived.Test.YthfpblkhcodohaaSame
namespace Go.Proofs.Ythfpblkhcodohaa.Apart
open Go.Proofs.Ythfpblkhcodohaa
open Go.ChangeShapes Go.WideShapes Go.ChangeAt Go.RowKit

theorem far {w w1 w2 w3 : World} {c c' : Obj} (h1 : Below ((w.alloc c).alloc c').heap.size ((w.alloc c).alloc c') w1) (h2 : Below w1.heap.size w1 w2) (h3 : Below w2.heap.size w2 w3) : Below w.heap.size w w3 := by
  have s1 := h1.size
  have s2 := h2.size
  simp at s1
  exact (((((Below.refl _ _).alloc (Nat.le_refl _) _).alloc (by simp) _).trans (h1.mono (by simp; omega))).trans (h2.mono (by omega))).trans (h3.mono (by omega))
theorem no_no (u o e u' o' e' : Bool) (n b m n' b' m' : Int) (w : World) (h : mayB u o e n b m = false ∧ mayB u' o' e' n' b' m' = false) :
    Calls Try.prog 5 #[.agg #[.bool u, .bool o, .bool e, .int .i64 n, .int .i64 b, .int .i64 m], .agg #[.bool u', .bool o', .bool e', .int .i64 n', .int .i64 b', .int .i64 m']] w fun r w' => r = .returned (.bool true) ∧ Below w.heap.size w w' := by
  have H := Lib.hid h
  clear h
  go_enter Try.func5, Try.ntmps5
  go_wp2_with fail
  refine (awake_yes _).mono ?_
  rintro r w1 ⟨rfl, hb1⟩
  have hc1 := old_cell hb1
  have hf1 := old_mark hb1
  have s1 := hb1.size
  simp at s1
  have a1 : w.heap.size < w1.heap.size := by omega
  have a2 : w.heap.size + 1 < w1.heap.size := by omega
  go_wp2_with fail
  refine (pack_no _ _ _ _ _ _ _ H.out.1).mono ?_
  rintro r w2 ⟨rfl, hb2⟩
  have hc2 := old_cell hb2
  have hf2 := old_mark hb2
  have s2 := hb2.size
  have a3 : w.heap.size < w2.heap.size := by omega
  have a4 : w.heap.size + 1 < w2.heap.size := by omega
  go_wp2_with fail
  refine (pack_no _ _ _ _ _ _ _ H.out.2).mono ?_
  rintro r w3 ⟨rfl, hb3⟩
  have hc3 := old_cell hb3
  have hf3 := old_mark hb3
  go_wp2
  go_ret
  exact ⟨rfl, far hb1 hb2 hb3⟩
theorem no_yes (u o e u' o' e' : Bool) (n b m n' b' m' : Int) (w : World) (h : mayB u o e n b m = false ∧ mayB u' o' e' n' b' m' = true) :
    Calls Try.prog 5 #[.agg #[.bool u, .bool o, .bool e, .int .i64 n, .int .i64 b, .int .i64 m], .agg #[.bool u', .bool o', .bool e', .int .i64 n', .int .i64 b', .int .i64 m']] w fun r w' => r = .returned (.bool true) ∧ Below w.heap.size w w' := by
  have H := Lib.hid h
  clear h
  go_enter Try.func5, Try.ntmps5
  go_wp2_with fail
  refine (awake_yes _).mono ?_
  rintro r w1 ⟨rfl, hb1⟩
  have hc1 := old_cell hb1
  have hf1 := old_mark hb1
  have s1 := hb1.size
  simp at s1
  have a1 : w.heap.size < w1.heap.size := by omega
  have a2 : w.heap.size + 1 < w1.heap.size := by omega
  go_wp2_with fail
  refine (pack_no _ _ _ _ _ _ _ H.out.1).mono ?_
  rintro r w2 ⟨rfl, hb2⟩
  have hc2 := old_cell hb2
  have hf2 := old_mark hb2
  have s2 := hb2.size
  have a3 : w.heap.size < w2.heap.size := by omega
  have a4 : w.heap.size + 1 < w2.heap.size := by omega
  go_wp2_with fail
  refine (pack_yes _ _ _ _ _ _ _ H.out.2).mono ?_
  rintro r w3 ⟨rfl, hb3⟩
  have hc3 := old_cell hb3
  have hf3 := old_mark hb3
  go_wp2
  go_ret
  exact ⟨rfl, far hb1 hb2 hb3⟩
theorem yes_no (u o e u' o' e' : Bool) (n b m n' b' m' : Int) (w : World) (h : mayB u o e n b m = true ∧ mayB u' o' e' n' b' m' = false) :
    Calls Try.prog 5 #[.agg #[.bool u, .bool o, .bool e, .int .i64 n, .int .i64 b, .int .i64 m], .agg #[.bool u', .bool o', .bool e', .int .i64 n', .int .i64 b', .int .i64 m']] w fun r w' => r = .returned (.bool true) ∧ Below w.heap.size w w' := by
  have H := Lib.hid h
  clear h
  go_enter Try.func5, Try.ntmps5
  go_wp2_with fail
  refine (awake_yes _).mono ?_
  rintro r w1 ⟨rfl, hb1⟩
  have hc1 := old_cell hb1
  have hf1 := old_mark hb1
  have s1 := hb1.size
  simp at s1
  have a1 : w.heap.size < w1.heap.size := by omega
  have a2 : w.heap.size + 1 < w1.heap.size := by omega
  go_wp2_with fail
  refine (pack_yes _ _ _ _ _ _ _ H.out.1).mono ?_
  rintro r w2 ⟨rfl, hb2⟩
  have hc2 := old_cell hb2
  have hf2 := old_mark hb2
  have s2 := hb2.size
  have a3 : w.heap.size < w2.heap.size := by omega
  have a4 : w.heap.size + 1 < w2.heap.size := by omega
  go_wp2_with fail
  refine (pack_no _ _ _ _ _ _ _ H.out.2).mono ?_
  rintro r w3 ⟨rfl, hb3⟩
  have hc3 := old_cell hb3
  have hf3 := old_mark hb3
  go_wp2
  go_ret
  exact ⟨rfl, far hb1 hb2 hb3⟩
theorem word_nought {u o e : Bool} {n b m : Int} (h : mayB u o e n b m = true) : (word u o e n b m == 0) = !u := by
  cases u
  · rfl
  · have := (word_parts h).1
    rw [Bool.not_true, beq_eq_false_iff_ne]
    omega
theorem same (u o e : Bool) (n b m : Int) (w : World) (h : mayB u o e n b m = true) (x0 : (word u o e n b m == 0) = !u) :
    Calls Try.prog 5 #[.agg #[.bool u, .bool o, .bool e, .int .i64 n, .int .i64 b, .int .i64 m], .agg #[.bool u, .bool o, .bool e, .int .i64 n, .int .i64 b, .int .i64 m]] w fun r w' => r = .returned (.bool true) ∧ Below w.heap.size w w' := by
  have H := Lib.hid h
  clear h
  go_enter Try.func5, Try.ntmps5
  go_wp2_with fail
  refine (awake_yes _).mono ?_
  rintro r w1 ⟨rfl, hb1⟩
  have hc1 := old_cell hb1
  have hf1 := old_mark hb1
  have s1 := hb1.size
  simp at s1
  have a1 : w.heap.size < w1.heap.size := by omega
  have a2 : w.heap.size + 1 < w1.heap.size := by omega
  go_wp2_with fail
  refine (pack_yes _ _ _ _ _ _ _ H.out).mono ?_
  rintro r w2 ⟨rfl, hb2⟩
  have hc2 := old_cell hb2
  have hf2 := old_mark hb2
  have s2 := hb2.size
  have a3 : w.heap.size < w2.heap.size := by omega
  have a4 : w.heap.size + 1 < w2.heap.size := by omega
  go_wp2_with fail
  refine (pack_yes _ _ _ _ _ _ _ H.out).mono ?_
  rintro r w3 ⟨rfl, hb3⟩
  have hc3 := old_cell hb3
  have hf3 := old_mark hb3
  go_wp2
  go_ret
  exact ⟨rfl, far hb1 hb2 hb3⟩
theorem other (u o e u' o' e' : Bool) (n b m n' b' m' : Int) (w : World) (h : mayB u o e n b m = true ∧ mayB u' o' e' n' b' m' = true) (x0 : (word u o e n b m == 0) = !u) (x1 : (word u o e n b m == word u' o' e' n' b' m') = false)
    (x2 : ∀ w : World, (binOp .eql 23 (.agg #[.bool u, .bool o, .bool e, .int .i64 n, .int .i64 b, .int .i64 m]) (.agg #[.bool u', .bool o', .bool e', .int .i64 n', .int .i64 b', .int .i64 m'])).run Try.prog w = .ok (.bool false) w) :
    Calls Try.prog 5 #[.agg #[.bool u, .bool o, .bool e, .int .i64 n, .int .i64 b, .int .i64 m], .agg #[.bool u', .bool o', .bool e', .int .i64 n', .int .i64 b', .int .i64 m']] w fun r w' => r = .returned (.bool true) ∧ Below w.heap.size w w' := by
  have H := Lib.hid h
  clear h
  go_enter Try.func5, Try.ntmps5
  go_wp2_with fail
  refine (awake_yes _).mono ?_
  rintro r w1 ⟨rfl, hb1⟩
  have hc1 := old_cell hb1
  have hf1 := old_mark hb1
  have s1 := hb1.size
  simp at s1
  have a1 : w.heap.size < w1.heap.size := by omega
  have a2 : w.heap.size + 1 < w1.heap.size := by omega
  go_wp2_with fail
  refine (pack_yes _ _ _ _ _ _ _ H.out.1).mono ?_
  rintro r w2 ⟨rfl, hb2⟩
  have hc2 := old_cell hb2
  have hf2 := old_mark hb2
  have s2 := hb2.size
  have a3 : w.heap.size < w2.heap.size := by omega
  have a4 : w.heap.size + 1 < w2.heap.size := by omega
  go_wp2_with fail
  refine (pack_yes _ _ _ _ _ _ _ H.out.2).mono ?_
  rintro r w3 ⟨rfl, hb3⟩
  have hc3 := old_cell hb3
  have hf3 := old_mark hb3
  go_wp2
  go_ret
  exact ⟨rfl, far hb1 hb2 hb3⟩
theorem walk (u o e : Bool) (n b m : Int) (u' o' e' : Bool) (n' b' m' : Int) (w : World) :
    Calls Try.prog 5 #[.agg #[.bool u, .bool o, .bool e, .int .i64 n, .int .i64 b, .int .i64 m], .agg #[.bool u', .bool o', .bool e', .int .i64 n', .int .i64 b', .int .i64 m']] w fun r w' => r = .returned (.bool true) ∧ Below w.heap.size w w' := by
  cases h : mayB u o e n b m
  · cases h' : mayB u' o' e' n' b' m'
    · exact no_no _ _ _ _ _ _ _ _ _ _ _ _ w ⟨h, h'⟩
    · exact no_yes _ _ _ _ _ _ _ _ _ _ _ _ w ⟨h, h'⟩
  · cases h' : mayB u' o' e' n' b' m'
    · exact yes_no _ _ _ _ _ _ _ _ _ _ _ _ w ⟨h, h'⟩
    · by_cases q : u = u' ∧ o = o' ∧ e = e' ∧ n = n' ∧ b = b' ∧ m = m'
      · obtain ⟨rfl, rfl, rfl, rfl, rfl, rfl⟩ := q
        exact same _ _ _ _ _ _ w h (word_nought h)
      · exact other _ _ _ _ _ _ _ _ _ _ _ _ w ⟨h, h'⟩ (word_nought h) (beq_eq_false_iff_ne.2 fun x => q (word_inj h h' x)) (eql_other _ _ _ _ _ _ _ _ _ _ _ _ q)

theorem cellsHead : Try.prog.cellsOf 23 = 6 := by kernel_rfl
set_option maxRecDepth 100000 in
theorem lifted (os : Os) (started : os.Started) (H : Type) (enc : TypeId × Value → H) :
    ReturnsInHanded {} Try.checked os 5 .any (Rows.headApartSpec.pre6 enc Try.prog Try.f5 Rows.headApartRow.domain false) (Rows.headApartSpec.post enc Try.prog Try.f5 false true false false) := by
  refine returnsInHanded_of_change (C := Try.checked) own started (by kernel_rfl) Try.func5
    (ChangeSpec.witness6 (enc := enc) (C := Try.checked) false ⟨#[], #[.agg #[.bool false, .bool false, .bool false, .int .i64 0, .int .i64 0, .int .i64 0], .agg #[.bool false, .bool false, .bool false, .int .i64 0, .int .i64 0, .int .i64 0]], []⟩ 8 (by kernel_rfl) (by kernel_rfl) (by kernel_rfl) (by kernel_rfl)) ?_
  intro W base args ds gs before hval0 hW hcnd _
  have hval : ∀ (j : Nat) t v, Try.f5.params[j]? = some t → args[j]? = some v → Value.okWide Try.prog W .any base t v := hval0
  have hW' := hW
  obtain ⟨p, q, hA0, hV, rfl, hfz, hnd⟩ := hW
  have hA : DataW.TrodAll enc Try.prog W 0 (fun _ => true) true Try.f5.params.toList args.toList ds p := hA0
  rw [Try.params5] at hA hval
  obtain ⟨v0, vs0, d0, ds0, p0, q0, hargs, rfl, rfl, h0, r0⟩ := trodAll_cons hA
  obtain ⟨v1, vs1, d1, ds1, p1, q1, rfl, rfl, rfl, h1, r1⟩ := trodAll_cons r0
  obtain ⟨rfl, rfl, rfl⟩ := trodAll_nil r1
  obtain rfl : args = #[v0, v1] := by cases args; simp_all
  obtain ⟨rfl, rfl⟩ := trodVars_none hV
  obtain ⟨u0, o0, e0, n0, b0, m0, rfl, rfl, rfl, x0, y0, z0⟩ := six_open Try.underlying23 cellsHead (by kernel_rfl) rfl Try.underlying4 Try.underlying3 (hval 0 23 v0 rfl rfl) h0
  obtain ⟨u1, o1, e1, n1, b1, m1, rfl, rfl, rfl, x1, y1, z1⟩ := six_open Try.underlying23 cellsHead (by kernel_rfl) rfl Try.underlying4 Try.underlying3 (hval 1 23 v1 rfl rfl) h1
  clear hA0 hval0
  simp only [List.append_nil] at hW'
  refine (walk u0 o0 e0 n0 b0 m0 u1 o1 e1 n1 b1 m1 W).mono fun e W' ⟨he, hb⟩ => ?_
  subst he
  exact ⟨_, rfl, law_post hW' (fun _ _ _ => trodAll_cons_mk (shut_bool Try.underlying4 _) trodAll_mk0) (fun _ => trodAll_cons_mk (six_shut Try.underlying23 cellsHead (by kernel_rfl) rfl Try.underlying4 Try.underlying3 _ _ _ _ _ _ x0 y0 z0) (trodAll_cons_mk (six_shut Try.underlying23 cellsHead (by kernel_rfl) rfl Try.underlying4 Try.underlying3 _ _ _ _ _ _ x1 y1 z1) trodAll_mk0)) (fun _ => rfl) hb⟩

theorem over : Rows.headApartRow.holds Try.pinned (OpenSpec.ofChange Rows.headApartSpec) :=
  OpenClaim.holds_of_wide 5 Try.f5 rfl rfl rfl rfl rfl rfl rfl ⟨rfl, rfl, rfl, rfl, rfl⟩ rfl rfl rfl rfl rfl (by kernel_rfl) Try.func5 (by kernel_rfl)
    (of_decide_eq_true (by kernel_rfl)) (by unfold Func.isWrapper; first | (rw [if_pos (by decide +kernel)]; kernel_rfl) | (rw [if_neg (by decide +kernel)]; exact ⟨rfl, rfl⟩))
    (fun os started H enc _ => lifted os started H enc)

/-- The statement. -/
theorem proved : Rows.HeadApartSaid :=
  over
#print axioms proved
end Go.Proofs.Ythfpblkhcodohaa.Apart
