/-
PagesTells: any pages may be, or not, have as many of a kind, and have some that are free where the document says, for all pages, and all numbers.
-/
import Derived.Test.YtofbebgcafpfhaaPgIns
namespace Go.Proofs.Ytofbebgcafpfhaa.PagesTells
open Go.Proofs.Ytofbebgcafpfhaa
open Go.ChangeShapes Go.WideShapes Go.ChangeAt Go.RowKit

/-- More pages than are spoken of. -/
theorem long (A : Option Addr) (n c : Nat) (m kind : Int) (w : World) (h : 200 < n) (hn : n ≤ 9223372036854775807) :
    Calls Try.prog 3 #[.slice A n c, .int .i64 m, .int .i64 kind] w fun e w' => e = .returned (.bool true) ∧ Below w.heap.size w w' := by
  go_enter Try.func3, Try.ntmps3
  go_wp2_with fail
  refine (awake_yes _).mono ?_
  rintro e w1 ⟨rfl, hb1⟩
  go_wp2
  go_ret
  exact ⟨rfl, hb1⟩
theorem walk (A : Option Addr) (n c : Nat) (f : Nat → Int × Int) (m kind : Int) (w : World) (hr : PIn w A n c f) (_wm : (Lit.int .i64 m).wf = true) (_wk : (Lit.int .i64 kind).wf = true) :
    Calls Try.prog 3 #[.slice A n c, .int .i64 m, .int .i64 kind] w fun e w' => e = .returned (.bool true) ∧ Below w.heap.size w w' := by
  obtain ⟨hrow, hnc, hcm⟩ := hr
  unfold maxLen at hcm
  by_cases hl : 200 < n
  · exact long A n c m kind w hl (by omega)
  have hn : n ≤ 1000 := by omega
  have HR := Lib.hid hrow
  clear hrow
  go_enter Try.func3, Try.ntmps3
  go_wp2_with fail
  refine (awake_yes _).mono ?_
  rintro e w1 ⟨rfl, hb1⟩
  have H1 := Lib.hid (HR.out.below hb1)
  have hz1 := hb1.size
  have B1 := Lib.hid hb1
  clear hb1
  go_wp2_with fail
  refine (find_any w.heap.size _ _ _ _ _ _ hn hnc H1.out hz1).mono ?_
  rintro e w2 ⟨rfl, hb2⟩
  have H2 := Lib.hid (H1.out.over hb2 hz1)
  have B2 := Lib.hid (B1.out.trans (hb2.mono hz1))
  have hz2 := B2.out.size
  clear hb2
  go_wp2_with fail
  refine (rfind_any w.heap.size _ _ _ _ _ _ hn H2.out hz2).mono ?_
  rintro e w3 ⟨rfl, hb3⟩
  have H3 := Lib.hid (H2.out.over hb3 hz2)
  have B3 := Lib.hid (B2.out.trans (hb3.mono hz2))
  have hz3 := B3.out.size
  clear hb3
  go_wp2_with fail
  refine (may_any w.heap.size _ _ _ _ _ hn H3.out hz3).mono ?_
  rintro e w4 ⟨rfl, hb4⟩
  have H4 := Lib.hid (H3.out.over hb4 hz3)
  have B4 := Lib.hid (B3.out.trans (hb4.mono hz3))
  have hz4 := B4.out.size
  clear hb4
  go_wp2_with fail
  refine (rmay_any w.heap.size _ _ _ _ _ hn H4.out hz4).mono ?_
  rintro e w5 ⟨rfl, hb5⟩
  have H5 := Lib.hid (H4.out.over hb5 hz4)
  have B5 := Lib.hid (B4.out.trans (hb5.mono hz4))
  have hz5 := B5.out.size
  clear hb5
  go_wp2_with fail
  refine (count_any w.heap.size _ _ _ _ _ _ hn H5.out hz5).mono ?_
  rintro e w6 ⟨rfl, hb6⟩
  have H6 := Lib.hid (H5.out.over hb6 hz5)
  have B6 := Lib.hid (B5.out.trans (hb6.mono hz5))
  clear hb6
  go_wp2_with fail
  refine (rcount_any w.heap.size _ _ _ _ _ _ hn H6.out).mono ?_
  rintro e w7 ⟨rfl, rfl⟩
  go_wp2
  go_ret
  exact ⟨rfl, B6.out⟩

set_option maxRecDepth 100000 in
theorem lifted (os : Os) (started : os.Started) (H : Type) (enc : TypeId × Value → H) :
    ReturnsInHanded {} Try.checked os 3 .any (Rows.pagesTellsSpec.pre6 enc Try.prog Try.f3 Rows.pagesTellsRow.domain false) (Rows.pagesTellsSpec.post enc Try.prog Try.f3 false true false false) := by
  refine returnsInHanded_of_change (C := Try.checked) own started (by kernel_rfl) Try.func3
    (ChangeSpec.witness6 (enc := enc) (C := Try.checked) false ⟨#[], #[.slice none 0 0, .int .i64 0, .int .i64 0], []⟩ 8 (by kernel_rfl) (by kernel_rfl) (by kernel_rfl) (by kernel_rfl)) ?_
  intro W base args ds gs before hval0 hW hcnd _
  have hval : ∀ (j : Nat) t v, Try.f3.params[j]? = some t → args[j]? = some v → Value.okWide Try.prog W .any base t v := hval0
  have hW' := hW
  obtain ⟨p, q, hA0, hV, rfl, hfz, hnd⟩ := hW
  have hA : DataW.TrodAll enc Try.prog W 0 (fun _ => true) true Try.f3.params.toList args.toList ds p := hA0
  rw [Try.params3] at hA hval
  obtain ⟨v0, vs0, d0, ds0, p0, q0, hargs, rfl, rfl, h0, r0⟩ := trodAll_cons hA
  obtain ⟨v1, vs1, d1, ds1, p1, q1, rfl, rfl, rfl, h1, r1⟩ := trodAll_cons r0
  obtain ⟨v2, vs2, d2, ds2, p2, q2, rfl, rfl, rfl, h2, r2⟩ := trodAll_cons r1
  obtain ⟨rfl, rfl, rfl⟩ := trodAll_nil r2
  obtain rfl : args = #[v0, v1, v2] := by cases args; simp_all
  obtain ⟨rfl, rfl⟩ := trodVars_none hV
  obtain ⟨a0, len0, cap0, rfl⟩ := okWide_slice Try.underlying22 (hval 0 22 v0 rfl rfl)
  have k0 := h0
  have lt0 : ∀ x ∈ p0, x.block < W.heap.size := by obtain ⟨m, hm⟩ := k0; exact DataW.trod_lt m _ _ _ hm
  obtain ⟨z0, w0⟩ : ∃ f, PIn W a0 len0 cap0 f := pin_of h0
  obtain ⟨a1, rfl, rfl, rfl, w1⟩ := open_int Try.underlying3 (hval 1 3 v1 rfl rfl) h1
  obtain ⟨a2, rfl, rfl, rfl, w2⟩ := open_int Try.underlying3 (hval 2 3 v2 rfl rfl) h2
  clear hA0 hval0
  refine (walk a0 len0 cap0 z0 a1 a2 W w0 w1 w2).mono fun e W' ⟨he, bel⟩ => ?_
  subst he
  exact ⟨_, rfl, _, _, _, [], _, [], hW', trodAll_mk1 (shut_bool Try.underlying4 _), (trodAll_cons_mk (Below.trod laidOut (by kernel_rfl) (of_decide_eq_true (by kernel_rfl)) k0 bel lt0) (trodAll_cons_mk (shut_int Try.underlying3 w1) (trodAll_cons_mk (shut_int Try.underlying3 w2) trodAll_mk0))), rfl, bel.frame _, fun h => by cases h⟩

theorem over : Rows.pagesTellsRow.holds Try.pinned (OpenSpec.ofChange Rows.pagesTellsSpec) :=
  OpenClaim.holds_of_wide 3 Try.f3 rfl rfl rfl rfl rfl rfl rfl ⟨rfl, rfl, rfl, rfl, rfl⟩ rfl rfl rfl rfl rfl (by kernel_rfl) Try.func3 (by kernel_rfl)
    (of_decide_eq_true (by kernel_rfl)) (by unfold Func.isWrapper; first | (rw [if_pos (by decide +kernel)]; kernel_rfl) | (rw [if_neg (by decide +kernel)]; exact ⟨rfl, rfl⟩))
    (fun os started H enc _ => lifted os started H enc)

/-- The statement. -/
theorem proved : Rows.PagesTellsSaid :=
  over
#print axioms proved
end Go.Proofs.Ytofbebgcafpfhaa.PagesTells
