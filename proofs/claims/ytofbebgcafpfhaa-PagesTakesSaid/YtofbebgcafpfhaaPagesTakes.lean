/-
PagesTakes: any pages are taken, and let go, as the document says, or it is told why not, for all pages, and all numbers.
-/
import Derived.Test.YtofbebgcafpfhaaPgIns
namespace Go.Proofs.Ytofbebgcafpfhaa.PagesTakes
open Go.Proofs.Ytofbebgcafpfhaa
open Go.ChangeShapes Go.WideShapes Go.ChangeAt Go.RowKit

theorem long (A : Option Addr) (n c : Nat) (a m : Int) (w : World) (h : 200 < n) (hn : n ≤ 9223372036854775807) :
    Calls Try.prog 4 #[.slice A n c, .int .i64 a, .int .i64 m] w fun e w' => e = .returned (.bool true) ∧ Below w.heap.size w w' := by
  go_enter Try.func4, Try.ntmps4
  go_wp2_with fail
  refine (awake_yes _).mono ?_
  rintro e w1 ⟨rfl, hb1⟩
  go_wp2
  go_ret
  exact ⟨rfl, hb1⟩
theorem outN_le (E : Int) (n : Nat) : outN E n ≤ n := by unfold outN; split <;> omega
theorem walk (A : Option Addr) (n c : Nat) (f : Nat → Int × Int) (a m : Int) (w : World) (hr : PIn w A n c f) (_wa : (Lit.int .i64 a).wf = true) (_wm : (Lit.int .i64 m).wf = true) :
    Calls Try.prog 4 #[.slice A n c, .int .i64 a, .int .i64 m] w fun e w' => e = .returned (.bool true) ∧ Below w.heap.size w w' := by
  obtain ⟨hrow, hnc, hcm⟩ := hr
  unfold maxLen at hcm
  by_cases hl : 200 < n
  · exact long A n c a m w hl (by omega)
  have hn : n ≤ 1000 := by omega
  have HR := Lib.hid hrow
  clear hrow
  have o1 : outN (smallE f n a m) n ≤ 1000 := by have := outN_le (smallE f n a m) n; omega
  have o2 : outN (largeE f n a m) n ≤ 1000 := by have := outN_le (largeE f n a m) n; omega
  have o3 : outN (dropE f n a) n ≤ 1000 := by have := outN_le (dropE f n a) n; omega
  go_enter Try.func4, Try.ntmps4
  go_wp2_with fail
  refine (awake_yes _).mono ?_
  rintro e w1 ⟨rfl, hb1⟩
  have H1 := Lib.hid (HR.out.below hb1)
  have hz1 := hb1.size
  have B1 := Lib.hid hb1
  clear hb1
  go_wp2_with fail
  refine (small_any w.heap.size _ _ _ _ _ _ _ hn hnc H1.out hz1).mono ?_
  rintro e w2 ⟨A2, c2, rfl, hr2, -, hb2⟩
  have H2 := Lib.hid (H1.out.over hb2 hz1)
  have B2 := Lib.hid (B1.out.trans (hb2.mono hz1))
  have hz2 := B2.out.size
  have R2 := Lib.hid hr2
  clear hb2 hr2
  go_wp2_with fail
  refine (rsmall_any w.heap.size _ _ _ _ _ _ _ hn H2.out hz2).mono ?_
  rintro e w3 ⟨A3, c3, rfl, hr3, -, hb3⟩
  have H3 := Lib.hid (H2.out.over hb3 hz2)
  have B3 := Lib.hid (B2.out.trans (hb3.mono hz2))
  have hz3 := B3.out.size
  have hz23 := hb3.size
  have R23 := Lib.hid (R2.out.below hb3)
  have R3 := Lib.hid hr3
  clear hb3 hr3
  go_wp2_with fail
  refine (same_yes _ _ _ _ _ _ _ _ _ _ o1 (fun _ _ => rfl) R23.out R3.out hz23 (Nat.le_refl _)).mono ?_
  rintro e w4 ⟨rfl, hb4⟩
  have H4 := Lib.hid (H3.out.over hb4 hz3)
  have B4 := Lib.hid (B3.out.trans (hb4.mono hz3))
  have hz4 := B4.out.size
  clear hb4
  go_wp2_with fail
  refine (large_any w.heap.size _ _ _ _ _ _ _ hn hnc H4.out hz4).mono ?_
  rintro e w5 ⟨A5, c5, rfl, hr5, -, hb5⟩
  have H5 := Lib.hid (H4.out.over hb5 hz4)
  have B5 := Lib.hid (B4.out.trans (hb5.mono hz4))
  have hz5 := B5.out.size
  have R5 := Lib.hid hr5
  clear hb5 hr5
  go_wp2_with fail
  refine (rlarge_any w.heap.size _ _ _ _ _ _ _ hn H5.out hz5).mono ?_
  rintro e w6 ⟨A6, c6, rfl, hr6, -, hb6⟩
  have H6 := Lib.hid (H5.out.over hb6 hz5)
  have B6 := Lib.hid (B5.out.trans (hb6.mono hz5))
  have hz6 := B6.out.size
  have hz56 := hb6.size
  have R56 := Lib.hid (R5.out.below hb6)
  have R6 := Lib.hid hr6
  clear hb6 hr6
  go_wp2_with fail
  refine (same_yes _ _ _ _ _ _ _ _ _ _ o2 (fun _ _ => rfl) R56.out R6.out hz56 (Nat.le_refl _)).mono ?_
  rintro e w7 ⟨rfl, hb7⟩
  have H7 := Lib.hid (H6.out.over hb7 hz6)
  have B7 := Lib.hid (B6.out.trans (hb7.mono hz6))
  have hz7 := B7.out.size
  clear hb7
  go_wp2_with fail
  refine (drop_any w.heap.size _ _ _ _ _ _ hn H7.out hz7).mono ?_
  rintro e w8 ⟨A8, c8, rfl, hr8, -, hb8⟩
  have H8 := Lib.hid (H7.out.over hb8 hz7)
  have B8 := Lib.hid (B7.out.trans (hb8.mono hz7))
  have hz8 := B8.out.size
  have R8 := Lib.hid hr8
  clear hb8 hr8
  go_wp2_with fail
  refine (rdrop_any w.heap.size _ _ _ _ _ _ hn H8.out hz8).mono ?_
  rintro e w9 ⟨A9, c9, rfl, hr9, -, hb9⟩
  have B9 := Lib.hid (B8.out.trans (hb9.mono hz8))
  have hz9 := B9.out.size
  have hz89 := hb9.size
  have R89 := Lib.hid (R8.out.below hb9)
  have R9 := Lib.hid hr9
  clear hb9 hr9
  go_wp2_with fail
  refine (same_yes _ _ _ _ _ _ _ _ _ _ o3 (fun _ _ => rfl) R89.out R9.out hz89 (Nat.le_refl _)).mono ?_
  rintro e w10 ⟨rfl, hb10⟩
  have B10 := Lib.hid (B9.out.trans (hb10.mono hz9))
  clear hb10
  go_wp2
  go_ret
  exact ⟨rfl, B10.out⟩

set_option maxRecDepth 100000 in
theorem lifted (os : Os) (started : os.Started) (H : Type) (enc : TypeId × Value → H) :
    ReturnsInHanded {} Try.checked os 4 .any (Rows.pagesTakesSpec.pre6 enc Try.prog Try.f4 Rows.pagesTakesRow.domain false) (Rows.pagesTakesSpec.post enc Try.prog Try.f4 false true false false) := by
  refine returnsInHanded_of_change (C := Try.checked) own started (by kernel_rfl) Try.func4
    (ChangeSpec.witness6 (enc := enc) (C := Try.checked) false ⟨#[], #[.slice none 0 0, .int .i64 0, .int .i64 0], []⟩ 8 (by kernel_rfl) (by kernel_rfl) (by kernel_rfl) (by kernel_rfl)) ?_
  intro W base args ds gs before hval0 hW hcnd _
  have hval : ∀ (j : Nat) t v, Try.f4.params[j]? = some t → args[j]? = some v → Value.okWide Try.prog W .any base t v := hval0
  have hW' := hW
  obtain ⟨p, q, hA0, hV, rfl, hfz, hnd⟩ := hW
  have hA : DataW.TrodAll enc Try.prog W 0 (fun _ => true) true Try.f4.params.toList args.toList ds p := hA0
  rw [Try.params4] at hA hval
  obtain ⟨v0, vs0, d0, ds0, p0, q0, hargs, rfl, rfl, h0, r0⟩ := trodAll_cons hA
  obtain ⟨v1, vs1, d1, ds1, p1, q1, rfl, rfl, rfl, h1, r1⟩ := trodAll_cons r0
  obtain ⟨v2, vs2, d2, ds2, p2, q2, rfl, rfl, rfl, h2, r2⟩ := trodAll_cons r1
  obtain ⟨rfl, rfl, rfl⟩ := trodAll_nil r2
  obtain rfl : args = #[v0, v1, v2] := by cases args; simp_all
  obtain ⟨rfl, rfl⟩ := trodVars_none hV
  obtain ⟨a0, len0, cap0, rfl⟩ := okWide_slice Try.underlying22 (hval 0 22 v0 rfl rfl)
  have k0 := h0
  have lt0 : ∀ x ∈ p0, x.block < W.heap.size := by obtain ⟨m, hm⟩ := k0; exact DataW.trod_lt m _ _ _ hm
  obtain ⟨z0, w0⟩ : ∃ f, PIn W a0 len0 cap0 f := pin_of h0
  obtain ⟨a1, rfl, rfl, rfl, w1⟩ := open_int Try.underlying3 (hval 1 3 v1 rfl rfl) h1
  obtain ⟨a2, rfl, rfl, rfl, w2⟩ := open_int Try.underlying3 (hval 2 3 v2 rfl rfl) h2
  clear hA0 hval0
  refine (walk a0 len0 cap0 z0 a1 a2 W w0 w1 w2).mono fun e W' ⟨he, bel⟩ => ?_
  subst he
  exact ⟨_, rfl, _, _, _, [], _, [], hW', trodAll_mk1 (shut_bool Try.underlying4 _), (trodAll_cons_mk (Below.trod laidOut (by kernel_rfl) (of_decide_eq_true (by kernel_rfl)) k0 bel lt0) (trodAll_cons_mk (shut_int Try.underlying3 w1) (trodAll_cons_mk (shut_int Try.underlying3 w2) trodAll_mk0))), rfl, bel.frame _, fun h => by cases h⟩

theorem over : Rows.pagesTakesRow.holds Try.pinned (OpenSpec.ofChange Rows.pagesTakesSpec) :=
  OpenClaim.holds_of_wide 4 Try.f4 rfl rfl rfl rfl rfl rfl rfl ⟨rfl, rfl, rfl, rfl, rfl⟩ rfl rfl rfl rfl rfl (by kernel_rfl) Try.func4 (by kernel_rfl)
    (of_decide_eq_true (by kernel_rfl)) (by unfold Func.isWrapper; first | (rw [if_pos (by decide +kernel)]; kernel_rfl) | (rw [if_neg (by decide +kernel)]; exact ⟨rfl, rfl⟩))
    (fun os started H enc _ => lifted os started H enc)

/-- The statement. -/
theorem proved : Rows.PagesTakesSaid :=
  over
#print axioms proved
end Go.Proofs.Ytofbebgcafpfhaa.PagesTakes
