/-
  ArenaPuts: what was put is got, and every other word is as it was; what was handed in stays: for all words and numbers, without a condition.
-/
import Derived.Test.YtndjocfnepikhaaArAwake
import Derived.Test.YtndjocfnepikhaaCopied
namespace Go.Proofs.Ytndjocfnepikhaa.ArenaPuts
open Go.Proofs.Ytndjocfnepikhaa
open Go.ChangeShapes Go.WideShapes Go.ChangeAt Go.RowKit

theorem long (A : Option Addr) (n c : Nat) (a : Int) (v : Int) (w : World) (h : 1100 < n) (hn : n ≤ 9223372036854775807) :
    Calls Try.prog 5 #[.slice A n c, .int .i64 a, .int .i64 v] w fun e w' => e = .returned (.bool true) ∧ Below w.heap.size w w' := by
  go_enter Try.func5, Try.ntmps5
  go_wp2_with fail
  refine (awake_yes _).mono ?_
  rintro e w1 ⟨rfl, hb1⟩
  go_wp2
  go_ret
  exact ⟨rfl, hb1⟩
theorem none_ (A : Option Addr) (c : Nat) (a : Int) (v : Int) (w : World) :
    Calls Try.prog 5 #[.slice A 0 c, .int .i64 a, .int .i64 v] w fun e w' => e = .returned (.bool true) ∧ Below w.heap.size w w' := by
  go_enter Try.func5, Try.ntmps5
  go_wp2_with fail
  refine (awake_yes _).mono ?_
  rintro e w1 ⟨rfl, hb1⟩
  go_wp2_with (at_builtin; refine wpList_copied_none rfl _ _ rfl rfl A c rfl ?_)
  go_wp2_with fail
  refine (put_bad _ 0 _ _ _ _ (by decide) (by decide)).mono ?_
  rintro e w' ⟨rfl, rfl⟩
  go_wp2_with fail
  refine (ints_same 0 0 _ _ 0 _ _ [] _ (by decide) (Row.empty _ _ _) (Row.empty _ _ _)).mono ?_
  rintro e w2 ⟨rfl, hb2⟩
  go_wp2
  go_ret
  exact ⟨rfl, hb1.trans (hb2.mono hb1.size)⟩
theorem bad (A : Option Addr) (n c : Nat) (xs : List Int) (a : Int) (v : Int) (w : World) (h : mayB n = false) (h0 : 0 < n) (h1 : n ≤ 1100) (hr : Row w w.heap.size A n xs) :
    Calls Try.prog 5 #[.slice A n c, .int .i64 a, .int .i64 v] w fun e w' => e = .returned (.bool true) ∧ Below w.heap.size w w' := by
  have H := Lib.hid h
  have HR := Lib.hid hr
  clear h hr
  go_enter Try.func5, Try.ntmps5
  go_wp2_with fail
  refine (awake_yes _).mono ?_
  rintro e w1 ⟨rfl, hb1⟩
  go_wp2_with (at_builtin; refine wpList_copied rfl _ _ rfl rfl _ _ n c xs rfl (HR.out.below hb1) ?n0 ?n1 ?_)
  case n0 => omega
  case n1 => omega
  intro g1 c1 w2 hm hb2
  have R1 := Lib.hid hm.row
  clear hm
  go_wp2_with fail
  refine (put_bad _ _ _ _ _ _ (by omega) H.out).mono ?_
  rintro e w' ⟨rfl, rfl⟩
  go_wp2_with fail
  refine (ints_same _ _ _ _ _ _ _ _ _ (by omega) ((HR.out.below hb1).over hb2 hb1.size) R1.out).mono ?_
  rintro e w3 ⟨rfl, hb3⟩
  go_wp2
  go_ret
  exact ⟨rfl, (hb1.trans (hb2.mono hb1.size)).trans (hb3.mono (by have := hb1.size; have := hb2.size; omega))⟩
theorem outside (A : Option Addr) (n c : Nat) (xs : List Int) (a : Int) (v : Int) (w : World) (h : mayB n = true) (ha : (a < 16 ∨ 16 + n ≤ a)) (ma : a ≤ 9223372036854775807) (hr : Row w w.heap.size A n xs) :
    Calls Try.prog 5 #[.slice A n c, .int .i64 a, .int .i64 v] w fun e w' => e = .returned (.bool true) ∧ Below w.heap.size w w' := by
  obtain ⟨m0, m1, m2⟩ := mayB_iff.1 h
  have H := Lib.hid h
  have HR := Lib.hid hr
  clear h hr m2
  have HA := Lib.hid ha
  clear ha
  go_enter Try.func5, Try.ntmps5
  go_wp2_with fail
  refine (awake_yes _).mono ?_
  rintro e w1 ⟨rfl, hb1⟩
  go_wp2_with (at_builtin; refine wpList_copied rfl _ _ rfl rfl _ _ n c xs rfl (HR.out.below hb1) ?n0 ?n1 ?_)
  case n0 => omega
  case n1 => omega
  intro g1 c1 w2 hm hb2
  have R1 := Lib.hid hm.row
  clear hm
  go_wp2_with fail
  refine (put_none _ _ _ _ _ _ H.out HA.out ma).mono ?_
  rintro e w' ⟨rfl, rfl⟩
  go_wp2_with fail
  refine (ints_same _ _ _ _ _ _ _ _ _ (by omega) ((HR.out.below hb1).over hb2 hb1.size) R1.out).mono ?_
  rintro e w3 ⟨rfl, hb3⟩
  go_wp2
  go_ret
  exact ⟨rfl, (hb1.trans (hb2.mono hb1.size)).trans (hb3.mono (by have := hb1.size; have := hb2.size; omega))⟩
theorem inside (A : Option Addr) (n c : Nat) (xs : List Int) (a : Int) (v : Int) (w : World) (h : mayB n = true) (la : 16 ≤ a) (ga : a < 16 + n) (hr : Row w w.heap.size A n xs) :
    Calls Try.prog 5 #[.slice A n c, .int .i64 a, .int .i64 v] w fun e w' => e = .returned (.bool true) ∧ Below w.heap.size w w' := by
  obtain ⟨m0, m1, m2⟩ := mayB_iff.1 h
  have H := Lib.hid h
  have HR := Lib.hid hr
  clear h hr m2
  go_enter Try.func5, Try.ntmps5
  go_wp2_with fail
  refine (awake_yes _).mono ?_
  rintro e w1 ⟨rfl, hb1⟩
  go_wp2_with (at_builtin; refine wpList_copied rfl _ _ rfl rfl _ _ n c xs rfl (HR.out.below hb1) ?n0 ?n1 ?_)
  case n0 => omega
  case n1 => omega
  intro g1 c1 w2 hm hb2
  have R1 := Lib.hid hm.row
  clear hm
  go_wp2_with fail
  refine (put_ok _ _ _ _ _ _ _ _ H.out la ga ((HR.out.below hb1).over hb2 hb1.size)).mono ?_
  rintro e w3 ⟨g3, c3, rfl, hm, hb3⟩
  have R3 := Lib.hid hm.row
  clear hm
  go_wp2_with fail
  refine (ints_same _ _ _ _ _ _ _ _ _ (by omega) (((HR.out.below hb1).over hb2 hb1.size).over hb3 (by have := hb1.size; have := hb2.size; omega)) (R1.out.below hb3)).mono ?_
  rintro e w4 ⟨rfl, hb4⟩
  have R4 := Lib.hid (((HR.out.below hb1).over hb2 hb1.size).over hb3 (by have := hb1.size; have := hb2.size; omega) |>.over hb4 (by have := hb1.size; have := hb2.size; have := hb3.size; omega))
  have R5 := Lib.hid (R3.out.below hb4)
  have hl := HR.out.1
  have hl' := Lib.hid hl
  clear hl
  have HB : Below w.heap.size w w4 := ((hb1.trans (hb2.mono hb1.size)).trans (hb3.mono (by have := hb1.size; have := hb2.size; omega))).trans (hb4.mono (by have := hb1.size; have := hb2.size; have := hb3.size; omega))
  clear hb1 hb2 hb3 hb4
  go_wp2
  go_loop [12] (fun i => ∃ k : Nat, k ≤ n ∧ i = .int .i64 k) (fun i => n - (intOf i).toNat)
  case atStart => exact ⟨0, Nat.zero_le _, rfl⟩
  case round =>
    obtain ⟨k, hk, rfl⟩ := hrel
    by_cases hlt : k < n
    · have ek : (16 + (k : Int) - 16).toNat = k := by omega
      by_cases he : 16 + (k : Int) = a
      · have e1 : (16 + (k : Int) == a) = true := by simpa using he
        have e2 : (16 + (k : Int) != a) = false := by simpa using he
        have hu : (xs.set (a - 16).toNat v).getD (16 + (k : Int) - 16).toNat 0 = v := by
          have := hl'.out
          rw [← he, ek]
          simp [List.getD, show k < xs.length by omega]
        have HU := Lib.hid hu
        clear hu he ek
        go_wp2_with fail
        refine (get_is _ _ _ _ _ _ v _ H.out (by omega) (by omega) R5.out HU.out).mono ?_
        rintro e w' ⟨rfl, rfl⟩
        go_wp2
        go_round
        case rel => exact ⟨k + 1, by omega, by go_num⟩
        case measure => simp [intOf]; omega
      · have e1 : (16 + (k : Int) == a) = false := by simpa using he
        have e2 : (16 + (k : Int) != a) = true := by simpa using he
        have hu : (xs.set (a - 16).toNat v).getD (16 + (k : Int) - 16).toNat 0 = xs.getD k 0 := by
          rw [ek]
          simp [List.getD, List.getElem?_set_ne (show (a - 16).toNat ≠ k by omega)]
        have HU := Lib.hid hu
        obtain ⟨b, off, rfl, _, hc⟩ := R4.out.2 (by omega)
        have hck := hc k hlt
        clear hu he ek hc
        go_wp2_with fail
        refine (get_is _ _ _ _ _ _ (xs.getD k 0) _ H.out (by omega) (by omega) R5.out HU.out).mono ?_
        rintro e w' ⟨rfl, rfl⟩
        go_wp2
        go_round
        case rel => exact ⟨k + 1, by omega, by go_num⟩
        case measure => simp [intOf]; omega
    · go_wp2
      go_ret
      exact ⟨rfl, HB⟩
theorem walk (A : Option Addr) (n c : Nat) (xs : List Int) (a : Int) (v : Int) (w : World) (hr : IsIn w A n c xs) (wa : (Lit.int .i64 a).wf = true) (_wv : (Lit.int .i64 v).wf = true) :
    Calls Try.prog 5 #[.slice A n c, .int .i64 a, .int .i64 v] w fun e w' => e = .returned (.bool true) ∧ Below w.heap.size w w' := by
  have hn : n ≤ 9223372036854775807 := by have h1 := hr.2.1; have h2 := hr.2.2; unfold maxLen at h2; omega
  have ma := (bounds_i64 wa).2
  by_cases hl : 1100 < n
  · exact long A n c a v w hl hn
  · cases h : mayB n
    · by_cases h0 : n = 0
      · subst h0
        exact none_ A c a v w
      · exact bad A n c xs a v w h (by omega) (by omega) hr.1
    · by_cases ha : 16 ≤ a ∧ a < 16 + n
      · exact inside A n c xs a v w h ha.1 ha.2 hr.1
      · exact outside A n c xs a v w h (by omega) ma hr.1

set_option maxRecDepth 100000 in
theorem lifted (os : Os) (started : os.Started) (H : Type) (enc : TypeId × Value → H) :
    ReturnsInHanded {} Try.checked os 5 .any (Rows.arenaPutsSpec.pre6 enc Try.prog Try.f5 Rows.arenaPutsRow.domain false) (Rows.arenaPutsSpec.post enc Try.prog Try.f5 false true false false) := by
  refine returnsInHanded_of_change (C := Try.checked) own started (by kernel_rfl) Try.func5
    (ChangeSpec.witness6 (enc := enc) (C := Try.checked) false ⟨#[], #[.slice none 0 0, .int .i64 0, .int .i64 0], []⟩ 8 (by kernel_rfl) (by kernel_rfl) (by kernel_rfl) (by kernel_rfl)) ?_
  intro W base args ds gs before hval0 hW hcnd _
  have hval : ∀ (j : Nat) t v, Try.f5.params[j]? = some t → args[j]? = some v → Value.okWide Try.prog W .any base t v := hval0
  have hW' := hW
  obtain ⟨p, q, hA0, hV, rfl, hfz, hnd⟩ := hW
  have hA : DataW.TrodAll enc Try.prog W 0 (fun _ => true) true Try.f5.params.toList args.toList ds p := hA0
  rw [Try.params5] at hA hval
  obtain ⟨v0, vs0, d0, ds0, p0, q0, hargs, rfl, rfl, h0, r0⟩ := trodAll_cons hA
  obtain ⟨v1, vs1, d1, ds1, p1, q1, rfl, rfl, rfl, h1, r1⟩ := trodAll_cons r0
  obtain ⟨v2, vs2, d2, ds2, p2, q2, rfl, rfl, rfl, h2, r2⟩ := trodAll_cons r1
  obtain ⟨rfl, rfl, rfl⟩ := trodAll_nil r2
  obtain rfl : args = #[v0, v1, v2] := by cases args; simp_all
  obtain ⟨rfl, rfl⟩ := trodVars_none hV
  obtain ⟨a0, len0, cap0, rfl⟩ := okWide_slice Try.underlying22 (hval 0 22 v0 rfl rfl)
  have k0 := h0
  have lt0 : ∀ x ∈ p0, x.block < W.heap.size := by obtain ⟨m, hm⟩ := k0; exact DataW.trod_lt m _ _ _ hm
  obtain ⟨z0, w0⟩ : ∃ zs, IsIn W a0 len0 cap0 zs := in_of Try.underlying22 Try.underlying3 (by kernel_rfl) h0
  obtain ⟨a1, rfl, rfl, rfl, w1⟩ := open_int Try.underlying3 (hval 1 3 v1 rfl rfl) h1
  obtain ⟨a2, rfl, rfl, rfl, w2⟩ := open_int Try.underlying3 (hval 2 3 v2 rfl rfl) h2
  clear hA0 hval0
  refine (walk a0 len0 cap0 z0 a1 a2 W w0 w1 w2).mono fun e W' ⟨he, bel⟩ => ?_
  subst he
  exact ⟨_, rfl, _, _, _, [], _, [], hW', trodAll_mk1 (shut_bool Try.underlying4 _), (trodAll_cons_mk (Below.trod laidOut (by kernel_rfl) (of_decide_eq_true (by kernel_rfl)) k0 bel lt0) (trodAll_cons_mk (shut_int Try.underlying3 w1) (trodAll_cons_mk (shut_int Try.underlying3 w2) trodAll_mk0))), rfl, bel.frame _, fun h => by cases h⟩

theorem over : Rows.arenaPutsRow.holds Try.pinned (OpenSpec.ofChange Rows.arenaPutsSpec) :=
  OpenClaim.holds_of_wide 5 Try.f5 rfl rfl rfl rfl rfl rfl rfl ⟨rfl, rfl, rfl, rfl, rfl⟩ rfl rfl rfl rfl rfl (by kernel_rfl) Try.func5 (by kernel_rfl)
    (of_decide_eq_true (by kernel_rfl)) (by unfold Func.isWrapper; first | (rw [if_pos (by decide +kernel)]; kernel_rfl) | (rw [if_neg (by decide +kernel)]; exact ⟨rfl, rfl⟩))
    (fun os started H enc _ => lifted os started H enc)

/-- The statement. -/
theorem proved : Rows.ArenaPutsSaid :=
  over
#print axioms proved
end Go.Proofs.Ytndjocfnepikhaa.ArenaPuts
