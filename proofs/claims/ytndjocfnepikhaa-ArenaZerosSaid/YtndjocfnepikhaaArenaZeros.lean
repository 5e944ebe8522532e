/-
  ArenaZeros: where noughts are put just those words are noughts, and all others are as they were; none put change nothing: for all words and numbers, without a condition.
-/
import Derived.Test.YtndjocfnepikhaaArAwake
import Derived.Test.YtndjocfnepikhaaCopied
import Derived.Test.YtndjocfnepikhaaZero
namespace Go.Proofs.Ytndjocfnepikhaa.ArenaZeros
open Go.Proofs.Ytndjocfnepikhaa
open Go.ChangeShapes Go.WideShapes Go.ChangeAt Go.RowKit

theorem long (A : Option Addr) (n c : Nat) (a : Int) (k : Int) (w : World) (h : 1100 < n) (hn : n ≤ 9223372036854775807) :
    Calls Try.prog 7 #[.slice A n c, .int .i64 a, .int .i64 k] w fun e w' => e = .returned (.bool true) ∧ Below w.heap.size w w' := by
  go_enter Try.func7, Try.ntmps7
  go_wp2_with fail
  refine (awake_yes _).mono ?_
  rintro e w1 ⟨rfl, hb1⟩
  go_wp2
  go_ret
  exact ⟨rfl, hb1⟩
theorem bad (A : Option Addr) (n c : Nat) (a : Int) (k : Int) (w : World) (h : mayB n = false) (h1 : n ≤ 1100) :
    Calls Try.prog 7 #[.slice A n c, .int .i64 a, .int .i64 k] w fun e w' => e = .returned (.bool true) ∧ Below w.heap.size w w' := by
  have H := Lib.hid h
  clear h
  go_enter Try.func7, Try.ntmps7
  go_wp2_with fail
  refine (awake_yes _).mono ?_
  rintro e w1 ⟨rfl, hb1⟩
  go_wp2_with fail
  refine (zero_bad _ _ _ _ _ _ (by omega) H.out).mono ?_
  rintro e w' ⟨rfl, rfl⟩
  go_wp2
  go_ret
  exact ⟨rfl, hb1⟩
theorem neg (A : Option Addr) (n c : Nat) (a : Int) (k : Int) (w : World) (h : mayB n = true) (hk : k < 0) :
    Calls Try.prog 7 #[.slice A n c, .int .i64 a, .int .i64 k] w fun e w' => e = .returned (.bool true) ∧ Below w.heap.size w w' := by
  obtain ⟨m0, m1, m2⟩ := mayB_iff.1 h
  have H := Lib.hid h
  clear h m2
  go_enter Try.func7, Try.ntmps7
  go_wp2_with fail
  refine (awake_yes _).mono ?_
  rintro e w1 ⟨rfl, hb1⟩
  go_wp2_with fail
  refine (zero_neg _ _ _ _ _ _ H.out hk).mono ?_
  rintro e w' ⟨rfl, rfl⟩
  go_wp2
  go_ret
  exact ⟨rfl, hb1⟩
theorem outside (A : Option Addr) (n c : Nat) (a : Int) (k : Int) (w : World) (h : mayB n = true) (hk : 0 < k) (ha : a < 16 ∨ 16 + n - a < k) (ma : a ≤ 9223372036854775807) :
    Calls Try.prog 7 #[.slice A n c, .int .i64 a, .int .i64 k] w fun e w' => e = .returned (.bool true) ∧ Below w.heap.size w w' := by
  obtain ⟨m0, m1, m2⟩ := mayB_iff.1 h
  have H := Lib.hid h
  have HA := Lib.hid ha
  clear h ha m2
  go_enter Try.func7, Try.ntmps7
  go_wp2_with fail
  refine (awake_yes _).mono ?_
  rintro e w1 ⟨rfl, hb1⟩
  go_wp2_with fail
  refine (zero_none _ _ _ _ _ _ H.out hk HA.out ma).mono ?_
  rintro e w' ⟨rfl, rfl⟩
  go_wp2
  go_ret
  exact ⟨rfl, hb1⟩
theorem nothing (A : Option Addr) (n c : Nat) (xs : List Int) (a : Int) (w : World) (h : mayB n = true) (hr : Row w w.heap.size A n xs) :
    Calls Try.prog 7 #[.slice A n c, .int .i64 a, .int .i64 0] w fun e w' => e = .returned (.bool true) ∧ Below w.heap.size w w' := by
  obtain ⟨m0, m1, m2⟩ := mayB_iff.1 h
  have H := Lib.hid h
  have HR := Lib.hid hr
  clear h hr m2
  go_enter Try.func7, Try.ntmps7
  go_wp2_with fail
  refine (awake_yes _).mono ?_
  rintro e w1 ⟨rfl, hb1⟩
  go_wp2_with fail
  refine (zero_nil _ _ _ _ _ _ _ H.out (HR.out.below hb1)).mono ?_
  rintro e w2 ⟨g, c', rfl, hm, hb2⟩
  have R1 := Lib.hid ((HR.out.below hb1).over hb2 hb1.size)
  have R2 := Lib.hid hm
  have HB : Below w.heap.size w w2 := hb1.trans (hb2.mono hb1.size)
  clear hm hb1 hb2
  go_wp2
  go_loopw [10, 11] (fun i _ wr => ∃ j d : Nat, j ≤ n ∧ i = .int .i64 j ∧ wr = w2.drewN d) (fun i _ _ => n - (intOf i).toNat)
  case atStart => exact ⟨0, 0, Nat.zero_le _, rfl, rfl⟩
  case round =>
    obtain ⟨j, d, hj, rfl, rfl⟩ := hrel
    by_cases hlt : j < n
    · obtain ⟨b, off, rfl, _, hc⟩ := R1.out.2 (by omega)
      have h1 := hc j hlt
      have h2 := R2.out.cell j hlt
      clear hc
      go_wp2
      go_quiet (fail)
      go_wp2
      go_roundw
      case rel => exact ⟨j + 1, _, by omega, by go_num, rfl⟩
      case measure => simp [intOf]; omega
    · go_wp2
      go_ret
      exact ⟨rfl, below_drawn HB _⟩
theorem inside (A : Option Addr) (n c : Nat) (xs : List Int) (i m : Nat) (w : World) (h : mayB n = true) (h0 : 0 < m) (h1 : i + m ≤ n) (hr : Row w w.heap.size A n xs) :
    Calls Try.prog 7 #[.slice A n c, .int .i64 (16 + i), .int .i64 m] w fun e w' => e = .returned (.bool true) ∧ Below w.heap.size w w' := by
  obtain ⟨m0, m1, m2⟩ := mayB_iff.1 h
  have H := Lib.hid h
  have HR := Lib.hid hr
  clear h hr m2
  have hl := HR.out.1
  have HG : ∀ j, (wipe xs i m).getD j 0 = if i ≤ j ∧ j < i + m then 0 else xs.getD j 0 := fun j => wipe_getD m i xs j (by omega)
  have HW := Lib.hid HG
  clear HG hl
  go_enter Try.func7, Try.ntmps7
  go_wp2_with fail
  refine (awake_yes _).mono ?_
  rintro e w1 ⟨rfl, hb1⟩
  go_wp2_with fail
  refine (zero_ok _ _ _ _ _ _ _ _ H.out h0 h1 (HR.out.below hb1)).mono ?_
  rintro e w2 ⟨g, c', rfl, hm, hb2⟩
  have R1 := Lib.hid ((HR.out.below hb1).over hb2 hb1.size)
  have R2 := Lib.hid hm
  have HB : Below w.heap.size w w2 := hb1.trans (hb2.mono hb1.size)
  clear hm hb1 hb2
  go_wp2
  go_loopw [10, 11] (fun t _ wr => ∃ j d : Nat, j ≤ n ∧ t = .int .i64 j ∧ wr = w2.drewN d) (fun t _ _ => n - (intOf t).toNat)
  case atStart => exact ⟨0, 0, Nat.zero_le _, rfl, rfl⟩
  case round =>
    obtain ⟨j, d, hj, rfl, rfl⟩ := hrel
    by_cases hlt : j < n
    · obtain ⟨b, off, rfl, _, hc⟩ := R1.out.2 (by omega)
      have h3 := hc j hlt
      have h4 := R2.out.cell j hlt
      rw [HW.out j] at h4
      clear hc
      by_cases hin : i ≤ j ∧ j < i + m
      · rw [if_pos hin] at h4
        obtain ⟨k1, k2⟩ := hin
        have e1 : decide ((16 : Int) + j - (16 + i) < m) = true := by simp; omega
        go_wp2
        go_quiet (fail)
        go_wp2
        go_roundw
        case rel => exact ⟨j + 1, _, by omega, by go_num, rfl⟩
        case measure => simp [intOf]; omega
      · rw [if_neg hin] at h4
        by_cases k1 : i ≤ j
        · have k2 : i + m ≤ j := by omega
          have e1 : decide ((16 : Int) + j - (16 + i) < m) = false := by simp; omega
          clear hin
          go_wp2
          go_quiet (fail)
          go_wp2
          go_roundw
          case rel => exact ⟨j + 1, _, by omega, by go_num, rfl⟩
          case measure => simp [intOf]; omega
        · have e1 : decide ((16 : Int) + i ≤ 16 + j) = false := by simp; omega
          clear hin
          go_wp2
          go_quiet (fail)
          go_wp2
          go_roundw
          case rel => exact ⟨j + 1, _, by omega, by go_num, rfl⟩
          case measure => simp [intOf]; omega
    · go_wp2
      go_ret
      exact ⟨rfl, below_drawn HB _⟩
theorem walk (A : Option Addr) (n c : Nat) (xs : List Int) (a : Int) (k : Int) (w : World) (hr : IsIn w A n c xs) (wa : (Lit.int .i64 a).wf = true) (_wk : (Lit.int .i64 k).wf = true) :
    Calls Try.prog 7 #[.slice A n c, .int .i64 a, .int .i64 k] w fun e w' => e = .returned (.bool true) ∧ Below w.heap.size w w' := by
  have hn : n ≤ 9223372036854775807 := by have h1 := hr.2.1; have h2 := hr.2.2; unfold maxLen at h2; omega
  have ma := (bounds_i64 wa).2
  by_cases hl : 1100 < n
  · exact long A n c a k w hl hn
  · cases h : mayB n
    · exact bad A n c a k w h (by omega)
    · by_cases hk : k < 0
      · exact neg A n c a k w h hk
      · by_cases hk0 : k = 0
        · subst hk0
          exact nothing A n c xs a w h hr.1
        · by_cases ha : a < 16 ∨ 16 + n - a < k
          · exact outside A n c a k w h (by omega) ha ma
          · obtain ⟨i, rfl⟩ : ∃ i : Nat, a = 16 + i := ⟨(a - 16).toNat, by omega⟩
            obtain ⟨m, rfl⟩ : ∃ m : Nat, k = m := ⟨k.toNat, by omega⟩
            exact inside A n c xs i m w h (by omega) (by omega) hr.1

set_option maxRecDepth 100000 in
theorem lifted (os : Os) (started : os.Started) (H : Type) (enc : TypeId × Value → H) :
    ReturnsInHanded {} Try.checked os 7 .any (Rows.arenaZerosSpec.pre6 enc Try.prog Try.f7 Rows.arenaZerosRow.domain false) (Rows.arenaZerosSpec.post enc Try.prog Try.f7 false true false false) := by
  refine returnsInHanded_of_change (C := Try.checked) own started (by kernel_rfl) Try.func7
    (ChangeSpec.witness6 (enc := enc) (C := Try.checked) false ⟨#[], #[.slice none 0 0, .int .i64 0, .int .i64 0], []⟩ 8 (by kernel_rfl) (by kernel_rfl) (by kernel_rfl) (by kernel_rfl)) ?_
  intro W base args ds gs before hval0 hW hcnd _
  have hval : ∀ (j : Nat) t v, Try.f7.params[j]? = some t → args[j]? = some v → Value.okWide Try.prog W .any base t v := hval0
  have hW' := hW
  obtain ⟨p, q, hA0, hV, rfl, hfz, hnd⟩ := hW
  have hA : DataW.TrodAll enc Try.prog W 0 (fun _ => true) true Try.f7.params.toList args.toList ds p := hA0
  rw [Try.params7] at hA hval
  obtain ⟨v0, vs0, d0, ds0, p0, q0, hargs, rfl, rfl, h0, r0⟩ := trodAll_cons hA
  obtain ⟨v1, vs1, d1, ds1, p1, q1, rfl, rfl, rfl, h1, r1⟩ := trodAll_cons r0
  obtain ⟨v2, vs2, d2, ds2, p2, q2, rfl, rfl, rfl, h2, r2⟩ := trodAll_cons r1
  obtain ⟨rfl, rfl, rfl⟩ := trodAll_nil r2
  obtain rfl : args = #[v0, v1, v2] := by cases args; simp_all
  obtain ⟨rfl, rfl⟩ := trodVars_none hV
  obtain ⟨a0, len0, cap0, rfl⟩ := okWide_slice Try.underlying22 (hval 0 22 v0 rfl rfl)
  have k0 := h0
  have lt0 : ∀ x ∈ p0, x.block < W.heap.size := by obtain ⟨m, hm⟩ := k0; exact DataW.trod_lt m _ _ _ hm
  obtain ⟨z0, w0⟩ : ∃ zs, IsIn W a0 len0 cap0 zs := in_of Try.underlying22 Try.underlying3 (by kernel_rfl) h0
  obtain ⟨a1, rfl, rfl, rfl, w1⟩ := open_int Try.underlying3 (hval 1 3 v1 rfl rfl) h1
  obtain ⟨a2, rfl, rfl, rfl, w2⟩ := open_int Try.underlying3 (hval 2 3 v2 rfl rfl) h2
  clear hA0 hval0
  refine (walk a0 len0 cap0 z0 a1 a2 W w0 w1 w2).mono fun e W' ⟨he, bel⟩ => ?_
  subst he
  exact ⟨_, rfl, _, _, _, [], _, [], hW', trodAll_mk1 (shut_bool Try.underlying4 _), (trodAll_cons_mk (Below.trod laidOut (by kernel_rfl) (of_decide_eq_true (by kernel_rfl)) k0 bel lt0) (trodAll_cons_mk (shut_int Try.underlying3 w1) (trodAll_cons_mk (shut_int Try.underlying3 w2) trodAll_mk0))), rfl, bel.frame _, fun h => by cases h⟩

theorem over : Rows.arenaZerosRow.holds Try.pinned (OpenSpec.ofChange Rows.arenaZerosSpec) :=
  OpenClaim.holds_of_wide 7 Try.f7 rfl rfl rfl rfl rfl rfl rfl ⟨rfl, rfl, rfl, rfl, rfl⟩ rfl rfl rfl rfl rfl (by kernel_rfl) Try.func7 (by kernel_rfl)
    (of_decide_eq_true (by kernel_rfl)) (by unfold Func.isWrapper; first | (rw [if_pos (by decide +kernel)]; kernel_rfl) | (rw [if_neg (by decide +kernel)]; exact ⟨rfl, rfl⟩))
    (fun os started H enc _ => lifted os started H enc)

/-- The statement. -/
theorem proved : Rows.ArenaZerosSaid :=
  over
#print axioms proved
end Go.Proofs.Ytndjocfnepikhaa.ArenaZeros
