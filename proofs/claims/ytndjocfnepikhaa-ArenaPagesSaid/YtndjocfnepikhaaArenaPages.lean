/-
  ArenaPages: a page's first word lies in it, and so do the fifteen behind it; the next one's is 16 further: for all words and every number, without a condition.
-/
import Derived.Test.YtndjocfnepikhaaArAwake
namespace Go.Proofs.Ytndjocfnepikhaa.ArenaPages
open Go.Proofs.Ytndjocfnepikhaa
open Go.ChangeShapes Go.WideShapes Go.ChangeAt Go.RowKit

/-- Page, where the page that it is is known. -/
theorem page_is (A : Option Addr) (n c : Nat) (a p : Int) (w : World) (h : mayB n = true) (h0 : 16 ≤ a) (h1 : a < 16 + n) (hp : (a - 16) / 16 = p) :
    Calls Try.prog 18 #[.slice A n c, .int .i64 a] w fun e w' => e = .returned (.tuple #[.int .i64 p, .int .i64 0]) ∧ w = w' := by
  subst hp
  exact page_ok A n c a w h h0 h1
theorem long (A : Option Addr) (n c : Nat) (p : Int) (w : World) (h : 1100 < n) (hn : n ≤ 9223372036854775807) :
    Calls Try.prog 6 #[.slice A n c, .int .i64 p] w fun e w' => e = .returned (.bool true) ∧ Below w.heap.size w w' := by
  go_enter Try.func6, Try.ntmps6
  go_wp2_with fail
  refine (awake_yes _).mono ?_
  rintro e w1 ⟨rfl, hb1⟩
  go_wp2
  go_ret
  exact ⟨rfl, hb1⟩
theorem bad (A : Option Addr) (n c : Nat) (p : Int) (w : World) (h : mayB n = false) (h1 : n ≤ 1100) :
    Calls Try.prog 6 #[.slice A n c, .int .i64 p] w fun e w' => e = .returned (.bool true) ∧ Below w.heap.size w w' := by
  have H := Lib.hid h
  clear h
  go_enter Try.func6, Try.ntmps6
  go_wp2_with fail
  refine (awake_yes _).mono ?_
  rintro e w1 ⟨rfl, hb1⟩
  go_wp2_with fail
  refine (at_bad _ _ _ _ _ (by omega) H.out).mono ?_
  rintro e w' ⟨rfl, rfl⟩
  go_wp2
  go_ret
  exact ⟨rfl, hb1⟩
theorem outside (A : Option Addr) (n c : Nat) (p : Int) (w : World) (h : mayB n = true) (hp : p < 0 ∨ (n : Int) ≤ 16 * p) :
    Calls Try.prog 6 #[.slice A n c, .int .i64 p] w fun e w' => e = .returned (.bool true) ∧ Below w.heap.size w w' := by
  obtain ⟨m0, m1, m2⟩ := mayB_iff.1 h
  have H := Lib.hid h
  have HP := Lib.hid hp
  clear h hp m2
  go_enter Try.func6, Try.ntmps6
  go_wp2_with fail
  refine (awake_yes _).mono ?_
  rintro e w1 ⟨rfl, hb1⟩
  go_wp2_with fail
  refine (at_none _ _ _ _ _ H.out HP.out).mono ?_
  rintro e w' ⟨rfl, rfl⟩
  go_wp2
  go_ret
  exact ⟨rfl, hb1⟩
theorem last (A : Option Addr) (n c : Nat) (p : Int) (w : World) (h : mayB n = true) (p0 : 0 ≤ p) (p1 : 16 * p < n) (hl : (n : Int) ≤ 16 * p + 16) :
    Calls Try.prog 6 #[.slice A n c, .int .i64 p] w fun e w' => e = .returned (.bool true) ∧ Below w.heap.size w w' := by
  obtain ⟨m0, m1, m2⟩ := mayB_iff.1 h
  have e1 : (p == (n : Int) / 16 - 1) = true := by simp; omega
  have p2 : 16 * p + 16 ≤ (n : Int) := by omega
  have H := Lib.hid h
  clear h m2
  go_enter Try.func6, Try.ntmps6
  go_wp2_with fail
  refine (awake_yes _).mono ?_
  rintro e w1 ⟨rfl, hb1⟩
  go_wp2_with fail
  refine (at_ok _ _ _ _ _ H.out p0 p1).mono ?_
  rintro e w' ⟨rfl, rfl⟩
  go_wp2
  go_loop [8] (fun i => ∃ k : Nat, k ≤ 16 ∧ i = .int .i64 k) (fun i => 16 - (intOf i).toNat)
  case atStart => exact ⟨0, by omega, rfl⟩
  case round =>
    obtain ⟨k, hk, rfl⟩ := hrel
    by_cases hlt : k < 16
    · go_wp2_with fail
      refine (page_is _ _ _ _ p _ H.out (by omega) (by omega) (by omega)).mono ?_
      rintro e w' ⟨rfl, rfl⟩
      go_wp2
      go_round
      case rel => exact ⟨k + 1, by omega, by go_num⟩
      case measure => simp [intOf]; omega
    · go_wp2_with fail
      refine (page_none _ _ _ _ _ H.out (by omega) (by omega)).mono ?_
      rintro e w' ⟨rfl, rfl⟩
      go_wp2
      go_ret
      exact ⟨rfl, hb1⟩
theorem more (A : Option Addr) (n c : Nat) (p : Int) (w : World) (h : mayB n = true) (p0 : 0 ≤ p) (p1 : 16 * p < n) (hl : 16 * p + 16 < n) :
    Calls Try.prog 6 #[.slice A n c, .int .i64 p] w fun e w' => e = .returned (.bool true) ∧ Below w.heap.size w w' := by
  obtain ⟨m0, m1, m2⟩ := mayB_iff.1 h
  have p2 : 16 * p + 16 ≤ (n : Int) := by omega
  have H := Lib.hid h
  clear h m2
  go_enter Try.func6, Try.ntmps6
  go_wp2_with fail
  refine (awake_yes _).mono ?_
  rintro e w1 ⟨rfl, hb1⟩
  go_wp2_with fail
  refine (at_ok _ _ _ _ _ H.out p0 p1).mono ?_
  rintro e w' ⟨rfl, rfl⟩
  go_wp2
  go_loop [8] (fun i => ∃ k : Nat, k ≤ 16 ∧ i = .int .i64 k) (fun i => 16 - (intOf i).toNat)
  case atStart => exact ⟨0, by omega, rfl⟩
  case round =>
    obtain ⟨k, hk, rfl⟩ := hrel
    by_cases hlt : k < 16
    · go_wp2_with fail
      refine (page_is _ _ _ _ p _ H.out (by omega) (by omega) (by omega)).mono ?_
      rintro e w' ⟨rfl, rfl⟩
      go_wp2
      go_round
      case rel => exact ⟨k + 1, by omega, by go_num⟩
      case measure => simp [intOf]; omega
    · go_wp2_with fail
      refine (page_is _ _ _ _ (p + 1) _ H.out (by omega) (by omega) (by omega)).mono ?_
      rintro e w' ⟨rfl, rfl⟩
      go_wp2
      go_ret
      exact ⟨rfl, hb1⟩
theorem walk (A : Option Addr) (n c : Nat) (xs : List Int) (p : Int) (w : World) (hr : IsIn w A n c xs) (_wp : (Lit.int .i64 p).wf = true) :
    Calls Try.prog 6 #[.slice A n c, .int .i64 p] w fun e w' => e = .returned (.bool true) ∧ Below w.heap.size w w' := by
  have hn : n ≤ 9223372036854775807 := by have h1 := hr.2.1; have h2 := hr.2.2; unfold maxLen at h2; omega
  by_cases hl : 1100 < n
  · exact long A n c p w hl hn
  · cases h : mayB n
    · exact bad A n c p w h (by omega)
    · have hm := (mayB_iff.1 h).2.2
      by_cases hp : 0 ≤ p ∧ 16 * p < n
      · by_cases h2 : 16 * p + 16 < n
        · exact more A n c p w h hp.1 hp.2 h2
        · exact last A n c p w h hp.1 hp.2 (by omega)
      · exact outside A n c p w h (by omega)

set_option maxRecDepth 100000 in
theorem lifted (os : Os) (started : os.Started) (H : Type) (enc : TypeId × Value → H) :
    ReturnsInHanded {} Try.checked os 6 .any (Rows.arenaPagesSpec.pre6 enc Try.prog Try.f6 Rows.arenaPagesRow.domain false) (Rows.arenaPagesSpec.post enc Try.prog Try.f6 false true false false) := by
  refine returnsInHanded_of_change (C := Try.checked) own started (by kernel_rfl) Try.func6
    (ChangeSpec.witness6 (enc := enc) (C := Try.checked) false ⟨#[], #[.slice none 0 0, .int .i64 0], []⟩ 8 (by kernel_rfl) (by kernel_rfl) (by kernel_rfl) (by kernel_rfl)) ?_
  intro W base args ds gs before hval0 hW hcnd _
  have hval : ∀ (j : Nat) t v, Try.f6.params[j]? = some t → args[j]? = some v → Value.okWide Try.prog W .any base t v := hval0
  have hW' := hW
  obtain ⟨p, q, hA0, hV, rfl, hfz, hnd⟩ := hW
  have hA : DataW.TrodAll enc Try.prog W 0 (fun _ => true) true Try.f6.params.toList args.toList ds p := hA0
  rw [Try.params6] at hA hval
  obtain ⟨v0, vs0, d0, ds0, p0, q0, hargs, rfl, rfl, h0, r0⟩ := trodAll_cons hA
  obtain ⟨v1, vs1, d1, ds1, p1, q1, rfl, rfl, rfl, h1, r1⟩ := trodAll_cons r0
  obtain ⟨rfl, rfl, rfl⟩ := trodAll_nil r1
  obtain rfl : args = #[v0, v1] := by cases args; simp_all
  obtain ⟨rfl, rfl⟩ := trodVars_none hV
  obtain ⟨a0, len0, cap0, rfl⟩ := okWide_slice Try.underlying22 (hval 0 22 v0 rfl rfl)
  have k0 := h0
  have lt0 : ∀ x ∈ p0, x.block < W.heap.size := by obtain ⟨m, hm⟩ := k0; exact DataW.trod_lt m _ _ _ hm
  obtain ⟨z0, w0⟩ : ∃ zs, IsIn W a0 len0 cap0 zs := in_of Try.underlying22 Try.underlying3 (by kernel_rfl) h0
  obtain ⟨a1, rfl, rfl, rfl, w1⟩ := open_int Try.underlying3 (hval 1 3 v1 rfl rfl) h1
  clear hA0 hval0
  refine (walk a0 len0 cap0 z0 a1 W w0 w1).mono fun e W' ⟨he, bel⟩ => ?_
  subst he
  exact ⟨_, rfl, _, _, _, [], _, [], hW', trodAll_mk1 (shut_bool Try.underlying4 _), (trodAll_cons_mk (Below.trod laidOut (by kernel_rfl) (of_decide_eq_true (by kernel_rfl)) k0 bel lt0) (trodAll_cons_mk (shut_int Try.underlying3 w1) trodAll_mk0)), rfl, bel.frame _, fun h => by cases h⟩

theorem over : Rows.arenaPagesRow.holds Try.pinned (OpenSpec.ofChange Rows.arenaPagesSpec) :=
  OpenClaim.holds_of_wide 6 Try.f6 rfl rfl rfl rfl rfl rfl rfl ⟨rfl, rfl, rfl, rfl, rfl⟩ rfl rfl rfl rfl rfl (by kernel_rfl) Try.func6 (by kernel_rfl)
    (of_decide_eq_true (by kernel_rfl)) (by unfold Func.isWrapper; first | (rw [if_pos (by decide +kernel)]; kernel_rfl) | (rw [if_neg (by decide +kernel)]; exact ⟨rfl, rfl⟩))
    (fun os started H enc _ => lifted os started H enc)

/-- The statement. -/
theorem proved : Rows.ArenaPagesSaid :=
  over
#print axioms proved
end Go.Proofs.Ytndjocfnepikhaa.ArenaPages
