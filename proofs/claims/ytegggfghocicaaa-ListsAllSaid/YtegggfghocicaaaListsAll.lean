/-
  ListsAll: all of any lists are told, and whether one is there twice, as the document's answer tells it.
-/
import Derived.Test.YtegggfghocicaaaLsIns
namespace Go.Proofs.Ytegggfghocicaaa.ListsAll
open Go.Proofs.Ytegggfghocicaaa
open Go.ChangeShapes Go.WideShapes Go.ChangeAt Go.RowKit

theorem long (A : Option Addr) (n c : Nat) (w : World) (h : 6 < n) (hn : n ≤ 9223372036854775807) :
    Calls Try.prog 4 #[.slice A n c] w (Tells w true) := by
  go_enter Try.func4, Try.ntmps4
  go_wp2_with fail
  refine (awake_any _).mono ?_
  rintro e w1 ⟨rfl, hb1⟩
  go_wp2
  go_ret
  exact ⟨rfl, hb1⟩
theorem small_len {n : Nat} {f : Nat → Nat → List Int} (h : ∀ i, i < n → ∀ j, j < 3 → (f i j).length ≤ 60) : ∀ k, k ≤ n → (allOf f k).length ≤ 180 * k
  | 0, _ => by simp [allOf]
  | k + 1, hk => by
    have h0 := h k (by omega) 0 (by decide)
    have h1 := h k (by omega) 1 (by decide)
    have h2 := h k (by omega) 2 (by decide)
    have := small_len h k (by omega)
    rw [allOf_succ, List.length_append]
    simp only [upTo_succ, List.length_append]
    simp only [upTo, List.range_zero, List.flatMap_nil, List.length_nil]
    omega

set_option maxHeartbeats 1000000 in
theorem few (A : Option Addr) (n c : Nat) (u : Nat → Nat → Sl) (f : Nat → Nat → List Int) (w : World) (h : n ≤ 6) (hr : LRow w w.heap.size A n u f) :
    Calls Try.prog 4 #[.slice A n c] w (Tells w true) := by
  have HR := Lib.hid hr
  clear hr
  go_enter Try.func4, Try.ntmps4
  go_wp2_with fail
  refine (awake_any _).mono ?_
  rintro e w1 ⟨rfl, hb1⟩
  have HR1 := Lib.hid (HR.out.below hb1)
  have HB := Lib.hid hb1
  have hs1 := hb1.size
  clear hb1 HR
  have hd : decide (6 < (n : Int)) = false := by simp; omega
  go_wp2
  go_loopw [4] (fun i wr => ∃ k : Nat, k ≤ n ∧ i = .int .i64 k ∧ wr = w1 ∧ Hid (∀ i, i < k → ∀ j, j < 3 → (f i j).length ≤ 60)) (fun i _ => n - (intOf i).toNat)
  case atStart => exact ⟨0, Nat.zero_le _, rfl, rfl, Lib.hid (fun i hi => absurd hi (by omega))⟩
  case round =>
    obtain ⟨k, hk, rfl, rfl, HE⟩ := hrel
    by_cases hlt : k < n
    · obtain ⟨b, off, rfl, hbB, hc⟩ := HR1.out (by omega)
      obtain ⟨hcell, hl3⟩ := hc k hlt
      have c0 := hcell 0 (by decide)
      have c1 := hcell 1 (by decide)
      have c2 := hcell 2 (by decide)
      rw [Nat.add_zero] at c0
      obtain ⟨s0, e0⟩ : ∃ s, s = u k 0 := ⟨_, rfl⟩
      obtain ⟨s1, e1⟩ : ∃ s, s = u k 1 := ⟨_, rfl⟩
      obtain ⟨s2, e2⟩ : ∃ s, s = u k 2 := ⟨_, rfl⟩
      rw [← e0] at c0
      rw [← e1] at c1
      rw [← e2] at c2
      have l0 := hl3.len 0 (by decide)
      have l1 := hl3.len 1 (by decide)
      have l2 := hl3.len 2 (by decide)
      rw [← e0] at l0
      rw [← e1] at l1
      rw [← e2] at l2
      have m0 := (hl3 0 (by decide)).2
      have m1 := (hl3 1 (by decide)).2
      have m2 := (hl3 2 (by decide)).2
      rw [← e0] at m0
      rw [← e1] at m1
      rw [← e2] at m2
      unfold maxLen at m0 m1 m2
      have hbs : b < wr.heap.size := by omega
      clear hc hcell hl3 e0 e1 e2
      by_cases h0 : 60 < s0.n
      · have d0 : decide (60 < (s0.n : Int)) = true := by simp; omega
        clear l0 l1 l2
        go_wp2
        go_ret
        exact ⟨rfl, HB.out⟩
      · have d0 : decide (60 < (s0.n : Int)) = false := by simp; omega
        by_cases h1 : 60 < s1.n
        · have d1 : decide (60 < (s1.n : Int)) = true := by simp; omega
          clear l0 l1 l2
          go_wp2
          go_ret
          exact ⟨rfl, HB.out⟩
        · have d1 : decide (60 < (s1.n : Int)) = false := by simp; omega
          by_cases h2 : 60 < s2.n
          · have d2 : decide (60 < (s2.n : Int)) = true := by simp; omega
            clear l0 l1 l2
            go_wp2
            go_ret
            exact ⟨rfl, HB.out⟩
          · have d2 : decide (60 < (s2.n : Int)) = false := by simp; omega
            have HE2 : Hid (∀ i, i < k + 1 → ∀ j, j < 3 → (f i j).length ≤ 60) := Lib.hid (fun i hi j hj => by
              by_cases e : i = k
              · subst e
                match j, hj with
                | 0, _ => omega
                | 1, _ => omega
                | 2, _ => omega
              · exact HE.out i (by omega) j hj)
            clear l0 l1 l2 HE
            go_wp2
            go_roundw
            case rel => exact ⟨k + 1, by omega, by go_num, trivial, HE2⟩
            case measure => simp [intOf]; omega
    · obtain rfl : k = n := by omega
      have hlen := small_len HE.out k (Nat.le_refl _)
      have HN := Lib.hid hlen
      clear hlen HE
      go_wp2_with fail
      refine (all_any w.heap.size A k c u f wr HR1.out hs1 (by omega) (by have := HN.out; omega)).mono ?_
      rintro e w2 ⟨s, rfl, os, b2⟩
      have HR2 := Lib.hid (HR1.out.over b2 hs1)
      have HB2 := Lib.hid (HB.out.trans (b2.mono hs1))
      have hs2 := b2.size
      obtain ⟨a1, c1, e1, r1, _, _⟩ := owns_row os
      simp only [Value.slice.injEq, true_and] at e1
      obtain ⟨rfl, rfl⟩ := e1
      have RS2 := Lib.hid r1
      clear os b2 r1 HR1 HB
      go_wp2_with fail
      refine (rall_any w.heap.size A k c u f w2 HR2.out (by omega) (by omega) (by have := HN.out; omega)).mono ?_
      rintro e w3 ⟨t, rfl, ot, b3⟩
      have HR3 := Lib.hid (HR2.out.over b3 (by omega))
      have HB3 := Lib.hid (HB2.out.trans (b3.mono (by omega)))
      have hs3 := b3.size
      obtain ⟨a2, c2, e2, r2, _, _⟩ := owns_row ot
      simp only [Value.slice.injEq, true_and] at e2
      obtain ⟨rfl, rfl⟩ := e2
      have RS3 := Lib.hid (RS2.out.below b3)
      have RT3 := Lib.hid r2
      have hsn : s.n ≤ 4000000 := by have := HN.out; have := RS3.out.1; omega
      have htn : t.n ≤ 4000000 := by have := HN.out; have := RT3.out.1; omega
      clear ot b3 r2 HR2 HB2 RS2
      go_wp2_with fail
      have HI := ints_tell w2.heap.size w3.heap.size s.a t.a s.n t.n s.c t.c _ _ w3 hsn htn RS3.out RT3.out
      rw [show decide (allOf f k = allOf f k) = true by simp] at HI
      refine HI.mono ?_
      rintro e w4 ⟨rfl, b4⟩
      have HR4 := Lib.hid (HR3.out.over b4 (by omega))
      have HB4 := Lib.hid (HB3.out.trans (b4.mono (by omega)))
      have hs4 := b4.size
      obtain ⟨g, hg⟩ : ∃ g, g = decide (allOf f k).Nodup := ⟨_, rfl⟩
      have HG := Lib.hid hg
      clear b4 HI HR3 HB3 RS3 RT3 hg
      go_wp2_with fail
      refine (apart_any w.heap.size A k c u f w4 HR4.out (by omega) (by omega) (by have := HN.out; omega)).mono ?_
      rintro e w5 ⟨rfl, b5⟩
      have HR5 := Lib.hid (HR4.out.over b5 (by omega))
      have HB5 := Lib.hid (HB4.out.trans (b5.mono (by omega)))
      have hs5 := b5.size
      rw [← HG.out]
      clear b5 HR4 HB4
      go_wp2_with fail
      refine (rapart_any w.heap.size A k c u f w5 HR5.out (by omega) (by omega) (by have := HN.out; omega)).mono ?_
      rintro e w6 ⟨rfl, b6⟩
      have HB6 := Lib.hid (HB5.out.trans (b6.mono (by omega)))
      rw [← HG.out]
      clear b6 HR5 HB5
      go_wp2
      go_ret
      cases g <;> exact ⟨rfl, HB6.out⟩
theorem walk (A : Option Addr) (n c : Nat) (u : Nat → Nat → Sl) (f : Nat → Nat → List Int) (w : World) (hr : LRow w w.heap.size A n u f ∧ n ≤ maxLen) :
    Calls Try.prog 4 #[.slice A n c] w (Tells w true) := by
  by_cases h : n ≤ 6
  · exact few A n c u f w h hr.1
  · exact long A n c w (by omega) (by have := hr.2; unfold maxLen at this; omega)
-- the frame (lsframe.py)
set_option maxRecDepth 100000 in
theorem lifted (os : Os) (started : os.Started) (H : Type) (enc : TypeId × Value → H) :
    ReturnsInHanded {} Try.checked os 4 .any (Rows.listsAllSpec.pre6 enc Try.prog Try.f4 Rows.listsAllRow.domain false) (Rows.listsAllSpec.post enc Try.prog Try.f4 false true false false) := by
  refine returnsInHanded_of_change (C := Try.checked) own started (by kernel_rfl) Try.func4
    (ChangeSpec.witness6 (enc := enc) (C := Try.checked) false ⟨#[], #[.slice none 0 0], []⟩ 8 (by kernel_rfl) (by kernel_rfl) (by kernel_rfl) (by kernel_rfl)) ?_
  intro W base args ds gs before hval0 hW hcnd _
  have hval : ∀ (j : Nat) t v, Try.f4.params[j]? = some t → args[j]? = some v → Value.okWide Try.prog W .any base t v := hval0
  have hW' := hW
  obtain ⟨p, q, hA0, hV, rfl, hfz, hnd⟩ := hW
  have hA : DataW.TrodAll enc Try.prog W 0 (fun _ => true) true Try.f4.params.toList args.toList ds p := hA0
  rw [Try.params4] at hA hval
  obtain ⟨v0, vs0, d0, ds0, p0, q0, hargs, rfl, rfl, h0, r0⟩ := trodAll_cons hA
  obtain ⟨rfl, rfl, rfl⟩ := trodAll_nil r0
  obtain rfl : args = #[v0] := by cases args; simp_all
  obtain ⟨rfl, rfl⟩ := trodVars_none hV
  have k0 := h0
  have lt0 : ∀ x ∈ p0, x.block < W.heap.size := by obtain ⟨m, hm⟩ := k0; exact DataW.trod_lt m _ _ _ hm
  obtain ⟨a0, len0, cap0, rfl⟩ := okWide_slice Try.underlying40 (hval 0 40 v0 rfl rfl)
  obtain ⟨u0, z0, w0⟩ := rows_of h0
  clear hA0 hval0
  refine (walk a0 len0 cap0 u0 z0 W w0).mono fun e W' ⟨he, bel⟩ => ?_
  subst he
  exact ⟨_, rfl, _, _, _, [], _, [], hW', trodAll_mk1 (shut_bool Try.underlying4 _), (trodAll_cons_mk (Below.trod laidOut (by kernel_rfl) (of_decide_eq_true (by kernel_rfl)) k0 bel lt0) trodAll_mk0), rfl, bel.frame _, fun h => by cases h⟩

theorem over : Rows.listsAllRow.holds Try.pinned (OpenSpec.ofChange Rows.listsAllSpec) :=
  OpenClaim.holds_of_wide 4 Try.f4 rfl rfl rfl rfl rfl rfl rfl ⟨rfl, rfl, rfl, rfl, rfl⟩ rfl rfl rfl rfl rfl (by kernel_rfl) Try.func4 (by kernel_rfl)
    (of_decide_eq_true (by kernel_rfl)) (by unfold Func.isWrapper; first | (rw [if_pos (by decide +kernel)]; kernel_rfl) | (rw [if_neg (by decide +kernel)]; exact ⟨rfl, rfl⟩))
    (fun os started H enc _ => lifted os started H enc)

/-- The statement. -/
theorem proved : Rows.ListsAllSaid :=
  over
#print axioms proved
end Go.Proofs.Ytegggfghocicaaa.ListsAll
