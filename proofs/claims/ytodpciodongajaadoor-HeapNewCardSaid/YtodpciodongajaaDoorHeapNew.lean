/-
  HeapNew.
-/
import Derived.Test.YtodpciodongajaaDoorHpIns
import Derived.Test.YtodpciodongajaaDoorHpAwake
namespace Go.Proofs.YtodpciodongajaaDoor.HeapNew
open Go.Proofs.YtodpciodongajaaDoor
open Go.ChangeShapes Go.WideShapes Go.ChangeAt Go.RowKit
set_option maxRecDepth 100000

/-- What a new heap of n pages tells. -/
def dN (n : Nat) : Hd_ := ⟨List.replicate (16 * n) 0, fun _ => (0, 0), Ls.noLists, fun _ => false⟩
def sN (n m k g cw : Nat) (A C : Option Addr) : Hs := ⟨⟨some ⟨g, 0, none⟩, m, cw⟩, ⟨A, n, n⟩, Ls.noSl, ⟨C, k, k⟩⟩
theorem whole_all (g cw : Nat) (A C : Option Addr) : ((List.range 64).all fun n => wholeH (sN (n + 1) (16 * (n + 1)) (2 * (n + 1)) g cw A C) (dN (n + 1)) 0 noCaches) = true := by kernel_rfl
theorem used_all (g cw : Nat) (A C : Option Addr) : ((List.range 64).all fun n => decide (usedL (sN (n + 1) (16 * (n + 1)) (2 * (n + 1)) g cw A C) (dN (n + 1)) = [])) = true := by kernel_rfl
section
variable {n m k : Nat} (hm : 16 * n = m) (hk : 2 * n = k) (h0 : 1 ≤ n) (h1 : n ≤ 64) (g cw : Nat) (A C : Option Addr)
include hm hk h0 h1
theorem whole_new : wholeH (sN n m k g cw A C) (dN n) 0 noCaches = true := by
  subst hm hk
  have := List.all_eq_true.1 (whole_all g cw A C) (n - 1) (List.mem_range.2 (by omega))
  rwa [show n - 1 + 1 = n by omega] at this
theorem used_new : usedL (sN n m k g cw A C) (dN n) = [] := by
  subst hm hk
  have := of_decide_eq_true (List.all_eq_true.1 (used_all g cw A C) (n - 1) (List.mem_range.2 (by omega)))
  rwa [show n - 1 + 1 = n by omega] at this
theorem fine_N : Fine (sN n m k g cw A C) (dN n) := by
  refine ⟨by show m ≤ 4000; omega, by show n ≤ 200; omega, by show k ≤ 100000; omega, fun i => ?_, by show (Ls.upTo Ls.noLists 3).length ≤ 2000000; decide⟩
  have : (dN n).ws.getD i 0 = 0 := rep0 (16 * n) i
  omega
omit g cw A C
theorem new_mk (w : World) : Calls Tryd.prog 24 #[.int .i64 (n : Int)] w fun e w' => ∃ A C g c, e = .returned (.tuple #[.agg #[.slice (some ⟨g, 0, none⟩) m c, .slice A n n, .slice none 0 0, .slice none 0 0, .slice none 0 0, .slice C k k], .int .i64 0]) ∧
    Hp w' w'.heap.size (sN n m k g c A C) (dN n) ∧ Below w.heap.size w w' := by
  subst hm hk
  refine (new_ok n w h0 h1).mono ?_
  rintro e w' ⟨A, C, g, c, rfl, hr, hp, hc, hb⟩
  exact ⟨A, C, g, c, rfl, ⟨hr, hp, Ls.L3.none_ _ _, hc⟩, hb⟩
end
theorem walk_bad (a : Int) (p q : Bool) (w : World) (hz : Cl.Sz w) (hp : decide (a < 1) = p) (hq : decide (64 < a) = q) (hpq : (p = true ∧ q = false) ∨ (p = false ∧ q = true)) : Calls Tryd.prog 6 #[.int .i64 a] w fun e w' => e = .returned (.bool true) ∧ Below w.heap.size w w' := by
  have HZ := Lib.hid hz
  have HB : Hid (a < 1 ∨ 64 < a) := Lib.hid (by
    rcases hpq with ⟨rfl, _⟩ | ⟨_, rfl⟩
    · exact Or.inl (of_decide_eq_true hp)
    · exact Or.inr (of_decide_eq_true hq))
  have hb0 := Below.refl w.heap.size w
  clear hz
  rcases hpq with ⟨rfl, rfl⟩ | ⟨rfl, rfl⟩
  all_goals (
    go_enter Tryd.func6, Tryd.ntmps6
    go_wp2_with fail
    refine (awake_any _ HZ.out).mono ?_
    rintro e w1 ⟨rfl, hb1⟩
    go_wp2_with fail
    refine (new_bad a _ HB.out).mono ?_
    rintro e w2 ⟨rfl, hb2⟩
    dsimp only [noHs, Ls.noSl]
    have BW := Lib.hid (hb1.trans (hb2.mono hb1.size))
    go_wp2
    go_ret
    exact ⟨rfl, by have := BW.out; repeat (first | exact this | apply Below.drew' | refine Below.alloc ?_ (by have := BW.out.size; simp; try omega) _)⟩)
set_option maxHeartbeats 1000000 in
theorem walk_ok (n m k : Nat) (w : World) (hz : Cl.Sz w) (hm : 16 * n = m) (hk : 2 * n = k) (h0 : 1 ≤ n) (h1 : n ≤ 64) : Calls Tryd.prog 6 #[.int .i64 (n : Int)] w fun e w' => e = .returned (.bool true) ∧ Below w.heap.size w w' := by
  have HZ := Lib.hid hz
  have hz0 := hz.pos
  have HNEW := Lib.hid (new_mk hm hk h0 h1)
  have HWH := Lib.hid (whole_new hm hk h0 h1)
  have HUS := Lib.hid (used_new hm hk h0 h1)
  have HFI := Lib.hid (fine_N hm hk h0 h1)
  have HM := Lib.hid hm
  have HK := Lib.hid hk
  have d1 : decide ((1 : Int) ≤ n) = true := by simp; omega
  have d2 : decide ((n : Int) ≤ 64) = true := by simp; omega
  have d3 : ((m : Int) == 16 * (n : Int)) = true := by simp; omega
  have d4 : ((k : Int) == 2 * (n : Int)) = true := by simp; omega
  have hm2 : m ≤ 1024 := by omega
  have hk2 : k ≤ 128 := by omega
  clear hz hm hk
  go_enter Tryd.func6, Tryd.ntmps6
  go_wp2_with fail
  refine (awake_any _ HZ.out).mono ?_
  rintro e w1 ⟨rfl, hb1⟩
  go_wp2_with fail
  refine (HNEW.out _).mono ?_
  rintro e w2 ⟨A, C, g, cw, rfl, hp, hb2⟩
  have HP := Lib.hid hp
  have B2 := Lib.hid (hb1.trans (hb2.mono hb1.size))
  clear hp hb1 hb2 HNEW
  go_upto_region 3 with (fail)
  obtain ⟨w3, hw3⟩ : ∃ w3, w3 = w2.alloc (.cells #[.slice (some ⟨g, 0, none⟩) m cw, .slice A n n, .slice none 0 0, .slice none 0 0, .slice none 0 0, .slice C k k] 28) := ⟨_, rfl⟩
  have hb3 : Below w2.heap.size w2 w3 := by rw [hw3]; exact (Below.refl _ _).alloc (Nat.le_refl _) _
  have N3 : Hid (HNow w2 w3 (sN n m k g cw A C) (dN n)) := Lib.hid ⟨by rw [hw3]; exact HBox.new w2 (sN n m k g cw A C) 28, hb3, HP.out.below hb3⟩
  have B3 := Lib.hid (B2.out.trans (hb3.mono B2.out.size))
  rw [← hw3]
  have q0 := N3.out.box.c0
  have q1 := N3.out.box.c1
  have q2 := N3.out.box.c2
  have q3 := N3.out.box.c3
  have q4 := N3.out.box.c4
  have q5 := N3.out.box.c5
  have ql := N3.out.box.lt
  dsimp only [sN, Ls.noSl] at q0 q1 q2 q3 q4 q5
  clear hw3 hb3
  go_wp2
  go_loopw [6] (fun i wr => ∃ j d : Nat, j ≤ m ∧ i = .int .i64 j ∧ wr = w3.drewN d) (fun i _ => m - (intOf i).toNat)
  case atStart => exact ⟨0, 0, Nat.zero_le _, rfl, rfl⟩
  case round =>
    obtain ⟨j, d, hj, rfl, rfl⟩ := hrel
    by_cases hlt : j < m
    · obtain ⟨b, off, he, hbl, hc⟩ := N3.out.hp.words.2 (show 0 < m by omega)
      obtain ⟨rfl, rfl⟩ : b = g ∧ off = 0 := by
        have : some (⟨g, 0, none⟩ : Addr) = some ⟨b, off, none⟩ := he
        simp only [Option.some.injEq, Addr.mk.injEq] at this
        exact ⟨this.1.symm, this.2.1.symm⟩
      have h1 := hc j hlt
      rw [show (dN n).ws.getD j 0 = 0 from rep0 (16 * n) j, Nat.zero_add] at h1
      clear hc he hbl
      go_wp2
      go_roundw
      case rel => exact ⟨j + 1, _, by omega, by go_num, rfl⟩
      case measure => simp [intOf]; omega
    · obtain rfl : j = m := by omega
      go_wp2
      go_loopw [7] (fun i wr => ∃ t d : Nat, t ≤ k ∧ i = .int .i64 t ∧ wr = w3.drewN d) (fun i _ => k - (intOf i).toNat)
      case atStart => exact ⟨0, _, Nat.zero_le _, rfl, rfl⟩
      case round =>
        obtain ⟨t, d', ht, rfl, rfl⟩ := hrel
        by_cases hlt2 : t < k
        · obtain ⟨b, off, he, hbl, hc⟩ := N3.out.hp.cards (show 0 < k by omega)
          have he' : C = some ⟨b, off, none⟩ := he
          subst he'
          have h1 := hc t hlt2
          rw [show (dN n).cs t = false from rfl] at h1
          clear hc he hbl
          go_wp2
          go_roundw
          case rel => exact ⟨t + 1, _, by omega, by go_num, rfl⟩
          case measure => simp [intOf]; omega
        · obtain rfl : t = k := by omega
          go_wp2_with fail
          have N4 := Lib.hid (N3.out.next (below_drawn' (Below.refl _ _) d'))
          have B4 := Lib.hid (B3.out.trans ((below_drawn' (Below.refl w3.heap.size w3) d').mono B3.out.size))
          generalize w3.drewN d' = w4 at N4 B4 ⊢
          clear q0 q1 q2 q3 q4 q5 ql
          refine (pwhole0_any (sN n j t g cw A C) (dN n) w4 (N4.out.hp.more N4.out.bel.size) (HZ.out.over B4.out hz0) (HFI.out g cw A C)).mono ?_
          rw [HWH.out g cw A C]
          rintro e w5 ⟨rfl, hb5⟩
          have N5 := Lib.hid (N4.out.next hb5)
          have B5 := Lib.hid (B4.out.trans (hb5.mono B4.out.size))
          have q0 := N5.out.box.c0
          have q1 := N5.out.box.c1
          have q2 := N5.out.box.c2
          have q3 := N5.out.box.c3
          have q4 := N5.out.box.c4
          have q5 := N5.out.box.c5
          have ql := N5.out.box.lt
          dsimp only [sN, Ls.noSl] at q0 q1 q2 q3 q4 q5
          clear hb5 N4 B4
          go_wp2_with fail
          refine (pused_any (sN n j t g cw A C) (dN n) w5 (N5.out.hp.more N5.out.bel.size) (HZ.out.over B5.out hz0) (HFI.out g cw A C)).mono ?_
          rw [HUS.out g cw A C]
          rintro e w6 ⟨v6, rfl, ho6, hb6⟩
          have hv6 : v6.n = 0 := by simpa using ho6.1.symm
          rw [hv6]
          have B6 := Lib.hid (B5.out.trans (hb6.mono B5.out.size))
          clear ho6 hv6 hb6 N5 B5 q0 q1 q2 q3 q4 q5 ql
          go_wp2
          go_ret
          exact ⟨rfl, B6.out⟩
theorem walk (a : Int) (w : World) (hz : Cl.Sz w) (_ : (Lit.int .i64 a).wf = true) : Calls Tryd.prog 6 #[.int .i64 a] w fun e w' => e = .returned (.bool true) ∧ Below w.heap.size w w' := by
  by_cases h0 : a < 1
  · exact walk_bad a true false w hz (by simp [h0]) (by simp; omega) (Or.inl ⟨rfl, rfl⟩)
  · by_cases h1 : 64 < a
    · exact walk_bad a false true w hz (by simp; omega) (by simp [h1]) (Or.inr ⟨rfl, rfl⟩)
    · exact (show ((a.toNat : Nat) : Int) = a by omega) ▸ walk_ok a.toNat _ _ w hz rfl rfl (by omega) (by omega)
-- the frame (hpframe.py)
set_option maxRecDepth 100000 in
theorem lifted (os : Os) (started : os.Started) (H : Type) (enc : TypeId × Value → H) :
    ReturnsInHanded {} Tryd.checked os 6 .any (fun w args => (Rows.heapNewSpec.pre enc Tryd.prog Tryd.f6 [] false w args ∧ laidMetH Tryd.prog laidSizes w) ∧ sizedMet enc Tryd.prog Tryd.f6 (OpenSpec.ofChange Rows.heapNewSpec) false w args)
      (Rows.heapNewSpec.post enc Tryd.prog Tryd.f6 false true false false) := by
  refine returnsInHanded_of_change_and (C := Tryd.checked) (X := fun w _ => laidMetH Tryd.prog laidSizes w) (fun _ _ _ hh h => h.of_heap hh) own started (by kernel_rfl) Tryd.func6
    (ChangeSpec.witness_shaped (enc := enc) (C := Tryd.checked) (os := os) (X := fun w _ => laidMetH Tryd.prog laidSizes w) false (World.doorLaid Tryd.prog 400 os) #[.int .i64 0] 8 rfl (World.shaped_of_RefB (by kernel_rfl) (by kernel_rfl)) (by kernel_rfl) (by kernel_rfl) (by kernel_rfl) (door_met os _)) ?_
  intro W base args ds gs before hval0 hW _ _ hL _
  have hval : ∀ (j : Nat) t v, Tryd.f6.params[j]? = some t → args[j]? = some v → Value.okWide Tryd.prog W .any base t v := hval0
  have hW' := hW
  obtain ⟨p, q, hA0, hV, rfl, hfz, hnd⟩ := hW
  have hA : DataW.TrodAll enc Tryd.prog W 0 (fun _ => true) true Tryd.f6.params.toList args.toList ds p := hA0
  rw [Tryd.params6] at hA hval
  obtain ⟨v0, vs0, d0, ds0, p0, q0, hargs, rfl, rfl, h0, r0⟩ := trodAll_cons hA
  obtain ⟨rfl, rfl, rfl⟩ := trodAll_nil r0
  obtain rfl : args = #[v0] := by cases args; simp_all
  obtain ⟨rfl, rfl⟩ := trodVars_none hV
  obtain ⟨a0, rfl, rfl, rfl, w0⟩ := open_int Tryd.underlying3 (hval 0 3 v0 rfl rfl) h0
  clear hA0 hval0
  refine (walk a0 W (of_laid hL) w0).mono fun e W' ⟨he, bel⟩ => ?_
  subst he
  exact ⟨_, rfl, _, _, _, [], _, [], hW', trodAll_mk1 (shut_bool Tryd.underlying4 _), (trodAll_cons_mk (shut_int Tryd.underlying3 w0) trodAll_mk0), rfl, bel.frame _, fun h => by cases h⟩

theorem over : Rows.HeapNewSaid :=
  OpenClaim.holds_of_wide 6 Tryd.f6 rfl rfl rfl rfl rfl rfl rfl ⟨rfl, rfl, rfl, rfl, rfl⟩ rfl rfl rfl rfl rfl (by kernel_rfl) Tryd.func6 (by kernel_rfl)
    (of_decide_eq_true (by kernel_rfl)) (by unfold Func.isWrapper; first | (rw [if_pos (by decide +kernel)]; kernel_rfl) | (rw [if_neg (by decide +kernel)]; exact ⟨rfl, rfl⟩))
    (fun os started H enc _ => lifted os started H enc)

/-- The statement: the card. -/
theorem proved : Rows.HeapNewCardSaid :=
  Claim7.holds_tied_plain_at .later [] [.data] true Rows.heapNewCard.stood.harness false
    over (fun _ h => by cases h) (by kernel_rfl) (fun _ h => by cases h) heapNew_row_tie rfl ⟨rfl, rfl⟩ (by kernel_rfl) rfl
    (fun f fn hf hfn => by
      obtain rfl : f = 6 := Option.some.inj ((show Tryd.prog.funcNamed "ragpicker/ragpickerlaw07.HeapNew" = some 6 by kernel_rfl).symm.trans hf) |>.symm
      obtain rfl : fn = Tryd.f6 := (Option.some.inj (Tryd.func6.symm.trans hfn)).symm
      exact ⟨by kernel_rfl, fun j t ht => by
        rw [Tryd.params6] at ht
        have hm : t ∈ [3] := by simpa using Array.mem_of_getElem? ht
        have hall : ([3].all fun u => !Tryd.prog.wantsStandIn u) = true := by kernel_rfl
        exact (show Tryd.prog.wantsStandIn t = false by simpa using List.all_eq_true.1 hall t hm)⟩)
    (by kernel_rfl)
#print axioms proved
end Go.Proofs.YtodpciodongajaaDoor.HeapNew
