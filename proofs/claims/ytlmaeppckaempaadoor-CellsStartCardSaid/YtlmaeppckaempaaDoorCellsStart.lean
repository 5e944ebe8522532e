/-
  CellsStart: where a cell begins it is told to, and there alone it has room; each word of it leads to that: for every slice of at most 64 pages, every address; the table of sizes is tied to the program's text by the card.
-/
import Derived.Test.YtlmaeppckaempaaDoorClFrame
namespace Go.Proofs.YtlmaeppckaempaaDoor.CellsStart
open Go.Proofs.YtlmaeppckaempaaDoor
open Go.ChangeShapes Go.WideShapes Go.ChangeAt Go.RowKit

theorem walk (A : Option Addr) (len cap : Nat) (f : Nat → Int × Int) (a : Int) (w : World) (hz : Sz w) (hp : PIn w A len cap f) (_ : (Lit.int .i64 a).wf = true) :
    Calls Tryd.prog 6 #[.slice A len cap, .int .i64 a] w fun e w' => e = .returned (.bool true) ∧ Below w.heap.size w w' := by
  have HN := Lib.hid (Now.begin hz hp)
  have HZ := Lib.hid hz
  have hcl := hp.2.1
  have hcm := hp.2.2
  clear hz hp
  by_cases hlen : 64 < len
  · go_enter Tryd.func6, Tryd.ntmps6
    go_wp2_with fail
    refine (awake_yes _ HZ.out).mono ?_
    rintro e w1 ⟨rfl, hb1⟩
    have HB := Lib.hid hb1
    clear hb1
    go_wp2
    go_ret
    exact ⟨rfl, HB.out⟩
  have hn : len ≤ 1000 := by omega
  have ha := allL_apart f len
  cases hf : (allL f len).find? (pIn a) with
  | none =>
    have hf2 : (allL f len).find? (pAt a) = none := by
      rw [List.find?_eq_none] at hf ⊢
      exact fun c hc hpc => hf c hc (ha.in_at hc hpc)
    have V1 := Lib.hid (show (foundV (allL f len) (pIn a)).1 = 0 by simp [foundV, hf])
    have V2 := Lib.hid (show foundS (allL f len) (pIn a) = false by simp [foundS, hf])
    have V3 := Lib.hid (show (foundV (allL f len) (pAt a)).2 = 0 by simp [foundV, hf2])
    clear hf hf2 ha
    go_enter Tryd.func6, Tryd.ntmps6
    go_wp2_with fail
    refine (awake_yes _ HZ.out).mono ?_
    rintro e w1 ⟨rfl, hb1⟩
    have HN1 := Lib.hid (HN.out.next hb1)
    clear hb1
    go_wp2_with fail
    refine (HN1.out.start cap a _ _ V1.out V2.out hn).mono ?_
    rintro e w2 ⟨rfl, hb2⟩
    have HN2 := Lib.hid (HN1.out.next hb2)
    clear hb2
    go_wp2_with fail
    refine (HN2.out.room cap a _ V3.out hn).mono ?_
    rintro e w3 ⟨rfl, hb3⟩
    have HN3 := Lib.hid (HN2.out.next hb3)
    clear hb3
    go_wp2
    go_ret
    exact ⟨rfl, HN3.out.bel⟩
  | some c =>
    obtain ⟨s, m⟩ := c
    have hmem := List.mem_of_find?_eq_some hf
    obtain ⟨hc1, hc2⟩ := pIn_iff.1 (List.find?_some hf)
    obtain ⟨h16, hm2⟩ := ha.2 _ hmem
    simp only at hc1 hc2 h16 hm2
    have hbd := allL_bounds f len _ hmem
    simp only at hbd
    have V1 := Lib.hid (show (foundV (allL f len) (pIn a)).1 = s by simp [foundV, hf])
    have V2 := Lib.hid (show foundS (allL f len) (pIn a) = true by simp [foundS, hf])
    have hr := ha.find_at hmem rfl
    have hs := ha.find_in hmem (pIn_iff.2 ⟨Int.le_refl _, by simp only; omega⟩)
    simp only at hr hs
    have V4 := Lib.hid (show (foundV (allL f len) (pAt s)).2 = m by simp [foundV, hr])
    have V5 := Lib.hid (show (foundV (allL f len) (pIn s)).1 = s by simp [foundV, hs])
    have V6 := Lib.hid (show foundS (allL f len) (pIn s) = true by simp [foundS, hs])
    obtain ⟨n0, HV, hn0, hne⟩ : ∃ n0, Hid ((foundV (allL f len) (pAt a)).2 = n0) ∧ decide (0 < n0) = (a == s) ∧ 0 ≤ n0 := by
      by_cases e : a = s
      · subst e
        exact ⟨m, V4, by simp; omega, by omega⟩
      · refine ⟨0, Lib.hid ?_, by simpa using e, by omega⟩
        cases hg : (allL f len).find? (pAt a) with
        | none => simp [foundV, hg]
        | some d =>
          exfalso
          have hd := List.mem_of_find?_eq_some hg
          have hpd := List.find?_some hg
          have := ha.one hmem hd (List.find?_some hf) (ha.in_at hd hpd)
          rw [← this] at hpd
          exact e (pAt_iff.1 hpd).symm
    clear hf hr hs ha hmem
    go_enter Tryd.func6, Tryd.ntmps6
    go_wp2_with fail
    refine (awake_yes _ HZ.out).mono ?_
    rintro e w1 ⟨rfl, hb1⟩
    have HN1 := Lib.hid (HN.out.next hb1)
    clear hb1
    go_wp2_with fail
    refine (HN1.out.start cap a _ _ V1.out V2.out hn).mono ?_
    rintro e w2 ⟨rfl, hb2⟩
    have HN2 := Lib.hid (HN1.out.next hb2)
    clear hb2
    go_wp2_with fail
    refine (HN2.out.room cap a _ HV.out hn).mono ?_
    rintro e w3 ⟨rfl, hb3⟩
    have HN3 := Lib.hid (HN2.out.next hb3)
    clear hb3
    go_wp2_with fail
    refine (HN3.out.room cap s _ V4.out hn).mono ?_
    rintro e w4 ⟨rfl, hb4⟩
    have HN4 := Lib.hid (HN3.out.next hb4)
    clear hb4
    go_wp2_with fail
    refine (HN4.out.start cap s _ _ V5.out V6.out hn).mono ?_
    rintro e w5 ⟨rfl, hb5⟩
    have HN5 := Lib.hid (HN4.out.next hb5)
    clear hb5
    go_wp2
    go_ret
    exact ⟨rfl, HN5.out.bel⟩

set_option maxRecDepth 100000 in
theorem lifted (os : Os) (started : os.Started) (H : Type) (enc : TypeId × Value → H) :
    ReturnsInHanded {} Tryd.checked os 6 .any (fun w args => (Rows.cellsStartSpec.pre enc Tryd.prog Tryd.f6 [] false w args ∧ laidMetH Tryd.prog laidSizes w) ∧ sizedMet enc Tryd.prog Tryd.f6 (OpenSpec.ofChange Rows.cellsStartSpec) false w args)
      (Rows.cellsStartSpec.post enc Tryd.prog Tryd.f6 false true false false) := by
  refine returnsInHanded_of_change_and (C := Tryd.checked) (X := fun w _ => laidMetH Tryd.prog laidSizes w) (fun _ _ _ hh h => h.of_heap hh) own started (by kernel_rfl) Tryd.func6
    (ChangeSpec.witness_shaped (enc := enc) (C := Tryd.checked) (os := os) (X := fun w _ => laidMetH Tryd.prog laidSizes w) false (World.doorLaid Tryd.prog 400 os) #[.slice none 0 0, .int .i64 0] 8 rfl (World.shaped_of_RefB (by kernel_rfl) (by kernel_rfl)) (by kernel_rfl) (by kernel_rfl) (by kernel_rfl) (door_met os _)) ?_
  intro W base args ds gs before hval0 hW _ _ hL _
  have hval : ∀ (j : Nat) t v, Tryd.f6.params[j]? = some t → args[j]? = some v → Value.okWide Tryd.prog W .any base t v := hval0
  have hW' := hW
  obtain ⟨p, q, hA0, hV, rfl, hfz, hnd⟩ := hW
  have hA : DataW.TrodAll enc Tryd.prog W 0 (fun _ => true) true Tryd.f6.params.toList args.toList ds p := hA0
  rw [Tryd.params6] at hA hval
  obtain ⟨v0, vs0, d0, ds0, p0, q0, hargs, rfl, rfl, h0, r0⟩ := trodAll_cons hA
  obtain ⟨v1, vs1, d1, ds1, p1, q1, rfl, rfl, rfl, h1, r1⟩ := trodAll_cons r0
  obtain ⟨rfl, rfl, rfl⟩ := trodAll_nil r1
  obtain rfl : args = #[v0, v1] := by cases args; simp_all
  obtain ⟨rfl, rfl⟩ := trodVars_none hV
  obtain ⟨a0, len0, cap0, rfl⟩ := okWide_slice Tryd.underlying22 (hval 0 22 v0 rfl rfl)
  have k0 := h0
  have lt0 : ∀ x ∈ p0, x.block < W.heap.size := by obtain ⟨m, hm⟩ := k0; exact DataW.trod_lt m _ _ _ hm
  obtain ⟨z0, w0⟩ : ∃ f, PIn W a0 len0 cap0 f := pin_of h0
  obtain ⟨a1, rfl, rfl, rfl, w1⟩ := open_int Tryd.underlying3 (hval 1 3 v1 rfl rfl) h1
  clear hA0 hval0
  refine (walk a0 len0 cap0 z0 a1 W (of_laid hL) w0 w1).mono fun e W' ⟨he, bel⟩ => ?_
  subst he
  exact ⟨_, rfl, _, _, _, [], _, [], hW', trodAll_mk1 (shut_bool Tryd.underlying4 _), (trodAll_cons_mk (Below.trod laidOut (by kernel_rfl) (of_decide_eq_true (by kernel_rfl)) k0 bel lt0) (trodAll_cons_mk (shut_int Tryd.underlying3 w1) trodAll_mk0)), rfl, bel.frame _, fun h => by cases h⟩

theorem over : Rows.CellsStartSaid :=
  OpenClaim.holds_of_wide 6 Tryd.f6 rfl rfl rfl rfl rfl rfl rfl ⟨rfl, rfl, rfl, rfl, rfl⟩ rfl rfl rfl rfl rfl (by kernel_rfl) Tryd.func6 (by kernel_rfl)
    (of_decide_eq_true (by kernel_rfl)) (by unfold Func.isWrapper; first | (rw [if_pos (by decide +kernel)]; kernel_rfl) | (rw [if_neg (by decide +kernel)]; exact ⟨rfl, rfl⟩))
    (fun os started H enc _ => lifted os started H enc)

/-- The statement: the card. -/
theorem proved : Rows.CellsStartCardSaid :=
  Claim7.holds_tied_plain_at .later [] [.data] true Rows.cellsStartCard.stood.harness false
    over (fun _ h => by cases h) (by kernel_rfl) (fun _ h => by cases h) cellsStart_row_tie rfl ⟨rfl, rfl⟩ (by kernel_rfl) rfl
    (fun f fn hf hfn => by
      obtain rfl : f = 6 := Option.some.inj ((show Tryd.prog.funcNamed "ragpicker/ragpickerlaw05.CellsStart" = some 6 by kernel_rfl).symm.trans hf) |>.symm
      obtain rfl : fn = Tryd.f6 := (Option.some.inj (Tryd.func6.symm.trans hfn)).symm
      exact ⟨by kernel_rfl, fun j t ht => by
        rw [Tryd.params6] at ht
        have hm : t ∈ [22, 3] := by simpa using Array.mem_of_getElem? ht
        have hall : ([22, 3].all fun u => !Tryd.prog.wantsStandIn u) = true := by kernel_rfl
        exact (show Tryd.prog.wantsStandIn t = false by simpa using List.all_eq_true.1 hall t hm)⟩)
    (by kernel_rfl)
#print axioms proved
end Go.Proofs.YtlmaeppckaempaaDoor.CellsStart
