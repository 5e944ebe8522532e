/-
  CodeParses: whatever the text, the package's Parse and the document's tell the same list, and the same error; the text reads as it did.
  The card: the table internal/strconv.uint64pow10 (and two of math/bits) is tied to the program's text.
-/
import Derived.Test.YtggjkagcnhhkjaaDoorCdAwake
import Derived.Test.YtggjkagcnhhkjaaDoorCdRefE
import Derived.Test.YtggjkagcnhhkjaaDoorCdIns
namespace Go.Proofs.YtggjkagcnhhkjaaDoor.CodeParses
open Go.Proofs.YtggjkagcnhhkjaaDoor Go.Proofs.YtggjkagcnhhkjaaDoor.Rt Go.Proofs.YtggjkagcnhhkjaaDoor.Cd
open Go.ChangeShapes Go.WideShapes Go.ChangeAt Go.RowKit
set_option maxRecDepth 100000

set_option maxHeartbeats 1000000 in
theorem walk (L : List UInt8) (w : World) (hT : Tb w) (hL : L.length ≤ maxLen) : Calls Tryd.prog 4 #[.string (bs L)] w fun e w' => e = .returned (.bool true) ∧ Below w.heap.size w w' := by
  have HT := Lib.hid hT
  have hz := bs_size L
  unfold maxLen at hL
  clear hT
  go_enter Tryd.func4, Tryd.ntmps4
  go_wp2_with fail
  refine (awake_any w HT.out).mono ?_
  rintro e w1 ⟨rfl, hb1⟩
  have H1 := Lib.hid hb1
  clear hb1
  by_cases hlen : L.length ≤ 3000
  · have hbig : L.length ≤ 100000 := by omega
    go_wp2_with fail
    refine (parse_any L w1 hbig (HT.out.next H1.out)).mono ?_
    rintro e w2 ⟨hb2, (⟨l, v, hg, rfl, hrd⟩ | ⟨rfl, hno⟩)⟩
    · have H2 := Lib.hid (And.intro (H1.out.trans (hb2.mono H1.out.size)) (And.intro hg hrd))
      clear hb2 hg hrd
      go_wp2_with fail
      refine (rparse_any L w2 hbig).mono ?_
      rintro e w3 ⟨hb3, (⟨m, u, hg3, rfl, hrd3⟩ | ⟨_, hno⟩)⟩
      · obtain rfl : l = m := H2.out.2.1.one hg3
        obtain ⟨r1, r2, _, _, _⟩ := H2.out.2.2
        obtain ⟨s1, s2, _, _, _⟩ := hrd3
        have hll : l.length ≤ maxLen := by have := hg3.2.1; unfold maxLen; omega
        have H3 := Lib.hid (And.intro (H2.out.1.trans (hb3.mono H2.out.1.size)) (And.intro hll (And.intro (r2.next hb3) s2)))
        clear hb3 hg3 r2 s2 hll
        rw [r1] at H3 ⊢
        rw [s1] at H3 ⊢
        go_wp2_with fail
        refine (rsame_any v.a u.a l l v.c u.c w3 H3.out.2.1 H3.out.2.2.1 H3.out.2.2.2).mono ?_
        rintro e w4 ⟨rfl, hb4⟩
        have hs : sameB l l = true := decide_eq_true rfl
        rw [hs]
        have H4 := Lib.hid (H3.out.1.trans (hb4.mono H3.out.1.size))
        clear hb4
        go_wp2
        go_ret
        exact ⟨rfl, H4.out⟩
      · exact absurd H2.out.2.1 (hno _)
    · have H2 := Lib.hid (And.intro (H1.out.trans (hb2.mono H1.out.size)) hno)
      clear hb2 hno
      go_wp2_with fail
      refine (rparse_any L w2 hbig).mono ?_
      rintro e w3 ⟨hb3, (⟨m, u, hg3, _, _⟩ | ⟨rfl, _⟩)⟩
      · exact absurd hg3 (H2.out.2 _)
      · have H3 := Lib.hid (H2.out.1.trans (hb3.mono H2.out.1.size))
        clear hb3
        go_wp2_with fail
        refine (rsame_any none none [] [] 0 0 w3 (Nat.zero_le _) (ORow.empty _ _ _ _) (ORow.empty _ _ _ _)).mono ?_
        rintro e w4 ⟨rfl, hb4⟩
        have hs : sameB [] [] = true := decide_eq_true rfl
        rw [hs]
        have H4 := Lib.hid (H3.out.trans (hb4.mono H3.out.size))
        clear hb4
        go_wp2
        go_ret
        exact ⟨rfl, H4.out⟩
  · have hbig : 3000 < L.length := by omega
    go_wp2
    go_ret
    exact ⟨rfl, H1.out⟩
-- the frame (cdframe.py)
set_option maxRecDepth 100000 in
theorem lifted (os : Os) (started : os.Started) (H : Type) (enc : TypeId × Value → H) :
    ReturnsInHanded {} Tryd.checked os 4 .any (fun w args => (Rows.codeParsesSpec.pre enc Tryd.prog Tryd.f4 [] false w args ∧ laidMetH Tryd.prog laidTabs w) ∧ sizedMet enc Tryd.prog Tryd.f4 (OpenSpec.ofChange Rows.codeParsesSpec) false w args)
      (Rows.codeParsesSpec.post enc Tryd.prog Tryd.f4 false true false false) := by
  refine returnsInHanded_of_change_and (C := Tryd.checked) (X := fun w _ => laidMetH Tryd.prog laidTabs w) (fun _ _ _ hh h => h.of_heap hh) Cd.own started (by kernel_rfl) Tryd.func4
    (ChangeSpec.witness_shaped (enc := enc) (C := Tryd.checked) (os := os) (X := fun w _ => laidMetH Tryd.prog laidTabs w) false (World.doorLaid Tryd.prog 400 os) #[.string ⟨#[]⟩] 8 rfl (World.shaped_of_RefB (by kernel_rfl) (by kernel_rfl)) (by kernel_rfl) (by kernel_rfl) (by kernel_rfl) (door_met os _)) ?_
  intro W base args ds gs before hval0 hW _ _ hL _
  have hval : ∀ (j : Nat) t v, Tryd.f4.params[j]? = some t → args[j]? = some v → Value.okWide Tryd.prog W .any base t v := hval0
  have hW' := hW
  obtain ⟨p, q, hA0, hV, rfl, hfz, hnd⟩ := hW
  have hA : DataW.TrodAll enc Tryd.prog W 0 (fun _ => true) true Tryd.f4.params.toList args.toList ds p := hA0
  rw [Tryd.params4] at hA hval
  obtain ⟨v0, vs0, d0, ds0, p0, q0, hargs, rfl, rfl, h0, r0⟩ := trodAll_cons hA
  obtain ⟨rfl, rfl, rfl⟩ := trodAll_nil r0
  obtain rfl : args = #[v0] := by cases args; simp_all
  obtain ⟨rfl, rfl⟩ := trodVars_none hV
  obtain ⟨s0, rfl, rfl, rfl, m0⟩ := ChangeMaps.open_string Tryd.underlying9 (hval 0 9 v0 rfl rfl) h0
  obtain ⟨L0, rfl⟩ : ∃ L, s0 = bs L := ⟨_, (bs_list s0).symm⟩
  clear hA0 hval0
  refine (walk L0 W (of_laid hL) (by rw [← bs_size]; exact m0)).mono fun e W' ⟨he, bel⟩ => ?_
  subst he
  exact ⟨_, rfl, _, _, _, [], _, [], hW', trodAll_mk1 (shut_bool Tryd.underlying4 _), (trodAll_cons_mk (ChangeMaps.shut_string Tryd.underlying9 m0) trodAll_mk0), rfl, bel.frame _, fun h => by cases h⟩

theorem over : Rows.CodeParsesSaid :=
  OpenClaim.holds_of_wide 4 Tryd.f4 rfl rfl rfl rfl rfl rfl rfl ⟨rfl, rfl, rfl, rfl, rfl⟩ rfl rfl rfl rfl rfl (by kernel_rfl) Tryd.func4 (by kernel_rfl)
    (of_decide_eq_true (by kernel_rfl)) (by unfold Func.isWrapper; first | (rw [if_pos (by decide +kernel)]; kernel_rfl) | (rw [if_neg (by decide +kernel)]; exact ⟨rfl, rfl⟩))
    (fun os started H enc _ => lifted os started H enc)

/-- The statement: the card. -/
theorem proved : Rows.CodeParsesCardSaid :=
  Claim7.holds_tied_plain_at .later [] [.data, .data, .data] true Rows.codeParsesCard.stood.harness true
    over (fun _ h => by cases h) (by kernel_rfl) (fun _ h => by cases h) codeParses_row_tie rfl ⟨rfl, rfl⟩ (by kernel_rfl) rfl
    (fun f fn hf hfn => by
      obtain rfl : f = 4 := Option.some.inj ((show Tryd.prog.funcNamed "ragpicker/ragpickerlaw13.CodeParses" = some 4 by kernel_rfl).symm.trans hf) |>.symm
      obtain rfl : fn = Tryd.f4 := (Option.some.inj (Tryd.func4.symm.trans hfn)).symm
      exact ⟨by kernel_rfl, fun j t ht => by
        rw [Tryd.params4] at ht
        have hm : t ∈ [9] := by simpa using Array.mem_of_getElem? ht
        have hall : ([9].all fun u => !Tryd.prog.wantsStandIn u) = true := by kernel_rfl
        exact (show Tryd.prog.wantsStandIn t = false by simpa using List.all_eq_true.1 hall t hm)⟩)
    (by kernel_rfl)
#print axioms proved
end Go.Proofs.YtggjkagcnhhkjaaDoor.CodeParses
