/-
  CodeBack: whatever the operations and the text, what was written is parsed, and what is parsed would be written so; both read as they did.
  The card: the table internal/strconv.uint64pow10 (and two of math/bits) is tied to the program's text.
-/
import Derived.Test.YtggjkagcnhhkjaaDoorCdLaw
namespace Go.Proofs.YtggjkagcnhhkjaaDoor.CodeBack
open Go.Proofs.YtggjkagcnhhkjaaDoor Go.Proofs.YtggjkagcnhhkjaaDoor.Rt Go.Proofs.YtggjkagcnhhkjaaDoor.Cd
open Go.ChangeShapes Go.WideShapes Go.ChangeAt Go.RowKit
set_option maxRecDepth 100000

set_option maxHeartbeats 2000000 in
theorem walk (a : Option Addr) (l : List O4) (c : Nat) (L : List UInt8) (w : World) (hT : Tb w) (hr : ORow w w.heap.size a l.length (gl l)) (hn : l.length ≤ maxLen) (hL : L.length ≤ maxLen) : Calls Tryd.prog 5 #[.slice a l.length c, .string (bs L)] w fun e w' => e = .returned (.bool true) ∧ Below w.heap.size w w' := by
  have HT := Lib.hid (And.intro hT (And.intro hr hn))
  have hz := bs_size L
  unfold maxLen at hn hL
  clear hT hr
  go_enter Tryd.func5, Tryd.ntmps5
  go_wp2_with fail
  refine (awake_any w HT.out.1).mono ?_
  rintro e w1 ⟨rfl, hb1⟩
  have H1 := Lib.hid hb1
  clear hb1
  by_cases hlen : l.length ≤ 220
  · by_cases hLn : L.length ≤ 3000
    · have hbig : L.length ≤ 100000 := by omega
      go_wp2_with fail
      refine (parse_any L w1 hbig (HT.out.1.next H1.out)).mono ?_
      rintro e w2 ⟨hb2, (⟨m, v, hg, rfl, hrd⟩ | ⟨rfl, hno⟩)⟩
      · obtain ⟨r1, r2, _, _, _⟩ := hrd
        have H2 := Lib.hid (And.intro (H1.out.trans (hb2.mono H1.out.size)) (And.intro hg r2))
        have hml : m.length ≤ maxLen := by have := hg.2.1; unfold maxLen; omega
        have HW0 := Lib.hid (And.intro (write_yes hg.2.1 hg.1) (And.intro hg.2.2 hml))
        clear hb2 r2 hg hml
        rw [r1] at H2 ⊢
        go_wp2_with fail
        refine (write_any v.a m v.c w2 HW0.out.2.2 (HT.out.1.next H2.out.1) H2.out.2.2).mono ?_
        rintro e w3 ⟨rfl, hb3⟩
        rw [HW0.out.1.1, HW0.out.1.2, HW0.out.2.1]
        have H3 := Lib.hid (H2.out.1.trans (hb3.mono H2.out.1.size))
        clear hb3
        by_cases hlong : 200 < l.length
        · have HW := Lib.hid (write_long hlong)
          clear hlong
          go_wp2_with fail
          refine (write_any a l c w3 HT.out.2.2 (HT.out.1.next H3.out) (HT.out.2.1.next H3.out)).mono ?_
          rintro e w4 ⟨rfl, hb4⟩
          rw [HW.out.1, HW.out.2]
          have H4 := Lib.hid (H3.out.trans (hb4.mono H3.out.size))
          clear hb4
          have hem : (bs []).toList.isEmpty = true := bs_empty []
          go_wp2
          go_ret
          exact ⟨rfl, H4.out⟩
        · have hl200 : l.length ≤ 200 := by omega
          by_cases hall : AllMay l
          · have HW := Lib.hid (And.intro (write_yes hl200 hall) (show Cd.Good l (write l) from ⟨hall, hl200, rfl⟩))
            have hwl : (write l).length ≤ 100000 := by have := write_len l; omega
            clear hall
            go_wp2_with fail
            refine (write_any a l c w3 HT.out.2.2 (HT.out.1.next H3.out) (HT.out.2.1.next H3.out)).mono ?_
            rintro e w4 ⟨rfl, hb4⟩
            rw [HW.out.1.1, HW.out.1.2]
            have H4 := Lib.hid (H3.out.trans (hb4.mono H3.out.size))
            clear hb4
            go_wp2_with fail
            refine (parse_any (write l) w4 hwl (HT.out.1.next H4.out)).mono ?_
            rintro e w5 ⟨hb5, (⟨m', u, hg5, rfl, hrd5⟩ | ⟨_, hno⟩)⟩
            · obtain rfl : l = m' := HW.out.2.one hg5
              obtain ⟨s1, s2, _, _, _⟩ := hrd5
              have H5 := Lib.hid (And.intro (H4.out.trans (hb5.mono H4.out.size)) s2)
              clear hb5 hg5 s2
              rw [s1] at H5 ⊢
              go_wp2_with fail
              refine (rsame_any u.a a l l u.c c w5 HT.out.2.2 H5.out.2 (HT.out.2.1.next H5.out.1)).mono ?_
              rintro e w6 ⟨rfl, hb6⟩
              have hs : sameB l l = true := decide_eq_true rfl
              rw [hs]
              have H6 := Lib.hid (H5.out.1.trans (hb6.mono H5.out.1.size))
              clear hb6
              go_wp2
              go_ret
              exact ⟨rfl, H6.out⟩
            · exact absurd HW.out.2 (hno _)
          · have HW := Lib.hid (write_no hl200 hall)
            clear hall
            go_wp2_with fail
            refine (write_any a l c w3 HT.out.2.2 (HT.out.1.next H3.out) (HT.out.2.1.next H3.out)).mono ?_
            rintro e w4 ⟨rfl, hb4⟩
            rw [HW.out.1, HW.out.2]
            have H4 := Lib.hid (H3.out.trans (hb4.mono H3.out.size))
            clear hb4
            have hem : (bs []).toList.isEmpty = true := bs_empty []
            go_wp2
            go_ret
            exact ⟨rfl, H4.out⟩
      · have H3 := Lib.hid (H1.out.trans (hb2.mono H1.out.size))
        clear hb2 hno
        by_cases hlong : 200 < l.length
        · have HW := Lib.hid (write_long hlong)
          clear hlong
          go_wp2_with fail
          refine (write_any a l c w2 HT.out.2.2 (HT.out.1.next H3.out) (HT.out.2.1.next H3.out)).mono ?_
          rintro e w4 ⟨rfl, hb4⟩
          rw [HW.out.1, HW.out.2]
          have H4 := Lib.hid (H3.out.trans (hb4.mono H3.out.size))
          clear hb4
          have hem : (bs []).toList.isEmpty = true := bs_empty []
          go_wp2
          go_ret
          exact ⟨rfl, H4.out⟩
        · have hl200 : l.length ≤ 200 := by omega
          by_cases hall : AllMay l
          · have HW := Lib.hid (And.intro (write_yes hl200 hall) (show Cd.Good l (write l) from ⟨hall, hl200, rfl⟩))
            have hwl : (write l).length ≤ 100000 := by have := write_len l; omega
            clear hall
            go_wp2_with fail
            refine (write_any a l c w2 HT.out.2.2 (HT.out.1.next H3.out) (HT.out.2.1.next H3.out)).mono ?_
            rintro e w4 ⟨rfl, hb4⟩
            rw [HW.out.1.1, HW.out.1.2]
            have H4 := Lib.hid (H3.out.trans (hb4.mono H3.out.size))
            clear hb4
            go_wp2_with fail
            refine (parse_any (write l) w4 hwl (HT.out.1.next H4.out)).mono ?_
            rintro e w5 ⟨hb5, (⟨m', u, hg5, rfl, hrd5⟩ | ⟨_, hno⟩)⟩
            · obtain rfl : l = m' := HW.out.2.one hg5
              obtain ⟨s1, s2, _, _, _⟩ := hrd5
              have H5 := Lib.hid (And.intro (H4.out.trans (hb5.mono H4.out.size)) s2)
              clear hb5 hg5 s2
              rw [s1] at H5 ⊢
              go_wp2_with fail
              refine (rsame_any u.a a l l u.c c w5 HT.out.2.2 H5.out.2 (HT.out.2.1.next H5.out.1)).mono ?_
              rintro e w6 ⟨rfl, hb6⟩
              have hs : sameB l l = true := decide_eq_true rfl
              rw [hs]
              have H6 := Lib.hid (H5.out.1.trans (hb6.mono H5.out.1.size))
              clear hb6
              go_wp2
              go_ret
              exact ⟨rfl, H6.out⟩
            · exact absurd HW.out.2 (hno _)
          · have HW := Lib.hid (write_no hl200 hall)
            clear hall
            go_wp2_with fail
            refine (write_any a l c w2 HT.out.2.2 (HT.out.1.next H3.out) (HT.out.2.1.next H3.out)).mono ?_
            rintro e w4 ⟨rfl, hb4⟩
            rw [HW.out.1, HW.out.2]
            have H4 := Lib.hid (H3.out.trans (hb4.mono H3.out.size))
            clear hb4
            have hem : (bs []).toList.isEmpty = true := bs_empty []
            go_wp2
            go_ret
            exact ⟨rfl, H4.out⟩
    · have hbig : 3000 < L.length := by omega
      go_wp2
      go_ret
      exact ⟨rfl, H1.out⟩
  · have hbig : 220 < l.length := by omega
    go_wp2
    go_ret
    exact ⟨rfl, H1.out⟩
-- the frame (cdframe.py)
set_option maxRecDepth 100000 in
theorem lifted (os : Os) (started : os.Started) (H : Type) (enc : TypeId × Value → H) :
    ReturnsInHanded {} Tryd.checked os 5 .any (fun w args => (Rows.codeBackSpec.pre enc Tryd.prog Tryd.f5 [] false w args ∧ laidMetH Tryd.prog laidTabs w) ∧ sizedMet enc Tryd.prog Tryd.f5 (OpenSpec.ofChange Rows.codeBackSpec) false w args)
      (Rows.codeBackSpec.post enc Tryd.prog Tryd.f5 false true false false) := by
  refine returnsInHanded_of_change_and (C := Tryd.checked) (X := fun w _ => laidMetH Tryd.prog laidTabs w) (fun _ _ _ hh h => h.of_heap hh) Cd.own started (by kernel_rfl) Tryd.func5
    (ChangeSpec.witness_shaped (enc := enc) (C := Tryd.checked) (os := os) (X := fun w _ => laidMetH Tryd.prog laidTabs w) false (World.doorLaid Tryd.prog 400 os) #[.slice none 0 0, .string ⟨#[]⟩] 8 rfl (World.shaped_of_RefB (by kernel_rfl) (by kernel_rfl)) (by kernel_rfl) (by kernel_rfl) (by kernel_rfl) (door_met os _)) ?_
  intro W base args ds gs before hval0 hW _ _ hL _
  have hval : ∀ (j : Nat) t v, Tryd.f5.params[j]? = some t → args[j]? = some v → Value.okWide Tryd.prog W .any base t v := hval0
  have hW' := hW
  obtain ⟨p, q, hA0, hV, rfl, hfz, hnd⟩ := hW
  have hA : DataW.TrodAll enc Tryd.prog W 0 (fun _ => true) true Tryd.f5.params.toList args.toList ds p := hA0
  rw [Tryd.params5] at hA hval
  obtain ⟨v0, vs0, d0, ds0, p0, q0, hargs, rfl, rfl, h0, r0⟩ := trodAll_cons hA
  obtain ⟨v1, vs1, d1, ds1, p1, q1, rfl, rfl, rfl, h1, r1⟩ := trodAll_cons r0
  obtain ⟨rfl, rfl, rfl⟩ := trodAll_nil r1
  obtain rfl : args = #[v0, v1] := by cases args; simp_all
  obtain ⟨rfl, rfl⟩ := trodVars_none hV
  have k0 := h0
  have lt0 : ∀ x ∈ p0, x.block < W.heap.size := by obtain ⟨m, hm⟩ := k0; exact DataW.trod_lt m _ _ _ hm
  obtain ⟨a0, n0, c0, rfl⟩ := okWide_slice Tryd.underlying22 (hval 0 22 v0 rfl rfl)
  obtain ⟨fuel0, hf0⟩ := h0
  obtain ⟨a0', c0', l0, hcs0, w0, m0⟩ := ops_in hf0
  obtain ⟨rfl, rfl, rfl⟩ : a0 = a0' ∧ n0 = l0.length ∧ c0 = c0' := by simpa [Value.cells] using hcs0
  obtain ⟨s1, rfl, rfl, rfl, m1⟩ := ChangeMaps.open_string Tryd.underlying9 (hval 1 9 v1 rfl rfl) h1
  obtain ⟨L1, rfl⟩ : ∃ L, s1 = bs L := ⟨_, (bs_list s1).symm⟩
  clear hA0 hval0
  refine (walk a0 l0 c0 L1 W (of_laid hL) w0 m0 (by rw [← bs_size]; exact m1)).mono fun e W' ⟨he, bel⟩ => ?_
  subst he
  exact ⟨_, rfl, _, _, _, [], _, [], hW', trodAll_mk1 (shut_bool Tryd.underlying4 _), (trodAll_cons_mk (Below.trod Cd.laidOut (by kernel_rfl) (of_decide_eq_true (by kernel_rfl)) k0 bel lt0) (trodAll_cons_mk (ChangeMaps.shut_string Tryd.underlying9 m1) trodAll_mk0)), rfl, bel.frame _, fun h => by cases h⟩

theorem over : Rows.CodeBackSaid :=
  OpenClaim.holds_of_wide 5 Tryd.f5 rfl rfl rfl rfl rfl rfl rfl ⟨rfl, rfl, rfl, rfl, rfl⟩ rfl rfl rfl rfl rfl (by kernel_rfl) Tryd.func5 (by kernel_rfl)
    (of_decide_eq_true (by kernel_rfl)) (by unfold Func.isWrapper; first | (rw [if_pos (by decide +kernel)]; kernel_rfl) | (rw [if_neg (by decide +kernel)]; exact ⟨rfl, rfl⟩))
    (fun os started H enc _ => lifted os started H enc)

/-- The statement: the card. -/
theorem proved : Rows.CodeBackCardSaid :=
  Claim7.holds_tied_plain_at .later [] [.data, .data, .data] true Rows.codeBackCard.stood.harness true
    over (fun _ h => by cases h) (by kernel_rfl) (fun _ h => by cases h) codeBack_row_tie rfl ⟨rfl, rfl⟩ (by kernel_rfl) rfl
    (fun f fn hf hfn => by
      obtain rfl : f = 5 := Option.some.inj ((show Tryd.prog.funcNamed "ragpicker/ragpickerlaw13.CodeBack" = some 5 by kernel_rfl).symm.trans hf) |>.symm
      obtain rfl : fn = Tryd.f5 := (Option.some.inj (Tryd.func5.symm.trans hfn)).symm
      exact ⟨by kernel_rfl, fun j t ht => by
        rw [Tryd.params5] at ht
        have hm : t ∈ [22, 9] := by simpa using Array.mem_of_getElem? ht
        have hall : ([22, 9].all fun u => !Tryd.prog.wantsStandIn u) = true := by kernel_rfl
        exact (show Tryd.prog.wantsStandIn t = false by simpa using List.all_eq_true.1 hall t hm)⟩)
    (by kernel_rfl)
#print axioms proved
end Go.Proofs.YtggjkagcnhhkjaaDoor.CodeBack
