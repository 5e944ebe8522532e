/-
  CodeEach: a word for each operation that may be, no word for another; the words are parsed as the operations, and two are the same where the operations are; the operations read as they did.
  The card: the table internal/strconv.uint64pow10 (and two of math/bits) is tied to the program's text.
-/
import Derived.Test.YtggjkagcnhhkjaaDoorCdLaw
import Derived.BigQuiet
namespace Go.Proofs.YtggjkagcnhhkjaaDoor.CodeEach
open Go.Proofs.YtggjkagcnhhkjaaDoor Go.Proofs.YtggjkagcnhhkjaaDoor.Rt Go.Proofs.YtggjkagcnhhkjaaDoor.Cd
open Go.ChangeShapes Go.WideShapes Go.ChangeAt Go.RowKit
set_option maxRecDepth 100000

theorem eql_same (k a b c : Int) (w : World) : (binOp .eql 28 (.agg #[.int .i64 k, .int .i64 a, .int .i64 b, .int .i64 c]) (.agg #[.int .i64 k, .int .i64 a, .int .i64 b, .int .i64 c])).run Tryd.prog w = .ok (.bool true) w := by
  go_simp
theorem eql_other (k a b c k' a' b' c' : Int) (h : ¬ (k = k' ∧ a = a' ∧ b = b' ∧ c = c')) (w : World) : (binOp .eql 28 (.agg #[.int .i64 k, .int .i64 a, .int .i64 b, .int .i64 c]) (.agg #[.int .i64 k', .int .i64 a', .int .i64 b', .int .i64 c'])).run Tryd.prog w = .ok (.bool false) w := by
  by_cases h0 : k = k'
  · by_cases h1 : a = a'
    · by_cases h2 : b = b'
      · by_cases h3 : c = c'
        · exact absurd ⟨h0, h1, h2, h3⟩ h
        · clear h; go_simp
      · clear h; go_simp
    · clear h; go_simp
  · clear h; go_simp
theorem one_word {x : O4} (h : may x) : Cd.Good [x] (word x) := ⟨fun y hy => by rw [List.mem_singleton.1 hy]; exact h, by simp, rfl⟩
/-- Two words are the same where the operations are. -/
theorem word_eq {x y : O4} (h : may x) : ((wordS y).toList == (bs (word x)).toList) = decide (y = x) := by
  by_cases hy : may y
  · rw [(word_yes hy).1, bs_eql]
    by_cases e : y = x
    · rw [e]
      simp
    · rw [decide_eq_false e]
      exact decide_eq_false fun h' => e (word_inj hy h h')
  · rw [(word_no hy).1, bs_eql, decide_eq_false (show ¬ y = x from fun e => hy (by rw [e]; exact h))]
    exact decide_eq_false fun h' => word_ne x h'.symm

set_option maxHeartbeats 4000000 in
theorem walk (a : Option Addr) (l : List O4) (c : Nat) (w : World) (hT : Tb w) (hr : ORow w w.heap.size a l.length (gl l)) (hn : l.length ≤ maxLen) : Calls Tryd.prog 7 #[.slice a l.length c] w fun e w' => e = .returned (.bool true) ∧ Below w.heap.size w w' := by
  have HT := Lib.hid (And.intro hT (And.intro hr hn))
  unfold maxLen at hn
  clear hT hr
  go_enter Tryd.func7, Tryd.ntmps7
  go_wp2_with fail
  refine (awake_any w HT.out.1).mono ?_
  rintro e w1 ⟨rfl, hb1⟩
  have H1 := Lib.hid hb1
  clear hb1
  by_cases hlen : l.length ≤ 200
  · obtain ⟨n, hnn⟩ : ∃ n, n = l.length := ⟨_, rfl⟩
    have HN := Lib.hid hnn
    rw [← hnn] at hlen hn ⊢
    clear hnn
    go_wp2_with fail
    go_loopw [4] (fun i wr => ∃ j : Nat, j ≤ n ∧ i = .int .i64 j ∧ Hid (Below w.heap.size w wr)) (fun i _ => 201 - (intOf i).toNat)
    case atStart => exact ⟨0, Nat.zero_le _, rfl, H1⟩
    case round =>
      obtain ⟨j, hj, rfl, HB⟩ := hrel
      by_cases hlt : j < n
      · obtain ⟨b, off, rfl, hop⟩ := op_of HT.out.2.1 (by rw [← HN.out]; omega)
        have HOP := Lib.hid hop
        have hx := hop j (by rw [← HN.out]; exact hlt)
        clear hop
        generalize l[j]'(by rw [← HN.out]; exact hlt) = x at hx
        have HX := Lib.hid hx
        have HW1 : Hid (∀ W, Tb W → Calls Tryd.prog 10 #[.agg #[.int .i64 x.k, .int .i64 x.a, .int .i64 x.b, .int .i64 x.c]] W (WOut W x)) := Lib.hid (fun W h => word_any x W h)
        have HM1 : Hid (∀ W, Calls Tryd.prog 12 #[.agg #[.int .i64 x.k, .int .i64 x.a, .int .i64 x.b, .int .i64 x.c]] W (MOut W x)) := Lib.hid (fun W => may_any x W)
        clear hx
        obtain ⟨q0, q1, q2, q3, q4⟩ := HX.out.next HB.out
        go_wp2_with fail
        refine (HW1.out _ (HT.out.1.next HB.out)).mono ?_
        rintro e w2 ⟨rfl, hb2⟩
        have H2 := Lib.hid (HB.out.trans (hb2.mono HB.out.size))
        clear hb2 q0 q1 q2 q3 q4
        by_cases hmy : may x
        · have HS := Lib.hid (And.intro (word_yes hmy) (And.intro hmy (one_word hmy)))
          clear hmy
          rw [HS.out.1.1, HS.out.1.2]
          have hwl := word_len x
          have HP : Hid (∀ W, Below w.heap.size w W → Calls Tryd.prog 16 #[.string (bs (word x))] W (ParOut W (word x))) := Lib.hid (fun W h => parse_any _ W (by omega) (HT.out.1.next h))
          obtain ⟨wd, hwd⟩ : ∃ wd, wd = word x := ⟨_, rfl⟩
          have HWD := Lib.hid hwd
          rw [← hwd] at HP ⊢
          clear hwd hwl
          go_wp2_with fail
          refine (HP.out _ H2.out).mono ?_
          rintro e w3 ⟨hb3, (⟨m, v, hg, rfl, hrd⟩ | ⟨_, hno⟩)⟩
          · obtain rfl : [x] = m := by rw [HWD.out] at hg; exact HS.out.2.2.one hg
            obtain ⟨r1, r2, _, _, _⟩ := hrd
            have H3 := Lib.hid (H2.out.trans (hb3.mono H2.out.size))
            rw [r1] at r2 ⊢
            obtain ⟨b2, off2, hv, hop2⟩ := op_of (l := [x]) r2 (by simp)
            have hx2 := hop2 0 (by simp)
            rw [hv]
            obtain ⟨q0, q1, q2, q3, q4⟩ := HX.out.next H3.out
            obtain ⟨p0, p1, p2, p3, p4⟩ := hx2
            have hsame := fun w => op_same x.k x.a x.b x.c w
            simp only [Nat.zero_mul, Nat.add_zero, List.getElem_cons_zero] at p0 p1 p2 p3 p4
            clear hb3 hg r2 hop2 hv
            simp only [List.length_singleton]
            go_wp2
            go_quiet (fail)
            have H4 := Lib.hid (below_draws H3.out nq)
            clear q0 q1 q2 q3 q4 p0 p1 p2 p3 p4 hsame
            go_wp2
            go_loopw [9] (fun i W => ∃ k : Nat, k ≤ j ∧ i = .int .i64 k ∧ Hid (Below w.heap.size w W)) (fun i _ => 201 - (intOf i).toNat)
            case atStart => exact ⟨0, Nat.zero_le _, rfl, H4⟩
            case round =>
              obtain ⟨k, hk, rfl, HB2⟩ := hrel
              by_cases hlt2 : k < j
              · have hy := HOP.out k (by rw [← HN.out]; omega)
                generalize l[k]'(by rw [← HN.out]; omega) = y at hy
                have HY := Lib.hid hy
                have HWY : Hid (∀ W, Tb W → Calls Tryd.prog 10 #[.agg #[.int .i64 y.k, .int .i64 y.a, .int .i64 y.b, .int .i64 y.c]] W (WOut W y)) := Lib.hid (fun W h => word_any y W h)
                clear hy
                obtain ⟨q0, q1, q2, q3, q4⟩ := HY.out.next HB2.out
                go_wp2_with fail
                refine (HWY.out _ (HT.out.1.next HB2.out)).mono ?_
                rintro e w5 ⟨rfl, hb5⟩
                have H5 := Lib.hid (HB2.out.trans (hb5.mono HB2.out.size))
                clear hb5 q0 q1 q2 q3 q4
                have hweq : ((wordS y).toList == (bs wd).toList) = decide (y = x) := by rw [HWD.out]; exact word_eq HS.out.2.1
                obtain ⟨q0, q1, q2, q3, q4⟩ := HY.out.next H5.out
                obtain ⟨p0, p1, p2, p3, p4⟩ := HX.out.next H5.out
                by_cases he : y = x
                · rw [decide_eq_true he] at hweq
                  rw [he] at q1 q2 q3 q4
                  have hsame := fun w => eql_same x.k x.a x.b x.c w
                  clear he
                  generalize wordS y = s at hweq ⊢
                  generalize wordE y = er
                  go_wp2
                  go_quiet (fail)
                  have H6 := Lib.hid (below_draws H5.out nq)
                  clear q0 q1 q2 q3 q4 p0 p1 p2 p3 p4 hsame hweq
                  go_wp2
                  go_roundw
                  case rel => exact ⟨k + 1, by omega, by rfl, H6⟩
                  case measure => simp [intOf]; omega
                · rw [decide_eq_false he] at hweq
                  have hne : ¬ (y.k = x.k ∧ y.a = x.a ∧ y.b = x.b ∧ y.c = x.c) := fun h => he (o4_iff.1 h)
                  have hother := fun w => eql_other _ _ _ _ _ _ _ _ hne w
                  clear he hne
                  generalize wordS y = s at hweq ⊢
                  generalize wordE y = er
                  go_wp2
                  go_quiet (fail)
                  have H6 := Lib.hid (below_draws H5.out nq)
                  clear q0 q1 q2 q3 q4 p0 p1 p2 p3 p4 hother hweq
                  go_wp2
                  go_roundw
                  case rel => exact ⟨k + 1, by omega, by rfl, H6⟩
                  case measure => simp [intOf]; omega
              · obtain rfl : k = j := by omega
                go_wp2
                go_roundw
                case rel => exact ⟨k + 1, by omega, by rfl, HB2⟩
                case measure => simp [intOf]; omega
          · exact absurd HS.out.2.2 (by rw [← HWD.out]; exact hno _)
        · have HS := Lib.hid (And.intro (word_no hmy) (mayB_no hmy))
          clear hmy
          rw [HS.out.1.1, HS.out.1.2]
          obtain ⟨q0, q1, q2, q3, q4⟩ := HX.out.next H2.out
          have hem : (bs []).toList.isEmpty = true := bs_empty []
          go_wp2_with fail
          refine (HM1.out _).mono ?_
          rintro e w3 ⟨rfl, hb3⟩
          rw [HS.out.2]
          have H3 := Lib.hid (H2.out.trans (hb3.mono H2.out.size))
          clear hb3
          go_wp2
          go_ret
          exact ⟨rfl, H3.out⟩
      · obtain rfl : j = n := by omega
        go_wp2
        go_ret
        exact ⟨rfl, HB.out⟩
  · have hbig : 200 < l.length := by omega
    go_wp2
    go_ret
    exact ⟨rfl, H1.out⟩
-- the frame (cdframe.py)
set_option maxRecDepth 100000 in
theorem lifted (os : Os) (started : os.Started) (H : Type) (enc : TypeId × Value → H) :
    ReturnsInHanded {} Tryd.checked os 7 .any (fun w args => (Rows.codeEachSpec.pre enc Tryd.prog Tryd.f7 [] false w args ∧ laidMetH Tryd.prog laidTabs w) ∧ sizedMet enc Tryd.prog Tryd.f7 (OpenSpec.ofChange Rows.codeEachSpec) false w args)
      (Rows.codeEachSpec.post enc Tryd.prog Tryd.f7 false true false false) := by
  refine returnsInHanded_of_change_and (C := Tryd.checked) (X := fun w _ => laidMetH Tryd.prog laidTabs w) (fun _ _ _ hh h => h.of_heap hh) Cd.own started (by kernel_rfl) Tryd.func7
    (ChangeSpec.witness_shaped (enc := enc) (C := Tryd.checked) (os := os) (X := fun w _ => laidMetH Tryd.prog laidTabs w) false (World.doorLaid Tryd.prog 400 os) #[.slice none 0 0] 8 rfl (World.shaped_of_RefB (by kernel_rfl) (by kernel_rfl)) (by kernel_rfl) (by kernel_rfl) (by kernel_rfl) (door_met os _)) ?_
  intro W base args ds gs before hval0 hW _ _ hL _
  have hval : ∀ (j : Nat) t v, Tryd.f7.params[j]? = some t → args[j]? = some v → Value.okWide Tryd.prog W .any base t v := hval0
  have hW' := hW
  obtain ⟨p, q, hA0, hV, rfl, hfz, hnd⟩ := hW
  have hA : DataW.TrodAll enc Tryd.prog W 0 (fun _ => true) true Tryd.f7.params.toList args.toList ds p := hA0
  rw [Tryd.params7] at hA hval
  obtain ⟨v0, vs0, d0, ds0, p0, q0, hargs, rfl, rfl, h0, r0⟩ := trodAll_cons hA
  obtain ⟨rfl, rfl, rfl⟩ := trodAll_nil r0
  obtain rfl : args = #[v0] := by cases args; simp_all
  obtain ⟨rfl, rfl⟩ := trodVars_none hV
  have k0 := h0
  have lt0 : ∀ x ∈ p0, x.block < W.heap.size := by obtain ⟨m, hm⟩ := k0; exact DataW.trod_lt m _ _ _ hm
  obtain ⟨a0, n0, c0, rfl⟩ := okWide_slice Tryd.underlying22 (hval 0 22 v0 rfl rfl)
  obtain ⟨fuel0, hf0⟩ := h0
  obtain ⟨a0', c0', l0, hcs0, w0, m0⟩ := ops_in hf0
  obtain ⟨rfl, rfl, rfl⟩ : a0 = a0' ∧ n0 = l0.length ∧ c0 = c0' := by simpa [Value.cells] using hcs0
  clear hA0 hval0
  refine (walk a0 l0 c0 W (of_laid hL) w0 m0).mono fun e W' ⟨he, bel⟩ => ?_
  subst he
  exact ⟨_, rfl, _, _, _, [], _, [], hW', trodAll_mk1 (shut_bool Tryd.underlying4 _), (trodAll_cons_mk (Below.trod Cd.laidOut (by kernel_rfl) (of_decide_eq_true (by kernel_rfl)) k0 bel lt0) trodAll_mk0), rfl, bel.frame _, fun h => by cases h⟩

theorem over : Rows.CodeEachSaid :=
  OpenClaim.holds_of_wide 7 Tryd.f7 rfl rfl rfl rfl rfl rfl rfl ⟨rfl, rfl, rfl, rfl, rfl⟩ rfl rfl rfl rfl rfl (by kernel_rfl) Tryd.func7 (by kernel_rfl)
    (of_decide_eq_true (by kernel_rfl)) (by unfold Func.isWrapper; first | (rw [if_pos (by decide +kernel)]; kernel_rfl) | (rw [if_neg (by decide +kernel)]; exact ⟨rfl, rfl⟩))
    (fun os started H enc _ => lifted os started H enc)

/-- The statement: the card. -/
theorem proved : Rows.CodeEachCardSaid :=
  Claim7.holds_tied_plain_at .later [] [.data, .data, .data] true Rows.codeEachCard.stood.harness true
    over (fun _ h => by cases h) (by kernel_rfl) (fun _ h => by cases h) codeEach_row_tie rfl ⟨rfl, rfl⟩ (by kernel_rfl) rfl
    (fun f fn hf hfn => by
      obtain rfl : f = 7 := Option.some.inj ((show Tryd.prog.funcNamed "ragpicker/ragpickerlaw13.CodeEach" = some 7 by kernel_rfl).symm.trans hf) |>.symm
      obtain rfl : fn = Tryd.f7 := (Option.some.inj (Tryd.func7.symm.trans hfn)).symm
      exact ⟨by kernel_rfl, fun j t ht => by
        rw [Tryd.params7] at ht
        have hm : t ∈ [22] := by simpa using Array.mem_of_getElem? ht
        have hall : ([22].all fun u => !Tryd.prog.wantsStandIn u) = true := by kernel_rfl
        exact (show Tryd.prog.wantsStandIn t = false by simpa using List.all_eq_true.1 hall t hm)⟩)
    (by kernel_rfl)
#print axioms proved
end Go.Proofs.YtggjkagcnhhkjaaDoor.CodeEach
