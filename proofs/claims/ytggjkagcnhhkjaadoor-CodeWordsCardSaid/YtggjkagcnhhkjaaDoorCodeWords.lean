/-
  CodeWords: whatever the operations, the package's May, Word and Write tell what the document's do; the operations read as they did.
  The card: the table internal/strconv.uint64pow10 (and two of math/bits) is tied to the program's text.
-/
import Derived.Test.YtggjkagcnhhkjaaDoorCdLaw
namespace Go.Proofs.YtggjkagcnhhkjaaDoor.CodeWords
open Go.Proofs.YtggjkagcnhhkjaaDoor Go.Proofs.YtggjkagcnhhkjaaDoor.Rt Go.Proofs.YtggjkagcnhhkjaaDoor.Cd
open Go.ChangeShapes Go.WideShapes Go.ChangeAt Go.RowKit
set_option maxRecDepth 100000

set_option maxHeartbeats 2000000 in
theorem walk (a : Option Addr) (l : List O4) (c : Nat) (w : World) (hT : Tb w) (hr : ORow w w.heap.size a l.length (gl l)) (hn : l.length ≤ maxLen) : Calls Tryd.prog 3 #[.slice a l.length c] w fun e w' => e = .returned (.bool true) ∧ Below w.heap.size w w' := by
  have HT := Lib.hid (And.intro hT (And.intro hr hn))
  unfold maxLen at hn
  clear hT hr
  go_enter Tryd.func3, Tryd.ntmps3
  go_wp2_with fail
  refine (awake_any w HT.out.1).mono ?_
  rintro e w1 ⟨rfl, hb1⟩
  have H1 := Lib.hid hb1
  clear hb1
  by_cases hlen : l.length ≤ 220
  · obtain ⟨n, hnn⟩ : ∃ n, n = l.length := ⟨_, rfl⟩
    have HN := Lib.hid hnn
    rw [← hnn] at hlen hn ⊢
    clear hnn
    go_wp2_with fail
    go_loopw [4] (fun i wr => ∃ j : Nat, j ≤ n ∧ i = .int .i64 j ∧ Hid (Below w.heap.size w wr)) (fun i _ => 221 - (intOf i).toNat)
    case atStart => exact ⟨0, Nat.zero_le _, rfl, H1⟩
    case round =>
      obtain ⟨j, hj, rfl, HB⟩ := hrel
      by_cases hlt : j < n
      · obtain ⟨b, off, rfl, hop⟩ := op_of HT.out.2.1 (by rw [← HN.out]; omega)
        have hx := hop j (by rw [← HN.out]; exact hlt)
        clear hop
        generalize l[j]'(by rw [← HN.out]; exact hlt) = x at hx
        have HX := Lib.hid hx
        have HW1 : Hid (∀ W, Tb W → Calls Tryd.prog 10 #[.agg #[.int .i64 x.k, .int .i64 x.a, .int .i64 x.b, .int .i64 x.c]] W (WOut W x)) := Lib.hid (fun W h => word_any x W h)
        have HW2 : Hid (∀ W, Calls Tryd.prog 11 #[.agg #[.int .i64 x.k, .int .i64 x.a, .int .i64 x.b, .int .i64 x.c]] W (WOut W x)) := Lib.hid (fun W => rword_any x W)
        have HM1 : Hid (∀ W, Calls Tryd.prog 12 #[.agg #[.int .i64 x.k, .int .i64 x.a, .int .i64 x.b, .int .i64 x.c]] W (MOut W x)) := Lib.hid (fun W => may_any x W)
        have HM2 : Hid (∀ W, Calls Tryd.prog 13 #[.agg #[.int .i64 x.k, .int .i64 x.a, .int .i64 x.b, .int .i64 x.c]] W (MOut W x)) := Lib.hid (fun W => rmay_any x W)
        clear hx
        obtain ⟨q0, q1, q2, q3, q4⟩ := HX.out.next HB.out
        go_wp2_with fail
        refine (HW1.out _ (HT.out.1.next HB.out)).mono ?_
        rintro e w2 ⟨rfl, hb2⟩
        have H2 := Lib.hid (HB.out.trans (hb2.mono HB.out.size))
        clear hb2 q0 q1 q2 q3 q4 HW1
        obtain ⟨q0, q1, q2, q3, q4⟩ := HX.out.next H2.out
        go_wp2_with fail
        refine (HW2.out _).mono ?_
        rintro e w3 ⟨rfl, hb3⟩
        have H3 := Lib.hid (H2.out.trans (hb3.mono H2.out.size))
        clear hb3 q0 q1 q2 q3 q4 HW2
        have HS := Lib.hid (And.intro H3.out True.intro)
        obtain ⟨q0, q1, q2, q3, q4⟩ := HX.out.next H3.out
        generalize wordS x = s
        generalize wordE x = er
        go_wp2_with fail
        go_region_held3 (fun W => (Below w.heap.size w W ∧ True) ∧ b < W.heap.size ∧ W.cell? ⟨b, off + j * 4, none⟩ = some (.int .i64 x.k) ∧ W.cell? ⟨b, off + j * 4 + 1, none⟩ = some (.int .i64 x.a) ∧ W.cell? ⟨b, off + j * 4 + 2, none⟩ = some (.int .i64 x.b) ∧ W.cell? ⟨b, off + j * 4 + 3, none⟩ = some (.int .i64 x.c)) (first
          | with_reducible exact s_step HX.out (‹(Below w.heap.size w _ ∧ True) ∧ _›).1 ‹Below _ _ _›
          | with_reducible exact s_step HX.out HS.out (Below.refl _ _)
          | exact s_step HX.out HS.out (below_draws (Below.refl _ _) 1)) (first
          | ((go_at_call 12; refine (HM1.out _).mono ?_; rintro e x1 ⟨rfl, hb1⟩))
          | ((go_at_call 13; refine (HM2.out _).mono ?_; rintro e x2 ⟨rfl, hb2⟩)))
        have H4 := Lib.hid (‹(Below w.heap.size w x2 ∧ True) ∧ _›).1.1
        generalize mayB x = t
        clear hb1 hb2 q0 q1 q2 q3 q4 HS
        go_wp2
        go_roundw
        case rel => exact ⟨j + 1, by omega, by rfl, H4⟩
        case measure => simp [intOf]; omega
      · obtain rfl : j = n := by omega
        have hn2 : j ≤ maxLen := by unfold maxLen; omega
        have HO : Hid (∀ W, Below w.heap.size w W → ORow W W.heap.size a l.length (gl l)) := Lib.hid (fun W h => HT.out.2.1.next h)
        have HC1 : Hid (∀ W, Below w.heap.size w W → Calls Tryd.prog 14 #[.slice a j c] W (WrOut W l)) := Lib.hid (fun W h => by rw [HN.out]; exact write_any a l c W HT.out.2.2 (HT.out.1.next h) (HO.out W h))
        have HC2 : Hid (∀ W, Below w.heap.size w W → Calls Tryd.prog 15 #[.slice a j c] W (WrOut W l)) := Lib.hid (fun W h => by rw [HN.out]; exact rwrite_any a l c W HT.out.2.2 (HO.out W h))
        go_wp2_with fail
        refine (HC1.out _ HB.out).mono ?_
        rintro e w2 ⟨rfl, hb2⟩
        have H2 := Lib.hid (HB.out.trans (hb2.mono HB.out.size))
        clear hb2
        go_wp2_with fail
        refine (HC2.out _ H2.out).mono ?_
        rintro e w3 ⟨rfl, hb3⟩
        have H3 := Lib.hid (H2.out.trans (hb3.mono H2.out.size))
        clear hb3
        generalize writeS l = s
        generalize writeE l = er
        go_wp2
        go_ret
        exact ⟨rfl, H3.out⟩
  · have hbig : 220 < l.length := by omega
    go_wp2
    go_ret
    exact ⟨rfl, H1.out⟩
-- the frame (cdframe.py)
set_option maxRecDepth 100000 in
theorem lifted (os : Os) (started : os.Started) (H : Type) (enc : TypeId × Value → H) :
    ReturnsInHanded {} Tryd.checked os 3 .any (fun w args => (Rows.codeWordsSpec.pre enc Tryd.prog Tryd.f3 [] false w args ∧ laidMetH Tryd.prog laidTabs w) ∧ sizedMet enc Tryd.prog Tryd.f3 (OpenSpec.ofChange Rows.codeWordsSpec) false w args)
      (Rows.codeWordsSpec.post enc Tryd.prog Tryd.f3 false true false false) := by
  refine returnsInHanded_of_change_and (C := Tryd.checked) (X := fun w _ => laidMetH Tryd.prog laidTabs w) (fun _ _ _ hh h => h.of_heap hh) Cd.own started (by kernel_rfl) Tryd.func3
    (ChangeSpec.witness_shaped (enc := enc) (C := Tryd.checked) (os := os) (X := fun w _ => laidMetH Tryd.prog laidTabs w) false (World.doorLaid Tryd.prog 400 os) #[.slice none 0 0] 8 rfl (World.shaped_of_RefB (by kernel_rfl) (by kernel_rfl)) (by kernel_rfl) (by kernel_rfl) (by kernel_rfl) (door_met os _)) ?_
  intro W base args ds gs before hval0 hW _ _ hL _
  have hval : ∀ (j : Nat) t v, Tryd.f3.params[j]? = some t → args[j]? = some v → Value.okWide Tryd.prog W .any base t v := hval0
  have hW' := hW
  obtain ⟨p, q, hA0, hV, rfl, hfz, hnd⟩ := hW
  have hA : DataW.TrodAll enc Tryd.prog W 0 (fun _ => true) true Tryd.f3.params.toList args.toList ds p := hA0
  rw [Tryd.params3] at hA hval
  obtain ⟨v0, vs0, d0, ds0, p0, q0, hargs, rfl, rfl, h0, r0⟩ := trodAll_cons hA
  obtain ⟨rfl, rfl, rfl⟩ := trodAll_nil r0
  obtain rfl : args = #[v0] := by cases args; simp_all
  obtain ⟨rfl, rfl⟩ := trodVars_none hV
  have k0 := h0
  have lt0 : ∀ x ∈ p0, x.block < W.heap.size := by obtain ⟨m, hm⟩ := k0; exact DataW.trod_lt m _ _ _ hm
  obtain ⟨a0, n0, c0, rfl⟩ := okWide_slice Tryd.underlying22 (hval 0 22 v0 rfl rfl)
  obtain ⟨fuel0, hf0⟩ := h0
  obtain ⟨a0', c0', l0, hcs0, w0, m0⟩ := ops_in hf0
  obtain ⟨rfl, rfl, rfl⟩ : a0 = a0' ∧ n0 = l0.length ∧ c0 = c0' := by simpa [Value.cells] using hcs0
  clear hA0 hval0
  refine (walk a0 l0 c0 W (of_laid hL) w0 m0).mono fun e W' ⟨he, bel⟩ => ?_
  subst he
  exact ⟨_, rfl, _, _, _, [], _, [], hW', trodAll_mk1 (shut_bool Tryd.underlying4 _), (trodAll_cons_mk (Below.trod Cd.laidOut (by kernel_rfl) (of_decide_eq_true (by kernel_rfl)) k0 bel lt0) trodAll_mk0), rfl, bel.frame _, fun h => by cases h⟩

theorem over : Rows.CodeWordsSaid :=
  OpenClaim.holds_of_wide 3 Tryd.f3 rfl rfl rfl rfl rfl rfl rfl ⟨rfl, rfl, rfl, rfl, rfl⟩ rfl rfl rfl rfl rfl (by kernel_rfl) Tryd.func3 (by kernel_rfl)
    (of_decide_eq_true (by kernel_rfl)) (by unfold Func.isWrapper; first | (rw [if_pos (by decide +kernel)]; kernel_rfl) | (rw [if_neg (by decide +kernel)]; exact ⟨rfl, rfl⟩))
    (fun os started H enc _ => lifted os started H enc)

/-- The statement: the card. -/
theorem proved : Rows.CodeWordsCardSaid :=
  Claim7.holds_tied_plain_at .later [] [.data, .data, .data] true Rows.codeWordsCard.stood.harness true
    over (fun _ h => by cases h) (by kernel_rfl) (fun _ h => by cases h) codeWords_row_tie rfl ⟨rfl, rfl⟩ (by kernel_rfl) rfl
    (fun f fn hf hfn => by
      obtain rfl : f = 3 := Option.some.inj ((show Tryd.prog.funcNamed "ragpicker/ragpickerlaw13.CodeWords" = some 3 by kernel_rfl).symm.trans hf) |>.symm
      obtain rfl : fn = Tryd.f3 := (Option.some.inj (Tryd.func3.symm.trans hfn)).symm
      exact ⟨by kernel_rfl, fun j t ht => by
        rw [Tryd.params3] at ht
        have hm : t ∈ [22] := by simpa using Array.mem_of_getElem? ht
        have hall : ([22].all fun u => !Tryd.prog.wantsStandIn u) = true := by kernel_rfl
        exact (show Tryd.prog.wantsStandIn t = false by simpa using List.all_eq_true.1 hall t hm)⟩)
    (by kernel_rfl)
#print axioms proved
end Go.Proofs.YtggjkagcnhhkjaaDoor.CodeWords
