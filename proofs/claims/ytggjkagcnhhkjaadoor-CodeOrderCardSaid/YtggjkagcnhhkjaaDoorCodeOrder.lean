/-
  CodeOrder: a line of operations is written in their order: the last word behind what the others say; the operations read as they did.
  The card: the table internal/strconv.uint64pow10 (and two of math/bits) is tied to the program's text.
-/
import Derived.Test.YtggjkagcnhhkjaaDoorCdLaw
namespace Go.Proofs.YtggjkagcnhhkjaaDoor.CodeOrder
open Go.Proofs.YtggjkagcnhhkjaaDoor Go.Proofs.YtggjkagcnhhkjaaDoor.Rt Go.Proofs.YtggjkagcnhhkjaaDoor.Cd
open Go.ChangeShapes Go.WideShapes Go.ChangeAt Go.RowKit Go.Deep
set_option maxRecDepth 100000

theorem cap_in {H : Type} {enc : TypeId × Value → H} {w : World} {base : Nat} {spare : Nat → Bool} {held : Bool} {fuel : Nat} {a : Option Addr} {n c : Nat} {x : DataW H × List MemPlace} (h : DataW.trod enc Tryd.prog w base spare held fuel 22 [.slice a n c] = some x) : n ≤ c ∧ c ≤ maxLen := by
  rcases open_slice Tryd.underlying22 h with ⟨hcs, _⟩ | ⟨y, len, cap, m, k, D, Pl, hcs, _, hl, hm, hmm, _, hi⟩
  · simp only [List.cons.injEq, Value.slice.injEq, and_true] at hcs
    obtain ⟨_, rfl, rfl⟩ := hcs
    exact ⟨Nat.le_refl _, Nat.zero_le _⟩
  · simp only [List.cons.injEq, Value.slice.injEq, and_true] at hcs
    obtain ⟨_, rfl, rfl⟩ := hcs
    exact ⟨hl, hm⟩
theorem part {w : World} {B : Nat} {a : Option Addr} {m : List O4} {x : O4} (h : ORow w B a (m.length + 1) (gl (m ++ [x]))) : ORow w B a m.length (gl m) := fun hn => by
  obtain ⟨b, off, e, hb, hc⟩ := h (by omega)
  refine ⟨b, off, e, hb, fun i hi => ?_⟩
  have := hc i (by omega)
  rwa [gl_left hi] at this
theorem last {w : World} {a : Option Addr} {m : List O4} {x : O4} (h : ORow w w.heap.size a (m.length + 1) (gl (m ++ [x]))) : ∃ b off, a = some ⟨b, off, none⟩ ∧ OpAt w b (off + m.length * 4) x := by
  obtain ⟨b, off, e, hb, hc⟩ := h (by omega)
  have := hc m.length (by omega)
  rw [gl_last] at this
  exact ⟨b, off, e, hb, this⟩
set_option maxHeartbeats 2000000 in
theorem walk (a : Option Addr) (l : List O4) (c : Nat) (w : World) (hT : Tb w) (hr : ORow w w.heap.size a l.length (gl l)) (hn : l.length ≤ maxLen) (hc : l.length ≤ c ∧ c ≤ maxLen) : Calls Tryd.prog 8 #[.slice a l.length c] w fun e w' => e = .returned (.bool true) ∧ Below w.heap.size w w' := by
  rcases List.eq_nil_or_concat l with rfl | ⟨m, x, hl⟩
  · have HT := Lib.hid hT
    clear hT hr hn hc
    simp only [List.length_nil]
    go_enter Tryd.func8, Tryd.ntmps8
    go_wp2_with fail
    refine (awake_any w HT.out).mono ?_
    rintro e w1 ⟨rfl, hb1⟩
    have H1 := Lib.hid hb1
    clear hb1
    go_wp2
    go_ret
    exact ⟨rfl, H1.out⟩
  rw [List.concat_eq_append] at hl
  obtain ⟨k, hk⟩ : ∃ k, k = m.length := ⟨_, rfl⟩
  have hlk : l.length = k + 1 := by rw [hl, List.length_append, hk]; rfl
  rw [hlk] at hr hn hc ⊢
  have HL := Lib.hid (And.intro hl (And.intro hk hlk))
  have hrm : ORow w w.heap.size a k (gl m) := by rw [hl, hk] at hr; rw [hk]; exact part hr
  obtain ⟨b, off, rfl, hop⟩ := last (x := x) (m := m) (by rw [hl, hk] at hr; exact hr)
  rw [← hk] at hop
  have HT := Lib.hid hT
  have HX := Lib.hid hop
  have hr' := hr
  rw [← hlk] at hr
  have hn1 : l.length ≤ maxLen := by rw [hlk]; exact hn
  have hn2 : m.length ≤ maxLen := by rw [← hk]; omega
  have HW1 : Hid (∀ W, Below w.heap.size w W → Calls Tryd.prog 14 #[.slice (some ⟨b, off, none⟩) (k + 1) c] W (WrOut W l)) := Lib.hid (fun W h => by rw [← hlk]; exact write_any _ l c W hn1 (hT.next h) (hr.next h))
  have HW2 : Hid (∀ W, Below w.heap.size w W → Calls Tryd.prog 14 #[.slice (some ⟨b, off, none⟩) k c] W (WrOut W m)) := Lib.hid (fun W h => by rw [hk]; exact write_any _ m c W hn2 (hT.next h) (by rw [← hk]; exact hrm.next h))
  have HW3 : Hid (∀ W, Below w.heap.size w W → Calls Tryd.prog 10 #[.agg #[.int .i64 x.k, .int .i64 x.a, .int .i64 x.b, .int .i64 x.c]] W (WOut W x)) := Lib.hid (fun W h => word_any x W (hT.next h))
  clear hl hk hlk hrm hop hr' hr hn1 hn2 hT
  unfold maxLen at hn hc
  go_enter Tryd.func8, Tryd.ntmps8
  go_wp2_with fail
  refine (awake_any w HT.out).mono ?_
  rintro e w1 ⟨rfl, hb1⟩
  have H1 := Lib.hid hb1
  clear hb1
  by_cases hlen : k + 1 ≤ 200
  · have hz : ((k : Int) + 1 == 0) = false := by simp; omega
    have hzz : decide (200 < (k : Int) + 1) = false := decide_eq_false (by omega)
    by_cases hall : AllMay l
    · have hlm : l.length ≤ 200 := by rw [HL.out.2.2]; exact hlen
      have hxm : may x := hall x (by rw [HL.out.1]; simp)
      have hmm : AllMay m := fun y hy => hall y (by rw [HL.out.1]; simp [hy])
      have HS := Lib.hid (And.intro (write_yes hlm hall) (And.intro (word_yes hxm) (write_yes (l := m) (by rw [← HL.out.2.1]; omega) hmm)))
      clear hall hlm hxm hmm
      go_wp2_with fail
      refine (HW1.out _ H1.out).mono ?_
      rintro e w2 ⟨rfl, hb2⟩
      have H2 := Lib.hid (H1.out.trans (hb2.mono H1.out.size))
      clear hb2
      rw [HS.out.1.1, HS.out.1.2]
      obtain ⟨q0, q1, q2, q3, q4⟩ := HX.out.next H2.out
      go_wp2_with fail
      refine (HW3.out _ H2.out).mono ?_
      rintro e w3 ⟨rfl, hb3⟩
      have H3 := Lib.hid (H2.out.trans (hb3.mono H2.out.size))
      clear hb3 q0 q1 q2 q3 q4
      rw [HS.out.2.1.1, HS.out.2.1.2]
      go_wp2_with fail
      refine (HW2.out _ H3.out).mono ?_
      rintro e w4 ⟨rfl, hb4⟩
      have H4 := Lib.hid (H3.out.trans (hb4.mono H3.out.size))
      clear hb4
      rw [HS.out.2.2.1, HS.out.2.2.2]
      have hwl := write_len m
      rw [← HL.out.2.1] at hwl
      have hxl := word_len x
      by_cases h0 : k = 0
      · subst h0
        have hm : m = [] := List.length_eq_zero_iff.1 HL.out.2.1.symm
        have hadd : ∀ W, (Op.stringOp .add (bs (write m)) (bs (word x))).run Tryd.prog W = .ok (.string (bs (write l))) W := fun W => by
          have e : write l = write m ++ word x := by rw [HL.out.1, hm]; simp [write]
          rw [e]
          exact add_bs _ _ W (by omega) (by omega)
        generalize write m = s1 at hadd ⊢
        generalize write l = s2 at hadd ⊢
        generalize word x = s3 at hadd ⊢
        clear hwl hxl hm
        have heq : ((bs s2).toList == (bs s2).toList) = true := by rw [bs_eql]; exact decide_eq_true rfl
        go_wp2
        go_ret
        exact ⟨rfl, H4.out⟩
      · have hne : m ≠ [] := fun e => h0 (by rw [HL.out.2.1, e]; rfl)
        have hk0 : (0 : Int) < (k : Int) := by omega
        have hcm : ∀ W, (Op.stringOp .add (bs (write m)) { data := #[32] }).run Tryd.prog W = .ok (.string (bs (write m ++ [32]))) W := fun W => add_bs _ [32] W (by omega) (by simp)
        have hadd : ∀ W, (Op.stringOp .add (bs (write m ++ [32])) (bs (word x))).run Tryd.prog W = .ok (.string (bs (write l))) W := fun W => by
          rw [HL.out.1, write_snoc hne]
          exact add_bs _ _ W (by rw [List.length_append]; simp; omega) (by omega)
        clear hwl hxl hne
        generalize write m ++ [32] = s4 at hcm hadd ⊢
        generalize write m = s1 at hcm hadd ⊢
        generalize write l = s2 at hcm hadd ⊢
        generalize word x = s3 at hcm hadd ⊢
        have heq : ((bs s2).toList == (bs s2).toList) = true := by rw [bs_eql]; exact decide_eq_true rfl
        go_wp2
        go_ret
        exact ⟨rfl, H4.out⟩
    · have HS := Lib.hid (write_no (l := l) (by rw [HL.out.2.2]; exact hlen) hall)
      clear hall
      go_wp2_with fail
      refine (HW1.out _ H1.out).mono ?_
      rintro e w2 ⟨rfl, hb2⟩
      have H2 := Lib.hid (H1.out.trans (hb2.mono H1.out.size))
      clear hb2
      rw [HS.out.1, HS.out.2]
      have hem : (bs []).toList.isEmpty = true := bs_empty []
      go_wp2
      go_ret
      exact ⟨rfl, H2.out⟩
  · have hbig : 200 < k + 1 := by omega
    go_wp2
    go_ret
    exact ⟨rfl, H1.out⟩
-- the frame (cdframe.py)
set_option maxRecDepth 100000 in
theorem lifted (os : Os) (started : os.Started) (H : Type) (enc : TypeId × Value → H) :
    ReturnsInHanded {} Tryd.checked os 8 .any (fun w args => (Rows.codeOrderSpec.pre enc Tryd.prog Tryd.f8 [] false w args ∧ laidMetH Tryd.prog laidTabs w) ∧ sizedMet enc Tryd.prog Tryd.f8 (OpenSpec.ofChange Rows.codeOrderSpec) false w args)
      (Rows.codeOrderSpec.post enc Tryd.prog Tryd.f8 false true false false) := by
  refine returnsInHanded_of_change_and (C := Tryd.checked) (X := fun w _ => laidMetH Tryd.prog laidTabs w) (fun _ _ _ hh h => h.of_heap hh) Cd.own started (by kernel_rfl) Tryd.func8
    (ChangeSpec.witness_shaped (enc := enc) (C := Tryd.checked) (os := os) (X := fun w _ => laidMetH Tryd.prog laidTabs w) false (World.doorLaid Tryd.prog 400 os) #[.slice none 0 0] 8 rfl (World.shaped_of_RefB (by kernel_rfl) (by kernel_rfl)) (by kernel_rfl) (by kernel_rfl) (by kernel_rfl) (door_met os _)) ?_
  intro W base args ds gs before hval0 hW _ _ hL _
  have hval : ∀ (j : Nat) t v, Tryd.f8.params[j]? = some t → args[j]? = some v → Value.okWide Tryd.prog W .any base t v := hval0
  have hW' := hW
  obtain ⟨p, q, hA0, hV, rfl, hfz, hnd⟩ := hW
  have hA : DataW.TrodAll enc Tryd.prog W 0 (fun _ => true) true Tryd.f8.params.toList args.toList ds p := hA0
  rw [Tryd.params8] at hA hval
  obtain ⟨v0, vs0, d0, ds0, p0, q0, hargs, rfl, rfl, h0, r0⟩ := trodAll_cons hA
  obtain ⟨rfl, rfl, rfl⟩ := trodAll_nil r0
  obtain rfl : args = #[v0] := by cases args; simp_all
  obtain ⟨rfl, rfl⟩ := trodVars_none hV
  have k0 := h0
  have lt0 : ∀ x ∈ p0, x.block < W.heap.size := by obtain ⟨m, hm⟩ := k0; exact DataW.trod_lt m _ _ _ hm
  obtain ⟨a0, n0, c0, rfl⟩ := okWide_slice Tryd.underlying22 (hval 0 22 v0 rfl rfl)
  obtain ⟨fuel0, hf0⟩ := h0
  obtain ⟨a0', c0', l0, hcs0, w0, m0⟩ := ops_in hf0
  obtain ⟨rfl, rfl, rfl⟩ : a0 = a0' ∧ n0 = l0.length ∧ c0 = c0' := by simpa [Value.cells] using hcs0
  clear hA0 hval0
  refine (walk a0 l0 c0 W (of_laid hL) w0 m0 (cap_in hf0)).mono fun e W' ⟨he, bel⟩ => ?_
  subst he
  exact ⟨_, rfl, _, _, _, [], _, [], hW', trodAll_mk1 (shut_bool Tryd.underlying4 _), (trodAll_cons_mk (Below.trod Cd.laidOut (by kernel_rfl) (of_decide_eq_true (by kernel_rfl)) k0 bel lt0) trodAll_mk0), rfl, bel.frame _, fun h => by cases h⟩

theorem over : Rows.CodeOrderSaid :=
  OpenClaim.holds_of_wide 8 Tryd.f8 rfl rfl rfl rfl rfl rfl rfl ⟨rfl, rfl, rfl, rfl, rfl⟩ rfl rfl rfl rfl rfl (by kernel_rfl) Tryd.func8 (by kernel_rfl)
    (of_decide_eq_true (by kernel_rfl)) (by unfold Func.isWrapper; first | (rw [if_pos (by decide +kernel)]; kernel_rfl) | (rw [if_neg (by decide +kernel)]; exact ⟨rfl, rfl⟩))
    (fun os started H enc _ => lifted os started H enc)

/-- The statement: the card. -/
theorem proved : Rows.CodeOrderCardSaid :=
  Claim7.holds_tied_plain_at .later [] [.data, .data, .data] true Rows.codeOrderCard.stood.harness true
    over (fun _ h => by cases h) (by kernel_rfl) (fun _ h => by cases h) codeOrder_row_tie rfl ⟨rfl, rfl⟩ (by kernel_rfl) rfl
    (fun f fn hf hfn => by
      obtain rfl : f = 8 := Option.some.inj ((show Tryd.prog.funcNamed "ragpicker/ragpickerlaw13.CodeOrder" = some 8 by kernel_rfl).symm.trans hf) |>.symm
      obtain rfl : fn = Tryd.f8 := (Option.some.inj (Tryd.func8.symm.trans hfn)).symm
      exact ⟨by kernel_rfl, fun j t ht => by
        rw [Tryd.params8] at ht
        have hm : t ∈ [22] := by simpa using Array.mem_of_getElem? ht
        have hall : ([22].all fun u => !Tryd.prog.wantsStandIn u) = true := by kernel_rfl
        exact (show Tryd.prog.wantsStandIn t = false by simpa using List.all_eq_true.1 hall t hm)⟩)
    (by kernel_rfl)
#print axioms proved
end Go.Proofs.YtggjkagcnhhkjaaDoor.CodeOrder
