/-
  CodeJoins: two texts with a blank between them are parsed as the two lists, one behind the other; both read as they did.
  The card: the table internal/strconv.uint64pow10 (and two of math/bits) is tied to the program's text.
-/
import Derived.Test.YtggjkagcnhhkjaaDoorCdLaw
import Derived.Test.YtggjkagcnhhkjaaDoorCdCat
namespace Go.Proofs.YtggjkagcnhhkjaaDoor.CodeJoins
open Go.Proofs.YtggjkagcnhhkjaaDoor Go.Proofs.YtggjkagcnhhkjaaDoor.Rt Go.Proofs.YtggjkagcnhhkjaaDoor.Cd
open Go.ChangeShapes Go.WideShapes Go.ChangeAt Go.RowKit
set_option maxRecDepth 100000

/-- What is written so is written so in two parts. -/
theorem parts {l : List O4} {A B : List UInt8} (h : Cd.Good l (A ++ 32 :: B)) : ∃ l1 l2, l = l1 ++ l2 ∧ Cd.Good l1 A ∧ Cd.Good l2 B := by
  obtain ⟨l1, l2, rfl, h1, h2, _, _⟩ := write_split h.1 h.2.2
  have hl := h.2.1
  rw [List.length_append] at hl
  exact ⟨l1, l2, rfl, ⟨fun x hx => h.1 x (List.mem_append_left _ hx), by omega, h1⟩, ⟨fun x hx => h.1 x (List.mem_append_right _ hx), by omega, h2⟩⟩
theorem no_left {A B : List UInt8} (h : ∀ l, ¬ Cd.Good l A) : ∀ l, ¬ Cd.Good l (A ++ 32 :: B) := fun l hl => by
  obtain ⟨l1, l2, _, h1, _⟩ := parts hl
  exact h l1 h1
theorem no_right {A B : List UInt8} (h : ∀ l, ¬ Cd.Good l B) : ∀ l, ¬ Cd.Good l (A ++ 32 :: B) := fun l hl => by
  obtain ⟨l1, l2, _, _, h2⟩ := parts hl
  exact h l2 h2
theorem no_long {l m : List O4} {A B : List UInt8} (hl : Cd.Good l A) (hm : Cd.Good m B) (hn : 200 < l.length + m.length) : ∀ k, ¬ Cd.Good k (A ++ 32 :: B) := fun k hk => by
  obtain ⟨l1, l2, e, h1, h2⟩ := parts hk
  have e1 := hl.one h1
  have e2 := hm.one h2
  have := hk.2.1
  rw [e, ← e1, ← e2, List.length_append] at this
  omega
theorem whole {l m : List O4} {A B : List UInt8} (hl : Cd.Good l A) (hm : Cd.Good m B) (hA : A ≠ []) (hB : B ≠ []) (hn : l.length + m.length ≤ 200) : Cd.Good (l ++ m) (A ++ 32 :: B) := by
  refine ⟨fun x hx => (List.mem_append.1 hx).elim (hl.1 x) (hm.1 x), by rw [List.length_append]; exact hn, ?_⟩
  rw [write_append (good_ne hl hA) (good_ne hm hB), hl.2.2, hm.2.2]

set_option maxHeartbeats 4000000 in
theorem walk (A B : List UInt8) (w : World) (hT : Tb w) (hA : A.length ≤ maxLen) (hB : B.length ≤ maxLen) : Calls Tryd.prog 6 #[.string (bs A), .string (bs B)] w fun e w' => e = .returned (.bool true) ∧ Below w.heap.size w w' := by
  have HT := Lib.hid hT
  have hzA := bs_size A
  have hzB := bs_size B
  unfold maxLen at hA hB
  clear hT
  go_enter Tryd.func6, Tryd.ntmps6
  go_wp2_with fail
  refine (awake_any w HT.out).mono ?_
  rintro e w1 ⟨rfl, hb1⟩
  have H1 := Lib.hid hb1
  clear hb1
  by_cases hlA : A.length ≤ 1500
  · by_cases hlB : B.length ≤ 1500
    · by_cases heA : A = []
      · have hem : (bs A).toList.isEmpty = true := by rw [bs_empty]; exact decide_eq_true heA
        clear heA
        go_wp2
        go_ret
        exact ⟨rfl, H1.out⟩
      · by_cases heB : B = []
        · have hem : (bs A).toList.isEmpty = false := by rw [bs_empty]; exact decide_eq_false heA
          have hem2 : (bs B).toList.isEmpty = true := by rw [bs_empty]; exact decide_eq_true heB
          clear heA heB
          go_wp2
          go_ret
          exact ⟨rfl, H1.out⟩
        · have hem : (bs A).toList.isEmpty = false := by rw [bs_empty]; exact decide_eq_false heA
          have hem2 : (bs B).toList.isEmpty = false := by rw [bs_empty]; exact decide_eq_false heB
          have hadd1 : ∀ W, (Op.stringOp .add (bs A) { data := #[32] }).run Tryd.prog W = .ok (.string (bs (A ++ [32]))) W := fun W => add_bs _ [32] W (by omega) (by simp)
          have hadd2 : ∀ W, (Op.stringOp .add (bs (A ++ [32])) (bs B)).run Tryd.prog W = .ok (.string (bs (A ++ 32 :: B))) W := fun W => by
            have e : A ++ 32 :: B = (A ++ [32]) ++ B := by simp
            rw [e]
            exact add_bs _ _ W (by simp; omega) (by omega)
          have hlC : (A ++ 32 :: B).length ≤ 100000 := by rw [List.length_append, List.length_cons]; omega
          have HE := Lib.hid (And.intro heA heB)
          have HP : Hid (∀ W, Below w.heap.size w W → Calls Tryd.prog 16 #[.string (bs (A ++ 32 :: B))] W (ParOut W (A ++ 32 :: B))) := Lib.hid (fun W h => parse_any _ W hlC (HT.out.next h))
          clear heA heB hlC
          go_wp2_with fail
          refine (parse_any A w1 (by omega) (HT.out.next H1.out)).mono ?_
          rintro e w2 ⟨hb2, (⟨l, v, hg, rfl, hrd⟩ | ⟨rfl, hno⟩)⟩
          · obtain ⟨r1, r2, _, _, _⟩ := hrd
            have H2 := Lib.hid (And.intro (H1.out.trans (hb2.mono H1.out.size)) (And.intro hg r2))
            have hml : l.length ≤ 200 := hg.2.1
            clear hb2 r2 hg
            rw [r1] at H2 ⊢
            go_wp2_with fail
            refine (parse_any B w2 (by omega) (HT.out.next H2.out.1)).mono ?_
            rintro e w3 ⟨hb3, (⟨m, u, hg3, rfl, hrd3⟩ | ⟨rfl, hno3⟩)⟩
            · obtain ⟨s1, s2, _, _, _⟩ := hrd3
              have H3 := Lib.hid (And.intro (H2.out.1.trans (hb3.mono H2.out.1.size)) (And.intro (H2.out.2.2.next hb3) (And.intro hg3 s2)))
              have hmm : m.length ≤ 200 := hg3.2.1
              clear hb3 s2 hg3
              rw [s1] at H3 ⊢
              by_cases hsum : l.length + m.length ≤ 200
              · have HG := Lib.hid (whole H2.out.2.1 H3.out.2.2.1 HE.out.1 HE.out.2 hsum)
                go_wp2_with fail
                refine (HP.out w3 H3.out.1).mono ?_
                rintro e w4 ⟨hb4, (⟨k, z, hg4, rfl, hrd4⟩ | ⟨_, hno4⟩)⟩
                · obtain rfl : l ++ m = k := HG.out.one hg4
                  obtain ⟨t1, t2, _, _, _⟩ := hrd4
                  have H4 := Lib.hid (And.intro (H3.out.1.trans (hb4.mono H3.out.1.size)) (And.intro t2 (And.intro (H3.out.2.1.next hb4) (H3.out.2.2.2.next hb4))))
                  clear hb4 t2 hg4
                  rw [t1] at H4 ⊢
                  have p1 : 0 < l.length := List.length_pos_iff.2 (good_ne H2.out.2.1 HE.out.1)
                  have p2 : 0 < m.length := List.length_pos_iff.2 (good_ne H3.out.2.2.1 HE.out.2)
                  have p3 : 0 + l.length ≤ 400000 := by omega
                  have p4 : 0 + l.length + m.length ≤ 400000 := by omega
                  go_wp2_with (at_builtin; first
                    | (refine list_ocat (by kernel_rfl) _ _ rfl rfl rfl (World.ownsRow_nil w4 w4.heap.size _ _) H4.out.2.2.1 p1 (Nat.le_refl _) p3 ?_; intro v1 w5 hown1 hgrow1; have hb5 : Below w4.heap.size w4 w5 := Below.grown (Below.refl _ _) hgrow1 (Nat.le_refl _) (fun k hk => nomatch hk))
                    | (refine list_ocat (by kernel_rfl) _ _ rfl rfl rfl hown1 (H4.out.2.2.2.next hb5) p2 hgrow1.size p4 ?_; intro v2 w6 hown2 hgrow2))
                  have hb6 : Below w4.heap.size w4 w6 := Below.grown hb5 hgrow2 hgrow1.size (fun k hk => (hown1.lt k hk).1)
                  have H6 := Lib.hid (H4.out.1.trans (hb6.mono H4.out.1.size))
                  have elen : (l ++ m).length = l.length + m.length := List.length_append
                  have hown3 : w6.ownsRow w4.heap.size 28 4 v2 (l ++ m).length (ocells (gl (l ++ m)) (l ++ m).length) := by
                    rw [ocells_append, elen]
                    simpa using hown2
                  obtain ⟨s, rfl, _, horow, _, _, _⟩ := orow_of hown3
                  rw [← elen]
                  have hlm : (l ++ m).length ≤ maxLen := by rw [elen]; unfold maxLen; omega
                  refine (rsame_any z.a s.a (l ++ m) (l ++ m) z.c s.c w6 hlm (H4.out.2.1.next hb6) horow).mono ?_
                  rintro e w7 ⟨rfl, hb7⟩
                  have hs : sameB (l ++ m) (l ++ m) = true := decide_eq_true rfl
                  rw [hs]
                  have H7 := Lib.hid (H6.out.trans (hb7.mono H6.out.size))
                  clear hb7
                  go_wp2
                  go_ret
                  exact ⟨rfl, H7.out⟩
                · exact absurd HG.out (hno4 _)
              · have HG := Lib.hid (no_long H2.out.2.1 H3.out.2.2.1 (by omega))
                go_wp2_with fail
                refine (HP.out w3 H3.out.1).mono ?_
                rintro e w4 ⟨hb4, (⟨k, z, hg4, _, _⟩ | ⟨rfl, _⟩)⟩
                · exact absurd hg4 (HG.out _)
                · have H4 := Lib.hid (H3.out.1.trans (hb4.mono H3.out.1.size))
                  clear hb4
                  have hs2 : 200 < (l.length : Int) + (m.length : Int) := by omega
                  go_wp2
                  go_ret
                  exact ⟨rfl, H4.out⟩
            · have HN := Lib.hid (no_right (A := A) hno3)
              have H3 := Lib.hid (H2.out.1.trans (hb3.mono H2.out.1.size))
              clear hb3 hno3
              go_wp2_with fail
              refine (HP.out w3 H3.out).mono ?_
              rintro e w4 ⟨hb4, (⟨k, z, hg4, _, _⟩ | ⟨rfl, _⟩)⟩
              · exact absurd hg4 (HN.out _)
              · have H4 := Lib.hid (H3.out.trans (hb4.mono H3.out.size))
                clear hb4
                go_wp2
                go_ret
                exact ⟨rfl, H4.out⟩
          · have HN := Lib.hid (no_left (B := B) hno)
            have H2 := Lib.hid (H1.out.trans (hb2.mono H1.out.size))
            clear hb2 hno
            go_wp2_with fail
            refine (parse_any B w2 (by omega) (HT.out.next H2.out)).mono ?_
            rintro e w3 ⟨hb3, (⟨m, u, hg3, rfl, hrd3⟩ | ⟨rfl, hno3⟩)⟩
            · have H3 := Lib.hid (H2.out.trans (hb3.mono H2.out.size))
              clear hb3 hrd3 hg3
              go_wp2_with fail
              refine (HP.out w3 H3.out).mono ?_
              rintro e w4 ⟨hb4, (⟨k, z, hg4, _, _⟩ | ⟨rfl, _⟩)⟩
              · exact absurd hg4 (HN.out _)
              · have H4 := Lib.hid (H3.out.trans (hb4.mono H3.out.size))
                clear hb4
                go_wp2
                go_ret
                exact ⟨rfl, H4.out⟩
            · have H3 := Lib.hid (H2.out.trans (hb3.mono H2.out.size))
              clear hb3 hno3
              go_wp2_with fail
              refine (HP.out w3 H3.out).mono ?_
              rintro e w4 ⟨hb4, (⟨k, z, hg4, _, _⟩ | ⟨rfl, _⟩)⟩
              · exact absurd hg4 (HN.out _)
              · have H4 := Lib.hid (H3.out.trans (hb4.mono H3.out.size))
                clear hb4
                go_wp2
                go_ret
                exact ⟨rfl, H4.out⟩
    · have hbig : 1500 < B.length := by omega
      by_cases heA : A = []
      · have hem : (bs A).toList.isEmpty = true := by rw [bs_empty]; exact decide_eq_true heA
        go_wp2
        go_ret
        exact ⟨rfl, H1.out⟩
      · go_wp2
        go_ret
        exact ⟨rfl, H1.out⟩
  · have hbig : 1500 < A.length := by omega
    go_wp2
    go_ret
    exact ⟨rfl, H1.out⟩
-- the frame (cdframe.py)
set_option maxRecDepth 100000 in
theorem lifted (os : Os) (started : os.Started) (H : Type) (enc : TypeId × Value → H) :
    ReturnsInHanded {} Tryd.checked os 6 .any (fun w args => (Rows.codeJoinsSpec.pre enc Tryd.prog Tryd.f6 [] false w args ∧ laidMetH Tryd.prog laidTabs w) ∧ sizedMet enc Tryd.prog Tryd.f6 (OpenSpec.ofChange Rows.codeJoinsSpec) false w args)
      (Rows.codeJoinsSpec.post enc Tryd.prog Tryd.f6 false true false false) := by
  refine returnsInHanded_of_change_and (C := Tryd.checked) (X := fun w _ => laidMetH Tryd.prog laidTabs w) (fun _ _ _ hh h => h.of_heap hh) Cd.own started (by kernel_rfl) Tryd.func6
    (ChangeSpec.witness_shaped (enc := enc) (C := Tryd.checked) (os := os) (X := fun w _ => laidMetH Tryd.prog laidTabs w) false (World.doorLaid Tryd.prog 400 os) #[.string ⟨#[]⟩, .string ⟨#[]⟩] 8 rfl (World.shaped_of_RefB (by kernel_rfl) (by kernel_rfl)) (by kernel_rfl) (by kernel_rfl) (by kernel_rfl) (door_met os _)) ?_
  intro W base args ds gs before hval0 hW _ _ hL _
  have hval : ∀ (j : Nat) t v, Tryd.f6.params[j]? = some t → args[j]? = some v → Value.okWide Tryd.prog W .any base t v := hval0
  have hW' := hW
  obtain ⟨p, q, hA0, hV, rfl, hfz, hnd⟩ := hW
  have hA : DataW.TrodAll enc Tryd.prog W 0 (fun _ => true) true Tryd.f6.params.toList args.toList ds p := hA0
  rw [Tryd.params6] at hA hval
  obtain ⟨v0, vs0, d0, ds0, p0, q0, hargs, rfl, rfl, h0, r0⟩ := trodAll_cons hA
  obtain ⟨v1, vs1, d1, ds1, p1, q1, rfl, rfl, rfl, h1, r1⟩ := trodAll_cons r0
  obtain ⟨rfl, rfl, rfl⟩ := trodAll_nil r1
  obtain rfl : args = #[v0, v1] := by cases args; simp_all
  obtain ⟨rfl, rfl⟩ := trodVars_none hV
  obtain ⟨s0, rfl, rfl, rfl, m0⟩ := ChangeMaps.open_string Tryd.underlying9 (hval 0 9 v0 rfl rfl) h0
  obtain ⟨L0, rfl⟩ : ∃ L, s0 = bs L := ⟨_, (bs_list s0).symm⟩
  obtain ⟨s1, rfl, rfl, rfl, m1⟩ := ChangeMaps.open_string Tryd.underlying9 (hval 1 9 v1 rfl rfl) h1
  obtain ⟨L1, rfl⟩ : ∃ L, s1 = bs L := ⟨_, (bs_list s1).symm⟩
  clear hA0 hval0
  refine (walk L0 L1 W (of_laid hL) (by rw [← bs_size]; exact m0) (by rw [← bs_size]; exact m1)).mono fun e W' ⟨he, bel⟩ => ?_
  subst he
  exact ⟨_, rfl, _, _, _, [], _, [], hW', trodAll_mk1 (shut_bool Tryd.underlying4 _), (trodAll_cons_mk (ChangeMaps.shut_string Tryd.underlying9 m0) (trodAll_cons_mk (ChangeMaps.shut_string Tryd.underlying9 m1) trodAll_mk0)), rfl, bel.frame _, fun h => by cases h⟩

theorem over : Rows.CodeJoinsSaid :=
  OpenClaim.holds_of_wide 6 Tryd.f6 rfl rfl rfl rfl rfl rfl rfl ⟨rfl, rfl, rfl, rfl, rfl⟩ rfl rfl rfl rfl rfl (by kernel_rfl) Tryd.func6 (by kernel_rfl)
    (of_decide_eq_true (by kernel_rfl)) (by unfold Func.isWrapper; first | (rw [if_pos (by decide +kernel)]; kernel_rfl) | (rw [if_neg (by decide +kernel)]; exact ⟨rfl, rfl⟩))
    (fun os started H enc _ => lifted os started H enc)

/-- The statement: the card. -/
theorem proved : Rows.CodeJoinsCardSaid :=
  Claim7.holds_tied_plain_at .later [] [.data, .data, .data] true Rows.codeJoinsCard.stood.harness true
    over (fun _ h => by cases h) (by kernel_rfl) (fun _ h => by cases h) codeJoins_row_tie rfl ⟨rfl, rfl⟩ (by kernel_rfl) rfl
    (fun f fn hf hfn => by
      obtain rfl : f = 6 := Option.some.inj ((show Tryd.prog.funcNamed "ragpicker/ragpickerlaw13.CodeJoins" = some 6 by kernel_rfl).symm.trans hf) |>.symm
      obtain rfl : fn = Tryd.f6 := (Option.some.inj (Tryd.func6.symm.trans hfn)).symm
      exact ⟨by kernel_rfl, fun j t ht => by
        rw [Tryd.params6] at ht
        have hm : t ∈ [9, 9] := by simpa using Array.mem_of_getElem? ht
        have hall : ([9, 9].all fun u => !Tryd.prog.wantsStandIn u) = true := by kernel_rfl
        exact (show Tryd.prog.wantsStandIn t = false by simpa using List.all_eq_true.1 hall t hm)⟩)
    (by kernel_rfl)
#print axioms proved
end Go.Proofs.YtggjkagcnhhkjaaDoor.CodeJoins
