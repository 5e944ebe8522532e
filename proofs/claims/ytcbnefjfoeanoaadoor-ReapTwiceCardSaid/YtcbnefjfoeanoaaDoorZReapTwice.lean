/-
  ReapTwice: of two objects that are given back the order does not matter for what is left, and for how many pages are free: for every heap of at most 9 pages and 130 words, and at most four caches of at most 70 cells of each class; the table of sizes is tied to the program's text by the card.
-/
import Derived.Test.YtcbnefjfoeanoaaDoorZRpTwiceC
import Derived.Test.YtcbnefjfoeanoaaDoorHpZO
import Derived.Test.YtcbnefjfoeanoaaDoorHpZN
namespace Go.Proofs.YtcbnefjfoeanoaaDoor.ReapTwice
open Go.Proofs.YtcbnefjfoeanoaaDoor Go.Proofs.YtcbnefjfoeanoaaDoor.Rp
open Go.ChangeShapes Go.WideShapes Go.ChangeAt Go.RowKit
set_option maxRecDepth 100000

theorem walk (s : Hs) (d : Hd_) (A : Option Addr) (n c : Nat) (U : Nat → Nat → Ls.Sl) (F : Nat → Nat → List Int) (a b : Int) (w : World) (hz : Cl.Sz w) (hp : Hp w w.heap.size s d) (hv : Fit64 d.ws) (_ : s.p.n ≤ s.p.c) (hl : Ls.LRow w w.heap.size A n U F) (hmx : n ≤ maxLen) (_ : n ≤ c) (_ : c ≤ maxLen) (_ : (Lit.int .i64 a).wf = true) (_ : (Lit.int .i64 b).wf = true) :
    Calls Tryd.prog 5 #[(.agg #[.slice s.w.a s.w.n s.w.c, .slice s.p.a s.p.n s.p.c, .slice (s.u 0).a (s.u 0).n (s.u 0).c, .slice (s.u 1).a (s.u 1).n (s.u 1).c, .slice (s.u 2).a (s.u 2).n (s.u 2).c, .slice s.c.a s.c.n s.c.c]), .slice A n c, .int .i64 a, .int .i64 b] w fun e w' => e = .returned (.bool true) ∧ Below w.heap.size w w' := by
  have hn : n ≤ 9223372036854775807 := by unfold maxLen at hmx; omega
  cases hf : fewL s U n
  · exact walk_few s d A n c U F a b w hf hn hz hp hl
  by_cases hab : a = b
  · exact walk_eq s d A n c U F a b w hf hab hn hz hp hl
  have hli := lite9_few hf hp hl hv
  have hz0 := hz.pos
  have hn4 := hli.n4
  have hwh := fun (W : World) (h : Lx w W A n U F [(w.heap.size, s, d)]) => pwhole_any s d A n c U F W (h.hp w.heap.size s d (by simp)) h.lr (by omega) (hz.over h.bel hz0) (hli.fine (by decide)) (hli.all (by decide))
  cases hW : wholeH s d n F
  · rw [hW] at hwh
    exact walk_whole s d A n c U F a b w hf hab hwh hn hz hp hl
  rw [hW] at hwh
  have hm := whole_may hW
  have hok : Okl s d := ⟨hli.fine (by decide), may_none hm, hp.words.1⟩
  have hus := lens_of hp hli (by decide)
  by_cases hE : headE s d a = 0 ∧ headE s d b = 0
  · obtain ⟨ea, eb⟩ := hE
    have hba : ¬ b = a := fun e => hab e.symm
    obtain ⟨ma, ga1, ga2⟩ := head_is ea
    obtain ⟨_, gb1, gb2⟩ := head_is eb
    have hO := (may0_iff.1 ma).2
    have hwl := words_fit hok.ws ma
    have o1 := fun (t : Hs) (hl3 : t.w.n = s.w.n ∧ t.p.n = s.p.n ∧ t.c.n = s.c.n) => hok.freed (t := t) hli (by decide) ea hl3
    have o2 := fun (t : Hs) (hl3 : t.w.n = s.w.n ∧ t.p.n = s.p.n ∧ t.c.n = s.c.n) => hok.freed (t := t) hli (by decide) eb hl3
    have h1 := fun (t : Hs) (hl3 : t.w.n = s.w.n ∧ t.p.n = s.p.n ∧ t.c.n = s.c.n) => head_freed (t := t) hok ea hl3 eb hba
    have h2 := fun (t : Hs) (hl3 : t.w.n = s.w.n ∧ t.p.n = s.p.n ∧ t.c.n = s.c.n) => head_freed (t := t) hok eb hl3 ea hab
    have L1 := fun (t : Hs) (hl3 : t.w.n = s.w.n ∧ t.p.n = s.p.n ∧ t.c.n = s.c.n) => hli.freed (t := t) a hl3
    have L2 := fun (t : Hs) (hl3 : t.w.n = s.w.n ∧ t.p.n = s.p.n ∧ t.c.n = s.c.n) => hli.freed (t := t) b hl3
    have s3 : s.w.n = s.w.n ∧ s.p.n = s.p.n ∧ s.c.n = s.c.n := ⟨rfl, rfl, rfl⟩
    have o3 : ∀ t : Hs, (t.w.n = s.w.n ∧ t.p.n = s.p.n ∧ t.c.n = s.c.n) → Okl t (freedD (freedD d s.p.n a) s.p.n b) := fun t hl3 => (o1 s s3).freed (t := t) (L1 s s3) (by decide) (h1 s s3) hl3
    have o4 : ∀ t : Hs, (t.w.n = s.w.n ∧ t.p.n = s.p.n ∧ t.c.n = s.c.n) → Okl t (freedD (freedD d s.p.n b) s.p.n a) := fun t hl3 => (o2 s s3).freed (t := t) (L2 s s3) (by decide) (h2 s s3) hl3
    have u1 := (freed_used (t := s) hok.ws ea s3).2
    have u2 := (freed_used (t := s) hok.ws eb s3).2
    have u3 := fun (t : Hs) (hl3 : t.w.n = s.w.n ∧ t.p.n = s.p.n ∧ t.c.n = s.c.n) => freed_used (t := t) (o1 s s3).ws (h1 s s3) hl3
    have u4 := fun (t : Hs) (hl3 : t.w.n = s.w.n ∧ t.p.n = s.p.n ∧ t.c.n = s.c.n) => freed_used (t := t) (o2 s s3).ws (h2 s s3) hl3
    obtain ⟨K, hK⟩ : ∃ K, K + 2 = (usedL s d).length := ⟨(usedL s (freedD (freedD d s.p.n a) s.p.n b)).length, by have := (u3 s s3).2; omega⟩
    have hcnt : Cl.cnt (freedD (freedD d s.p.n b) s.p.n a).f 0 s.p.n = Cl.cnt (freedD (freedD d s.p.n a) s.p.n b).f 0 s.p.n := Cl.cnt_congr 0 s.p.n fun j _ => by rw [twice_f hO hwl ga1 ga2 gb1 gb2 hab j]
    refine core_ok s d A n c U F a b w (freedD d s.p.n a) (freedD d s.p.n b) (freedD (freedD d s.p.n a) s.p.n b) (freedD (freedD d s.p.n b) s.p.n a) (Cl.cnt (freedD (freedD d s.p.n a) s.p.n b).f 0 s.p.n) K hf hab hwh
      (fun W h => free_okc a W hok hus (h.hp w.heap.size s d (by simp)) (hz.over h.bel hz0) ea) (fun W b1 t1 h => free_okc b W hok hus (h.hp w.heap.size s d (by simp)) (hz.over h.bel hz0) eb) (fun W b1 t1 b2 t2 hl3 h => ?_) (fun W b1 t1 b2 t2 b3 t3 hl3 h => ?_)
      (fun W b1 t1 b2 t2 b3 t3 b4 t4 l3 l4 h => ?_) (fun W b1 t1 b2 t2 b3 t3 b4 t4 l3 l4 h => ?_) (fun W b1 t1 b2 t2 b3 t3 b4 t4 l3 l4 h t ht => ?_) (fun W b1 t1 b2 t2 b3 t3 b4 t4 l3 l4 h t ht => ?_) (fun W b1 t1 b2 t2 b3 t3 b4 t4 l3 l4 h => ?_) hn hz hp hl
    · have hp1 := h.hp b1 t1 (freedD d s.p.n a) (by simp)
      have := free_okc b W (o1 t1 hl3) (lens_of hp1 (L1 t1 hl3) (by decide)) hp1 (hz.over h.bel hz0) (h1 t1 hl3)
      exact this.mono fun _ _ ⟨t, g1, g2, g3, g4⟩ => ⟨t, g1, by rw [hl3.2.1] at g2; exact g2, ⟨g3.1.trans hl3.1, g3.2.1.trans hl3.2.1, g3.2.2.trans hl3.2.2⟩, g4⟩
    · have hp1 := h.hp b2 t2 (freedD d s.p.n b) (by simp)
      have := free_okc a W (o2 t2 hl3) (lens_of hp1 (L2 t2 hl3) (by decide)) hp1 (hz.over h.bel hz0) (h2 t2 hl3)
      exact this.mono fun _ _ ⟨t, g1, g2, g3, g4⟩ => ⟨t, g1, by rw [hl3.2.1] at g2; exact g2, ⟨g3.1.trans hl3.1, g3.2.1.trans hl3.2.1, g3.2.2.trans hl3.2.2⟩, g4⟩
    · exact head_call W (o3 t3 l3) (h.hp b3 t3 (freedD (freedD d s.p.n a) s.p.n b) (by simp)) (hz.over h.bel hz0) (stays_gone (o1 s s3) (h1 s s3) l3 (gone_freed hok ea s3) hab)
    · exact head_call W (o3 t3 l3) (h.hp b3 t3 (freedD (freedD d s.p.n a) s.p.n b) (by simp)) (hz.over h.bel hz0) (gone_freed (o1 s s3) (h1 s s3) l3)
    · rcases ht with e | e
      · rw [e]
        have := Cl.count_any W.heap.size t3.p.a t3.p.n t3.p.c _ 0 W (by rw [l3.2.1]; have := hok.wp.2; omega) (h.hp b3 t3 (freedD (freedD d s.p.n a) s.p.n b) (by simp)).pages (Nat.le_refl _)
        exact this.mono fun _ _ hh => by rw [l3.2.1] at hh; exact hh
      · rw [e]
        have := Cl.count_any W.heap.size t4.p.a t4.p.n t4.p.c _ 0 W (by rw [l4.2.1]; have := hok.wp.2; omega) (h.hp b4 t4 (freedD (freedD d s.p.n b) s.p.n a) (by simp)).pages (Nat.le_refl _)
        exact this.mono fun _ _ hh => by rw [l4.2.1, hcnt] at hh; exact hh
    · rcases ht with e | e
      · rw [e]
        exact used_post t3 _ W (h.hp b3 t3 (freedD (freedD d s.p.n a) s.p.n b) (by simp)) (hz.over h.bel hz0) (o3 t3 l3).fine K (by have := (u3 t3 l3).2; omega)
      · rw [e]
        exact used_post t4 _ W (h.hp b4 t4 (freedD (freedD d s.p.n b) s.p.n a) (by simp)) (hz.over h.bel hz0) (o4 t4 l4).fine K (by have := (u4 t4 l4).2; omega)
    · refine kept_call 0 W (o3 t3 l3) (h.hp b3 t3 (freedD (freedD d s.p.n a) s.p.n b) (by simp)) (h.hp b4 t4 (freedD (freedD d s.p.n b) s.p.n a) (by simp)) (hz.over h.bel hz0) ⟨l4.1.trans l3.1.symm, l4.2.1.trans l3.2.1.symm, l4.2.2.trans l3.2.2.symm⟩ fun y hy _ => ?_
      obtain ⟨hy1, hyb⟩ := ((u3 t3 l3).1 y).1 hy
      obtain ⟨hy0, hya⟩ := ((freed_used (t := s) hok.ws ea s3).1 y).1 hy1
      have k1 := freed_keeps hok.ws ea hy0 hya
      have k2 := freed_keeps (o1 s s3).ws (h1 s s3) hy1 hyb
      have hy2 := ((freed_used (t := s) hok.ws eb s3).1 y).2 ⟨hy0, hyb⟩
      have k3 := freed_keeps hok.ws eb hy0 hyb
      have k4 := freed_keeps (o2 s s3).ws (h2 s s3) hy2 hya
      rw [l3.2.1]
      exact (k1.trans k2).symm.trans (k3.trans k4)
  · refine core_no s d A n c U F a b w (headE s d a) (headE s d b) (rkFree s d a).d (rkFree s d b).d (by omega) hf hab hwh (fun W h => free_anyc a W hok hus (h.hp w.heap.size s d (by simp)) (hz.over h.bel hz0)) (fun W b1 t1 h => free_anyc b W hok hus (h.hp w.heap.size s d (by simp)) (hz.over h.bel hz0)) hn hz hp hl
-- the frame (hp9frame.py)
set_option maxRecDepth 100000 in
theorem lifted (os : Os) (started : os.Started) (H : Type) (enc : TypeId × Value → H) :
    ReturnsInHanded {} Tryd.checked os 5 .any (fun w args => (Rows.reapTwiceSpec.pre enc Tryd.prog Tryd.f5 [] false w args ∧ laidMetH Tryd.prog laidSizes w) ∧ sizedMet enc Tryd.prog Tryd.f5 (OpenSpec.ofChange Rows.reapTwiceSpec) false w args)
      (Rows.reapTwiceSpec.post enc Tryd.prog Tryd.f5 false true false false) := by
  refine returnsInHanded_of_change_and (C := Tryd.checked) (X := fun w _ => laidMetH Tryd.prog laidSizes w) (fun _ _ _ hh h => h.of_heap hh) own started (by kernel_rfl) Tryd.func5
    (ChangeSpec.witness_shaped (enc := enc) (C := Tryd.checked) (os := os) (X := fun w _ => laidMetH Tryd.prog laidSizes w) false (World.doorLaid Tryd.prog 400 os) #[.agg #[.slice none 0 0, .slice none 0 0, .slice none 0 0, .slice none 0 0, .slice none 0 0, .slice none 0 0], .slice none 0 0, .int .i64 0, .int .i64 0] 8 rfl (World.shaped_of_RefB (by kernel_rfl) (by kernel_rfl)) (by kernel_rfl) (by kernel_rfl) (by kernel_rfl) (door_met os _)) ?_
  intro W base args ds gs before hval0 hW _ _ hL _
  have hval : ∀ (j : Nat) t v, Tryd.f5.params[j]? = some t → args[j]? = some v → Value.okWide Tryd.prog W .any base t v := hval0
  have hW' := hW
  obtain ⟨p, q, hA0, hV, rfl, hfz, hnd⟩ := hW
  have hA : DataW.TrodAll enc Tryd.prog W 0 (fun _ => true) true Tryd.f5.params.toList args.toList ds p := hA0
  rw [Tryd.params5] at hA hval
  obtain ⟨v0, vs0, d0, ds0, p0, q0, hargs, rfl, rfl, h0, r0⟩ := trodAll_cons hA
  obtain ⟨v1, vs1, d1, ds1, p1, q1, rfl, rfl, rfl, h1, r1⟩ := trodAll_cons r0
  obtain ⟨v2, vs2, d2, ds2, p2, q2, rfl, rfl, rfl, h2, r2⟩ := trodAll_cons r1
  obtain ⟨v3, vs3, d3, ds3, p3, q3, rfl, rfl, rfl, h3, r3⟩ := trodAll_cons r2
  obtain ⟨rfl, rfl, rfl⟩ := trodAll_nil r3
  obtain rfl : args = #[v0, v1, v2, v3] := by cases args; simp_all
  obtain ⟨rfl, rfl⟩ := trodVars_none hV
  have k0 := h0
  have lt0 : ∀ x ∈ p0, x.block < W.heap.size := by obtain ⟨m, hm⟩ := k0; exact DataW.trod_lt m _ _ _ hm
  obtain ⟨s0, z0, rfl, w0, f0, b0⟩ := heap_of8 (hval 0 28 v0 rfl rfl) h0
  have k1 := h1
  have lt1 : ∀ x ∈ p1, x.block < W.heap.size := by obtain ⟨m, hm⟩ := k1; exact DataW.trod_lt m _ _ _ hm
  obtain ⟨a1, len1, cap1, rfl⟩ := okWide_slice Tryd.underlying29 (hval 1 29 v1 rfl rfl)
  obtain ⟨u1, z1, w1, m1, b1⟩ := rows_of h1
  have c1 := cap_of h1
  obtain ⟨a2, rfl, rfl, rfl, w2⟩ := open_int Tryd.underlying3 (hval 2 3 v2 rfl rfl) h2
  obtain ⟨a3, rfl, rfl, rfl, w3⟩ := open_int Tryd.underlying3 (hval 3 3 v3 rfl rfl) h3
  clear hA0 hval0
  refine (walk s0 z0 a1 len1 cap1 u1 z1 a2 a3 W (of_laid hL) w0 f0 b0 w1 m1 c1.1 c1.2 w2 w3).mono fun e W' ⟨he, bel⟩ => ?_
  subst he
  exact ⟨_, rfl, _, _, _, [], _, [], hW', trodAll_mk1 (shut_bool Tryd.underlying4 _), (trodAll_cons_mk (Below.trod laidOut (by kernel_rfl) (of_decide_eq_true (by kernel_rfl)) k0 bel lt0) (trodAll_cons_mk (Below.trod laidOut (by kernel_rfl) (of_decide_eq_true (by kernel_rfl)) k1 bel lt1) (trodAll_cons_mk (shut_int Tryd.underlying3 w2) (trodAll_cons_mk (shut_int Tryd.underlying3 w3) trodAll_mk0)))), rfl, bel.frame _, fun h => by cases h⟩

theorem over : Rows.ReapTwiceSaid :=
  OpenClaim.holds_of_wide 5 Tryd.f5 rfl rfl rfl rfl rfl rfl rfl ⟨rfl, rfl, rfl, rfl, rfl⟩ rfl rfl rfl rfl rfl (by kernel_rfl) Tryd.func5 (by kernel_rfl)
    (of_decide_eq_true (by kernel_rfl)) (by unfold Func.isWrapper; first | (rw [if_pos (by decide +kernel)]; kernel_rfl) | (rw [if_neg (by decide +kernel)]; exact ⟨rfl, rfl⟩))
    (fun os started H enc _ => lifted os started H enc)

/-- The statement: the card. -/
theorem proved : Rows.ReapTwiceCardSaid :=
  Claim7.holds_tied_plain_at .later [] [.data] true Rows.reapTwiceCard.stood.harness false
    over (fun _ h => by cases h) (by kernel_rfl) (fun _ h => by cases h) reapTwice_row_tie rfl ⟨rfl, rfl⟩ (by kernel_rfl) rfl
    (fun f fn hf hfn => by
      obtain rfl : f = 5 := Option.some.inj ((show Tryd.prog.funcNamed "ragpicker/ragpickerlaw09.ReapTwice" = some 5 by kernel_rfl).symm.trans hf) |>.symm
      obtain rfl : fn = Tryd.f5 := (Option.some.inj (Tryd.func5.symm.trans hfn)).symm
      exact ⟨by kernel_rfl, fun j t ht => by
        rw [Tryd.params5] at ht
        have hm : t ∈ [28, 29, 3, 3] := by simpa using Array.mem_of_getElem? ht
        have hall : ([28, 29, 3, 3].all fun u => !Tryd.prog.wantsStandIn u) = true := by kernel_rfl
        exact (show Tryd.prog.wantsStandIn t = false by simpa using List.all_eq_true.1 hall t hm)⟩)
    (by kernel_rfl)
#print axioms proved
end Go.Proofs.YtcbnefjfoeanoaaDoor.ReapTwice
