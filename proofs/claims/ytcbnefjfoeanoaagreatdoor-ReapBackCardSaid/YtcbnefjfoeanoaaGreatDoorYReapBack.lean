/-
  ReapBack: what is taken, and given back, leaves as many words free as there were, and is whole: for every heap of at most 9 pages and 130 words, every one to four caches of at most 70 cells of each class, and every number of fields; the table of sizes is tied to the program's text by the card.
-/
import Derived.Test.YtcbnefjfoeanoaaGreatDoorYRpBackC
import Derived.Test.YtcbnefjfoeanoaaGreatDoorYRpTkn
import Derived.Test.YtcbnefjfoeanoaaGreatDoorHpYD
namespace Go.Proofs.YtcbnefjfoeanoaaGreatDoor.ReapBack
open Go.Proofs.YtcbnefjfoeanoaaGreatDoor Go.Proofs.YtcbnefjfoeanoaaGreatDoor.Rp
open Go.ChangeShapes Go.WideShapes Go.ChangeAt Go.RowKit
set_option maxRecDepth 100000

theorem walk (s : Hs) (d : Hd_) (A : Option Addr) (n c : Nat) (U : Nat → Nat → Ls.Sl) (F : Nat → Nat → List Int) (N : Int) (w : World) (hz : Cl.Sz w) (hp : Hp w w.heap.size s d) (hv : Fit64 d.ws) (_ : s.p.n ≤ s.p.c) (hl : Ls.LRow w w.heap.size A n U F) (hmx : n ≤ maxLen) (hnc : n ≤ c) (_ : c ≤ maxLen) (_ : (Lit.int .i64 N).wf = true) :
    Calls Tryz.prog 6 #[(.agg #[.slice s.w.a s.w.n s.w.c, .slice s.p.a s.p.n s.p.c, .slice (s.u 0).a (s.u 0).n (s.u 0).c, .slice (s.u 1).a (s.u 1).n (s.u 1).c, .slice (s.u 2).a (s.u 2).n (s.u 2).c, .slice s.c.a s.c.n s.c.c]), .slice A n c, .int .i64 N] w fun e w' => e = .returned (.bool true) ∧ Below w.heap.size w w' := by
  have hn : n ≤ 9223372036854775807 := by unfold maxLen at hmx; omega
  cases hf : Rp.fewL s U n
  · exact walk_few s d A n c U F N w hf hn hz hp hl
  rcases Nat.eq_zero_or_pos n with h0 | hn1
  · exact walk_none s d A n c U F N w hf h0 hn hz hp hl
  have hli := lite9_few hf hp hl hv
  have hz0 := hz.pos
  have hn4 := hli.n4
  have hwh := fun (W : World) (h : Lx w W A n U F [(w.heap.size, s, d)]) => pwhole_any s d A n c U F W (h.hp w.heap.size s d (by simp)) h.lr (by omega) (hz.over h.bel hz0) (hli.fine (by decide)) (hli.all (by decide))
  cases hW : wholeH s d n F
  · rw [hW] at hwh
    exact walk_whole s d A n c U F N w hf hn1 hwh hn hz hp hl
  rw [hW] at hwh
  have hm := whole_may hW
  have hm1 := may_first9 hn1 hm
  have hok : Okl s d := ⟨hli.fine (by decide), may_none hm, hp.words.1⟩
  have l30 : Ls.L3 w w.heap.size (U 0) (F 0) := by
    obtain ⟨_, _, _, _, hc⟩ := hl hn1
    exact (hc 0 hn1).2
  have hfT : FineT s d (U 0) (F 0) := hli.fineT (by decide) hp.free.len (U 0) (F 0) (fun j hj => Nat.le_trans (hli.lG 0 hn1 j hj) (by decide)) l30.len
  have htk := fun (W : World) (h : Lx w W A n U F [(w.heap.size, s, d)]) => ptake_any s (U 0) d (F 0) true false false N 0 0 W (h.hp w.heap.size s d (by simp)) (by
    obtain ⟨_, _, _, _, hc⟩ := h.lr hn1
    exact (hc 0 hn1).2) (hz.over h.bel hz0) hfT
  rcases tkR_split s d (F 0) true false false N 0 0 with ⟨her, _, _⟩ | ⟨q, _, hx, _, hN, hq, hR⟩
  · exact core_err s d A n c U F N w _ _ _ _ _ _ _ her (U 0) rfl hf hn1 hwh htk hn hz hp hl
  rw [hR] at htk
  obtain ⟨K, hwt, hG78⟩ := tkn ⟨hli.w, hli.p, hli.c, hli.lF, hli.lG 0 hn1, hli.hv⟩ hok hm1 hx hN hq
  have htk' := fun W h => (htk W h)
  generalize hd' : beginD q.1 s.p.n q.2.2 (Hd.word true false false N 0 0) = d' at K hwt htk htk'
  have r3 : Same3 s s := ⟨rfl, rfl, rfl⟩
  have hE := K.head s r3
  have oB := fun (t : Hs) (hl3 : t.w.n = s.w.n ∧ t.p.n = s.p.n ∧ t.c.n = s.c.n) => (K.okl s r3).freed (t := t) (K.lite s r3) (by decide) hE hl3
  have LB := fun (t : Hs) (hl3 : t.w.n = s.w.n ∧ t.p.n = s.p.n ∧ t.c.n = s.c.n) => (K.lite s r3).freed (t := t) q.2.2 hl3
  refine core_ok s d A n c U F N w q.2.2 d' (freedD d' s.p.n q.2.2) q.2.1 (usedL s d).length hnc hn4 (U 0) rfl hf hn1 hwh htk' (fun W t hl3 h1 hb => ?_) (fun W t1 hl3 h1 hb => ?_) (fun W b1 t1 A2 v c2 hl3 h => ?_) (fun W b1 t1 A2 v hl3 h => ⟨?_, ?_⟩) (fun W b1 t1 A2 v hl3 h => ?_) hn hz hp hl
  · have := free_okc q.2.2 W (K.okl t hl3) (lens_of h1 (K.lite t hl3) (by decide)) h1 (hz.over hb hz0) (K.head t hl3)
    exact this.mono fun _ _ ⟨t', g1, g2, g3, g4⟩ => ⟨t', g1, by rw [hl3.2.1] at g2; exact g2, ⟨g3.1.trans hl3.1, g3.2.1.trans hl3.2.1, g3.2.2.trans hl3.2.2⟩, g4⟩
  · have h3 := gone_freed (t := t1) (K.okl s r3) hE hl3
    have := free_noc q.2.2 W (oB t1 hl3) (lens_of h1 (LB t1 hl3) (by decide)) h1 (hz.over hb hz0) (by rw [h3]; decide)
    rw [h3] at this
    exact this.mono fun _ _ ⟨t', g1, _, _, g4⟩ => ⟨t', g1, g4⟩
  · have hw1 : wholeH t1 (freedD d' s.p.n q.2.2) (1 + (n - 1)) (ahead q.2.1 (behind F)) = true := by
      refine freed_whole (K.okl s r3).ws hE hl3 (hwt (n - 1) (behind F) ?_)
      rw [show 1 + (n - 1) = n by omega, ahead_behind]
      exact hW
    have := pwhole_any t1 (freedD d' s.p.n q.2.2) A2 (1 + (n - 1)) c2 (ahead v fun i => U (i + 1)) (ahead q.2.1 (behind F)) W (h.lx.hp b1 t1 (freedD d' s.p.n q.2.2) (by simp)) h.la (by omega) (hz.over h.lx.bel hz0) (oB t1 hl3).fine (all_short (fun j hj => Nat.le_trans ((LB t1 hl3).lF j hj) (by decide)) (fun i hi j hj => by
      match i, hi with
      | 0, _ => exact Nat.le_trans (hG78 j hj) (by decide)
      | i + 1, hi => exact Nat.le_trans (hli.lG (i + 1) (by omega) j hj) (by decide)) (by omega))
    rw [hw1] at this
    exact this
  · refine used_post t1 _ W (h.lx.hp b1 t1 (freedD d' s.p.n q.2.2) (by simp)) (hz.over h.lx.bel hz0) (oB t1 hl3).fine _ ?_
    have := (freed_used (t := t1) (K.okl s r3).ws hE hl3).2
    have := K.used
    omega
  · exact used_post s d W (h.lx.hp w.heap.size s d (by simp)) (hz.over h.lx.bel hz0) hok.fine _ rfl
  · refine kept_call 0 W hok (h.lx.hp w.heap.size s d (by simp)) (h.lx.hp b1 t1 (freedD d' s.p.n q.2.2) (by simp)) (hz.over h.lx.bel hz0) hl3 fun y hy _ => ?_
    obtain ⟨k1, k2, k3⟩ := K.keeps y hy
    exact k2.trans (freed_keeps (K.okl s r3).ws hE k3 k1)
-- the frame (hp9frame.py)
set_option maxRecDepth 100000 in
theorem lifted (os : Os) (started : os.Started) (H : Type) (enc : TypeId × Value → H) :
    ReturnsInHanded {} Tryz.checked os 6 .any (fun w args => (Rows.reapBackSpec.pre enc Tryz.prog Tryz.f6 [] false w args ∧ laidMetH Tryz.prog laidSizes w) ∧ sizedMet enc Tryz.prog Tryz.f6 (OpenSpec.ofChange Rows.reapBackSpec) false w args)
      (Rows.reapBackSpec.post enc Tryz.prog Tryz.f6 false true false false) := by
  refine returnsInHanded_of_change_and (C := Tryz.checked) (X := fun w _ => laidMetH Tryz.prog laidSizes w) (fun _ _ _ hh h => h.of_heap hh) own started (by kernel_rfl) Tryz.func6
    (ChangeSpec.witness_shaped (enc := enc) (C := Tryz.checked) (os := os) (X := fun w _ => laidMetH Tryz.prog laidSizes w) false (World.doorLaid Tryz.prog 400 os) #[.agg #[.slice none 0 0, .slice none 0 0, .slice none 0 0, .slice none 0 0, .slice none 0 0, .slice none 0 0], .slice none 0 0, .int .i64 0] 8 rfl (World.shaped_of_RefB (by kernel_rfl) (by kernel_rfl)) (by kernel_rfl) (by kernel_rfl) (by kernel_rfl) (door_met os _)) ?_
  intro W base args ds gs before hval0 hW _ _ hL _
  have hval : ∀ (j : Nat) t v, Tryz.f6.params[j]? = some t → args[j]? = some v → Value.okWide Tryz.prog W .any base t v := hval0
  have hW' := hW
  obtain ⟨p, q, hA0, hV, rfl, hfz, hnd⟩ := hW
  have hA : DataW.TrodAll enc Tryz.prog W 0 (fun _ => true) true Tryz.f6.params.toList args.toList ds p := hA0
  rw [Tryz.params6] at hA hval
  obtain ⟨v0, vs0, d0, ds0, p0, q0, hargs, rfl, rfl, h0, r0⟩ := trodAll_cons hA
  obtain ⟨v1, vs1, d1, ds1, p1, q1, rfl, rfl, rfl, h1, r1⟩ := trodAll_cons r0
  obtain ⟨v2, vs2, d2, ds2, p2, q2, rfl, rfl, rfl, h2, r2⟩ := trodAll_cons r1
  obtain ⟨rfl, rfl, rfl⟩ := trodAll_nil r2
  obtain rfl : args = #[v0, v1, v2] := by cases args; simp_all
  obtain ⟨rfl, rfl⟩ := trodVars_none hV
  have k0 := h0
  have lt0 : ∀ x ∈ p0, x.block < W.heap.size := by obtain ⟨m, hm⟩ := k0; exact DataW.trod_lt m _ _ _ hm
  obtain ⟨s0, z0, rfl, w0, f0, b0⟩ := heap_of8 (hval 0 28 v0 rfl rfl) h0
  have k1 := h1
  have lt1 : ∀ x ∈ p1, x.block < W.heap.size := by obtain ⟨m, hm⟩ := k1; exact DataW.trod_lt m _ _ _ hm
  obtain ⟨a1, len1, cap1, rfl⟩ := okWide_slice Tryz.underlying33 (hval 1 33 v1 rfl rfl)
  obtain ⟨u1, z1, w1, m1, b1⟩ := rows_of h1
  have c1 := cap_of h1
  obtain ⟨a2, rfl, rfl, rfl, w2⟩ := open_int Tryz.underlying3 (hval 2 3 v2 rfl rfl) h2
  clear hA0 hval0
  refine (walk s0 z0 a1 len1 cap1 u1 z1 a2 W (of_laid hL) w0 f0 b0 w1 m1 c1.1 c1.2 w2).mono fun e W' ⟨he, bel⟩ => ?_
  subst he
  exact ⟨_, rfl, _, _, _, [], _, [], hW', trodAll_mk1 (shut_bool Tryz.underlying4 _), (trodAll_cons_mk (Below.trod laidOut (by kernel_rfl) (of_decide_eq_true (by kernel_rfl)) k0 bel lt0) (trodAll_cons_mk (Below.trod laidOut (by kernel_rfl) (of_decide_eq_true (by kernel_rfl)) k1 bel lt1) (trodAll_cons_mk (shut_int Tryz.underlying3 w2) trodAll_mk0))), rfl, bel.frame _, fun h => by cases h⟩

theorem over : Rows.ReapBackSaid :=
  OpenClaim.holds_of_wide 6 Tryz.f6 rfl rfl rfl rfl rfl rfl rfl ⟨rfl, rfl, rfl, rfl, rfl⟩ rfl rfl rfl rfl rfl (by kernel_rfl) Tryz.func6 (by kernel_rfl)
    (of_decide_eq_true (by kernel_rfl)) (by unfold Func.isWrapper; first | (rw [if_pos (by decide +kernel)]; kernel_rfl) | (rw [if_neg (by decide +kernel)]; exact ⟨rfl, rfl⟩))
    (fun os started H enc _ => lifted os started H enc)

/-- The statement: the card. -/
theorem proved : Rows.ReapBackCardSaid :=
  Claim7.holds_tied_plain_at .later [] [.data] true Rows.reapBackCard.stood.harness false
    over (fun _ h => by cases h) (by kernel_rfl) (fun _ h => by cases h) reapBack_row_tie rfl ⟨rfl, rfl⟩ (by kernel_rfl) rfl
    (fun f fn hf hfn => by
      obtain rfl : f = 6 := Option.some.inj ((show Tryz.prog.funcNamed "ragpicker/ragpickerlaw09.ReapBack" = some 6 by kernel_rfl).symm.trans hf) |>.symm
      obtain rfl : fn = Tryz.f6 := (Option.some.inj (Tryz.func6.symm.trans hfn)).symm
      exact ⟨by kernel_rfl, fun j t ht => by
        rw [Tryz.params6] at ht
        have hm : t ∈ [28, 33, 3] := by simpa using Array.mem_of_getElem? ht
        have hall : ([28, 33, 3].all fun u => !Tryz.prog.wantsStandIn u) = true := by kernel_rfl
        exact (show Tryz.prog.wantsStandIn t = false by simpa using List.all_eq_true.1 hall t hm)⟩)
    (by kernel_rfl)
#print axioms proved
end Go.Proofs.YtcbnefjfoeanoaaGreatDoor.ReapBack
