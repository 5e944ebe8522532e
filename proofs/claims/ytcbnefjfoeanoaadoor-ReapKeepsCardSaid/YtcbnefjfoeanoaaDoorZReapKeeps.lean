/-
  ReapKeeps: what was whole is whole without an object, or without the first cache; every other object's words are as they were: for every heap of at most 9 pages and 130 words, and every one to four caches of at most 70 cells of each class; the table of sizes is tied to the program's text by the card.
-/
import Derived.Test.YtcbnefjfoeanoaaDoorZRpKeepsC
import Derived.Test.YtcbnefjfoeanoaaDoorHpZN
namespace Go.Proofs.YtcbnefjfoeanoaaDoor.ReapKeeps
open Go.Proofs.YtcbnefjfoeanoaaDoor Go.Proofs.YtcbnefjfoeanoaaDoor.Rp
open Go.ChangeShapes Go.WideShapes Go.ChangeAt Go.RowKit
set_option maxRecDepth 100000

theorem walk (s : Hs) (d : Hd_) (A : Option Addr) (n c : Nat) (U : Nat → Nat → Ls.Sl) (F : Nat → Nat → List Int) (a : Int) (w : World) (hz : Cl.Sz w) (hp : Hp w w.heap.size s d) (hv : Fit64 d.ws) (_ : s.p.n ≤ s.p.c) (hl : Ls.LRow w w.heap.size A n U F) (hmx : n ≤ maxLen) (hnc : n ≤ c) (_ : c ≤ maxLen) (_ : (Lit.int .i64 a).wf = true) :
    Calls Tryd.prog 3 #[(.agg #[.slice s.w.a s.w.n s.w.c, .slice s.p.a s.p.n s.p.c, .slice (s.u 0).a (s.u 0).n (s.u 0).c, .slice (s.u 1).a (s.u 1).n (s.u 1).c, .slice (s.u 2).a (s.u 2).n (s.u 2).c, .slice s.c.a s.c.n s.c.c]), .slice A n c, .int .i64 a] w fun e w' => e = .returned (.bool true) ∧ Below w.heap.size w w' := by
  have hn : n ≤ 9223372036854775807 := by unfold maxLen at hmx; omega
  cases hf : fewL s U n
  · exact walk_few s d A n c U F a w hf hn hz hp hl
  rcases Nat.eq_zero_or_pos n with h0 | hn1
  · exact walk_none s d A n c U F a w hf h0 hn hz hp hl
  have hli := lite9_few hf hp hl hv
  have hz0 := hz.pos
  have hn4 := hli.n4
  have hwh := fun (W : World) (h : Lx w W A n U F [(w.heap.size, s, d)]) => pwhole_any s d A n c U F W (h.hp w.heap.size s d (by simp)) h.lr (by omega) (hz.over h.bel hz0) (hli.fine (by decide)) (hli.all (by decide))
  cases hW : wholeH s d n F
  · rw [hW] at hwh
    exact walk_whole s d A n c U F a w hf hn1 hwh hn hz hp hl
  rw [hW] at hwh
  have hm := whole_may hW
  have hm1 := may_first9 hn1 hm
  have hok : Okl s d := ⟨hli.fine (by decide), may_none hm, hp.words.1⟩
  obtain ⟨r, hr⟩ : ∃ r, n = 1 + r := ⟨n - 1, by omega⟩
  have hW1 : wholeH s d (1 + r) (ahead (F 0) (behind F)) = true := by rw [ahead_behind, ← hr]; exact hW
  have hM1 := whole_may hW1
  have l30 : ∀ W A n hs, Lx w W A n U F hs → 0 < n → Ls.L3 W W.heap.size (U 0) (F 0) := fun W A n hs h h0 => by
    obtain ⟨_, _, _, _, hc⟩ := h.lr h0
    exact (hc 0 h0).2
  have hl0 : ∀ j, j < 3 → (U 0 j).n = (F 0 j).length := by
    obtain ⟨_, _, _, _, hc⟩ := hl hn1
    exact fun j hj => (hc 0 hn1).2.len j hj
  have hG0 : ∀ j, j < 3 → (F 0 j).length ≤ 70 := hli.lG 0 hn1
  have hfl : ∀ W, Below w.heap.size w W → Lx w W A n U F [(w.heap.size, s, d)] → Calls Tryd.prog 13 #[(.agg #[.slice s.w.a s.w.n s.w.c, .slice s.p.a s.p.n s.p.c, .slice (s.u 0).a (s.u 0).n (s.u 0).c, .slice (s.u 1).a (s.u 1).n (s.u 1).c, .slice (s.u 2).a (s.u 2).n (s.u 2).c, .slice s.c.a s.c.n s.c.c]), (.agg #[.slice (U 0 0).a (U 0 0).n (U 0 0).c, .slice (U 0 1).a (U 0 1).n (U 0 1).c, .slice (U 0 2).a (U 0 2).n (U 0 2).c])] W fun e w' => ∃ t : Hs, e = .returned (.tuple #[(.agg #[.slice t.w.a t.w.n t.w.c, .slice t.p.a t.p.n t.p.c, .slice (t.u 0).a (t.u 0).n (t.u 0).c, .slice (t.u 1).a (t.u 1).n (t.u 1).c, .slice (t.u 2).a (t.u 2).n (t.u 2).c, .slice t.c.a t.c.n t.c.c]), .int .i64 0]) ∧ Hp w' w'.heap.size t (flushD d s.p.n (F 0)) ∧ (t.w.n = s.w.n ∧ t.p.n = s.p.n ∧ t.c.n = s.c.n) ∧ Below W.heap.size W w' := fun W _ h => by
    have := flush_any s (U 0) d (F 0) W (h.hp w.heap.size s d (by simp)) (l30 W A n _ h hn1) (hz.over h.bel hz0) (hli.fineT (by decide) hp.free.len (U 0) (F 0) (fun j hj => by have := hG0 j hj; omega) hl0)
    unfold rkFlush at this
    rw [if_pos hm1] at this
    exact this
  have hwf : ∀ W bc t bb off, A = some ⟨bb, off, none⟩ → (t.w.n = s.w.n ∧ t.p.n = s.p.n ∧ t.c.n = s.c.n) → Lx w W A n U F [(bc, t, flushD d s.p.n (F 0)), (w.heap.size, s, d)] → ∀ A' m c', m = n - 1 → (0 < m → A' = some ⟨bb, off + 3, none⟩) → Calls Tryd.prog 9 #[(.agg #[.slice t.w.a t.w.n t.w.c, .slice t.p.a t.p.n t.p.c, .slice (t.u 0).a (t.u 0).n (t.u 0).c, .slice (t.u 1).a (t.u 1).n (t.u 1).c, .slice (t.u 2).a (t.u 2).n (t.u 2).c, .slice t.c.a t.c.n t.c.c]), .slice A' m c'] W fun e w' => e = .returned (.bool true) ∧ Below W.heap.size W w' := fun W bc t bb off hA hl3 h A' m c' hm' hA' => by
    have hlT : Lite9 t (flushD d s.p.n (F 0)) m (behind F) 140 := (hli.flush (t := t) (C := 70) hl3 hG0).less (by omega) (fun i hi => ⟨i + 1, by omega, rfl⟩)
    have := pwhole_any t (flushD d s.p.n (F 0)) A' m c' (fun i => U (i + 1)) (behind F) W (h.hp bc t _ (by simp)) (lrow_tail (by have := h.lr; rwa [hA] at this) hm' hA') (by omega) (hz.over h.bel hz0) (hlT.fine (by decide)) (hlT.all (by decide))
    rwa [flush_whole (t := t) hl3 (by rw [show m = r by omega]; exact hW1)] at this
  have hkf : ∀ W bc t, (t.w.n = s.w.n ∧ t.p.n = s.p.n ∧ t.c.n = s.c.n) → Lx w W A n U F [(bc, t, flushD d s.p.n (F 0)), (w.heap.size, s, d)] → Calls Tryd.prog 11 #[(.agg #[.slice s.w.a s.w.n s.w.c, .slice s.p.a s.p.n s.p.c, .slice (s.u 0).a (s.u 0).n (s.u 0).c, .slice (s.u 1).a (s.u 1).n (s.u 1).c, .slice (s.u 2).a (s.u 2).n (s.u 2).c, .slice s.c.a s.c.n s.c.c]), (.agg #[.slice t.w.a t.w.n t.w.c, .slice t.p.a t.p.n t.p.c, .slice (t.u 0).a (t.u 0).n (t.u 0).c, .slice (t.u 1).a (t.u 1).n (t.u 1).c, .slice (t.u 2).a (t.u 2).n (t.u 2).c, .slice t.c.a t.c.n t.c.c]), .int .i64 0] W fun e w' => e = .returned (.bool true) ∧ Below W.heap.size W w' := fun W bc t hl3 h =>
    kept_call 0 W hok (h.hp w.heap.size s d (by simp)) (h.hp bc t _ (by simp)) (hz.over h.bel hz0) hl3 fun y hy _ => flush_keeps hM1 hy
  have huf : ∀ (K : Nat), (usedL s d).length = K → ∀ W bc t, (t.w.n = s.w.n ∧ t.p.n = s.p.n ∧ t.c.n = s.c.n) → Lx w W A n U F [(bc, t, flushD d s.p.n (F 0)), (w.heap.size, s, d)] → (Calls Tryd.prog 12 #[(.agg #[.slice t.w.a t.w.n t.w.c, .slice t.p.a t.p.n t.p.c, .slice (t.u 0).a (t.u 0).n (t.u 0).c, .slice (t.u 1).a (t.u 1).n (t.u 1).c, .slice (t.u 2).a (t.u 2).n (t.u 2).c, .slice t.c.a t.c.n t.c.c])] W fun e w' => ∃ A' C', e = .returned (.slice A' K C') ∧ Below W.heap.size W w') ∧ Calls Tryd.prog 12 #[(.agg #[.slice s.w.a s.w.n s.w.c, .slice s.p.a s.p.n s.p.c, .slice (s.u 0).a (s.u 0).n (s.u 0).c, .slice (s.u 1).a (s.u 1).n (s.u 1).c, .slice (s.u 2).a (s.u 2).n (s.u 2).c, .slice s.c.a s.c.n s.c.c])] W fun e w' => ∃ A' C', e = .returned (.slice A' K C') ∧ Below W.heap.size W w' := fun K hK W bc t hl3 h =>
    ⟨used_post t _ W (h.hp bc t _ (by simp)) (hz.over h.bel hz0) ((hli.flush (t := t) (C := 70) hl3 hG0).fine (by decide)) K (by rw [(flush_used (t := t) hl3 hM1).2]; exact hK), used_post s d W (h.hp w.heap.size s d (by simp)) (hz.over h.bel hz0) hok.fine K hK⟩
  have hfree := fun (W : World) (h : Lx w W A n U F [(w.heap.size, s, d)]) => free_any s d a W (h.hp w.heap.size s d (by simp)) (hz.over h.bel hz0) hok.fine (fun j hj => by have := hp.free.len j hj; have := hli.lF j hj; omega)
  by_cases hE : headE s d a = 0
  · have hu1 := fun (t : Hs) (hl3 : t.w.n = s.w.n ∧ t.p.n = s.p.n ∧ t.c.n = s.c.n) => (freed_used (t := t) hok.ws hE hl3).2
    obtain ⟨K, hK⟩ : ∃ K, (usedL s d).length = K + 1 := ⟨_, (hu1 s ⟨rfl, rfl, rfl⟩).symm⟩
    have hK5 : K ≤ 512 := by have := Rp.used_len s d; omega
    refine core_ok s d A n c U F a w (freedD d s.p.n a) (flushD d s.p.n (F 0)) K hK5 (U 0) rfl hnc hf hn1 hwh (fun W h => ?_) (fun W b0 t0 hl3 h => ?_) (fun W b0 t0 hl3 h => ?_) (fun W b0 t0 hl3 h => ?_) hfl hwf hkf (huf (K + 1) hK) hn hz hp hl
    · have := hfree W h
      unfold rkFree at this
      rw [if_pos hE] at this
      exact this
    · have hlT : Lite9 t0 (freedD d s.p.n a) n F 71 := hli.freed (t := t0) a hl3
      have := pwhole_any t0 (freedD d s.p.n a) A n c U F W (h.hp b0 t0 _ (by simp)) h.lr (by omega) (hz.over h.bel hz0) (hlT.fine (by decide)) (hlT.all (by decide))
      rwa [freed_whole (t := t0) hok.ws hE hl3 hW] at this
    · exact kept_call a W hok (h.hp w.heap.size s d (by simp)) (h.hp b0 t0 _ (by simp)) (hz.over h.bel hz0) hl3 fun y hy hne => freed_keeps hok.ws hE hy hne
    · exact ⟨used_post t0 _ W (h.hp b0 t0 _ (by simp)) (hz.over h.bel hz0) ((hli.freed (t := t0) a hl3).fine (by decide)) K (by have := hu1 t0 hl3; omega), used_post s d W (h.hp w.heap.size s d (by simp)) (hz.over h.bel hz0) hok.fine (K + 1) hK⟩
  · refine core_no s d A n c U F a w _ hE dNone (flushD d s.p.n (F 0)) _ (U 0) rfl hnc hf hn1 hwh (fun W h => ?_) hfl hwf hkf (huf _ rfl) hn hz hp hl
    have := hfree W h
    unfold rkFree at this
    rw [if_neg hE] at this
    exact this.mono fun _ _ ⟨t, h1, h2, _, h4⟩ => ⟨t, h1, h2, h4⟩
-- the frame (hp9frame.py)
set_option maxRecDepth 100000 in
theorem lifted (os : Os) (started : os.Started) (H : Type) (enc : TypeId × Value → H) :
    ReturnsInHanded {} Tryd.checked os 3 .any (fun w args => (Rows.reapKeepsSpec.pre enc Tryd.prog Tryd.f3 [] false w args ∧ laidMetH Tryd.prog laidSizes w) ∧ sizedMet enc Tryd.prog Tryd.f3 (OpenSpec.ofChange Rows.reapKeepsSpec) false w args)
      (Rows.reapKeepsSpec.post enc Tryd.prog Tryd.f3 false true false false) := by
  refine returnsInHanded_of_change_and (C := Tryd.checked) (X := fun w _ => laidMetH Tryd.prog laidSizes w) (fun _ _ _ hh h => h.of_heap hh) own started (by kernel_rfl) Tryd.func3
    (ChangeSpec.witness_shaped (enc := enc) (C := Tryd.checked) (os := os) (X := fun w _ => laidMetH Tryd.prog laidSizes w) false (World.doorLaid Tryd.prog 400 os) #[.agg #[.slice none 0 0, .slice none 0 0, .slice none 0 0, .slice none 0 0, .slice none 0 0, .slice none 0 0], .slice none 0 0, .int .i64 0] 8 rfl (World.shaped_of_RefB (by kernel_rfl) (by kernel_rfl)) (by kernel_rfl) (by kernel_rfl) (by kernel_rfl) (door_met os _)) ?_
  intro W base args ds gs before hval0 hW _ _ hL _
  have hval : ∀ (j : Nat) t v, Tryd.f3.params[j]? = some t → args[j]? = some v → Value.okWide Tryd.prog W .any base t v := hval0
  have hW' := hW
  obtain ⟨p, q, hA0, hV, rfl, hfz, hnd⟩ := hW
  have hA : DataW.TrodAll enc Tryd.prog W 0 (fun _ => true) true Tryd.f3.params.toList args.toList ds p := hA0
  rw [Tryd.params3] at hA hval
  obtain ⟨v0, vs0, d0, ds0, p0, q0, hargs, rfl, rfl, h0, r0⟩ := trodAll_cons hA
  obtain ⟨v1, vs1, d1, ds1, p1, q1, rfl, rfl, rfl, h1, r1⟩ := trodAll_cons r0
  obtain ⟨v2, vs2, d2, ds2, p2, q2, rfl, rfl, rfl, h2, r2⟩ := trodAll_cons r1
  obtain ⟨rfl, rfl, rfl⟩ := trodAll_nil r2
  obtain rfl : args = #[v0, v1, v2] := by cases args; simp_all
  obtain ⟨rfl, rfl⟩ := trodVars_none hV
  have k0 := h0
  have lt0 : ∀ x ∈ p0, x.block < W.heap.size := by obtain ⟨m, hm⟩ := k0; exact DataW.trod_lt m _ _ _ hm
  obtain ⟨s0, z0, rfl, w0, f0, b0⟩ := heap_of8 (hval 0 28 v0 rfl rfl) h0
  have k1 := h1
  have lt1 : ∀ x ∈ p1, x.block < W.heap.size := by obtain ⟨m, hm⟩ := k1; exact DataW.trod_lt m _ _ _ hm
  obtain ⟨a1, len1, cap1, rfl⟩ := okWide_slice Tryd.underlying29 (hval 1 29 v1 rfl rfl)
  obtain ⟨u1, z1, w1, m1, b1⟩ := rows_of h1
  have c1 := cap_of h1
  obtain ⟨a2, rfl, rfl, rfl, w2⟩ := open_int Tryd.underlying3 (hval 2 3 v2 rfl rfl) h2
  clear hA0 hval0
  refine (walk s0 z0 a1 len1 cap1 u1 z1 a2 W (of_laid hL) w0 f0 b0 w1 m1 c1.1 c1.2 w2).mono fun e W' ⟨he, bel⟩ => ?_
  subst he
  exact ⟨_, rfl, _, _, _, [], _, [], hW', trodAll_mk1 (shut_bool Tryd.underlying4 _), (trodAll_cons_mk (Below.trod laidOut (by kernel_rfl) (of_decide_eq_true (by kernel_rfl)) k0 bel lt0) (trodAll_cons_mk (Below.trod laidOut (by kernel_rfl) (of_decide_eq_true (by kernel_rfl)) k1 bel lt1) (trodAll_cons_mk (shut_int Tryd.underlying3 w2) trodAll_mk0))), rfl, bel.frame _, fun h => by cases h⟩

theorem over : Rows.ReapKeepsSaid :=
  OpenClaim.holds_of_wide 3 Tryd.f3 rfl rfl rfl rfl rfl rfl rfl ⟨rfl, rfl, rfl, rfl, rfl⟩ rfl rfl rfl rfl rfl (by kernel_rfl) Tryd.func3 (by kernel_rfl)
    (of_decide_eq_true (by kernel_rfl)) (by unfold Func.isWrapper; first | (rw [if_pos (by decide +kernel)]; kernel_rfl) | (rw [if_neg (by decide +kernel)]; exact ⟨rfl, rfl⟩))
    (fun os started H enc _ => lifted os started H enc)

/-- The statement: the card. -/
theorem proved : Rows.ReapKeepsCardSaid :=
  Claim7.holds_tied_plain_at .later [] [.data] true Rows.reapKeepsCard.stood.harness false
    over (fun _ h => by cases h) (by kernel_rfl) (fun _ h => by cases h) reapKeeps_row_tie rfl ⟨rfl, rfl⟩ (by kernel_rfl) rfl
    (fun f fn hf hfn => by
      obtain rfl : f = 3 := Option.some.inj ((show Tryd.prog.funcNamed "ragpicker/ragpickerlaw09.ReapKeeps" = some 3 by kernel_rfl).symm.trans hf) |>.symm
      obtain rfl : fn = Tryd.f3 := (Option.some.inj (Tryd.func3.symm.trans hfn)).symm
      exact ⟨by kernel_rfl, fun j t ht => by
        rw [Tryd.params3] at ht
        have hm : t ∈ [28, 29, 3] := by simpa using Array.mem_of_getElem? ht
        have hall : ([28, 29, 3].all fun u => !Tryd.prog.wantsStandIn u) = true := by kernel_rfl
        exact (show Tryd.prog.wantsStandIn t = false by simpa using List.all_eq_true.1 hall t hm)⟩)
    (by kernel_rfl)
#print axioms proved
end Go.Proofs.YtcbnefjfoeanoaaDoor.ReapKeeps
