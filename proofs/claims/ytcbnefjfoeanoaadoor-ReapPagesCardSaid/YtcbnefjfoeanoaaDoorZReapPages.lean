/-
  ReapPages: behind Flush no page stays all of whose cells are on Free; where there are no objects, and all caches are flushed, all pages are free: for every heap of at most 9 pages and 130 words, and at most four caches of at most 70 cells of each class; the table of sizes is tied to the program's text by the card.
-/
import Derived.Test.YtcbnefjfoeanoaaDoorZRpPagesC
import Derived.Test.YtcbnefjfoeanoaaDoorZRpPgP
import Derived.Test.YtcbnefjfoeanoaaDoorHpZN
namespace Go.Proofs.YtcbnefjfoeanoaaDoor.ReapPages
open Go.Proofs.YtcbnefjfoeanoaaDoor Go.Proofs.YtcbnefjfoeanoaaDoor.Rp
open Go.ChangeShapes Go.WideShapes Go.ChangeAt Go.RowKit
set_option maxRecDepth 100000

theorem run_lite {s : Hs} {d : Hd_} {n : Nat} {F : Nat → Nat → List Int} (h : Lite9 s d n F 70) : ∀ k, k ≤ n → ∀ t, Same3 s t → Lite9 t (runD d s.p.n F k) n F (70 + 70 * k)
  | 0, _, _, ht => h.same ht
  | k + 1, hk, t, ht => by
    have h1 := run_lite h k (by omega) s (same3_refl s)
    exact (h1.flush (t := t) ht fun j hj => h.lG k (by omega) j hj).more (by omega)
theorem walk (s : Hs) (d : Hd_) (A : Option Addr) (n c : Nat) (U : Nat → Nat → Ls.Sl) (F : Nat → Nat → List Int) (w : World) (hz : Cl.Sz w) (hp : Hp w w.heap.size s d) (hv : Fit64 d.ws) (_ : s.p.n ≤ s.p.c) (hl : Ls.LRow w w.heap.size A n U F) (hmx : n ≤ maxLen) (_ : n ≤ c) (_ : c ≤ maxLen) :
    Calls Tryd.prog 4 #[(.agg #[.slice s.w.a s.w.n s.w.c, .slice s.p.a s.p.n s.p.c, .slice (s.u 0).a (s.u 0).n (s.u 0).c, .slice (s.u 1).a (s.u 1).n (s.u 1).c, .slice (s.u 2).a (s.u 2).n (s.u 2).c, .slice s.c.a s.c.n s.c.c]), .slice A n c] w fun e w' => e = .returned (.bool true) ∧ Below w.heap.size w w' := by
  have hn : n ≤ 9223372036854775807 := by unfold maxLen at hmx; omega
  cases hf : fewL s U n
  · exact walk_few s d A n c U F w hf hn hz hp hl
  have hli := lite9_few hf hp hl hv
  have hz0 := hz.pos
  have hn4 := hli.n4
  have hwh := fun (W : World) (h : Lx w W A n U F [(w.heap.size, s, d)]) => pwhole_any s d A n c U F W (h.hp w.heap.size s d (by simp)) h.lr (by omega) (hz.over h.bel hz0) (hli.fine (by decide)) (hli.all (by decide))
  cases hW : wholeH s d n F
  · rw [hW] at hwh
    exact walk_whole s d A n c U F w hf hwh hn hz hp hl
  rw [hW] at hwh
  have hm := whole_may hW
  have hok : Okl s d := ⟨hli.fine (by decide), may_none hm, hp.words.1⟩
  have rm := fun (t : Hs) (ht : Same3 s t) => run_may hm n (Nat.le_refl n) t ht
  have rw' := run_whole hW n (Nat.le_refl n) s (same3_refl s)
  have rl := fun (t : Hs) (ht : Same3 s t) => run_lite hli n (Nat.le_refl n) t ht
  rw [Nat.sub_self] at rw'
  have rm' := fun (t : Hs) (ht : Same3 s t) => (rm t ht).1
  simp only [Nat.sub_self] at rm'
  have hlast := last_whole rw' (same3_refl s)
  have hmy : Cl.mayB (flushD (runD d s.p.n F n) s.p.n Ls.noLists).f s.p.n = true := (whole0_iff.1 hlast).2.1.may
  have hul := (last_used (rm' s (same3_refl s)) (same3_refl s)).trans (rm s (same3_refl s)).2
  refine core s d A n c U F w (runD d s.p.n F) (flushD (runD d s.p.n F n) s.p.n Ls.noLists) (usedL s d).length rfl hok.wp.2 hf hwh (fun k hk W bk t h => ?_) (fun W bk t h => ?_) (fun W bk t h p hpn h1 => ?_) (fun W bk t h => used_post s d W h.hs (hz.over h.bel hz0) hok.fine _ rfl) (fun hK W bk t h => ?_) hn hz hp hl
  · obtain ⟨_, _, _, _, hc⟩ := h.lr (by omega)
    have l3 := (hc k hk).2
    have hlk := run_lite hli k (by omega) t h.ln
    have hmk := (run_may hm k (by omega) t h.ln).1
    have := flush_okc (U k) (F k) W h.hp l3 (hz.over h.bel hz0) (hlk.fineT (by omega) h.hp.free.len (U k) (F k) (fun j hj => Nat.le_trans (hli.lG k hk j hj) (by decide)) l3.len) (may_first9 (by omega) hmk)
    exact this.mono fun _ _ ⟨t', g1, g2, g3, g4⟩ => ⟨t', g1, by rw [h.ln.2.1] at g2; exact g2, ⟨g3.1.trans h.ln.1, g3.2.1.trans h.ln.2.1, g3.2.2.trans h.ln.2.2⟩, g4⟩
  · have hlk := rl t h.ln
    have := tidy_okc W h.hp (hz.over h.bel hz0) (hlk.fineT (by omega) h.hp.free.len Ls.noSl Ls.noLists (fun j _ => Nat.zero_le _) (fun j _ => rfl)) (last_may (rm' t h.ln))
    exact this.mono fun _ _ ⟨t', g1, g2, g3, g4⟩ => ⟨t', g1, by rw [h.ln.2.1] at g2; exact g2, ⟨g3.1.trans h.ln.1, g3.2.1.trans h.ln.2.1, g3.2.2.trans h.ln.2.2⟩, g4⟩
  · obtain ⟨hk, e⟩ := small_kind hmy hpn h1
    have hfew := last_few (d := runD d s.p.n F n) hpn h1
    have hlt := (rl s (same3_refl s)).flush (t := t) h.ln (G := Ls.noLists) (C := 0) fun j _ => Nat.zero_le _
    have hun : ∀ j, j < 3 → (t.u j).n ≤ 2000000 := fun j hj => by
      have h2 := h.hp.free.len j hj
      have h3 := hlt.lF j hj
      omega
    generalize flushD (runD d s.p.n F n) s.p.n Ls.noLists = DT at hk e hfew h1 hlt h
    obtain ⟨q, hq⟩ : ∃ q, q = (DT.f p).2.toNat := ⟨_, rfl⟩
    have e2 : (DT.f p).2 = (q : Int) := by rw [hq]; exact congrArg Prod.snd e
    rw [e2] at hfew ⊢
    have := Ls.rpart_ok W.heap.size t.u DT.F q (by rw [hq]; exact hk) (16 + 16 * (p : Int)) (32 + 16 * (p : Int)) W h.hp.free (Nat.le_refl _) hun
    refine this.mono fun _ _ ⟨v, sl, g1, _, ⟨g2, _⟩, g3⟩ => ⟨v, sl.a, sl.n, sl.c, g1, ?_, g3⟩
    have hlen : (onFree DT p).length = sl.n := by unfold onFree; rw [← hq]; exact g2.1
    rw [← hlen]
    exact hfew
  · have hp0 : ∀ j, j < s.p.n → ((flushD (runD d s.p.n F n) s.p.n Ls.noLists).f j).1 = 0 := fun j hj => all_free hlast (hul.trans hK) hj
    have := Cl.count_any W.heap.size t.p.a t.p.n t.p.c _ 0 W (by rw [h.ln.2.1]; have := hok.wp.2; omega) h.hp.pages (Nat.le_refl _)
    exact this.mono fun _ _ hh => by rw [h.ln.2.1, cnt_all s.p.n hp0] at hh; exact hh
-- the frame (hp9frame.py)
set_option maxRecDepth 100000 in
theorem lifted (os : Os) (started : os.Started) (H : Type) (enc : TypeId × Value → H) :
    ReturnsInHanded {} Tryd.checked os 4 .any (fun w args => (Rows.reapPagesSpec.pre enc Tryd.prog Tryd.f4 [] false w args ∧ laidMetH Tryd.prog laidSizes w) ∧ sizedMet enc Tryd.prog Tryd.f4 (OpenSpec.ofChange Rows.reapPagesSpec) false w args)
      (Rows.reapPagesSpec.post enc Tryd.prog Tryd.f4 false true false false) := by
  refine returnsInHanded_of_change_and (C := Tryd.checked) (X := fun w _ => laidMetH Tryd.prog laidSizes w) (fun _ _ _ hh h => h.of_heap hh) own started (by kernel_rfl) Tryd.func4
    (ChangeSpec.witness_shaped (enc := enc) (C := Tryd.checked) (os := os) (X := fun w _ => laidMetH Tryd.prog laidSizes w) false (World.doorLaid Tryd.prog 400 os) #[.agg #[.slice none 0 0, .slice none 0 0, .slice none 0 0, .slice none 0 0, .slice none 0 0, .slice none 0 0], .slice none 0 0] 8 rfl (World.shaped_of_RefB (by kernel_rfl) (by kernel_rfl)) (by kernel_rfl) (by kernel_rfl) (by kernel_rfl) (door_met os _)) ?_
  intro W base args ds gs before hval0 hW _ _ hL _
  have hval : ∀ (j : Nat) t v, Tryd.f4.params[j]? = some t → args[j]? = some v → Value.okWide Tryd.prog W .any base t v := hval0
  have hW' := hW
  obtain ⟨p, q, hA0, hV, rfl, hfz, hnd⟩ := hW
  have hA : DataW.TrodAll enc Tryd.prog W 0 (fun _ => true) true Tryd.f4.params.toList args.toList ds p := hA0
  rw [Tryd.params4] at hA hval
  obtain ⟨v0, vs0, d0, ds0, p0, q0, hargs, rfl, rfl, h0, r0⟩ := trodAll_cons hA
  obtain ⟨v1, vs1, d1, ds1, p1, q1, rfl, rfl, rfl, h1, r1⟩ := trodAll_cons r0
  obtain ⟨rfl, rfl, rfl⟩ := trodAll_nil r1
  obtain rfl : args = #[v0, v1] := by cases args; simp_all
  obtain ⟨rfl, rfl⟩ := trodVars_none hV
  have k0 := h0
  have lt0 : ∀ x ∈ p0, x.block < W.heap.size := by obtain ⟨m, hm⟩ := k0; exact DataW.trod_lt m _ _ _ hm
  obtain ⟨s0, z0, rfl, w0, f0, b0⟩ := heap_of8 (hval 0 28 v0 rfl rfl) h0
  have k1 := h1
  have lt1 : ∀ x ∈ p1, x.block < W.heap.size := by obtain ⟨m, hm⟩ := k1; exact DataW.trod_lt m _ _ _ hm
  obtain ⟨a1, len1, cap1, rfl⟩ := okWide_slice Tryd.underlying29 (hval 1 29 v1 rfl rfl)
  obtain ⟨u1, z1, w1, m1, b1⟩ := rows_of h1
  have c1 := cap_of h1
  clear hA0 hval0
  refine (walk s0 z0 a1 len1 cap1 u1 z1 W (of_laid hL) w0 f0 b0 w1 m1 c1.1 c1.2).mono fun e W' ⟨he, bel⟩ => ?_
  subst he
  exact ⟨_, rfl, _, _, _, [], _, [], hW', trodAll_mk1 (shut_bool Tryd.underlying4 _), (trodAll_cons_mk (Below.trod laidOut (by kernel_rfl) (of_decide_eq_true (by kernel_rfl)) k0 bel lt0) (trodAll_cons_mk (Below.trod laidOut (by kernel_rfl) (of_decide_eq_true (by kernel_rfl)) k1 bel lt1) trodAll_mk0)), rfl, bel.frame _, fun h => by cases h⟩

theorem over : Rows.ReapPagesSaid :=
  OpenClaim.holds_of_wide 4 Tryd.f4 rfl rfl rfl rfl rfl rfl rfl ⟨rfl, rfl, rfl, rfl, rfl⟩ rfl rfl rfl rfl rfl (by kernel_rfl) Tryd.func4 (by kernel_rfl)
    (of_decide_eq_true (by kernel_rfl)) (by unfold Func.isWrapper; first | (rw [if_pos (by decide +kernel)]; kernel_rfl) | (rw [if_neg (by decide +kernel)]; exact ⟨rfl, rfl⟩))
    (fun os started H enc _ => lifted os started H enc)

/-- The statement: the card. -/
theorem proved : Rows.ReapPagesCardSaid :=
  Claim7.holds_tied_plain_at .later [] [.data] true Rows.reapPagesCard.stood.harness false
    over (fun _ h => by cases h) (by kernel_rfl) (fun _ h => by cases h) reapPages_row_tie rfl ⟨rfl, rfl⟩ (by kernel_rfl) rfl
    (fun f fn hf hfn => by
      obtain rfl : f = 4 := Option.some.inj ((show Tryd.prog.funcNamed "ragpicker/ragpickerlaw09.ReapPages" = some 4 by kernel_rfl).symm.trans hf) |>.symm
      obtain rfl : fn = Tryd.f4 := (Option.some.inj (Tryd.func4.symm.trans hfn)).symm
      exact ⟨by kernel_rfl, fun j t ht => by
        rw [Tryd.params4] at ht
        have hm : t ∈ [28, 29] := by simpa using Array.mem_of_getElem? ht
        have hall : ([28, 29].all fun u => !Tryd.prog.wantsStandIn u) = true := by kernel_rfl
        exact (show Tryd.prog.wantsStandIn t = false by simpa using List.all_eq_true.1 hall t hm)⟩)
    (by kernel_rfl)
#print axioms proved
end Go.Proofs.YtcbnefjfoeanoaaDoor.ReapPages
