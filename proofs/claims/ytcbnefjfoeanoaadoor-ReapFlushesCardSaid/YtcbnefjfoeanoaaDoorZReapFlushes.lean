/-
  ReapFlushes: two caches that are flushed, one behind the other, leave as many pages free as both at once do, and as many cells on Free: for every heap of at most 9 pages and 130 words, and every two caches of at most 70 cells of each class; the table of sizes is tied to the program's text by the card.
-/
import Derived.Test.YtcbnefjfoeanoaaDoorZRpFlushesC
import Derived.Test.YtcbnefjfoeanoaaDoorHpZP
import Derived.Test.YtcbnefjfoeanoaaDoorHpZN
namespace Go.Proofs.YtcbnefjfoeanoaaDoor.ReapFlushes
open Go.Proofs.YtcbnefjfoeanoaaDoor Go.Proofs.YtcbnefjfoeanoaaDoor.Rp
open Go.ChangeShapes Go.WideShapes Go.ChangeAt Go.RowKit
set_option maxRecDepth 100000

theorem lite_two {w : World} {B : Nat} {s : Hs} {d : Hd_} {u v : Nat → Ls.Sl} {G H : Nat → List Int} (h : fewL s (ahead u fun _ => v) 2 = true) (hp : Hp w B s d) (lu : Ls.L3 w B u G) (lv : Ls.L3 w B v H) (hv : Fit64 d.ws) : Lite9 s d 2 (ahead G fun _ => H) 70 := by
  unfold fewL lights at h
  simp only [Bool.and_eq_true, decide_eq_true_eq] at h
  have hall := List.all_eq_true.1 h.1.2
  obtain ⟨h1, h2, h3, h4⟩ := few_parts h.1.1
  unfold lightB at h4
  simp only [decide_eq_true_eq] at h4
  have gu := hall 0 (List.mem_range.2 (by decide))
  have gv := hall 1 (List.mem_range.2 (by decide))
  simp only [ahead] at gu gv
  unfold lightB at gu gv
  simp only [decide_eq_true_eq] at gu gv
  refine ⟨h1, h2, h3, fun j hj => ?_, fun i hi j hj => ?_, by decide, hv⟩
  · have := hp.free.len j hj
    rcases (show j = 0 ∨ j = 1 ∨ j = 2 by omega) with rfl | rfl | rfl <;> omega
  · have l1 := lu.len j hj
    have l2 := lv.len j hj
    match i, hi with
    | 0, _ => show (G j).length ≤ 70; rcases (show j = 0 ∨ j = 1 ∨ j = 2 by omega) with rfl | rfl | rfl <;> omega
    | 1, _ => show (H j).length ≤ 70; rcases (show j = 0 ∨ j = 1 ∨ j = 2 by omega) with rfl | rfl | rfl <;> omega
theorem lits_of {w W : World} {u v : Nat → Ls.Sl} {G H : Nat → List Int} {hs : List (Nat × Hs × Hd_)} (h : Mx w W u v G H hs) : Ls.LRow (W.alloc (.cells #[.slice (u 0).a (u 0).n (u 0).c, .slice (u 1).a (u 1).n (u 1).c, .slice (u 2).a (u 2).n (u 2).c, .slice (v 0).a (v 0).n (v 0).c, .slice (v 1).a (v 1).n (v 1).c, .slice (v 2).a (v 2).n (v 2).c] 25)) (W.alloc (.cells #[.slice (u 0).a (u 0).n (u 0).c, .slice (u 1).a (u 1).n (u 1).c, .slice (u 2).a (u 2).n (u 2).c, .slice (v 0).a (v 0).n (v 0).c, .slice (v 1).a (v 1).n (v 1).c, .slice (v 2).a (v 2).n (v 2).c] 25)).heap.size (some ⟨W.heap.size, 0, none⟩) 2 (ahead u fun _ => v) (ahead G fun _ => H) := by
  have := two9_lrow h.lu h.lv (Nat.le_refl _) 25
  rw [World.size_alloc]
  exact this
theorem walk (s : Hs) (d : Hd_) (u : Nat → Ls.Sl) (G : Nat → List Int) (v : Nat → Ls.Sl) (H : Nat → List Int) (w : World) (hz : Cl.Sz w) (hp : Hp w w.heap.size s d) (hv : Fit64 d.ws) (_ : s.p.n ≤ s.p.c) (lu : Ls.L3 w w.heap.size u G) (lv : Ls.L3 w w.heap.size v H) :
    Calls Tryd.prog 6 #[(.agg #[.slice s.w.a s.w.n s.w.c, .slice s.p.a s.p.n s.p.c, .slice (s.u 0).a (s.u 0).n (s.u 0).c, .slice (s.u 1).a (s.u 1).n (s.u 1).c, .slice (s.u 2).a (s.u 2).n (s.u 2).c, .slice s.c.a s.c.n s.c.c]), (.agg #[.slice (u 0).a (u 0).n (u 0).c, .slice (u 1).a (u 1).n (u 1).c, .slice (u 2).a (u 2).n (u 2).c]), (.agg #[.slice (v 0).a (v 0).n (v 0).c, .slice (v 1).a (v 1).n (v 1).c, .slice (v 2).a (v 2).n (v 2).c])] w fun e w' => e = .returned (.bool true) ∧ Below w.heap.size w w' := by
  have hz0 := hz.pos
  have hfew := fun (W : World) (h : Mx w W u v G H [(w.heap.size, s, d)]) => few9_any s (some ⟨W.heap.size, 0, none⟩) 2 2 (ahead u fun _ => v) (ahead G fun _ => H) (W.alloc (.cells #[.slice (u 0).a (u 0).n (u 0).c, .slice (u 1).a (u 1).n (u 1).c, .slice (u 2).a (u 2).n (u 2).c, .slice (v 0).a (v 0).n (v 0).c, .slice (v 1).a (v 1).n (v 1).c, .slice (v 2).a (v 2).n (v 2).c] 25)) (by decide) (lits_of h)
  cases hf : fewL s (ahead u fun _ => v) 2
  · rw [hf] at hfew
    exact walk_few s d u v G H w hfew hz hp lu lv
  rw [hf] at hfew
  have hli := lite_two hf hp lu lv hv
  have hfi := hli.fine (by decide)
  have hmay := fun (W : World) (h : Mx w W u v G H [(w.heap.size, s, d)]) => pmay_any s d (some ⟨W.heap.size, 0, none⟩) 2 2 (ahead u fun _ => v) (ahead G fun _ => H) (W.alloc (.cells #[.slice (u 0).a (u 0).n (u 0).c, .slice (u 1).a (u 1).n (u 1).c, .slice (u 2).a (u 2).n (u 2).c, .slice (v 0).a (v 0).n (v 0).c, .slice (v 1).a (v 1).n (v 1).c, .slice (v 2).a (v 2).n (v 2).c] 25)) ((h.hp w.heap.size s d (by simp)).next ((Below.refl _ _).alloc (Nat.le_refl _) _)) (lits_of h) (by decide) (hz.over (bl_alloc h.bel _) hz0) hfi.wn (by have := hfi.pn; omega) hfi.cn (hli.all (by decide))
  cases hm : mayH s d 2 (ahead G fun _ => H)
  · rw [hm] at hmay
    exact walk_may s d u v G H w hfew hmay hz hp lu lv
  rw [hm] at hmay
  have hO := (okay_iff (r := 1) (R := fun _ => H) (G := G)).1 hm
  have hT := two_flushes hO.2
  have hu70 : ∀ j, j < 3 → (G j).length ≤ 70 := fun j hj => hli.lG 0 (by decide) j hj
  have hv70 : ∀ j, j < 3 → (H j).length ≤ 70 := fun j hj => hli.lG 1 (by decide) j hj
  have hm1 : mayH s d 1 (fun _ => G) = true := may_first9 (by decide) hm
  have hm2 := fun (t : Hs) (ht : Same3 s t) => flush_may (r := 1) (R := fun _ => H) (G := G) ht hm
  have hm3 : mayH s d 1 (fun _ => bothG G H) = true := by
    rw [show (fun _ : Nat => bothG G H) = ahead (bothG G H) (fun _ => bothG G H) by funext i; cases i <;> rfl]
    exact (okay_iff (r := 0)).2 ⟨hO.1, both_okay hO.2⟩
  have h64 : s.p.n ≤ 64 := (fit_first hO.1).p
  refine core s d u v G H w (flushD d s.p.n G) (flushD (flushD d s.p.n G) s.p.n H) (flushD d s.p.n (bothG G H)) hT.2 (fun j hj => by
    have := lu.len j hj
    have := lv.len j hj
    have := hu70 j hj
    have := hv70 j hj
    omega) hfew hmay (fun W h => ?_) (fun W b1 t1 hl1 h => ?_) (fun W b1 t1 b2 t2 V h l3 => ?_) (fun W b1 t1 b2 t2 b3 t3 l2 l3 h => ?_) hz hp lu lv
  · have hp1 := h.hp w.heap.size s d (by simp)
    exact flush_okc u G W hp1 h.lu (hz.over h.bel hz0) (hli.fineT (by decide) hp1.free.len u G (fun j hj => Nat.le_trans (hu70 j hj) (by decide)) h.lu.len) hm1
  · have hp1 := h.hp b1 t1 (flushD d s.p.n G) (by simp)
    have L1 := hli.flush (t := t1) hl1 hu70
    have := flush_okc v H W hp1 h.lv (hz.over h.bel hz0) (L1.fineT (by decide) hp1.free.len v H (fun j hj => Nat.le_trans (hv70 j hj) (by decide)) h.lv.len) (hm2 t1 hl1)
    exact this.mono fun _ _ ⟨t', g1, g2, g3, g4⟩ => ⟨t', g1, by rw [hl1.2.1] at g2; exact g2, ⟨g3.1.trans hl1.1, g3.2.1.trans hl1.2.1, g3.2.2.trans hl1.2.2⟩, g4⟩
  · have hp1 := h.hp w.heap.size s d (by simp)
    exact flush_okc V (bothG G H) W hp1 l3 (hz.over h.bel hz0) (hli.fineT (by decide) hp1.free.len V (bothG G H) (fun j hj => by
      have := hu70 j hj
      have := hv70 j hj
      show (G j ++ H j).length ≤ 1000
      rw [List.length_append]
      omega) l3.len) hm3
  · have g2 := (h.hp b2 t2 (flushD (flushD d s.p.n G) s.p.n H) (by simp)).pages
    have g3 := (h.hp b3 t3 (flushD d s.p.n (bothG G H)) (by simp)).pages
    rw [l3.2.1] at g3 ⊢
    rw [l2.2.1] at g2 ⊢
    exact Cl.same_yes W.heap.size W.heap.size t2.p.a t3.p.a s.p.n t2.p.c t3.p.c _ _ W (by omega) (fun i hi => (hT.1 i hi).symm) g2 g3 (Nat.le_refl _) (Nat.le_refl _)
-- the frame (hp9frame.py)
set_option maxRecDepth 100000 in
theorem lifted (os : Os) (started : os.Started) (H : Type) (enc : TypeId × Value → H) :
    ReturnsInHanded {} Tryd.checked os 6 .any (fun w args => (Rows.reapFlushesSpec.pre enc Tryd.prog Tryd.f6 [] false w args ∧ laidMetH Tryd.prog laidSizes w) ∧ sizedMet enc Tryd.prog Tryd.f6 (OpenSpec.ofChange Rows.reapFlushesSpec) false w args)
      (Rows.reapFlushesSpec.post enc Tryd.prog Tryd.f6 false true false false) := by
  refine returnsInHanded_of_change_and (C := Tryd.checked) (X := fun w _ => laidMetH Tryd.prog laidSizes w) (fun _ _ _ hh h => h.of_heap hh) own started (by kernel_rfl) Tryd.func6
    (ChangeSpec.witness_shaped (enc := enc) (C := Tryd.checked) (os := os) (X := fun w _ => laidMetH Tryd.prog laidSizes w) false (World.doorLaid Tryd.prog 400 os) #[.agg #[.slice none 0 0, .slice none 0 0, .slice none 0 0, .slice none 0 0, .slice none 0 0, .slice none 0 0], .agg #[.slice none 0 0, .slice none 0 0, .slice none 0 0], .agg #[.slice none 0 0, .slice none 0 0, .slice none 0 0]] 8 rfl (World.shaped_of_RefB (by kernel_rfl) (by kernel_rfl)) (by kernel_rfl) (by kernel_rfl) (by kernel_rfl) (door_met os _)) ?_
  intro W base args ds gs before hval0 hW _ _ hL _
  have hval : ∀ (j : Nat) t v, Tryd.f6.params[j]? = some t → args[j]? = some v → Value.okWide Tryd.prog W .any base t v := hval0
  have hW' := hW
  obtain ⟨p, q, hA0, hV, rfl, hfz, hnd⟩ := hW
  have hA : DataW.TrodAll enc Tryd.prog W 0 (fun _ => true) true Tryd.f6.params.toList args.toList ds p := hA0
  rw [Tryd.params6] at hA hval
  obtain ⟨v0, vs0, d0, ds0, p0, q0, hargs, rfl, rfl, h0, r0⟩ := trodAll_cons hA
  obtain ⟨v1, vs1, d1, ds1, p1, q1, rfl, rfl, rfl, h1, r1⟩ := trodAll_cons r0
  obtain ⟨v2, vs2, d2, ds2, p2, q2, rfl, rfl, rfl, h2, r2⟩ := trodAll_cons r1
  obtain ⟨rfl, rfl, rfl⟩ := trodAll_nil r2
  obtain rfl : args = #[v0, v1, v2] := by cases args; simp_all
  obtain ⟨rfl, rfl⟩ := trodVars_none hV
  have k0 := h0
  have lt0 : ∀ x ∈ p0, x.block < W.heap.size := by obtain ⟨m, hm⟩ := k0; exact DataW.trod_lt m _ _ _ hm
  obtain ⟨s0, z0, rfl, w0, f0, b0⟩ := heap_of8 (hval 0 28 v0 rfl rfl) h0
  have k1 := h1
  have lt1 : ∀ x ∈ p1, x.block < W.heap.size := by obtain ⟨m, hm⟩ := k1; exact DataW.trod_lt m _ _ _ hm
  obtain ⟨u1, z1, rfl, w1, b1⟩ := lists_of (hval 1 25 v1 rfl rfl) h1
  have k2 := h2
  have lt2 : ∀ x ∈ p2, x.block < W.heap.size := by obtain ⟨m, hm⟩ := k2; exact DataW.trod_lt m _ _ _ hm
  obtain ⟨u2, z2, rfl, w2, b2⟩ := lists_of (hval 2 25 v2 rfl rfl) h2
  clear hA0 hval0
  refine (walk s0 z0 u1 z1 u2 z2 W (of_laid hL) w0 f0 b0 w1 w2).mono fun e W' ⟨he, bel⟩ => ?_
  subst he
  exact ⟨_, rfl, _, _, _, [], _, [], hW', trodAll_mk1 (shut_bool Tryd.underlying4 _), (trodAll_cons_mk (Below.trod laidOut (by kernel_rfl) (of_decide_eq_true (by kernel_rfl)) k0 bel lt0) (trodAll_cons_mk (Below.trod laidOut (by kernel_rfl) (of_decide_eq_true (by kernel_rfl)) k1 bel lt1) (trodAll_cons_mk (Below.trod laidOut (by kernel_rfl) (of_decide_eq_true (by kernel_rfl)) k2 bel lt2) trodAll_mk0))), rfl, bel.frame _, fun h => by cases h⟩

theorem over : Rows.ReapFlushesSaid :=
  OpenClaim.holds_of_wide 6 Tryd.f6 rfl rfl rfl rfl rfl rfl rfl ⟨rfl, rfl, rfl, rfl, rfl⟩ rfl rfl rfl rfl rfl (by kernel_rfl) Tryd.func6 (by kernel_rfl)
    (of_decide_eq_true (by kernel_rfl)) (by unfold Func.isWrapper; first | (rw [if_pos (by decide +kernel)]; kernel_rfl) | (rw [if_neg (by decide +kernel)]; exact ⟨rfl, rfl⟩))
    (fun os started H enc _ => lifted os started H enc)

/-- The statement: the card. -/
theorem proved : Rows.ReapFlushesCardSaid :=
  Claim7.holds_tied_plain_at .later [] [.data] true Rows.reapFlushesCard.stood.harness false
    over (fun _ h => by cases h) (by kernel_rfl) (fun _ h => by cases h) reapFlushes_row_tie rfl ⟨rfl, rfl⟩ (by kernel_rfl) rfl
    (fun f fn hf hfn => by
      obtain rfl : f = 6 := Option.some.inj ((show Tryd.prog.funcNamed "ragpicker/ragpickerlaw09.ReapFlushes" = some 6 by kernel_rfl).symm.trans hf) |>.symm
      obtain rfl : fn = Tryd.f6 := (Option.some.inj (Tryd.func6.symm.trans hfn)).symm
      exact ⟨by kernel_rfl, fun j t ht => by
        rw [Tryd.params6] at ht
        have hm : t ∈ [28, 25, 25] := by simpa using Array.mem_of_getElem? ht
        have hall : ([28, 25, 25].all fun u => !Tryd.prog.wantsStandIn u) = true := by kernel_rfl
        exact (show Tryd.prog.wantsStandIn t = false by simpa using List.all_eq_true.1 hall t hm)⟩)
    (by kernel_rfl)
#print axioms proved
end Go.Proofs.YtcbnefjfoeanoaaDoor.ReapFlushes
