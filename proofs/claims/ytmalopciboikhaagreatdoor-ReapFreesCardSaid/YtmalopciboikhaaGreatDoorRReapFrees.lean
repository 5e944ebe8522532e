/-
  ReapFrees: the package's Free, Flush and Tidy give what the reference's give, or the same error: for every heap of at most 9 pages and 130 words, every cache of at most 70 cells of each class, and any address; the table of sizes is tied to the program's text by the card.
-/
import Derived.Test.YtmalopciboikhaaGreatDoorRRpFreesC
import Derived.Test.YtmalopciboikhaaGreatDoorHpRK
import Derived.Test.YtmalopciboikhaaGreatDoorHpRO
namespace Go.Proofs.YtmalopciboikhaaGreatDoor.ReapFrees
open Go.Proofs.YtmalopciboikhaaGreatDoor Go.Proofs.YtmalopciboikhaaGreatDoor.Rp
open Go.ChangeShapes Go.WideShapes Go.ChangeAt Go.RowKit
set_option maxRecDepth 100000

theorem same_two {W : World} {t t' : Hs} {D : Hd_} {n p c : Nat} (hb : n ≤ 4000 ∧ p ≤ 1000 ∧ c ≤ 100000 ∧ ∀ j, j < 3 → (D.F j).length ≤ 4000000) (e : t.w.n = n ∧ t.p.n = p ∧ t.c.n = c) (e' : t'.w.n = n ∧ t'.p.n = p ∧ t'.c.n = c) (h : Hp W W.heap.size t D) (h' : Hp W W.heap.size t' D) :
    Calls Tryz.prog 11 #[(.agg #[.slice t.w.a t.w.n t.w.c, .slice t.p.a t.p.n t.p.c, .slice (t.u 0).a (t.u 0).n (t.u 0).c, .slice (t.u 1).a (t.u 1).n (t.u 1).c, .slice (t.u 2).a (t.u 2).n (t.u 2).c, .slice t.c.a t.c.n t.c.c]), (.agg #[.slice t'.w.a t'.w.n t'.w.c, .slice t'.p.a t'.p.n t'.p.c, .slice (t'.u 0).a (t'.u 0).n (t'.u 0).c, .slice (t'.u 1).a (t'.u 1).n (t'.u 1).c, .slice (t'.u 2).a (t'.u 2).n (t'.u 2).c, .slice t'.c.a t'.c.n t'.c.c])] W fun e w' => e = .returned (.bool true) ∧ Below W.heap.size W w' := by
  obtain ⟨⟨a1, m1, k1⟩, ⟨a2, m2, k2⟩, v, ⟨a3, m3, k3⟩⟩ := t'
  obtain ⟨e1, e2, e3⟩ := e
  obtain ⟨g1, g2, g3⟩ := e'
  dsimp only at g1 g2 g3
  obtain rfl := g1.trans e1.symm
  obtain rfl := g2.trans e2.symm
  obtain rfl := g3.trans e3.symm
  exact rsame_yes t D D a1 a2 a3 k1 k2 k3 v W h h' rfl (fun _ _ => rfl) (fun _ _ => rfl) (fun _ _ => rfl) (by omega) (by omega) (by omega) (fun j hj => by rw [h.free.len j hj]; exact hb.2.2.2 j hj) (fun j hj => by have := h'.free.len j hj; have := hb.2.2.2 j hj; simp only at *; omega)
theorem walk (s : Hs) (d : Hd_) (u : Nat → Ls.Sl) (G : Nat → List Int) (a : Int) (w : World) (hz : Cl.Sz w) (hp : Hp w w.heap.size s d) (hv : Fit64 d.ws) (_ : s.p.n ≤ s.p.c) (lu : Ls.L3 w w.heap.size u G) (_ : (Lit.int .i64 a).wf = true) :
    Calls Tryz.prog 4 #[(.agg #[.slice s.w.a s.w.n s.w.c, .slice s.p.a s.p.n s.p.c, .slice (s.u 0).a (s.u 0).n (s.u 0).c, .slice (s.u 1).a (s.u 1).n (s.u 1).c, .slice (s.u 2).a (s.u 2).n (s.u 2).c, .slice s.c.a s.c.n s.c.c]), (.agg #[.slice (u 0).a (u 0).n (u 0).c, .slice (u 1).a (u 1).n (u 1).c, .slice (u 2).a (u 2).n (u 2).c]), .int .i64 a] w fun e w' => e = .returned (.bool true) ∧ Below w.heap.size w w' := by
  have hz0 := hz.pos
  cases hf : Rp.fewL s (fun _ => u) 1
  · exact walk_few s d u G a w hf hz hp lu
  have hb := (Below.refl w.heap.size w).alloc (Nat.le_refl _) (.cells #[.slice (u 0).a (u 0).n (u 0).c, .slice (u 1).a (u 1).n (u 1).c, .slice (u 2).a (u 2).n (u 2).c] 25)
  have hli : Lite9 s d 1 (fun _ => G) 70 := lite9_few hf (hp.next hb) (lrow_of (own_one w u) (by simp) (fun _ _ => lu.next hb)) hv
  have hG : ∀ j, j < 3 → (G j).length ≤ 70 := fun j hj => hli.lG 0 (by decide) j hj
  have hfi := hli.fine (by decide)
  have hus := lens_of hp hli (by decide)
  have hfT : FineT s d u G := hli.fineT (by decide) hp.free.len u G (fun j hj => Nat.le_trans (hG j hj) (by decide)) lu.len
  have hf0 : FineT s d Ls.noSl Ls.noLists := hli.fineT (by decide) hp.free.len Ls.noSl Ls.noLists (fun j _ => Nat.zero_le _) (fun j _ => rfl)
  have h1 := hli.w
  have h2 := hli.p
  have h3 := hli.c
  have B0 : s.w.n ≤ 4000 ∧ s.p.n ≤ 1000 ∧ s.c.n ≤ 100000 ∧ ∀ j, j < 3 → (d.F j).length ≤ 4000000 := ⟨by omega, by omega, by omega, fun j hj => Nat.le_trans (hli.lF j hj) (by decide)⟩
  have BN : ∀ er, (rkNo er).wn ≤ 4000 ∧ (rkNo er).pn ≤ 1000 ∧ (rkNo er).cn ≤ 100000 ∧ ∀ j, j < 3 → ((rkNo er).d.F j).length ≤ 4000000 := fun er => ⟨Nat.zero_le _, Nat.zero_le _, Nat.zero_le _, fun j _ => Nat.zero_le _⟩
  have B1 : (rkFree s d a).wn ≤ 4000 ∧ (rkFree s d a).pn ≤ 1000 ∧ (rkFree s d a).cn ≤ 100000 ∧ ∀ j, j < 3 → ((rkFree s d a).d.F j).length ≤ 4000000 := by
    unfold rkFree
    split
    · exact ⟨B0.1, B0.2.1, B0.2.2.1, fun j hj => Nat.le_trans ((hli.freed (t := s) a ⟨rfl, rfl, rfl⟩).lF j hj) (by decide)⟩
    · exact BN _
  have BF : ∀ H : Nat → List Int, (∀ j, j < 3 → (H j).length ≤ 70) → (rkFlush s d H).wn ≤ 4000 ∧ (rkFlush s d H).pn ≤ 1000 ∧ (rkFlush s d H).cn ≤ 100000 ∧ ∀ j, j < 3 → ((rkFlush s d H).d.F j).length ≤ 4000000 := fun H hH => by
    unfold rkFlush
    split
    · exact ⟨B0.1, B0.2.1, B0.2.2.1, fun j hj => Nat.le_trans ((hli.flush (t := s) (G := H) ⟨rfl, rfl, rfl⟩ hH).lF j hj) (by decide)⟩
    · exact BN _
  have B2 := BF G hG
  have B3 := BF Ls.noLists fun j _ => Nat.zero_le _
  exact core s d u G a w (rkFree s d a).er (rkFree s d a).wn (rkFree s d a).pn (rkFree s d a).cn (rkFree s d a).d (rkFlush s d G).er (rkFlush s d G).wn (rkFlush s d G).pn (rkFlush s d G).cn (rkFlush s d G).d (rkFlush s d Ls.noLists).er (rkFlush s d Ls.noLists).wn (rkFlush s d Ls.noLists).pn (rkFlush s d Ls.noLists).cn (rkFlush s d Ls.noLists).d hf
    (fun W hs hm h => (rown9_any s d W (h.hp _ _ _ hm) (by omega) (by omega) (by omega) (fun j hj => Nat.le_trans (hus j hj) (by decide))).mono fun _ _ ⟨t, he, _, hp', hl, _, _, _, hb⟩ => ⟨t, he, hp', ⟨hl.1, hl.2.1, hl.2.2.2⟩, hb⟩)
    (fun W hs hm h => free_any s d a W (h.hp _ _ _ hm) (hz.over h.bel hz0) hfi hus)
    (fun W hs hm h => Rp.rfree_any s d a W (h.hp _ _ _ hm) hfi hus)
    (fun W hs hm h => flush_any s u d G W (h.hp _ _ _ hm) h.l3 (hz.over h.bel hz0) hfT)
    (fun W hs hm h => rflush_any s u d G W (h.hp _ _ _ hm) h.l3 hfT)
    (fun W hs hm h => tidy_any s d W (h.hp _ _ _ hm) (hz.over h.bel hz0) hf0)
    (fun W hs hm h => rflush_any s Ls.noSl d Ls.noLists W (h.hp _ _ _ hm) (Ls.L3.none_ _ _) hf0)
    (fun W t t' e e' g g' => same_two B0 e e' g g') (fun W t t' e e' g g' => same_two B1 e e' g g') (fun W t t' e e' g g' => same_two B2 e e' g g') (fun W t t' e e' g g' => same_two B3 e e' g g') hz hp lu
-- the frame (hp9frame.py)
set_option maxRecDepth 100000 in
theorem lifted (os : Os) (started : os.Started) (H : Type) (enc : TypeId × Value → H) :
    ReturnsInHanded {} Tryz.checked os 4 .any (fun w args => (Rows.reapFreesSpec.pre enc Tryz.prog Tryz.f4 [] false w args ∧ laidMetH Tryz.prog laidSizes w) ∧ sizedMet enc Tryz.prog Tryz.f4 (OpenSpec.ofChange Rows.reapFreesSpec) false w args)
      (Rows.reapFreesSpec.post enc Tryz.prog Tryz.f4 false true false false) := by
  refine returnsInHanded_of_change_and (C := Tryz.checked) (X := fun w _ => laidMetH Tryz.prog laidSizes w) (fun _ _ _ hh h => h.of_heap hh) own started (by kernel_rfl) Tryz.func4
    (ChangeSpec.witness_shaped (enc := enc) (C := Tryz.checked) (os := os) (X := fun w _ => laidMetH Tryz.prog laidSizes w) false (World.doorLaid Tryz.prog 400 os) #[.agg #[.slice none 0 0, .slice none 0 0, .slice none 0 0, .slice none 0 0, .slice none 0 0, .slice none 0 0], .agg #[.slice none 0 0, .slice none 0 0, .slice none 0 0], .int .i64 0] 8 rfl (World.shaped_of_RefB (by kernel_rfl) (by kernel_rfl)) (by kernel_rfl) (by kernel_rfl) (by kernel_rfl) (door_met os _)) ?_
  intro W base args ds gs before hval0 hW _ _ hL _
  have hval : ∀ (j : Nat) t v, Tryz.f4.params[j]? = some t → args[j]? = some v → Value.okWide Tryz.prog W .any base t v := hval0
  have hW' := hW
  obtain ⟨p, q, hA0, hV, rfl, hfz, hnd⟩ := hW
  have hA : DataW.TrodAll enc Tryz.prog W 0 (fun _ => true) true Tryz.f4.params.toList args.toList ds p := hA0
  rw [Tryz.params4] at hA hval
  obtain ⟨v0, vs0, d0, ds0, p0, q0, hargs, rfl, rfl, h0, r0⟩ := trodAll_cons hA
  obtain ⟨v1, vs1, d1, ds1, p1, q1, rfl, rfl, rfl, h1, r1⟩ := trodAll_cons r0
  obtain ⟨v2, vs2, d2, ds2, p2, q2, rfl, rfl, rfl, h2, r2⟩ := trodAll_cons r1
  obtain ⟨rfl, rfl, rfl⟩ := trodAll_nil r2
  obtain rfl : args = #[v0, v1, v2] := by cases args; simp_all
  obtain ⟨rfl, rfl⟩ := trodVars_none hV
  have k0 := h0
  have lt0 : ∀ x ∈ p0, x.block < W.heap.size := by obtain ⟨m, hm⟩ := k0; exact DataW.trod_lt m _ _ _ hm
  obtain ⟨s0, z0, rfl, w0, f0, b0⟩ := heap_of8 (hval 0 28 v0 rfl rfl) h0
  have k1 := h1
  have lt1 : ∀ x ∈ p1, x.block < W.heap.size := by obtain ⟨m, hm⟩ := k1; exact DataW.trod_lt m _ _ _ hm
  obtain ⟨u1, z1, rfl, w1, b1⟩ := lists_of (hval 1 25 v1 rfl rfl) h1
  obtain ⟨a2, rfl, rfl, rfl, w2⟩ := open_int Tryz.underlying3 (hval 2 3 v2 rfl rfl) h2
  clear hA0 hval0
  refine (walk s0 z0 u1 z1 a2 W (of_laid hL) w0 f0 b0 w1 w2).mono fun e W' ⟨he, bel⟩ => ?_
  subst he
  exact ⟨_, rfl, _, _, _, [], _, [], hW', trodAll_mk1 (shut_bool Tryz.underlying4 _), (trodAll_cons_mk (Below.trod laidOut (by kernel_rfl) (of_decide_eq_true (by kernel_rfl)) k0 bel lt0) (trodAll_cons_mk (Below.trod laidOut (by kernel_rfl) (of_decide_eq_true (by kernel_rfl)) k1 bel lt1) (trodAll_cons_mk (shut_int Tryz.underlying3 w2) trodAll_mk0))), rfl, bel.frame _, fun h => by cases h⟩

theorem over : Rows.ReapFreesSaid :=
  OpenClaim.holds_of_wide 4 Tryz.f4 rfl rfl rfl rfl rfl rfl rfl ⟨rfl, rfl, rfl, rfl, rfl⟩ rfl rfl rfl rfl rfl (by kernel_rfl) Tryz.func4 (by kernel_rfl)
    (of_decide_eq_true (by kernel_rfl)) (by unfold Func.isWrapper; first | (rw [if_pos (by decide +kernel)]; kernel_rfl) | (rw [if_neg (by decide +kernel)]; exact ⟨rfl, rfl⟩))
    (fun os started H enc _ => lifted os started H enc)

/-- The statement: the card. -/
theorem proved : Rows.ReapFreesCardSaid :=
  Claim7.holds_tied_plain_at .later [] [.data] true Rows.reapFreesCard.stood.harness false
    over (fun _ h => by cases h) (by kernel_rfl) (fun _ h => by cases h) reapFrees_row_tie rfl ⟨rfl, rfl⟩ (by kernel_rfl) rfl
    (fun f fn hf hfn => by
      obtain rfl : f = 4 := Option.some.inj ((show Tryz.prog.funcNamed "ragpicker/ragpickerlaw09.ReapFrees" = some 4 by kernel_rfl).symm.trans hf) |>.symm
      obtain rfl : fn = Tryz.f4 := (Option.some.inj (Tryz.func4.symm.trans hfn)).symm
      exact ⟨by kernel_rfl, fun j t ht => by
        rw [Tryz.params4] at ht
        have hm : t ∈ [28, 25, 3] := by simpa using Array.mem_of_getElem? ht
        have hall : ([28, 25, 3].all fun u => !Tryz.prog.wantsStandIn u) = true := by kernel_rfl
        exact (show Tryz.prog.wantsStandIn t = false by simpa using List.all_eq_true.1 hall t hm)⟩)
    (by kernel_rfl)
#print axioms proved
end Go.Proofs.YtmalopciboikhaaGreatDoor.ReapFrees
