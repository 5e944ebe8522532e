/-
  HeapKeeps.
-/
import Derived.Test.YtodpciodongajaaDoorHpIns
import Derived.Test.YtodpciodongajaaDoorHpSix
import Derived.Test.YtodpciodongajaaDoorHpKeepW
import Derived.Test.YtodpciodongajaaDoorHpSet
namespace Go.Proofs.YtodpciodongajaaDoor.HeapKeeps
open Go.Proofs.YtodpciodongajaaDoor
open Go.ChangeShapes Go.WideShapes Go.ChangeAt Go.RowKit
set_option maxRecDepth 100000

theorem fit_set {ws : List Int} {i : Nat} {x : Int} (h : Fit64 ws) (hx : -9223372036854775808 ≤ x ∧ x ≤ 9223372036854775807) : Fit64 (ws.set i x) := fun j => by
  have := h j
  by_cases e : i = j
  · subst e
    by_cases hl : i < ws.length
    · simpa [List.getD, hl] using hx
    · rw [List.set_eq_of_length_le (by omega)]
      exact this
  · simpa [List.getD, List.getElem?_set_ne e] using this
theorem walk (s : Hs) (d : Hd_) (a : Int) (u o e : Bool) (n b m : Int) (w : World) (hz : Cl.Sz w) (hp : Hp w w.heap.size s d) (hv : Fit64 d.ws) (_ : (Lit.int .i64 a).wf = true) (_ : (Lit.int .i64 n).wf = true) (_ : (Lit.int .i64 b).wf = true) (_ : (Lit.int .i64 m).wf = true) :
    Calls Tryd.prog 5 #[(.agg #[.slice s.w.a s.w.n s.w.c, .slice s.p.a s.p.n s.p.c, .slice (s.u 0).a (s.u 0).n (s.u 0).c, .slice (s.u 1).a (s.u 1).n (s.u 1).c, .slice (s.u 2).a (s.u 2).n (s.u 2).c, .slice s.c.a s.c.n s.c.c]), .int .i64 a, (.agg #[.bool u, .bool o, .bool e, .int .i64 n, .int .i64 b, .int .i64 m])] w fun e w' => e = .returned (.bool true) ∧ Below w.heap.size w w' := by
  cases hf : fewH s
  · exact walk_few s d a u o e n b m w hz hf hp
  · have hfi := fine_few hf hp hv
    have hz0 := hz.pos
    by_cases he : headE s d a = 0
    · have hm0 : mayB0 s d = true := by
        cases hm : mayB0 s d
        · unfold headE at he
          rw [if_pos hm] at he
          omega
        · rfl
      obtain ⟨o1, e1, b1, m1, hV⟩ : ∃ o e b m, headV s d a = .agg #[.bool true, .bool o, .bool e, .int .i64 (nOf (wd d a)), .int .i64 b, .int .i64 m] := by
        rcases used_head hm0 a with ⟨_, _, h2, _⟩ | ⟨_, h1⟩
        · exact h2
        · omega
      have sz : ∀ W, HNow w W s d → Hp W W.heap.size s d ∧ Cl.Sz W := fun W h => ⟨h.hp.more h.bel.size, hz.over h.bel hz0⟩
      cases hx : Hd.mayB u o e n b m
      · exact walk_no s d a u o e n b m w 1 (by decide) hz hf hp fun W h => set_bad s d a u o e n b m W (sz W h).1 (sz W h).2 hfi he _ _ _ _ _ hV hx
      · cases u
        · exact walk_no s d a false o e n b m w 1 (by decide) hz hf hp fun W h => set_other s d a false o e n b m W (sz W h).1 (sz W h).2 hfi he _ _ _ _ _ hV hx (.inl rfl)
        · by_cases hn : n = nOf (wd d a)
          · subst hn
            have hr := Hd.word_range hx
            exact walk_ok s d a o e b m w (nOf (wd d a)) _ (dSet d a o e (nOf (wd d a)) b m) rfl hz hf hp hv (fit_set hv (by omega)) hm0 (fun t hl => turned_set hl hm0 hp.words.1 he hx rfl) fun W h => set_ok s d a o e b m W _ (sz W h).1 (sz W h).2 hfi he _ _ _ _ hV hm0 hx
          · exact walk_no s d a true o e n b m w 1 (by decide) hz hf hp fun W h => set_other s d a true o e n b m W (sz W h).1 (sz W h).2 hfi he _ _ _ _ _ hV hx (.inr ⟨rfl, hn⟩)
    · exact walk_no s d a u o e n b m w _ he hz hf hp fun W h => set_none s d a u o e n b m W (h.hp.more h.bel.size) (hz.over h.bel hz0) hfi _ rfl he
-- the frame (hpframe.py)
set_option maxRecDepth 100000 in
theorem lifted (os : Os) (started : os.Started) (H : Type) (enc : TypeId × Value → H) :
    ReturnsInHanded {} Tryd.checked os 5 .any (fun w args => (Rows.heapKeepsSpec.pre enc Tryd.prog Tryd.f5 [] false w args ∧ laidMetH Tryd.prog laidSizes w) ∧ sizedMet enc Tryd.prog Tryd.f5 (OpenSpec.ofChange Rows.heapKeepsSpec) false w args)
      (Rows.heapKeepsSpec.post enc Tryd.prog Tryd.f5 false true false false) := by
  refine returnsInHanded_of_change_and (C := Tryd.checked) (X := fun w _ => laidMetH Tryd.prog laidSizes w) (fun _ _ _ hh h => h.of_heap hh) own started (by kernel_rfl) Tryd.func5
    (ChangeSpec.witness_shaped (enc := enc) (C := Tryd.checked) (os := os) (X := fun w _ => laidMetH Tryd.prog laidSizes w) false (World.doorLaid Tryd.prog 400 os) #[.agg #[.slice none 0 0, .slice none 0 0, .slice none 0 0, .slice none 0 0, .slice none 0 0, .slice none 0 0], .int .i64 0, .agg #[.bool false, .bool false, .bool false, .int .i64 0, .int .i64 0, .int .i64 0]] 8 rfl (World.shaped_of_RefB (by kernel_rfl) (by kernel_rfl)) (by kernel_rfl) (by kernel_rfl) (by kernel_rfl) (door_met os _)) ?_
  intro W base args ds gs before hval0 hW _ _ hL _
  have hval : ∀ (j : Nat) t v, Tryd.f5.params[j]? = some t → args[j]? = some v → Value.okWide Tryd.prog W .any base t v := hval0
  have hW' := hW
  obtain ⟨p, q, hA0, hV, rfl, hfz, hnd⟩ := hW
  have hA : DataW.TrodAll enc Tryd.prog W 0 (fun _ => true) true Tryd.f5.params.toList args.toList ds p := hA0
  rw [Tryd.params5] at hA hval
  obtain ⟨v0, vs0, d0, ds0, p0, q0, hargs, rfl, rfl, h0, r0⟩ := trodAll_cons hA
  obtain ⟨v1, vs1, d1, ds1, p1, q1, rfl, rfl, rfl, h1, r1⟩ := trodAll_cons r0
  obtain ⟨v2, vs2, d2, ds2, p2, q2, rfl, rfl, rfl, h2, r2⟩ := trodAll_cons r1
  obtain ⟨rfl, rfl, rfl⟩ := trodAll_nil r2
  obtain rfl : args = #[v0, v1, v2] := by cases args; simp_all
  obtain ⟨rfl, rfl⟩ := trodVars_none hV
  have k0 := h0
  have lt0 : ∀ x ∈ p0, x.block < W.heap.size := by obtain ⟨m, hm⟩ := k0; exact DataW.trod_lt m _ _ _ hm
  obtain ⟨s0, z0, rfl, w0, f0, b0⟩ := heap_of (hval 0 28 v0 rfl rfl) h0
  obtain ⟨a1, rfl, rfl, rfl, w1⟩ := open_int Tryd.underlying3 (hval 1 3 v1 rfl rfl) h1
  obtain ⟨u2, o2, e2, n2, b2, m2, rfl, rfl, rfl, x2, y2, z2⟩ := six_open Tryd.underlying34 cellsHead (by kernel_rfl) rfl Tryd.underlying4 Tryd.underlying3 (hval 2 34 v2 rfl rfl) h2
  clear hA0 hval0
  refine (walk s0 z0 a1 u2 o2 e2 n2 b2 m2 W (of_laid hL) w0 f0 w1 x2 y2 z2).mono fun e W' ⟨he, bel⟩ => ?_
  subst he
  exact ⟨_, rfl, _, _, _, [], _, [], hW', trodAll_mk1 (shut_bool Tryd.underlying4 _), (trodAll_cons_mk (Below.trod laidOut (by kernel_rfl) (of_decide_eq_true (by kernel_rfl)) k0 bel lt0) (trodAll_cons_mk (shut_int Tryd.underlying3 w1) (trodAll_cons_mk (six_shut Tryd.underlying34 cellsHead (by kernel_rfl) rfl Tryd.underlying4 Tryd.underlying3 _ _ _ _ _ _ x2 y2 z2) trodAll_mk0))), rfl, bel.frame _, fun h => by cases h⟩

theorem over : Rows.HeapKeepsSaid :=
  OpenClaim.holds_of_wide 5 Tryd.f5 rfl rfl rfl rfl rfl rfl rfl ⟨rfl, rfl, rfl, rfl, rfl⟩ rfl rfl rfl rfl rfl (by kernel_rfl) Tryd.func5 (by kernel_rfl)
    (of_decide_eq_true (by kernel_rfl)) (by unfold Func.isWrapper; first | (rw [if_pos (by decide +kernel)]; kernel_rfl) | (rw [if_neg (by decide +kernel)]; exact ⟨rfl, rfl⟩))
    (fun os started H enc _ => lifted os started H enc)

/-- The statement: the card. -/
theorem proved : Rows.HeapKeepsCardSaid :=
  Claim7.holds_tied_plain_at .later [] [.data] true Rows.heapKeepsCard.stood.harness false
    over (fun _ h => by cases h) (by kernel_rfl) (fun _ h => by cases h) heapKeeps_row_tie rfl ⟨rfl, rfl⟩ (by kernel_rfl) rfl
    (fun f fn hf hfn => by
      obtain rfl : f = 5 := Option.some.inj ((show Tryd.prog.funcNamed "ragpicker/ragpickerlaw07.HeapKeeps" = some 5 by kernel_rfl).symm.trans hf) |>.symm
      obtain rfl : fn = Tryd.f5 := (Option.some.inj (Tryd.func5.symm.trans hfn)).symm
      exact ⟨by kernel_rfl, fun j t ht => by
        rw [Tryd.params5] at ht
        have hm : t ∈ [28, 3, 34] := by simpa using Array.mem_of_getElem? ht
        have hall : ([28, 3, 34].all fun u => !Tryd.prog.wantsStandIn u) = true := by kernel_rfl
        exact (show Tryd.prog.wantsStandIn t = false by simpa using List.all_eq_true.1 hall t hm)⟩)
    (by kernel_rfl)
#print axioms proved
end Go.Proofs.YtodpciodongajaaDoor.HeapKeeps
