/-
  HeapSets.
-/
import Derived.Test.YthgcaehhjiccbaaGreatDoorZHpIns
import Derived.Test.YthgcaehhjiccbaaGreatDoorHpZK
import Derived.Test.YthgcaehhjiccbaaGreatDoorZHpSetsW
import Derived.Test.YthgcaehhjiccbaaGreatDoorZHpSet
namespace Go.Proofs.YthgcaehhjiccbaaGreatDoor.HeapSets
open Go.Proofs.YthgcaehhjiccbaaGreatDoor
open Go.ChangeShapes Go.WideShapes Go.ChangeAt Go.RowKit
set_option maxRecDepth 100000

def dE : Hd_ := ⟨[], fun _ => (0, 0), Ls.noLists, fun _ => false⟩
theorem hp_none (W : World) : Hp W W.heap.size noHs dE := ⟨Row.none_ _ _, fun h => absurd h (Nat.lt_irrefl 0), Ls.L3.none_ _ _, fun h => absurd h (Nat.lt_irrefl 0)⟩
theorem lens_self (s : Hs) : Lens s s := ⟨rfl, rfl, fun _ _ => rfl, rfl⟩
theorem small_none : Small noHs := ⟨Nat.zero_le _, Nat.zero_le _, Nat.zero_le _, fun _ _ => Nat.zero_le _⟩
def sNew (k : Nat) : Hs := ⟨⟨none, 16 * k, 0⟩, ⟨none, k, 0⟩, Ls.noSl, ⟨none, 2 * k, 0⟩⟩
def dNew (k : Nat) : Hd_ := ⟨List.replicate (16 * k) 0, fun _ => (0, 0), Ls.noLists, fun _ => false⟩
theorem gives_no {W : World} {er : Int} {e : Ending} {w' : World} (h : SetNo W er e w') : Gives W noHs dE er e w' := ⟨noHs, h.1, hp_none w', lens_self _, h.2⟩
theorem gives_ok {W : World} {s : Hs} {d' : Hd_} {e : Ending} {w' : World} (h : SetOk W s d' e w') : Gives W s d' 0 e w' := h
theorem gives_new {W : World} {k : Nat} {e : Ending} {w' : World} (h : NewOut W k e w') : Gives W (sNew k) (dNew k) 0 e w' := by
  obtain ⟨A, C, g, cw, he, hr, hq, hc, hb⟩ := h
  exact ⟨⟨⟨some ⟨g, 0, none⟩, 16 * k, cw⟩, ⟨A, k, k⟩, Ls.noSl, ⟨C, 2 * k, 2 * k⟩⟩, he, ⟨hr, hq, Ls.L3.none_ _ _, hc⟩, ⟨rfl, rfl, fun _ _ => rfl, rfl⟩, hb⟩
theorem gives_bad {W : World} {e : Ending} {w' : World} (h : e = .returned (.tuple #[(.agg #[.slice noHs.w.a noHs.w.n noHs.w.c, .slice noHs.p.a noHs.p.n noHs.p.c, .slice (noHs.u 0).a (noHs.u 0).n (noHs.u 0).c, .slice (noHs.u 1).a (noHs.u 1).n (noHs.u 1).c, .slice (noHs.u 2).a (noHs.u 2).n (noHs.u 2).c, .slice noHs.c.a noHs.c.n noHs.c.c]), .int .i64 1]) ∧ Below W.heap.size W w') : Gives W noHs dE 1 e w' := ⟨noHs, h.1, hp_none w', lens_self _, h.2⟩
section
variable (s : Hs) (d : Hd_) (a : Int) (u o e : Bool) (n b m p : Int) (w : World)
theorem walk_set (sB : Hs) (dB : Hd_) (eB : Int) (hz : Cl.Sz w) (hf : fewH s = true) (hp : Hp w w.heap.size s d) (h0 : Small s) (h1 : Small sB)
    (hS : ∀ W, HNow w W s d → Calls Tryz.prog 13 #[(.agg #[.slice s.w.a s.w.n s.w.c, .slice s.p.a s.p.n s.p.c, .slice (s.u 0).a (s.u 0).n (s.u 0).c, .slice (s.u 1).a (s.u 1).n (s.u 1).c, .slice (s.u 2).a (s.u 2).n (s.u 2).c, .slice s.c.a s.c.n s.c.c]), .int .i64 a, (.agg #[.bool u, .bool o, .bool e, .int .i64 n, .int .i64 b, .int .i64 m])] W (Gives W sB dB eB)) (hR : ∀ W, HNow w W s d → Calls Tryz.prog 14 #[(.agg #[.slice s.w.a s.w.n s.w.c, .slice s.p.a s.p.n s.p.c, .slice (s.u 0).a (s.u 0).n (s.u 0).c, .slice (s.u 1).a (s.u 1).n (s.u 1).c, .slice (s.u 2).a (s.u 2).n (s.u 2).c, .slice s.c.a s.c.n s.c.c]), .int .i64 a, (.agg #[.bool u, .bool o, .bool e, .int .i64 n, .int .i64 b, .int .i64 m])] W (Gives W sB dB eB)) :
    Calls Tryz.prog 3 #[(.agg #[.slice s.w.a s.w.n s.w.c, .slice s.p.a s.p.n s.p.c, .slice (s.u 0).a (s.u 0).n (s.u 0).c, .slice (s.u 1).a (s.u 1).n (s.u 1).c, .slice (s.u 2).a (s.u 2).n (s.u 2).c, .slice s.c.a s.c.n s.c.c]), .int .i64 a, (.agg #[.bool u, .bool o, .bool e, .int .i64 n, .int .i64 b, .int .i64 m]), .int .i64 p] w fun e w' => e = .returned (.bool true) ∧ Below w.heap.size w w' := by
  by_cases hpn : p < 1 ∨ 64 < p
  · exact walk_all s d a u o e n b m p w sB noHs dB dE eB 1 hz hf hp h0 h1 small_none hS hR (fun W => (new_bad p W hpn).mono fun _ _ h => gives_bad h) (fun W => (rnew7_bad p W hpn).mono fun _ _ h => gives_bad h)
  · obtain ⟨k, rfl⟩ : ∃ k : Nat, p = k := ⟨p.toNat, by omega⟩
    have k0 : 1 ≤ k := by omega
    have k1 : k ≤ 64 := by omega
    exact walk_all s d a u o e n b m k w sB (sNew k) dB (dNew k) eB 0 hz hf hp h0 h1 ⟨by show 16 * k ≤ 4000; omega, by show k ≤ 1000; omega, by show 2 * k ≤ 100000; omega, fun _ _ => Nat.zero_le _⟩ hS hR (fun W => (new_ok k W k0 k1).mono fun _ _ h => gives_new h) (fun W => (rnew7_ok k W k0 k1).mono fun _ _ h => gives_new h)
end
theorem walk (s : Hs) (d : Hd_) (a : Int) (u o e : Bool) (n b m p : Int) (w : World) (hz : Cl.Sz w) (hp : Hp w w.heap.size s d) (hv : Fit64 d.ws) (_ : (Lit.int .i64 a).wf = true) (_ : (Lit.int .i64 n).wf = true) (_ : (Lit.int .i64 b).wf = true) (_ : (Lit.int .i64 m).wf = true) (_ : (Lit.int .i64 p).wf = true) :
    Calls Tryz.prog 3 #[(.agg #[.slice s.w.a s.w.n s.w.c, .slice s.p.a s.p.n s.p.c, .slice (s.u 0).a (s.u 0).n (s.u 0).c, .slice (s.u 1).a (s.u 1).n (s.u 1).c, .slice (s.u 2).a (s.u 2).n (s.u 2).c, .slice s.c.a s.c.n s.c.c]), .int .i64 a, (.agg #[.bool u, .bool o, .bool e, .int .i64 n, .int .i64 b, .int .i64 m]), .int .i64 p] w fun e w' => e = .returned (.bool true) ∧ Below w.heap.size w w' := by
  cases hf : fewH s
  · exact walk_few s d a u o e n b m p w hz hf hp
  · have hfi := fine_few hf hp hv
    have hz0 := hz.pos
    have h0 : Small s := ⟨hfi.wn, by have := hfi.pn; omega, hfi.cn, fun j hj => by
      have h1 := hfi.len
      rw [show (Ls.upTo d.F 3).length = (d.F 0).length + (d.F 1).length + (d.F 2).length by simp [Ls.upTo, List.range_succ]; omega] at h1
      have h2 := hp.free.len j hj
      rcases (show j = 0 ∨ j = 1 ∨ j = 2 by omega) with rfl | rfl | rfl <;> omega⟩
    have sz : ∀ W, HNow w W s d → Hp W W.heap.size s d ∧ Cl.Sz W := fun W h => ⟨h.hp.more h.bel.size, hz.over h.bel hz0⟩
    by_cases he : headE s d a = 0
    · have hm0 : mayB0 s d = true := by
        cases hm : mayB0 s d
        · unfold headE at he
          rw [if_pos hm] at he
          omega
        · rfl
      obtain ⟨o1, e1, b1, m1, hV⟩ : ∃ o e b m, headV s d a = .agg #[.bool true, .bool o, .bool e, .int .i64 (nOf (wd d a)), .int .i64 b, .int .i64 m] := by
        rcases used_head hm0 a with ⟨_, _, h2, _⟩ | ⟨_, h1⟩
        · exact h2
        · omega
      cases hx : Hd.mayB u o e n b m
      · exact walk_set s d a u o e n b m p w noHs dE 1 hz hf hp h0 small_none (fun W h => (set_bad s d a u o e n b m W (sz W h).1 (sz W h).2 hfi he _ _ _ _ _ hV hx).mono fun _ _ h => gives_no h) (fun W h => (rset_bad s d a u o e n b m W (sz W h).1 hfi he _ _ _ _ _ hV hx).mono fun _ _ h => gives_no h)
      · cases u
        · exact walk_set s d a false o e n b m p w noHs dE 1 hz hf hp h0 small_none (fun W h => (set_other s d a false o e n b m W (sz W h).1 (sz W h).2 hfi he _ _ _ _ _ hV hx (.inl rfl)).mono fun _ _ h => gives_no h) (fun W h => (rset_other s d a false o e n b m W (sz W h).1 hfi he _ _ _ _ _ hV hx (.inl rfl)).mono fun _ _ h => gives_no h)
        · by_cases hn : n = nOf (wd d a)
          · subst hn
            exact walk_set s d a true o e _ b m p w s _ 0 hz hf hp h0 h0 (fun W h => (set_ok s d a o e b m W _ (sz W h).1 (sz W h).2 hfi he _ _ _ _ hV hm0 hx).mono fun _ _ h => gives_ok h) (fun W h => (rset_ok s d a o e b m W _ (sz W h).1 hfi he _ _ _ _ hV hm0 hx).mono fun _ _ h => gives_ok h)
          · exact walk_set s d a true o e n b m p w noHs dE 1 hz hf hp h0 small_none (fun W h => (set_other s d a true o e n b m W (sz W h).1 (sz W h).2 hfi he _ _ _ _ _ hV hx (.inr ⟨rfl, hn⟩)).mono fun _ _ h => gives_no h) (fun W h => (rset_other s d a true o e n b m W (sz W h).1 hfi he _ _ _ _ _ hV hx (.inr ⟨rfl, hn⟩)).mono fun _ _ h => gives_no h)
    · exact walk_set s d a u o e n b m p w noHs dE _ hz hf hp h0 small_none (fun W h => (set_none s d a u o e n b m W (sz W h).1 (sz W h).2 hfi _ rfl he).mono fun _ _ h => gives_no h) (fun W h => (rset_none s d a u o e n b m W (sz W h).1 hfi _ rfl he).mono fun _ _ h => gives_no h)
-- the frame (hpframe.py)
set_option maxRecDepth 100000 in
theorem lifted (os : Os) (started : os.Started) (H : Type) (enc : TypeId × Value → H) :
    ReturnsInHanded {} Tryz.checked os 3 .any (fun w args => (Rows.heapSetsSpec.pre enc Tryz.prog Tryz.f3 [] false w args ∧ laidMetH Tryz.prog laidSizes w) ∧ sizedMet enc Tryz.prog Tryz.f3 (OpenSpec.ofChange Rows.heapSetsSpec) false w args)
      (Rows.heapSetsSpec.post enc Tryz.prog Tryz.f3 false true false false) := by
  refine returnsInHanded_of_change_and (C := Tryz.checked) (X := fun w _ => laidMetH Tryz.prog laidSizes w) (fun _ _ _ hh h => h.of_heap hh) own started (by kernel_rfl) Tryz.func3
    (ChangeSpec.witness_shaped (enc := enc) (C := Tryz.checked) (os := os) (X := fun w _ => laidMetH Tryz.prog laidSizes w) false (World.doorLaid Tryz.prog 400 os) #[.agg #[.slice none 0 0, .slice none 0 0, .slice none 0 0, .slice none 0 0, .slice none 0 0, .slice none 0 0], .int .i64 0, .agg #[.bool false, .bool false, .bool false, .int .i64 0, .int .i64 0, .int .i64 0], .int .i64 0] 8 rfl (World.shaped_of_RefB (by kernel_rfl) (by kernel_rfl)) (by kernel_rfl) (by kernel_rfl) (by kernel_rfl) (door_met os _)) ?_
  intro W base args ds gs before hval0 hW _ _ hL _
  have hval : ∀ (j : Nat) t v, Tryz.f3.params[j]? = some t → args[j]? = some v → Value.okWide Tryz.prog W .any base t v := hval0
  have hW' := hW
  obtain ⟨p, q, hA0, hV, rfl, hfz, hnd⟩ := hW
  have hA : DataW.TrodAll enc Tryz.prog W 0 (fun _ => true) true Tryz.f3.params.toList args.toList ds p := hA0
  rw [Tryz.params3] at hA hval
  obtain ⟨v0, vs0, d0, ds0, p0, q0, hargs, rfl, rfl, h0, r0⟩ := trodAll_cons hA
  obtain ⟨v1, vs1, d1, ds1, p1, q1, rfl, rfl, rfl, h1, r1⟩ := trodAll_cons r0
  obtain ⟨v2, vs2, d2, ds2, p2, q2, rfl, rfl, rfl, h2, r2⟩ := trodAll_cons r1
  obtain ⟨v3, vs3, d3, ds3, p3, q3, rfl, rfl, rfl, h3, r3⟩ := trodAll_cons r2
  obtain ⟨rfl, rfl, rfl⟩ := trodAll_nil r3
  obtain rfl : args = #[v0, v1, v2, v3] := by cases args; simp_all
  obtain ⟨rfl, rfl⟩ := trodVars_none hV
  have k0 := h0
  have lt0 : ∀ x ∈ p0, x.block < W.heap.size := by obtain ⟨m, hm⟩ := k0; exact DataW.trod_lt m _ _ _ hm
  obtain ⟨s0, z0, rfl, w0, f0, b0⟩ := heap_of (hval 0 28 v0 rfl rfl) h0
  obtain ⟨a1, rfl, rfl, rfl, w1⟩ := open_int Tryz.underlying3 (hval 1 3 v1 rfl rfl) h1
  obtain ⟨u2, o2, e2, n2, b2, m2, rfl, rfl, rfl, x2, y2, z2⟩ := six_open Tryz.underlying30 cellsHead (by kernel_rfl) rfl Tryz.underlying4 Tryz.underlying3 (hval 2 30 v2 rfl rfl) h2
  obtain ⟨a3, rfl, rfl, rfl, w3⟩ := open_int Tryz.underlying3 (hval 3 3 v3 rfl rfl) h3
  clear hA0 hval0
  refine (walk s0 z0 a1 u2 o2 e2 n2 b2 m2 a3 W (of_laid hL) w0 f0 w1 x2 y2 z2 w3).mono fun e W' ⟨he, bel⟩ => ?_
  subst he
  exact ⟨_, rfl, _, _, _, [], _, [], hW', trodAll_mk1 (shut_bool Tryz.underlying4 _), (trodAll_cons_mk (Below.trod laidOut (by kernel_rfl) (of_decide_eq_true (by kernel_rfl)) k0 bel lt0) (trodAll_cons_mk (shut_int Tryz.underlying3 w1) (trodAll_cons_mk (six_shut Tryz.underlying30 cellsHead (by kernel_rfl) rfl Tryz.underlying4 Tryz.underlying3 _ _ _ _ _ _ x2 y2 z2) (trodAll_cons_mk (shut_int Tryz.underlying3 w3) trodAll_mk0)))), rfl, bel.frame _, fun h => by cases h⟩

theorem over : Rows.HeapSetsSaid :=
  OpenClaim.holds_of_wide 3 Tryz.f3 rfl rfl rfl rfl rfl rfl rfl ⟨rfl, rfl, rfl, rfl, rfl⟩ rfl rfl rfl rfl rfl (by kernel_rfl) Tryz.func3 (by kernel_rfl)
    (of_decide_eq_true (by kernel_rfl)) (by unfold Func.isWrapper; first | (rw [if_pos (by decide +kernel)]; kernel_rfl) | (rw [if_neg (by decide +kernel)]; exact ⟨rfl, rfl⟩))
    (fun os started H enc _ => lifted os started H enc)

/-- The statement: the card. -/
theorem proved : Rows.HeapSetsCardSaid :=
  Claim7.holds_tied_plain_at .later [] [.data] true Rows.heapSetsCard.stood.harness false
    over (fun _ h => by cases h) (by kernel_rfl) (fun _ h => by cases h) heapSets_row_tie rfl ⟨rfl, rfl⟩ (by kernel_rfl) rfl
    (fun f fn hf hfn => by
      obtain rfl : f = 3 := Option.some.inj ((show Tryz.prog.funcNamed "ragpicker/ragpickerlaw07.HeapSets" = some 3 by kernel_rfl).symm.trans hf) |>.symm
      obtain rfl : fn = Tryz.f3 := (Option.some.inj (Tryz.func3.symm.trans hfn)).symm
      exact ⟨by kernel_rfl, fun j t ht => by
        rw [Tryz.params3] at ht
        have hm : t ∈ [28, 3, 30, 3] := by simpa using Array.mem_of_getElem? ht
        have hall : ([28, 3, 30, 3].all fun u => !Tryz.prog.wantsStandIn u) = true := by kernel_rfl
        exact (show Tryz.prog.wantsStandIn t = false by simpa using List.all_eq_true.1 hall t hm)⟩)
    (by kernel_rfl)
#print axioms proved
end Go.Proofs.YthgcaehhjiccbaaGreatDoor.HeapSets
