/-
  Merged texts: AlTakeC, AlLawP, AlRoom, HpAwake, LsInts, AlAwake, HpSix, AlIns, AlLaw, AlLawF.
-/
import Derived.Test.YtcbnefjfoeanoaaGreatDoorYAlTakeB
import Derived.Test.YtcbnefjfoeanoaaGreatDoorHpZL
import Derived.Test.YtcbnefjfoeanoaaGreatDoorHpZK
import Derived.Deep.CutRange
import Derived.Test.YtcbnefjfoeanoaaGreatDoorZLsApart
import Derived.Deep.QuietTactic
import Derived.BigQuiet
import Derived.Test.YtcbnefjfoeanoaaGreatDoorRows
import Derived.WalkKit
import Derived.ProofKit
import Derived.OpenShut
import Derived.Deep.Fields
import Derived.Test.YtcbnefjfoeanoaaGreatDoorHpZJ
section
namespace Go.Proofs.YtcbnefjfoeanoaaGreatDoor
open Go.RowKit
set_option maxRecDepth 100000

theorem ahead_one (G : Nat → List Int) : ahead G (fun _ => G) = fun _ => G := by
  funext k
  cases k <;> rfl
theorem Fit.of {s t : Hs} (h : Fit s) (hl : Lens s t) : Fit t := ⟨by rw [hl.1]; exact h.w, by rw [hl.1, hl.2.1]; exact h.wp, by rw [hl.2.1]; exact h.p⟩
theorem sto_sizes {W : World} {b : Nat} {s t : Hs} {u v : Nat → Ls.Sl} {d : Hd_} {G : Nat → List Int} (hf : FineT s d u G) (hL : ∀ j, j < 3 → (u j).n = (G j).length) (hs : Sto W b t v d G) (hl : Lens s t) : (∀ j, j < 3 → (t.u j).n ≤ 1000000) ∧ (∀ j, j < 3 → (v j).n ≤ 1000000) :=
  ⟨fun j hj => by have := hl.2.2.1 j hj; have := hf.lu j hj; omega, fun j hj => by have := hs.l3.len j hj; have := hL j hj; have := hf.lg j hj; omega⟩
theorem how_any {s : Hs} {d : Hd_} {u : Nat → Ls.Sl} {G : Nat → List Int} {o e : Bool} {N b m : Int} (hf : FineT s d u G) (hL : ∀ j, j < 3 → (u j).n = (G j).length) (hm : mayH s d 1 (fun _ => G) = true) (hh : Hd.mayB true o e N b m = true) : How s d G N (Hd.word true o e N b m) (tkR s d G true o e N b m) := by
  have hfit := fit_first (mayH_all hm).1
  have hok : Okay s.p.n d G 0 (fun _ => G) := (okay_iff.1 (by rw [ahead_one]; exact hm)).2
  have ha : argE s d G true o e N b m = Cl.classErr N := if_pos ⟨hm, hh, rfl⟩
  unfold tkR
  rw [ha]
  by_cases he : Cl.classErr N = 0
  · rw [if_pos he]
    cases hq : takeO d s.p.n G N with
    | none => exact .inl ⟨4, by decide, rfl, fun W b' t v hs _ hz hl => take_no b' t v d G W N hs hz (hfit.of hl) he (by rw [hl.2.1]; exact hq)⟩
    | some q => exact .inr ⟨q, rfl, (takeO_some (r := 0) (R := fun _ => G) hq).cell hok, fun W b' t v hs h0 hz hl => take_yes b' t v d G W N q hs hz h0 (hfit.of hl) (sto_sizes hf hL hs hl).1 (sto_sizes hf hL hs hl).2 he (by rw [hl.2.1]; exact hq)⟩
  · rw [if_neg he]
    exact .inl ⟨Cl.classErr N, he, rfl, fun W b' _ _ _ _ hz _ => take_err b' W N _ rfl he hz⟩
theorem ptake_any (s : Hs) (u : Nat → Ls.Sl) (d : Hd_) (G : Nat → List Int) (us o e : Bool) (N b m : Int) (w : World) (hp : Hp w w.heap.size s d) (l3 : Ls.L3 w w.heap.size u G) (hz : Cl.Sz w) (hf : FineT s d u G) :
    Calls Tryz.prog 11 #[(.agg #[.slice s.w.a s.w.n s.w.c, .slice s.p.a s.p.n s.p.c, .slice (s.u 0).a (s.u 0).n (s.u 0).c, .slice (s.u 1).a (s.u 1).n (s.u 1).c, .slice (s.u 2).a (s.u 2).n (s.u 2).c, .slice s.c.a s.c.n s.c.c]), (.agg #[.slice (u 0).a (u 0).n (u 0).c, .slice (u 1).a (u 1).n (u 1).c, .slice (u 2).a (u 2).n (u 2).c]), .agg #[.bool us, .bool o, .bool e, .int .i64 N, .int .i64 b, .int .i64 m]] w (TakeOut w (tkR s d G us o e N b m)) := by
  have hno : ∀ (_ : ¬ (mayH s d 1 (fun _ => G) = true ∧ Hd.mayB us o e N b m = true ∧ us = true)), tkR s d G us o e N b m = tkNo 1 := fun h => by
    have ha : argE s d G us o e N b m = 1 := if_neg h
    unfold tkR
    rw [ha, if_neg (by decide)]
  cases hm : mayH s d 1 (fun _ => G)
  · rw [hno (by rw [hm]; exact fun h => by cases h.1)]
    exact ptake_may s u d G us o e N b m w hp l3 hz hf hm
  · cases hh : Hd.mayB us o e N b m
    · rw [hno (by rw [hh]; exact fun h => by cases h.2.1)]
      exact ptake_head s u d G us o e N b m w hp l3 hz hf hm hh
    · cases us
      · rw [hno (fun h => by cases h.2.2)]
        exact ptake_used s u d G o e N b m w hp l3 hz hf hm hh
      · exact ptake_rest s u d G o e N b m w hp l3 hz hf hm hh _ (how_any hf l3.len hm hh) (fit_first (mayH_all hm).1)
end Go.Proofs.YtcbnefjfoeanoaaGreatDoor
end
section
namespace Go.Proofs.YtcbnefjfoeanoaaGreatDoor
open Go.RowKit
set_option maxRecDepth 100000

theorem tkR_split (s : Hs) (d : Hd_) (G : Nat → List Int) (u o e : Bool) (N b m : Int) :
    (¬ (tkR s d G u o e N b m).er = 0 ∧ tkR s d G u o e N b m = tkNo (tkR s d G u o e N b m).er ∧ (tkR s d G u o e N b m).er = (if argE s d G u o e N b m = 0 then 4 else argE s d G u o e N b m)) ∨
    (∃ q, mayH s d 1 (fun _ => G) = true ∧ Hd.mayB u o e N b m = true ∧ u = true ∧ Cl.classErr N = 0 ∧ takeO d s.p.n G N = some q ∧ tkR s d G u o e N b m = ⟨0, s.w.n, s.p.n, s.c.n, beginD q.1 s.p.n q.2.2 (Hd.word u o e N b m), q.2.1, q.2.2⟩) := by
  unfold tkR
  by_cases ha : argE s d G u o e N b m = 0
  · rw [if_pos ha, if_pos ha]
    obtain ⟨h1, h2, h3, h4⟩ := argE_zero ha
    cases hq : takeO d s.p.n G N with
    | none => exact .inl ⟨by show ¬ (4 : Int) = 0; decide, rfl, rfl⟩
    | some q => exact .inr ⟨q, h1, h2, h3, h4, rfl, rfl⟩
  · rw [if_neg ha, if_neg ha]
    exact .inl ⟨ha, rfl, rfl⟩
section
variable {n r k p : Nat} {a : Int} {d : Hd_} {G : Nat → List Int} {R : Nat → Nat → List Int}
theorem same_split (h : Cl.findO d.f n 1 = some p) (hk : k < 3) {y : Int} (hy : ¬ Cl.bg d.f n y = 0) : Same4 n d (splitD d n k p) y := by
  obtain ⟨h1, h2, h3⟩ := find_one h
  have hp : ¬ (y / 16 - 1).toNat = p := cell_off hy (Cl.free_zero h1 h2 h3).1
  have h16 := bg_in16 hy
  obtain ⟨_, e2, e3⟩ := split_other h hk h16 hp
  refine ⟨e3, e2, fun z hz1 hz2 => ?_⟩
  rw [wd_split (by omega), if_neg]
  intro hon
  obtain ⟨g1, g2⟩ := mem_on.1 hon
  have hy' : ¬ Cl.bg (splitD d n k p).f n y = 0 := by rw [e3]; exact hy
  have g3 := cell_end g1
  have := word_one (z := z) hy' (show ¬ Cl.bg (splitD d n k p).f n z = 0 from g1) ⟨hz1, by rw [e3]; exact hz2⟩ ⟨Int.le_refl _, by show z < z + Cl.bg (Cl.put d.f p (1, (k : Int))) n z; omega⟩
  subst this
  exact hp g2
theorem same_fill (k : Nat) (y : Int) : Same4 n d (fillD d k) y := ⟨rfl, rfl, fun _ _ _ => rfl⟩
theorem same_large {m : Int} (h : Cl.findO d.f n m = some p) {y : Int} (hy : ¬ Cl.bg d.f n y = 0) : Same4 n d (largeD d p m) y := ⟨(large_other h hy).2, (large_other h hy).1, fun _ _ _ => rfl⟩
theorem same_begin {x : Int} (hb : ¬ Cl.bg d.f n a = 0) (hl : d.ws.length = 16 * n) {y : Int} (hy : ¬ Cl.bg d.f n y = 0) (hne : ¬ y = a) : Same4 n d (beginD d n a x) y := by
  refine ⟨rfl, rfl, fun z hz1 hz2 => ?_⟩
  have h16 := bg_in16 hy
  have h2 := cell_end hb
  rw [wd_begin hb hl (by omega), if_neg, if_neg]
  · exact fun hc => hne (word_one hy hb ⟨hz1, hz2⟩ hc)
  · exact fun e => hne (word_one hy hb ⟨hz1, hz2⟩ (by rw [e]; omega))
/-- What the cache is filled with: all cells that were stay. -/
theorem same_small {q : Hd_ × (Nat → List Int)} (hk : k < 3) (h : smallO d n G k = some q) : (∀ y, ¬ Cl.bg d.f n y = 0 → Same4 n d q.1 y) ∧ (∀ y, ¬ Cl.bg q.1.f n y = 0 → ¬ wd q.1 y = 0 → ¬ Cl.bg d.f n y = 0) := by
  unfold smallO at h
  split at h
  · cases h; exact ⟨fun y _ => Same4.refl n d y, fun y hy _ => hy⟩
  · split at h
    · cases h; exact ⟨fun y _ => same_fill k y, fun y hy _ => hy⟩
    · split at h
      · next p hp =>
        cases h
        refine ⟨fun y hy => (same_split hp hk hy).trans (same_fill k y), fun y hy hw => ?_⟩
        have hy' : ¬ Cl.bg (splitD d n k p).f n y = 0 := hy
        by_cases hpg : (y / 16 - 1).toNat = p
        · have hon : y ∈ Cl.onS (Cl.put d.f p (1, (k : Int))) n p := mem_on.2 ⟨hy', hpg⟩
          exact absurd (free_facts (split_on (d := d) hon)).2.2 hw
        · rw [(split_other hp hk (bg_in16 hy') hpg).2.2] at hy'
          exact hy'
      · cases h
/-- What is taken: each object stays, and none is new but what is taken. -/
theorem same_take {N : Int} {q : Hd_ × (Nat → List Int) × Int} (hok : Okay n d G r R) (h : takeO d n G N = some q) : (∀ y, ¬ Cl.bg d.f n y = 0 → Same4 n d q.1 y) ∧ (∀ y, ¬ Cl.bg d.f n y = 0 → ¬ wd d y = 0 → ¬ y = q.2.2) ∧ (∀ y, ¬ Cl.bg q.1.f n y = 0 → ¬ y = q.2.2 → ¬ wd q.1 y = 0 → ¬ Cl.bg d.f n y = 0) := by
  unfold takeO at h
  split at h
  · split at h
    · next p hp =>
      cases h
      exact ⟨fun y hy => same_large hp hy, fun y hy _ e => by subst e; exact hy (large_at hp).2.2, fun y hy hne _ => (large_cell hp hy).resolve_left hne⟩
    · cases h
  · next h3 =>
    have hc := class_small h3
    have hk : (Cl.classOf N).toNat < 3 := by omega
    split at h
    · next q' hq =>
      cases h
      obtain ⟨h1, h2, _, _⟩ := smallO_some (r := r) (R := R) hk hq
      have h4 := same_small hk hq
      have hfr := (free_facts (pop_free (h2 hok) hk h1)).2.2
      refine ⟨h4.1, fun y hy hw e => hw ?_, fun y hy _ hw => h4.2 y hy hw⟩
      have h5 := (h4.1 y hy).wd y (Int.le_refl _) (by have := cell_end hy; omega)
      rw [← h5]
      have e' : y = popA q'.2 (Cl.classOf N).toNat := e
      rw [e']
      exact hfr
    · cases h
end
/-- The heap behind a Take that tells no error. -/
structure Took (s t : Hs) (d : Hd_) (G : Nat → List Int) (o e : Bool) (N b m : Int) (r : Tk) : Prop where
  may : ∀ k R, mayH s d (1 + k) (ahead G R) = true → mayH t r.d (1 + k) (ahead r.G R) = true
  whole : ∀ k R, wholeH s d (1 + k) (ahead G R) = true → wholeH t r.d (1 + k) (ahead r.G R) = true
  cell : ¬ Cl.bg r.d.f s.p.n r.a = 0
  word : wd r.d r.a = Hd.word true o e N b m
  zero : ∀ z, r.a < z → z < r.a + Cl.bg r.d.f s.p.n r.a → wd r.d z = 0
  fits : (pgAt r.d r.a = (1, Cl.classOf N) ∧ ¬ Cl.classOf N = 3) ∨ (pgAt r.d r.a = (2, Cl.runOf N) ∧ Cl.classOf N = 3)
  keeps : ∀ y, ¬ Cl.bg d.f s.p.n y = 0 → ¬ wd d y = 0 → ¬ y = r.a ∧ Same4 s.p.n d r.d y
  none : ∀ y, ¬ Cl.bg r.d.f s.p.n y = 0 → ¬ y = r.a → ¬ wd r.d y = 0 → ¬ Cl.bg d.f s.p.n y = 0
  len : r.d.ws.length = d.ws.length
theorem took {s t : Hs} {d : Hd_} {G : Nat → List Int} {o e : Bool} {N b m : Int} {q : Hd_ × (Nat → List Int) × Int} (hws : d.ws.length = s.w.n) (hm : mayH s d 1 (fun _ => G) = true) (hx : Hd.mayB true o e N b m = true) (hN : Cl.classErr N = 0) (hq : takeO d s.p.n G N = some q)
    (h1 : t.w.n = s.w.n) (h2 : t.p.n = s.p.n) (h3 : t.c.n = s.c.n) : Took s t d G o e N b m ⟨0, s.w.n, s.p.n, s.c.n, beginD q.1 s.p.n q.2.2 (Hd.word true o e N b m), q.2.1, q.2.2⟩ := by
  have hfb := (mayH_all hm).1
  have hwp := (fit_first hfb).wp
  have hok0 : Okay s.p.n d G 0 (fun _ => G) := (okay_iff.1 (by rw [ahead_one]; exact hm)).2
  have T0 := takeO_some (r := 0) (R := fun _ => G) hq
  have hc := T0.cell hok0
  have hl : q.1.ws.length = 16 * s.p.n := by rw [T0.len, hws, hwp]
  have hfit := word_fits hx hN (T0.fits hok0)
  have hp1 := (Hd.word_parts hx).1
  have hx0 : ¬ Hd.word true o e N b m = 0 := fun e0 => by rw [e0] at hp1; omega
  have key : ∀ k R, Okay s.p.n d G k R → Okay s.p.n (beginD q.1 s.p.n q.2.2 (Hd.word true o e N b m)) q.2.1 k R := fun k R hok => by
    have T := takeO_some (r := k) (R := R) hq
    exact (T.okay hok).begin (T.gone hok) hc hl hfit
  have hfb' : firstB t (beginD q.1 s.p.n q.2.2 (Hd.word true o e N b m)) = true := firstB_of hfb (key 0 _ hok0).may h1 h2 h3
  have st := same_take hok0 hq
  refine ⟨fun k R h => ?_, fun k R h => ?_, hc, begin_at hc hl, fun z hz1 hz2 => ?_, T0.fits hok0, fun y hy hw => ?_, fun y hy hne hw => ?_, ?_⟩
  · have ho := (okay_iff.1 h).2
    refine okay_iff.2 ⟨hfb', ?_⟩
    rw [h2]
    exact key k R ho
  · obtain ⟨_, ho, hF⟩ := whole_iff.1 h
    refine whole_iff.2 ⟨hfb', ?_, ?_⟩
    · rw [h2]; exact key k R ho
    · rw [h2]
      exact ((takeO_some (r := k) (R := R) hq).full hF).begin hc hl hx0
  · have g := cell_end hc
    have hz3 : q.2.2 < z := hz1
    have hz4 : z < q.2.2 + Cl.bg q.1.f s.p.n q.2.2 := hz2
    rw [wd_begin hc hl (by omega), if_neg (by omega), if_pos ⟨by omega, hz4⟩]
  · have hne := st.2.1 y hy hw
    have s1 := st.1 y hy
    exact ⟨hne, s1.trans (same_begin hc hl (by rw [s1.bg]; exact hy) hne)⟩
  · have hy' : ¬ Cl.bg q.1.f s.p.n y = 0 := hy
    have hw' : ¬ wd q.1 y = 0 := fun e0 => hw ((begin_other hc hl hy' hne).trans e0)
    exact st.2.2 y hy' hne hw'
  · show ((Ar.wipe q.1.ws _ _).set _ _).length = _
    rw [List.length_set, Ar.wipe_length, T0.len]
/-- The head that is told of. -/
theorem took_head {s : Hs} {d : Hd_} {a : Int} {o e : Bool} {N b m : Int} (hm0 : mayB0 s d = true) (hc : ¬ Cl.bg d.f s.p.n a = 0) (hw : wd d a = Hd.word true o e N b m) (hx : Hd.mayB true o e N b m = true) :
    headE s d a = 0 ∧ headV s d a = .agg #[.bool true, .bool o, .bool e, .int .i64 N, .int .i64 b, .int .i64 m] := by
  obtain ⟨p1, p2, p3, p4, p5, p6⟩ := Hd.word_parts hx
  have hx0 : ¬ wd d a = 0 := by rw [hw]; intro e0; rw [e0] at p1; omega
  have hE : headE s d a = 0 := by
    unfold headE
    rw [if_neg (by rw [hm0]; decide), if_neg (by rintro (h | h); exact hc h; exact hx0 h)]
  refine ⟨hE, ?_⟩
  unfold headV
  rw [if_pos hE, hw, headOf_yes (Hd.isWord_word hx), decide_eq_true p1]
  have e1 : decide (Hd.word true o e N b m / 2 % 2 = 1) = o := by cases o <;> simp [p2]
  have e2 : decide (Hd.word true o e N b m / 4 % 2 = 1) = e := by cases e <;> simp [p3]
  rw [e1, e2, show nOf (Hd.word true o e N b m) = N from p4, p5, p6]
/-- How great a heap and a cache are. -/
structure Lite (s : Hs) (d : Hd_) (G : Nat → List Int) (B : Nat) : Prop where
  w : s.w.n ≤ 130
  p : s.p.n ≤ 9
  c : s.c.n ≤ 20
  F : ∀ j, j < 3 → (d.F j).length ≤ B
  G : ∀ j, j < 3 → (G j).length ≤ B
  hv : ∀ i, -9223372036854775808 ≤ d.ws.getD i 0 ∧ d.ws.getD i 0 ≤ 9223372036854775807
theorem Lite.fineT {s : Hs} {d : Hd_} {u : Nat → Ls.Sl} {G : Nat → List Int} {B : Nat} (h : Lite s d G B) (hB : B ≤ 1000) (hs : ∀ j, j < 3 → (s.u j).n = (d.F j).length) (hu : ∀ j, j < 3 → (u j).n = (G j).length) : FineT s d u G := by
  have hF := h.F
  have hG := h.G
  have f0 := hF 0 (by decide)
  have f1 := hF 1 (by decide)
  have f2 := hF 2 (by decide)
  have g0 := hG 0 (by decide)
  have g1 := hG 1 (by decide)
  have g2 := hG 2 (by decide)
  refine ⟨⟨by have := h.w; omega, by have := h.p; omega, by have := h.c; omega, h.hv, by rw [upTo3]; omega⟩, fun j hj => by have := hs j hj; have := hF j hj; omega, fun j hj => by have := hu j hj; have := hG j hj; omega, ?_⟩
  rw [show Ls.allOf (ahead d.F (fun _ => G)) (1 + 1) = Ls.upTo d.F 3 ++ Ls.upTo G 3 by simp [Ls.allOf, List.range_succ, ahead], List.length_append, upTo3, upTo3]
  omega
theorem word_fit {u o e : Bool} {N b m : Int} (h : Hd.mayB u o e N b m = true) : -9223372036854775808 ≤ Hd.word u o e N b m ∧ Hd.word u o e N b m ≤ 9223372036854775807 := by
  cases u
  · obtain ⟨rfl, rfl, rfl, rfl, rfl⟩ := (Hd.may_free_iff _ _ _ _ _).1 h
    decide
  · have h' := (Hd.may_used_iff o e N b m).1 h
    cases o <;> cases e <;> simp [Hd.word, Hd.bitOf] <;> omega
theorem upd_len {F : Nat → List Int} {k c : Nat} {xs : List Int} (h : xs.length ≤ (F k).length + c) (j : Nat) : (Ls.upd F k xs j).length ≤ (F j).length + c := by
  unfold Ls.upd
  split
  · next e => subst e; exact h
  · omega
/-- The lists grow by little; words are as they were, or noughts. -/
theorem small_lens {n k : Nat} {d : Hd_} {G : Nat → List Int} {q : Hd_ × (Nat → List Int)} (h : smallO d n G k = some q) : (∀ j, (q.1.F j).length ≤ (d.F j).length + 8) ∧ (∀ j, (q.2 j).length ≤ (G j).length + 2) ∧ ∀ i, q.1.ws.getD i 0 = 0 ∨ q.1.ws.getD i 0 = d.ws.getD i 0 := by
  have hfill : ∀ d' : Hd_, (∀ j, ((fillD d' k).F j).length ≤ (d'.F j).length) ∧ ∀ j, (fillG d'.F G k j).length ≤ (G j).length + 2 := fun d' => ⟨fun j => by
    have := upd_len (F := d'.F) (k := k) (c := 0) (xs := (d'.F k).take ((d'.F k).length - 2)) (by rw [List.length_take]; omega) j
    exact this, fun j => upd_len (by rw [List.length_append, List.length_reverse, List.length_drop]; omega) j⟩
  unfold smallO at h
  split at h
  · cases h; exact ⟨fun j => by show (d.F j).length ≤ _; omega, fun j => by show (G j).length ≤ _; omega, fun i => .inr rfl⟩
  · split at h
    · cases h
      exact ⟨fun j => by have := (hfill d).1 j; show ((fillD d k).F j).length ≤ _; omega, (hfill d).2, fun i => .inr rfl⟩
    · split at h
      · next p hp =>
        cases h
        refine ⟨fun j => ?_, (hfill (splitD d n k p)).2, fun i => ?_⟩
        · have h1 := (hfill (splitD d n k p)).1 j
          have h2 : ((splitD d n k p).F j).length ≤ (d.F j).length + 8 := upd_len (by rw [List.length_append, List.length_reverse]; have := on_short (Cl.put d.f p (1, (k : Int))) n p; omega) j
          simp only at h1 ⊢
          omega
        · show (zeroAt _ _).getD i 0 = 0 ∨ (zeroAt _ _).getD i 0 = _
          rw [zeroAt_get _ _ _ on_in16]
          split
          · exact .inl rfl
          · exact .inr rfl
      · cases h
theorem take_lens {n : Nat} {N : Int} {d : Hd_} {G : Nat → List Int} {q : Hd_ × (Nat → List Int) × Int} (h : takeO d n G N = some q) : (∀ j, (q.1.F j).length ≤ (d.F j).length + 8) ∧ (∀ j, (q.2.1 j).length ≤ (G j).length + 2) ∧ ∀ i, q.1.ws.getD i 0 = 0 ∨ q.1.ws.getD i 0 = d.ws.getD i 0 := by
  unfold takeO at h
  split at h
  · split at h
    · cases h; exact ⟨fun j => by show (d.F j).length ≤ _; omega, fun j => by show (G j).length ≤ _; omega, fun i => .inr rfl⟩
    · cases h
  · split at h
    · next q' hq =>
      cases h
      obtain ⟨h1, h2, h3⟩ := small_lens hq
      refine ⟨h1, fun j => ?_, h3⟩
      have h4 := upd_len (F := q'.2) (k := (Cl.classOf N).toNat) (c := 0) (xs := (q'.2 (Cl.classOf N).toNat).take ((q'.2 (Cl.classOf N).toNat).length - 1)) (by rw [List.length_take]; omega) j
      have h5 := h2 j
      show (popG q'.2 _ j).length ≤ _
      unfold popG
      omega
    · cases h
theorem Lite.took {s t : Hs} {d : Hd_} {G : Nat → List Int} {B : Nat} {u o e : Bool} {N b m : Int} {q : Hd_ × (Nat → List Int) × Int} (h : Lite s d G B) (hx : Hd.mayB u o e N b m = true) (hq : takeO d s.p.n G N = some q) (hc : ¬ Cl.bg q.1.f s.p.n q.2.2 = 0) (hl : q.1.ws.length = 16 * s.p.n)
    (h1 : t.w.n = s.w.n) (h2 : t.p.n = s.p.n) (h3 : t.c.n = s.c.n) : Lite t (beginD q.1 s.p.n q.2.2 (Hd.word u o e N b m)) q.2.1 (B + 8) := by
  obtain ⟨l1, l2, l3⟩ := take_lens hq
  have hw := word_fit hx
  refine ⟨by rw [h1]; exact h.w, by rw [h2]; exact h.p, by rw [h3]; exact h.c, fun j hj => by have := h.F j hj; have := l1 j; show (q.1.F j).length ≤ _; omega, fun j hj => by have := h.G j hj; have := l2 j; omega, fun i => ?_⟩
  have h4 := h.hv i
  have g := cell_end hc
  have h5 := l3 i
  show -9223372036854775808 ≤ ((Ar.wipe q.1.ws _ _).set _ _).getD i 0 ∧ ((Ar.wipe q.1.ws _ _).set _ _).getD i 0 ≤ _
  rw [getD_set, Ar.wipe_getD _ _ _ _ (by omega)]
  split
  · exact hw
  · split <;> omega
end Go.Proofs.YtcbnefjfoeanoaaGreatDoor
end
section
namespace Go.Proofs.YtcbnefjfoeanoaaGreatDoor
open Go.RowKit
set_option maxRecDepth 100000

def roomB (s : Hs) (d : Hd_) (G : Nat → List Int) (N : Int) : Bool := (tkR s d G true false false N 0 0).er == 0
theorem room_any (s : Hs) (u : Nat → Ls.Sl) (d : Hd_) (G : Nat → List Int) (N : Int) (w : World) (hp : Hp w w.heap.size s d) (l3 : Ls.L3 w w.heap.size u G) (hz : Cl.Sz w) (hf : FineT s d u G) :
    Calls Tryz.prog 15 #[(.agg #[.slice s.w.a s.w.n s.w.c, .slice s.p.a s.p.n s.p.c, .slice (s.u 0).a (s.u 0).n (s.u 0).c, .slice (s.u 1).a (s.u 1).n (s.u 1).c, .slice (s.u 2).a (s.u 2).n (s.u 2).c, .slice s.c.a s.c.n s.c.c]), (.agg #[.slice (u 0).a (u 0).n (u 0).c, .slice (u 1).a (u 1).n (u 1).c, .slice (u 2).a (u 2).n (u 2).c]), .int .i64 N] w fun e w' => e = .returned (.bool (roomB s d G N)) ∧ Below w.heap.size w w' := by
  have HP := Lib.hid hp
  have HL := Lib.hid l3
  have HZ := Lib.hid hz
  have hz0 := hz.pos
  have HF := Lib.hid hf
  obtain ⟨r, hr⟩ : ∃ r, r = tkR s d G true false false N 0 0 := ⟨_, rfl⟩
  have HR := Lib.hid hr
  have HB : Hid (roomB s d G N = (r.er == 0)) := Lib.hid (by rw [hr]; rfl)
  obtain ⟨bb, hbb⟩ : ∃ bb, bb = roomB s d G N := ⟨_, rfl⟩
  rw [← hbb] at HB ⊢
  clear hp l3 hz hf hr hbb
  go_enter Tryz.func15, Tryz.ntmps15
  go_wp2_with fail
  obtain ⟨W1, hW1⟩ : ∃ W1, W1 = (w.alloc (.cells #[.slice s.w.a s.w.n s.w.c, .slice s.p.a s.p.n s.p.c, .slice (s.u 0).a (s.u 0).n (s.u 0).c, .slice (s.u 1).a (s.u 1).n (s.u 1).c, .slice (s.u 2).a (s.u 2).n (s.u 2).c, .slice s.c.a s.c.n s.c.c] 28)).alloc (.cells #[.slice (u 0).a (u 0).n (u 0).c, .slice (u 1).a (u 1).n (u 1).c, .slice (u 2).a (u 2).n (u 2).c] 25) := ⟨_, rfl⟩
  have b1 : Below w.heap.size w W1 := by rw [hW1]; exact ((Below.refl _ _).alloc (Nat.le_refl _) _).alloc (by simp) _
  have B1 := Lib.hid b1
  rw [← hW1]
  clear hW1 b1
  refine (ptake_any s u d G true false false N 0 0 W1 (HP.out.next B1.out |>.more (Nat.le_refl _)) (HL.out.next B1.out) (HZ.out.over B1.out hz0) HF.out).mono ?_
  rw [← HR.out]
  rintro e9 w2 ⟨t, v, rfl, _, _, _, hb2⟩
  have B2 := Lib.hid (B1.out.trans (hb2.mono B1.out.size))
  clear hb2
  go_wp2
  go_ret
  have hs2 := B2.out.size
  exact ⟨by rw [HB.out]; rfl, (B2.out.alloc hs2 _).alloc (by simp; omega) _⟩
/-- All caches are light. -/
def lights (U : Nat → Nat → Ls.Sl) (m : Nat) : Bool := (List.range m).all fun i => lightB (U i)
def fewL (s : Hs) (U : Nat → Nat → Ls.Sl) (m : Nat) : Bool := (fewH s && lights U m) && decide (m ≤ 4)
theorem lights_succ (U : Nat → Nat → Ls.Sl) (m : Nat) : lights U (m + 1) = (lights U m && lightB (U m)) := by simp [lights, List.range_succ]
theorem few8_any (s : Hs) (A : Option Addr) (n c : Nat) (U : Nat → Nat → Ls.Sl) (F : Nat → Nat → List Int) (w : World) (hn : n ≤ 9223372036854775807) (hl : Ls.LRow w w.heap.size A n U F) :
    Calls Tryz.prog 9 #[(.agg #[.slice s.w.a s.w.n s.w.c, .slice s.p.a s.p.n s.p.c, .slice (s.u 0).a (s.u 0).n (s.u 0).c, .slice (s.u 1).a (s.u 1).n (s.u 1).c, .slice (s.u 2).a (s.u 2).n (s.u 2).c, .slice s.c.a s.c.n s.c.c]), .slice A n c] w fun e w' => e = .returned (.bool (fewL s U n)) ∧ Below w.heap.size w w' := by
  have HL := Lib.hid hl
  clear hl
  go_enter Tryz.func9, Tryz.ntmps9
  go_wp2_with fail
  have b0 := (Below.refl w.heap.size w).alloc (Nat.le_refl _) (.cells #[.slice s.w.a s.w.n s.w.c, .slice s.p.a s.p.n s.p.c, .slice (s.u 0).a (s.u 0).n (s.u 0).c, .slice (s.u 1).a (s.u 1).n (s.u 1).c, .slice (s.u 2).a (s.u 2).n (s.u 2).c, .slice s.c.a s.c.n s.c.c] 28)
  refine (rfew_any s _).mono ?_
  rintro e w1 ⟨rfl, hb1⟩
  have B1 := Lib.hid (b0.trans (hb1.mono b0.size))
  clear b0 hb1
  go_wp2
  go_loopw [5, 6] (fun q i wr => ∃ k : Nat, k ≤ n ∧ q = .bool (fewH s && lights U k) ∧ i = .int .i64 k ∧ Hid (Below w.heap.size w wr)) (fun _ i _ => n - (intOf i).toNat)
  case atStart => exact ⟨0, Nat.zero_le _, by simp [lights], rfl, B1⟩
  case round =>
    obtain ⟨k, hk, rfl, rfl, HB⟩ := hrel
    clear B1
    by_cases hlt : k < n
    · have dq : decide ((k : Int) < n) = true := by simp; omega
      have ik0 : (0 : Int) ≤ k := by omega
      have ik1 : (k : Int) < n := by omega
      have hnx : (fewH s && lights U (k + 1)) = ((fewH s && lights U k) && lightB (U k)) := by rw [lights_succ, Bool.and_assoc]
      have HNX := Lib.hid hnx
      obtain ⟨q, hq⟩ : ∃ q, q = (fewH s && lights U k) := ⟨_, rfl⟩
      rw [← hq] at HNX ⊢
      clear hnx hq
      cases q
      · go_wp2
        go_roundw
        case rel => exact ⟨k + 1, by omega, by rw [HNX.out]; rfl, by go_num, HB⟩
        case measure => simp [intOf]; omega
      · obtain ⟨b, off, rfl, hbl, hc⟩ := HL.out (by omega)
        have h0 := (hc k hlt).1 0 (by decide)
        have h1 := (hc k hlt).1 1 (by decide)
        have h2 := (hc k hlt).1 2 (by decide)
        have c0 := (HB.out.cell (p := ⟨b, off + k * 3 + 0, none⟩) hbl).trans h0
        have c1 := (HB.out.cell (p := ⟨b, off + k * 3 + 1, none⟩) hbl).trans h1
        have c2 := (HB.out.cell (p := ⟨b, off + k * 3 + 2, none⟩) hbl).trans h2
        have cl : b < wr.heap.size := by have := HB.out.size; omega
        rw [Nat.add_zero] at c0
        clear h0 h1 h2 hc
        go_wp2_with fail
        refine (rlight_any (U k) wr).mono ?_
        rintro e9 w5 ⟨rfl, hb5⟩
        have B5 := Lib.hid (HB.out.trans (hb5.mono HB.out.size))
        clear hb5 c0 c1 c2 cl
        go_wp2
        go_roundw
        case rel => exact ⟨k + 1, by omega, by rw [HNX.out]; rfl, by go_num, B5⟩
        case measure => simp [intOf]; omega
    · have dq : decide ((k : Int) < n) = false := by simp; omega
      obtain rfl : k = n := by omega
      have d4 : decide ((k : Int) ≤ 4) = decide (k ≤ 4) := by rw [decide_eq_decide]; omega
      have HE : Hid (fewL s U k = ((fewH s && lights U k) && decide (k ≤ 4))) := Lib.hid rfl
      obtain ⟨q, hq⟩ : ∃ q, q = (fewH s && lights U k) := ⟨_, rfl⟩
      rw [← hq] at HE ⊢
      clear hq hlt
      by_cases h4 : k ≤ 4
      · have d5 : decide ((k : Int) ≤ 4) = true := by simp; omega
        rw [decide_eq_true h4] at HE
        clear d4
        cases q
        · go_wp2
          go_ret
          exact ⟨by rw [HE.out]; rfl, HB.out⟩
        · go_wp2
          go_ret
          exact ⟨by rw [HE.out]; rfl, HB.out⟩
      · have d5 : decide ((k : Int) ≤ 4) = false := by simp; omega
        rw [decide_eq_false h4] at HE
        clear d4
        cases q
        · go_wp2
          go_ret
          exact ⟨by rw [HE.out]; rfl, HB.out⟩
        · go_wp2
          go_ret
          exact ⟨by rw [HE.out]; rfl, HB.out⟩
end Go.Proofs.YtcbnefjfoeanoaaGreatDoor
end
section
namespace Go.Proofs.YtcbnefjfoeanoaaGreatDoor
open Go.RowKit
set_option maxRecDepth 100000

theorem make_ints (n : Nat) (h : n ≤ 1000) (w : World) : (Instr.makeSlice 22 (.int .i64 (n : Int)) (.int .i64 (n : Int))).run Tryz.prog w = .ok (.slice (some ⟨w.heap.size, 0, none⟩) n n) (w.alloc (.cells (madeCells #[.int .i64 0] n) 3)) := by
  obtain ⟨i0, hi, hz0, hz1, hz2⟩ := info_parts Ls.info_int1
  have := run_make (P := Tryz.prog) w 22 3 i0 _ Tryz.underlying22 hi hz0 .i64 .i64 n n (by omega) (Int.le_refl _) (by rw [hz2]; omega) (by omega)
  rw [hz1] at this
  simpa [Value.cells] using this
def sM (g gp gc : Nat) : Hs := ⟨⟨some ⟨g, 0, none⟩, 16, 16⟩, ⟨some ⟨gp, 0, none⟩, 1, 1⟩, Ls.noSl, ⟨some ⟨gc, 0, none⟩, 2, 2⟩⟩
def wsM : List Int := [0, 0, 0, 0, 0, 0, 0, 0, 41, 0, 0, 0, 0, 0, 0, 0]
theorem wsM_at : ∀ i, i < 16 → wsM.getD i 0 = if i = 8 then 41 else 0 := by decide
theorem rep0 (n i : Nat) : (List.replicate n (0 : Int)).getD i 0 = 0 := by by_cases h : i < n <;> simp [List.getD, h]
def dM : Hd_ := ⟨wsM, fun _ => (1, 2), Ls.noLists, fun _ => false⟩
/-- What the example's heap lies in. -/
structure AwM (w wc : World) (b g gp gc : Nat) : Prop where
  hb : wc.heap[b]? = some (.cells #[.slice (some ⟨g, 0, none⟩) 16 16, .slice (some ⟨gp, 0, none⟩) 1 1, .slice none 0 0, .slice none 0 0, .slice none 0 0, .slice (some ⟨gc, 0, none⟩) 2 2] 28)
  hg : wc.heap[g]? = some (.cells (madeCells #[.int .i64 0] 16) 3)
  hp : wc.heap[gp]? = some (.cells #[.int .i64 1, .int .i64 2] 81)
  hc : wc.heap[gc]? = some (zBools 2)
  ap : ¬ g = gp ∧ ¬ g = gc ∧ ¬ g = b
  old : w.heap.size ≤ g
  bel : Below w.heap.size w wc
theorem four (W : World) (o1 o2 o3 o4 : Obj) : ((((W.alloc o1).alloc o2).alloc o3).alloc o4).heap[W.heap.size]? = some o1 ∧ ((((W.alloc o1).alloc o2).alloc o3).alloc o4).heap[W.heap.size + 1]? = some o2 ∧
    ((((W.alloc o1).alloc o2).alloc o3).alloc o4).heap[W.heap.size + 1 + 1]? = some o3 ∧ ((((W.alloc o1).alloc o2).alloc o3).alloc o4).heap[W.heap.size + 1 + 1 + 1]? = some o4 := by
  refine ⟨?_, ?_, ?_, ?_⟩
  · rw [Below.heap_alloc _ _ _ (by simp only [World.size_alloc]; omega), Below.heap_alloc _ _ _ (by simp only [World.size_alloc]; omega), Below.heap_alloc _ _ _ (by simp only [World.size_alloc]; omega)]
    exact World.alloc_heap_new W o1
  · rw [Below.heap_alloc _ _ _ (by simp only [World.size_alloc]; omega), Below.heap_alloc _ _ _ (by simp only [World.size_alloc]; omega)]
    have := World.alloc_heap_new (W.alloc o1) o2
    rwa [World.size_alloc] at this
  · rw [Below.heap_alloc _ _ _ (by simp)]
    have := World.alloc_heap_new ((W.alloc o1).alloc o2) o3
    rwa [World.size_alloc, World.size_alloc] at this
  · have := World.alloc_heap_new (((W.alloc o1).alloc o2).alloc o3) o4
    rwa [World.size_alloc, World.size_alloc, World.size_alloc] at this
theorem four_below (W : World) (o1 o2 o3 o4 : Obj) (q : Nat) : Below W.heap.size W (((((W.alloc o1).alloc o2).alloc o3).alloc o4).drewN q) :=
  below_drawn' (((((Below.refl _ _).alloc (Nat.le_refl _) o1).alloc (by simp) o2).alloc (by simp; omega) o3).alloc (by simp; omega) o4) q
theorem aw_box {w wc : World} {b g gp gc : Nat} (h : AwM w wc b g gp gc) : HBox wc b (sM g gp gc) := by
  have := h.hb
  exact ⟨by simp [World.cell?, this, sM], by simp [World.cell?, this, sM], by simp [World.cell?, this, sM, Ls.noSl], by simp [World.cell?, this, sM, Ls.noSl], by simp [World.cell?, this, sM, Ls.noSl], by simp [World.cell?, this, sM], (Array.getElem?_eq_some_iff.1 this).1⟩
theorem aw_word {w wc : World} {b g gp gc : Nat} (h : AwM w wc b g gp gc) : wc.cell? ⟨g, 8, none⟩ = some (.int .i64 0) ∧ wc.frozen? ⟨g, 8, none⟩ = false ∧ g < wc.heap.size := by
  have := h.hg
  exact ⟨by simp [World.cell?, this, madeCells], by simp [World.frozen?, this], (Array.getElem?_eq_some_iff.1 this).1⟩
theorem aw_store {w wc : World} {b g gp gc : Nat} (h : AwM w wc b g gp gc) :
    HBox (wc.setCell ⟨g, 8, none⟩ (.int .i64 41)) b (sM g gp gc) ∧ Hp (wc.setCell ⟨g, 8, none⟩ (.int .i64 41)) (wc.setCell ⟨g, 8, none⟩ (.int .i64 41)).heap.size (sM g gp gc) dM ∧ Below w.heap.size w (wc.setCell ⟨g, 8, none⟩ (.int .i64 41)) := by
  have hs : ∀ k, ¬ k = g → (wc.setCell ⟨g, 8, none⟩ (.int .i64 41)).heap[k]? = wc.heap[k]? := fun k hk => Below.heap_setCell _ _ _ _ hk
  have hz : (wc.setCell ⟨g, 8, none⟩ (.int .i64 41)).heap.size = wc.heap.size := by simp [World.setCell]
  obtain ⟨a1, a2, a3⟩ := h.ap
  refine ⟨(aw_box h).same (hs b (fun e => a3 e.symm)) (by rw [hz]; exact Nat.le_refl _), ⟨⟨rfl, fun _ => ⟨g, 0, rfl, by rw [hz]; exact (aw_word h).2.2, fun i hi => ?_⟩⟩, fun _ => ⟨gp, 0, rfl, by rw [hz]; exact (Array.getElem?_eq_some_iff.1 h.hp).1, fun i hi => ?_⟩, Ls.L3.none_ _ _, fun _ => ⟨gc, 0, rfl, by rw [hz]; exact (Array.getElem?_eq_some_iff.1 h.hc).1, fun i hi => ?_⟩⟩, h.bel.setCell (p := ⟨g, 8, none⟩) h.old _⟩
  · have hi' : i < 16 := hi
    by_cases e : i = 8
    · subst e
      have := World.cell?_setCell_same' wc ⟨g, 8, none⟩ (.int .i64 41) (by rw [(aw_word h).1]; rfl)
      simpa [dM, wsM] using this
    · rw [World.cell?_setCell_other _ _ _ _ (by intro hh; simp only [Addr.mk.injEq, true_and, and_true] at hh; omega)]
      have h2 : wc.cell? ⟨g, 0 + i, none⟩ = some (.int .i64 0) := by simp [World.cell?, h.hg, madeCells, hi', Nat.mod_one]
      rw [h2]
      have : wsM.getD i 0 = 0 := by rw [wsM_at i hi', if_neg e]
      show _ = some (Value.int .i64 (wsM.getD i 0))
      rw [this]
  · obtain rfl : i = 0 := by have : i < 1 := hi; omega
    constructor
    · rw [World.cell?_of_block (a := ⟨gp, 0 + 0 * 2, none⟩) (hs gp (fun e => a1 e.symm))]
      simp [World.cell?, h.hp, dM]
    · rw [World.cell?_of_block (a := ⟨gp, 0 + 0 * 2 + 1, none⟩) (hs gp (fun e => a1 e.symm))]
      simp [World.cell?, h.hp, dM]
  · have hi' : i < 2 := hi
    rw [World.cell?_of_block (a := ⟨gc, 0 + i, none⟩) (hs gc (fun e => a2 e.symm))]
    simp [World.cell?, h.hc, zBools, madeCells, hi', Nat.mod_one, dM]
def dZ : Hd_ := ⟨List.replicate 32 0, fun _ => (0, 0), Ls.noLists, fun _ => false⟩
def dK : Hd_ := ⟨wsM, fun _ => (1, 2), fun j => if j = 2 then [16] else [], fun _ => false⟩
def sK (g gp gc l : Nat) : Hs := ⟨⟨some ⟨g, 0, none⟩, 16, 16⟩, ⟨some ⟨gp, 0, none⟩, 1, 1⟩, (fun j => if j = 2 then ⟨some ⟨l, 0, none⟩, 1, 1⟩ else ⟨none, 0, 0⟩), ⟨some ⟨gc, 0, none⟩, 2, 2⟩⟩
theorem fine_M (g gp gc : Nat) : Fine (sM g gp gc) dM := by
  refine ⟨by show (16 : Nat) ≤ 4000; omega, by show (1 : Nat) ≤ 200; omega, by show (2 : Nat) ≤ 100000; omega, fun i => ?_, by decide⟩
  show -9223372036854775808 ≤ wsM.getD i 0 ∧ wsM.getD i 0 ≤ 9223372036854775807
  have : wsM.getD i 0 = 0 ∨ wsM.getD i 0 = 41 := by
    by_cases h : i < 16
    · rw [wsM_at i h]
      split <;> simp
    · left
      simp [List.getD, List.getElem?_eq_none (show wsM.length ≤ i from by show 16 ≤ i; omega)]
  omega
theorem fine_K (g gp gc l : Nat) : Fine (sK g gp gc l) dK := ⟨by show (16 : Nat) ≤ 4000; omega, by show (1 : Nat) ≤ 200; omega, by show (2 : Nat) ≤ 100000; omega, (fine_M g gp gc).hv, by decide⟩
/-- What the example holds: three heaps in their boxes, a head. -/
structure Six (w : World) (b1 b bk bx : Nat) (s1 s3 sk : Hs) (W : World) : Prop where
  h : HBox W b1 s1
  m : HBox W b s3
  k : HBox W bk sk
  ph : Hp W W.heap.size s1 dZ
  pm : Hp W W.heap.size s3 dM
  pk : Hp W W.heap.size sk dK
  n : W.cell? ⟨bx, 3, none⟩ = some (.int .i64 5)
  nl : bx < W.heap.size
  bel : Below w.heap.size w W
theorem Six.next {w W W' : World} {b1 b bk bx : Nat} {s1 s3 sk : Hs} (h : Six w b1 b bk bx s1 s3 sk W) (hb : Below W.heap.size W W') (h0 : w.heap.size ≤ W.heap.size) : Six w b1 b bk bx s1 s3 sk W' :=
  ⟨h.h.next hb, h.m.next hb, h.k.next hb, h.ph.next hb, h.pm.next hb, h.pk.next hb, (hb.cell (p := ⟨bx, 3, none⟩) h.nl).trans h.n, Nat.lt_of_lt_of_le h.nl hb.size, h.bel.trans (hb.mono h0)⟩
theorem pwhole0_any (s : Hs) (d : Hd_) (w : World) (hp : Hp w w.heap.size s d) (hz : Cl.Sz w) (hf : Fine s d) :
    Calls Tryz.prog 16 #[(.agg #[.slice s.w.a s.w.n s.w.c, .slice s.p.a s.p.n s.p.c, .slice (s.u 0).a (s.u 0).n (s.u 0).c, .slice (s.u 1).a (s.u 1).n (s.u 1).c, .slice (s.u 2).a (s.u 2).n (s.u 2).c, .slice s.c.a s.c.n s.c.c]), .slice none 0 0] w fun e w' => e = .returned (.bool (wholeH s d 0 noCaches)) ∧ Below w.heap.size w w' := by
  obtain ⟨U, hU⟩ := lrow_none w w.heap.size
  refine pwhole_any s d none 0 0 U noCaches w hp hU (by omega) hz hf ?_
  rw [show Ls.allOf (ahead d.F noCaches) (1 + 0) = Ls.upTo d.F 3 by simp [Ls.allOf, ahead]]
  exact hf.len
end Go.Proofs.YtcbnefjfoeanoaaGreatDoor
end
section
namespace Go.Proofs.YtcbnefjfoeanoaaGreatDoor.Ls
open Go.Proofs.YtcbnefjfoeanoaaGreatDoor
set_option maxRecDepth 100000
open Go.RowKit

theorem ints_other {xs ys : List Int} {k : Nat} (h : ¬ xs.getD k 0 = ys.getD k 0) : decide (xs = ys) = false := by
  simp only [decide_eq_false_iff_not]
  rintro rfl
  exact h rfl
theorem ints_all {xs ys : List Int} {n : Nat} (h1 : xs.length = n) (h2 : ys.length = n) (h : ∀ j, j < n → xs.getD j 0 = ys.getD j 0) : decide (xs = ys) = true := by
  simp only [decide_eq_true_eq]
  apply List.ext_getElem (by omega)
  intro i hi hj
  have := h i (by omega)
  simpa [List.getD, hi, hj] using this
theorem ints_any (B C : Nat) (A A' : Option Addr) (n m c c' : Nat) (xs ys : List Int) (w : World) (hn : n ≤ 4000000) (hm : m ≤ 4000000) (hr : Row w B A n xs) (hs : Row w C A' m ys) :
    Calls Tryz.prog 29 #[.slice A n c, .slice A' m c'] w fun e w' => e = .returned (.bool (decide (xs = ys))) ∧ ∃ d, w' = w.drewN d := by
  by_cases hnm : n = m
  · subst hnm
    have HR := Lib.hid hr
    have HS := Lib.hid hs
    clear hr hs
    go_enter Tryz.func29, Tryz.ntmps29
    go_wp2
    go_loopw [5] (fun i wr => ∃ k d : Nat, k ≤ n ∧ i = .int .i64 k ∧ wr = w.drewN d ∧ Hid (∀ j, j < k → xs.getD j 0 = ys.getD j 0)) (fun i _ => n - (intOf i).toNat)
    case atStart => exact ⟨0, 0, Nat.zero_le _, rfl, rfl, Lib.hid fun j h => absurd h (by omega)⟩
    case round =>
      obtain ⟨k, d, hk, rfl, rfl, HE⟩ := hrel
      by_cases hlt : k < n
      · obtain ⟨b, off, rfl, _, hc⟩ := HR.out.2 (by omega)
        obtain ⟨b', off', rfl, _, hc'⟩ := HS.out.2 (by omega)
        have h1 := hc k hlt
        have h2 := hc' k hlt
        clear hc hc'
        by_cases he : xs.getD k 0 = ys.getD k 0
        · have HE2 : Hid (∀ j, j < k + 1 → xs.getD j 0 = ys.getD j 0) := Lib.hid fun j hj => by
            by_cases e : j = k
            · rw [e]; exact he
            · exact HE.out j (by omega)
          rw [← he] at h2
          clear he HE
          go_wp2
          go_quiet (fail)
          go_wp2
          go_roundw
          case rel => exact ⟨k + 1, _, by omega, by go_num, rfl, HE2⟩
          case measure => simp [intOf]; omega
        · have HO := Lib.hid (ints_other he)
          obtain ⟨x, hx⟩ : ∃ x, x = xs.getD k 0 := ⟨_, rfl⟩
          obtain ⟨y, hy⟩ : ∃ y, y = ys.getD k 0 := ⟨_, rfl⟩
          rw [← hx, ← hy] at he
          rw [← hx] at h1
          rw [← hy] at h2
          have hd : (x != y) = true := by simpa using he
          clear he hx hy HE
          go_wp2
          go_quiet (fail)
          go_wp2
          go_ret
          exact ⟨rint HO.out.symm, _, World.drewN_drewN _ _ _⟩
      · obtain rfl : k = n := by omega
        have HO := Lib.hid (ints_all HR.out.1 HS.out.1 HE.out)
        clear HE
        go_wp2
        go_ret
        exact ⟨rint HO.out.symm, _, rfl⟩
  · have hd : ((n : Int) != m) = true := by simp; omega
    have HO : Hid (decide (xs = ys) = false) := Lib.hid (by
      simp only [decide_eq_false_iff_not]
      rintro rfl
      exact hnm (hr.1.symm.trans hs.1))
    clear hr hs hnm
    go_enter Tryz.func29, Tryz.ntmps29
    go_wp2
    go_ret
    exact ⟨rint HO.out.symm, 0, rfl⟩
theorem ints_tell (B C : Nat) (A A' : Option Addr) (n m c c' : Nat) (xs ys : List Int) (w : World) (hn : n ≤ 4000000) (hm : m ≤ 4000000) (hr : Row w B A n xs) (hs : Row w C A' m ys) :
    Calls Tryz.prog 29 #[.slice A n c, .slice A' m c'] w (Tells w (decide (xs = ys))) :=
  (ints_any B C A A' n m c c' xs ys w hn hm hr hs).mono fun _ _ ⟨he, d, hd⟩ => ⟨he, by rw [hd]; exact below_drewN (Below.refl _ _) _⟩

/-- Whether two are the same. -/
def sameUp (f g : Nat → List Int) (k : Nat) : Prop := ∀ j, j < k → f j = g j
instance (f g : Nat → List Int) (k : Nat) : Decidable (sameUp f g k) := inferInstanceAs (Decidable (∀ j, j < k → f j = g j))

end Go.Proofs.YtcbnefjfoeanoaaGreatDoor.Ls
end
section
namespace Go.Proofs.YtcbnefjfoeanoaaGreatDoor.Al
open Go.Proofs.YtcbnefjfoeanoaaGreatDoor
open Go.RowKit
set_option maxRecDepth 100000

def dA : Hd_ := ⟨List.replicate 16 0, fun _ => (0, 0), Ls.noLists, fun _ => false⟩
def sA (g cw : Nat) (A C : Option Addr) : Hs := ⟨⟨some ⟨g, 0, none⟩, 16 * 1, cw⟩, ⟨A, 1, 1⟩, Ls.noSl, ⟨C, 2 * 1, 2 * 1⟩⟩
theorem fine_A (g cw : Nat) (A C : Option Addr) : Fine (sA g cw A C) dA := by
  refine ⟨by show (16 : Nat) ≤ 4000; omega, by show (1 : Nat) ≤ 200; omega, by show (2 : Nat) ≤ 100000; omega, fun i => ?_, by decide⟩
  have : dA.ws.getD i 0 = 0 := by
    show (List.replicate 16 (0 : Int)).getD i 0 = 0
    exact rep0 16 i
  omega
theorem fineT_A (g cw : Nat) (A C : Option Addr) : FineT (sA g cw A C) dA Ls.noSl Ls.noLists :=
  ⟨fine_A g cw A C, fun _ _ => Nat.zero_le _, fun _ _ => Nat.zero_le _, by decide⟩
def rA (g cw : Nat) (A C : Option Addr) : Tk := tkR (sA g cw A C) dA Ls.noLists true false false 3 0 0
theorem rA_er (g cw : Nat) (A C : Option Addr) : (rA g cw A C).er = 0 := by kernel_rfl
theorem rA_a (g cw : Nat) (A C : Option Addr) : (rA g cw A C).a = 20 := by kernel_rfl
theorem rA_G (g cw : Nat) (A C : Option Addr) : (rA g cw A C).G 1 = [16] ∧ (rA g cw A C).G 0 = [] ∧ (rA g cw A C).G 2 = [] := ⟨by kernel_rfl, by kernel_rfl, by kernel_rfl⟩
theorem rA_F (g cw : Nat) (A C : Option Addr) : (rA g cw A C).d.F 1 = [28, 24] ∧ (rA g cw A C).d.F 0 = [] ∧ (rA g cw A C).d.F 2 = [] := ⟨by kernel_rfl, by kernel_rfl, by kernel_rfl⟩
theorem rA_n (g cw : Nat) (A C : Option Addr) : (rA g cw A C).wn = 16 ∧ (rA g cw A C).pn = 1 ∧ (rA g cw A C).cn = 2 := ⟨by kernel_rfl, by kernel_rfl, by kernel_rfl⟩
theorem rA_ws (g cw : Nat) (A C : Option Addr) : (rA g cw A C).d.ws = [0, 0, 0, 0, 25, 0, 0, 0, 0, 0, 0, 0, 0, 0, 0, 0] := by kernel_rfl
theorem rA_room (g cw : Nat) (A C : Option Addr) : roomB (sA g cw A C) dA Ls.noLists 3 = true := by kernel_rfl
theorem rA_whole (g cw : Nat) (A C a1 a2 a3 : Option Addr) (c1 c2 c3 : Nat) (v : Nat → Ls.Sl) : wholeH ⟨⟨a1, 16, c1⟩, ⟨a2, 1, c2⟩, v, ⟨a3, 2, c3⟩⟩ (rA g cw A C).d 1 (fun _ => (rA g cw A C).G) = true := by kernel_rfl
theorem aw_take (g cw : Nat) (A C : Option Addr) (w : World) (hz : Cl.Sz w) (hp : Hp w w.heap.size (sA g cw A C) dA) : Calls Tryz.prog 11 #[.agg #[.slice (some ⟨g, 0, none⟩) 16 cw, .slice A 1 1, .slice none 0 0, .slice none 0 0, .slice none 0 0, .slice C 2 2], .agg #[.slice none 0 0, .slice none 0 0, .slice none 0 0], .agg #[.bool true, .bool false, .bool false, .int .i64 3, .int .i64 0, .int .i64 0]] w fun e w' =>
    ∃ (a1 a2 a3 : Option Addr) (c1 c2 c3 : Nat) (x v : Nat → Ls.Sl), e = .returned (.tuple #[.agg #[.slice a1 16 c1, .slice a2 1 c2, .slice (x 0).a (x 0).n (x 0).c, .slice (x 1).a (x 1).n (x 1).c, .slice (x 2).a (x 2).n (x 2).c, .slice a3 2 c3], (.agg #[.slice (v 0).a (v 0).n (v 0).c, .slice (v 1).a (v 1).n (v 1).c, .slice (v 2).a (v 2).n (v 2).c]), .int .i64 20, .int .i64 0]) ∧
      Hp w' w'.heap.size ⟨⟨a1, 16, c1⟩, ⟨a2, 1, c2⟩, x, ⟨a3, 2, c3⟩⟩ (rA g cw A C).d ∧ Ls.L3 w' w'.heap.size v (rA g cw A C).G ∧ Below w.heap.size w w' := by
  refine (ptake_any (sA g cw A C) Ls.noSl dA Ls.noLists true false false 3 0 0 w hp (Ls.L3.none_ _ _) hz (fineT_A g cw A C)).mono ?_
  rintro e w' ⟨⟨⟨a1, n1, c1⟩, ⟨a2, n2, c2⟩, x, ⟨a3, n3, c3⟩⟩, v, rfl, h1, h2, hn, hb⟩
  have hr : tkR (sA g cw A C) dA Ls.noLists true false false 3 0 0 = rA g cw A C := rfl
  rw [hr] at h1 h2 hn ⊢
  obtain ⟨e1, e2, e3⟩ := rA_n g cw A C
  rw [e1, e2, e3] at hn
  obtain ⟨rfl, rfl, rfl⟩ := hn
  rw [rA_a, rA_er]
  exact ⟨a1, a2, a3, c1, c2, c3, x, v, rfl, h1, h2, hb⟩
/-- What the example holds: two heaps in their boxes, a cache in its box. -/
structure Aw (w W : World) (b1 bk bc : Nat) (s t : Hs) (v : Nat → Ls.Sl) (d : Hd_) (G : Nat → List Int) : Prop where
  h : HBox W b1 s
  k : HBox W bk t
  c : Ls.Box3 W bc v
  ph : Hp W W.heap.size s dA
  pk : Hp W W.heap.size t d
  l3 : Ls.L3 W W.heap.size v G
  bel : Below w.heap.size w W
theorem Aw.next {w W W' : World} {b1 bk bc : Nat} {s t : Hs} {v : Nat → Ls.Sl} {d : Hd_} {G : Nat → List Int} (h : Aw w W b1 bk bc s t v d G) (hb : Below W.heap.size W W') : Aw w W' b1 bk bc s t v d G :=
  ⟨h.h.next hb, h.k.next hb, h.c.next hb, h.ph.next hb, h.pk.next hb, h.l3.next hb, h.bel.trans (hb.mono h.bel.size)⟩
theorem aw_start {w w2 w3 W5 : World} {b1 n1 n2 n3 c1 c2 c3 : Nat} {a1 a2 a3 : Option Addr} {s : Hs} {x v : Nat → Ls.Sl} {d : Hd_} {G : Nat → List Int} (hx : HBox w2 b1 s) (hs : Hp w2 w2.heap.size s dA) (hb : Below w.heap.size w w2) (hk : Hp w3 w3.heap.size ⟨⟨a1, n1, c1⟩, ⟨a2, n2, c2⟩, x, ⟨a3, n3, c3⟩⟩ d) (l3 : Ls.L3 w3 w3.heap.size v G) (hb3 : Below w2.heap.size w2 w3)
    (hW : W5 = (w3.alloc (.cells #[.slice a1 n1 c1, .slice a2 n2 c2, .slice (x 0).a (x 0).n (x 0).c, .slice (x 1).a (x 1).n (x 1).c, .slice (x 2).a (x 2).n (x 2).c, .slice a3 n3 c3] 28)).alloc (.cells #[.slice (v 0).a (v 0).n (v 0).c, .slice (v 1).a (v 1).n (v 1).c, .slice (v 2).a (v 2).n (v 2).c] 25)) : Aw w W5 b1 w3.heap.size (w3.heap.size + 1) s ⟨⟨a1, n1, c1⟩, ⟨a2, n2, c2⟩, x, ⟨a3, n3, c3⟩⟩ v d G := by
  obtain ⟨w4, h4⟩ : ∃ w4, w4 = w3.alloc (.cells #[.slice a1 n1 c1, .slice a2 n2 c2, .slice (x 0).a (x 0).n (x 0).c, .slice (x 1).a (x 1).n (x 1).c, .slice (x 2).a (x 2).n (x 2).c, .slice a3 n3 c3] 28) := ⟨_, rfl⟩
  rw [← h4] at hW
  have b4 : Below w3.heap.size w3 w4 := by rw [h4]; exact (Below.refl _ _).alloc (Nat.le_refl _) _
  have b5 : Below w4.heap.size w4 W5 := by rw [hW]; exact (Below.refl _ _).alloc (Nat.le_refl _) _
  have z4 : w4.heap.size = w3.heap.size + 1 := by rw [h4]; simp
  have k4 : HBox w4 w3.heap.size ⟨⟨a1, n1, c1⟩, ⟨a2, n2, c2⟩, x, ⟨a3, n3, c3⟩⟩ := by rw [h4]; exact HBox.new w3 ⟨⟨a1, n1, c1⟩, ⟨a2, n2, c2⟩, x, ⟨a3, n3, c3⟩⟩ _
  have k5 : Ls.Box3 W5 (w3.heap.size + 1) v := by rw [hW, ← z4]; exact Ls.Box3.new w4 v _
  have s2 := hb.size
  have s3 := hb3.size
  have s4 := b4.size
  exact ⟨((hx.next hb3).next b4).next b5, k4.next b5, k5, ((hs.next hb3).next b4).next b5, (hk.next b4).next b5, (l3.next b4).next b5, hb.trans ((hb3.mono s2).trans ((b4.mono (by omega)).trans (b5.mono (by omega))))⟩
theorem row_lit2 (w : World) (a b : Int) : Row (w.alloc (.cells #[.int .i64 a, .int .i64 b] 3)) (w.heap.size + 1) (some ⟨w.heap.size, 0, none⟩) 2 [a, b] := by
  refine ⟨rfl, fun _ => ⟨w.heap.size, 0, rfl, by omega, fun i hi => ?_⟩⟩
  rcases (show i = 0 ∨ i = 1 by omega) with rfl | rfl <;> simp [go_sem]
theorem fine_rA (g cw : Nat) (A C : Option Addr) (a1 a2 a3 : Option Addr) (c1 c2 c3 : Nat) (v : Nat → Ls.Sl) : Fine ⟨⟨a1, 16, c1⟩, ⟨a2, 1, c2⟩, v, ⟨a3, 2, c3⟩⟩ (rA g cw A C).d := by
  refine ⟨by show (16 : Nat) ≤ 4000; omega, by show (1 : Nat) ≤ 200; omega, by show (2 : Nat) ≤ 100000; omega, fun i => ?_, ?_⟩
  · rw [rA_ws]
    have : ([0, 0, 0, 0, 25, 0, 0, 0, 0, 0, 0, 0, 0, 0, 0, 0] : List Int).getD i 0 = 0 ∨ ([0, 0, 0, 0, 25, 0, 0, 0, 0, 0, 0, 0, 0, 0, 0, 0] : List Int).getD i 0 = 25 := by
      by_cases h : i < 16
      · have key : ∀ j, j < 16 → ([0, 0, 0, 0, 25, 0, 0, 0, 0, 0, 0, 0, 0, 0, 0, 0] : List Int).getD j 0 = 0 ∨ ([0, 0, 0, 0, 25, 0, 0, 0, 0, 0, 0, 0, 0, 0, 0, 0] : List Int).getD j 0 = 25 := by decide
        exact key i h
      · left
        rw [List.getD, List.getElem?_eq_none (by show 16 ≤ i; omega)]
        rfl
    omega
  · rw [show Ls.upTo (rA g cw A C).d.F 3 = [28, 24] by kernel_rfl]
    decide
theorem len_rA (g cw : Nat) (A C : Option Addr) : (Ls.allOf (ahead (rA g cw A C).d.F (fun _ => (rA g cw A C).G)) (1 + 1)).length ≤ 2000000 := by
  rw [show Ls.allOf (ahead (rA g cw A C).d.F (fun _ => (rA g cw A C).G)) (1 + 1) = [28, 24, 16] by kernel_rfl]
  decide
set_option maxHeartbeats 2000000 in
theorem awake_any (w : World) (hz : Cl.Sz w) : Calls Tryz.prog 8 #[] w fun e w' => e = .returned (.bool true) ∧ Below w.heap.size w w' := by
  have HZ := Lib.hid hz
  have hz0 := hz.pos
  have hnew := new_ok 1
  simp only [show ((1 : Nat) : Int) = 1 from rfl] at hnew
  have HNEW := Lib.hid hnew
  clear hz hnew
  go_enter Tryz.func8, Tryz.ntmps8
  go_wp2_with fail
  refine (HNEW.out w (by omega) (by omega)).mono ?_
  rintro e w1 ⟨A, C, g, cw, rfl, hr1, hp1, hc1, hb1⟩
  have H1 := Lib.hid (And.intro (show Hp w1 w1.heap.size (sA g cw A C) dA from ⟨hr1, hp1, Ls.L3.none_ _ _, hc1⟩) hb1)
  clear hr1 hp1 hc1 hb1
  go_wp2_with fail
  obtain ⟨w2, hw2⟩ : ∃ w2, w2 = w1.alloc (.cells #[.slice (some ⟨g, 0, none⟩) 16 cw, .slice A 1 1, .slice none 0 0, .slice none 0 0, .slice none 0 0, .slice C 2 2] 28) := ⟨_, rfl⟩
  have hb2 : Below w1.heap.size w1 w2 := by rw [hw2]; exact (Below.refl _ _).alloc (Nat.le_refl _) _
  have X1 : Hid (HBox w2 w1.heap.size (sA g cw A C)) := Lib.hid (by rw [hw2]; exact HBox.new w1 (sA g cw A C) 28)
  have P2 := Lib.hid (And.intro (H1.out.1.next hb2) (H1.out.2.trans (hb2.mono H1.out.2.size)))
  rw [← hw2]
  clear hw2 hb2
  refine (aw_take g cw A C w2 (HZ.out.over P2.out.2 hz0) P2.out.1).mono ?_
  rintro e3 w3 ⟨a1, a2, a3, c1, c2, c3, x, v, rfl, h3, l3, hb3⟩
  have A3 := Lib.hid (And.intro (show Hp w3 w3.heap.size ⟨⟨a1, 16, c1⟩, ⟨a2, 1, c2⟩, x, ⟨a3, 2, c3⟩⟩ (rA g cw A C).d from h3) (And.intro l3 hb3))
  clear h3 l3 hb3
  go_wp2_with fail
  obtain ⟨W5, hW5⟩ : ∃ W5, W5 = (w3.alloc (.cells #[.slice a1 16 c1, .slice a2 1 c2, .slice (x 0).a (x 0).n (x 0).c, .slice (x 1).a (x 1).n (x 1).c, .slice (x 2).a (x 2).n (x 2).c, .slice a3 2 c3] 28)).alloc (.cells #[.slice (v 0).a (v 0).n (v 0).c, .slice (v 1).a (v 1).n (v 1).c, .slice (v 2).a (v 2).n (v 2).c] 25) := ⟨_, rfl⟩
  have A5 := Lib.hid (aw_start X1.out P2.out.1 P2.out.2 A3.out.1 A3.out.2.1 A3.out.2.2 hW5)
  have hz5 : w3.heap.size + 1 + 1 = W5.heap.size := by rw [hW5]; simp
  rw [← hW5, hz5]
  obtain ⟨bk, hbk⟩ : ∃ bk, bk = w3.heap.size := ⟨_, rfl⟩
  obtain ⟨b1, hb1⟩ : ∃ b1, b1 = w1.heap.size := ⟨_, rfl⟩
  rw [← hbk, ← hb1] at A5 ⊢
  clear hW5 hz5 hbk hb1 X1 P2 A3 H1
  have R5 := Lib.hid ((A5.out.l3 1 (by decide)).1)
  rw [(rA_G g cw A C).1] at R5
  have A6 := Lib.hid (A5.out.next ((Below.refl _ _).alloc (Nat.le_refl _) (.cells #[.int .i64 16] 3)))
  have HI := Lib.hid (Ls.ints_tell W5.heap.size (W5.heap.size + 1) (v 1).a (some ⟨W5.heap.size, 0, none⟩) (v 1).n 1 (v 1).c 1 [16] [16] (W5.alloc (.cells #[.int .i64 16] 3)) (by have := R5.out.1; simp at this; omega) (by omega) (R5.out.alloc _ (Nat.le_refl _)) (Ls.row_lit1 W5 16))
  rw [decide_eq_true rfl] at HI
  refine HI.out.mono ?_
  rintro e6 w6 ⟨rfl, hb6⟩
  have A7 := Lib.hid (A6.out.next hb6)
  clear hb6 A6 A5 R5 HI
  have q3 := A7.out.k.c3
  have ql := A7.out.k.lt
  dsimp only at q3
  go_wp2_with fail
  have R7 := Lib.hid ((A7.out.pk.free 1 (by decide)).1)
  rw [(rA_F g cw A C).1] at R7
  have A8 := Lib.hid (A7.out.next ((Below.refl _ _).alloc (Nat.le_refl _) (.cells #[.int .i64 28, .int .i64 24] 3)))
  have HI := Lib.hid (Ls.ints_tell w6.heap.size (w6.heap.size + 1) (x 1).a (some ⟨w6.heap.size, 0, none⟩) (x 1).n 2 (x 1).c 2 [28, 24] [28, 24] (w6.alloc (.cells #[.int .i64 28, .int .i64 24] 3)) (by have := R7.out.1; simp at this; omega) (by omega) (R7.out.alloc _ (Nat.le_refl _)) (row_lit2 w6 28 24))
  rw [decide_eq_true rfl] at HI
  refine HI.out.mono ?_
  rintro e8 w8 ⟨rfl, hb8⟩
  have A9 := Lib.hid (A8.out.next hb8)
  clear hb8 A8 A7 R7 HI q3 ql
  have q0 := A9.out.k.c0
  have q1 := A9.out.k.c1
  have q2 := A9.out.k.c2
  have q3 := A9.out.k.c3
  have q4 := A9.out.k.c4
  have q5 := A9.out.k.c5
  have ql := A9.out.k.lt
  have p0 := A9.out.c.cell 0 (by decide)
  have p1 := A9.out.c.cell 1 (by decide)
  have p2 := A9.out.c.cell 2 (by decide)
  have pl := A9.out.c.lt
  dsimp only at q0 q1 q2 q3 q4 q5
  go_wp2_with fail
  have A10 := Lib.hid (A9.out.next ((Below.refl _ _).alloc (Nat.le_refl _) (.cells #[.slice (v 0).a (v 0).n (v 0).c, .slice (v 1).a (v 1).n (v 1).c, .slice (v 2).a (v 2).n (v 2).c] 25)))
  have HW := pwhole_any ⟨⟨a1, 16, c1⟩, ⟨a2, 1, c2⟩, x, ⟨a3, 2, c3⟩⟩ (rA g cw A C).d (some ⟨w8.heap.size, 0, none⟩) 1 1 (fun _ => v) (fun _ => (rA g cw A C).G) (w8.alloc (.cells #[.slice (v 0).a (v 0).n (v 0).c, .slice (v 1).a (v 1).n (v 1).c, .slice (v 2).a (v 2).n (v 2).c] 25)) A10.out.pk (lrow_of (own_one w8 v) (by simp) (fun _ _ => A10.out.l3)) (by decide) (HZ.out.over A10.out.bel hz0) (fine_rA g cw A C a1 a2 a3 c1 c2 c3 x) (len_rA g cw A C)
  rw [rA_whole] at HW
  refine HW.mono ?_
  rintro e11 w11 ⟨rfl, hb11⟩
  have A11 := Lib.hid (A10.out.next hb11)
  clear hb11 A10 A9 HW q0 q1 q2 q3 q4 q5 ql p0 p1 p2 pl
  have q0 := A11.out.h.c0
  have q1 := A11.out.h.c1
  have q2 := A11.out.h.c2
  have q3 := A11.out.h.c3
  have q4 := A11.out.h.c4
  have q5 := A11.out.h.c5
  have ql := A11.out.h.lt
  dsimp only [sA, Ls.noSl] at q0 q1 q2 q3 q4 q5
  go_wp2_with fail
  have HR := room_any (sA g cw A C) Ls.noSl dA Ls.noLists 3 w11 A11.out.ph (Ls.L3.none_ _ _) (HZ.out.over A11.out.bel hz0) (fineT_A g cw A C)
  rw [rA_room] at HR
  refine HR.mono ?_
  rintro e12 w12 ⟨rfl, hb12⟩
  have A12 := Lib.hid (A11.out.next hb12)
  clear hb12 A11 HR q0 q1 q2 q3 q4 q5 ql
  go_wp2
  go_ret
  exact ⟨rfl, A12.out.bel⟩
end Go.Proofs.YtcbnefjfoeanoaaGreatDoor.Al
end
section
namespace Go.Proofs.YtcbnefjfoeanoaaGreatDoor
open Go.ChangeShapes Go.WideShapes Go.ChangeAt Go.RowKit Go.Deep

theorem cellsHead : Tryz.prog.cellsOf 30 = 6 := by kernel_rfl
section
variable {H : Type} {enc : TypeId × Value → H} {P : Program} {w : World} {base : Nat} {spare : Nat → Bool} {held : Bool}

/-- A struct of three bools and three numbers, taken apart. -/
theorem six_open {r : Reach} {b0 : Nat} {t tb ti : TypeId} {f0 f1 f2 f3 f4 f5 : Field} {v : Value} {d : DataW H} {p : List MemPlace} (hs : P.underlying t = some (.struct #[f0, f1, f2, f3, f4, f5])) (ct : P.cellsOf t = 6)
    (hone : oneCellFields P #[f0, f1, f2, f3, f4, f5] = true) (ht : [f0.type, f1.type, f2.type, f3.type, f4.type, f5.type] = [tb, tb, tb, ti, ti, ti])
    (hb : P.underlying tb = some .bool) (hi : P.underlying ti = some (.int .i64)) (hv : Value.okWide P w r b0 t v) (h : DataW.Trod enc P w base spare held t v d p) :
    ∃ (u o e : Bool) (n b m : Int), v = .agg #[.bool u, .bool o, .bool e, .int .i64 n, .int .i64 b, .int .i64 m] ∧
      d = .agg [.lit (.bool u), .lit (.bool o), .lit (.bool e), .lit (.int .i64 n), .lit (.int .i64 b), .lit (.int .i64 m)] ∧ p = [] ∧
      (Lit.int .i64 n).wf = true ∧ (Lit.int .i64 b).wf = true ∧ (Lit.int .i64 m).wf = true := by
  simp only [List.cons.injEq, and_true] at ht
  obtain ⟨t0, t1, t2, t3, t4, t5⟩ := ht
  obtain ⟨⟨l⟩, rfl, hsz⟩ := okWide_struct hs hv
  obtain ⟨fuel, hf⟩ := h
  obtain ⟨xs, k, _, hx, hl, hlen, hg⟩ := DataW.trod_struct hs hf
  have hl6 : l.length = 6 := by simpa [ct] using hsz
  have field : ∀ (i : Nat) (f : Field), (#[f0, f1, f2, f3, f4, f5] : Array Field)[i]? = some f → DataW.trod enc P w base spare held k f.type ((l.drop i).take 1) = xs[i]? := by
    intro i f hif
    have hfo := hone_of hone i f hif
    have := hg i f hif
    rw [hfo.1, hfo.2] at this
    exact this
  match l, hl6, xs, hlen with
  | [c0, c1, c2, c3, c4, c5], _, [y0, y1, y2, y3, y4, y5], _ =>
    obtain ⟨u, e0, rfl⟩ := DataW.trod_bool hb (by have := field 0 f0 rfl; rw [t0] at this; exact this)
    obtain ⟨o, e1, rfl⟩ := DataW.trod_bool hb (by have := field 1 f1 rfl; rw [t1] at this; exact this)
    obtain ⟨e, e2, rfl⟩ := DataW.trod_bool hb (by have := field 2 f2 rfl; rw [t2] at this; exact this)
    obtain ⟨n, e3, rfl, w3⟩ := DataW.trod_int hi (by have := field 3 f3 rfl; rw [t3] at this; exact this)
    obtain ⟨b, e4, rfl, w4⟩ := DataW.trod_int hi (by have := field 4 f4 rfl; rw [t4] at this; exact this)
    obtain ⟨m, e5, rfl, w5⟩ := DataW.trod_int hi (by have := field 5 f5 rfl; rw [t5] at this; exact this)
    simp at e0 e1 e2 e3 e4 e5
    subst e0 e1 e2 e3 e4 e5
    simp at hx
    exact ⟨u, o, e, n, b, m, rfl, hx.1, hx.2, w3, w4, w5⟩

/-- .. and read again, wherever. -/
theorem six_shut {t tb ti : TypeId} {f0 f1 f2 f3 f4 f5 : Field} (hs : P.underlying t = some (.struct #[f0, f1, f2, f3, f4, f5])) (ct : P.cellsOf t = 6)
    (hone : oneCellFields P #[f0, f1, f2, f3, f4, f5] = true) (ht : [f0.type, f1.type, f2.type, f3.type, f4.type, f5.type] = [tb, tb, tb, ti, ti, ti])
    (hb : P.underlying tb = some .bool) (hi : P.underlying ti = some (.int .i64)) (u o e : Bool) (n b m : Int)
    (wn : (Lit.int .i64 n).wf = true) (wb : (Lit.int .i64 b).wf = true) (wm : (Lit.int .i64 m).wf = true) :
    DataW.Trod enc P w base spare held t (.agg #[.bool u, .bool o, .bool e, .int .i64 n, .int .i64 b, .int .i64 m]) (.agg [.lit (.bool u), .lit (.bool o), .lit (.bool e), .lit (.int .i64 n), .lit (.int .i64 b), .lit (.int .i64 m)]) [] := by
  simp only [List.cons.injEq, and_true] at ht
  obtain ⟨t0, t1, t2, t3, t4, t5⟩ := ht
  obtain ⟨o0, k0⟩ := hone_of hone 0 f0 rfl
  obtain ⟨o1, k1⟩ := hone_of hone 1 f1 rfl
  obtain ⟨o2, k2⟩ := hone_of hone 2 f2 rfl
  obtain ⟨o3, k3⟩ := hone_of hone 3 f3 rfl
  obtain ⟨o4, k4⟩ := hone_of hone 4 f4 rfl
  obtain ⟨o5, k5⟩ := hone_of hone 5 f5 rfl
  rw [t0] at k0
  rw [t1] at k1
  rw [t2] at k2
  rw [t3] at k3
  rw [t4] at k4
  rw [t5] at k5
  have hm := trod_struct_mk (enc := enc) (w := w) (base := base) (spare := spare) (held := held) (n := 1) (cs := [.bool u, .bool o, .bool e, .int .i64 n, .int .i64 b, .int .i64 m])
    (xs := [(.lit (.bool u), []), (.lit (.bool o), []), (.lit (.bool e), []), (.lit (.int .i64 n), []), (.lit (.int .i64 b), []), (.lit (.int .i64 m), [])]) hs (by rw [ct]; rfl)
    (by simp [t0, t1, t2, t3, t4, t5, o0, o1, o2, o3, o4, o5, k0, k3, DataW.trod, hb, hi, wn, wb, wm])
  exact ⟨2, by simpa [Value.cells] using hm⟩
end
end Go.Proofs.YtcbnefjfoeanoaaGreatDoor
end
section
namespace Go.Proofs.YtcbnefjfoeanoaaGreatDoor
open Go.ChangeShapes Go.WideShapes Go.ChangeAt Go.RowKit Go.Deep
set_option maxRecDepth 100000

theorem pin_cap {H : Type} {enc : TypeId × Value → H} {w : World} {base : Nat} {spare : Nat → Bool} {held : Bool} {fuel : Nat} {cs : List Value} {x : DataW H × List MemPlace}
    (h : DataW.trod enc Tryz.prog w base spare held fuel 23 cs = some x) : ∃ (s : Ls.Sl) (f : Nat → Int × Int), cs = [.slice s.a s.n s.c] ∧ Cl.PRow w w.heap.size s.a s.n f ∧ s.n ≤ s.c := by
  rcases open_slice_pairs Tryz.underlying23 Tryz.underlying81 (by kernel_rfl) rfl rfl (by kernel_rfl) (by kernel_rfl) h with ⟨hcs, _⟩ | ⟨x, l, c, m, n, V0, V1, D0, D1, P0, P1, hcs, _, hl, hm, hmm, _, hi⟩
  · exact ⟨⟨none, 0, 0⟩, fun _ => (0, 0), hcs, Cl.PRow.empty _ _ _ _, Nat.le_refl _⟩
  · refine ⟨⟨some x, l, c⟩, fun i => (intOf (V0 i), intOf (V1 i)), hcs, fun hn => ?_, hl⟩
    have hn' : 0 < l := hn
    have hm' : l ≤ m := by rw [hmm]; split <;> omega
    obtain ⟨b, off, spot⟩ := x
    have h0 := (hi 0 (by omega)).1
    have hs : spot = none := by simpa [Addr.add] using World.cell?_spot h0
    subst hs
    refine ⟨b, off, rfl, ?_, fun i hlt => ?_⟩
    · have := World.block_lt_of_cell? w _ h0
      simpa [Addr.add] using this
    · have hlt' : i < l := hlt
      obtain ⟨g0, g1, t0, t1⟩ := hi i (by omega)
      rw [Addr.add_lit] at g0 g1
      rw [← Nat.add_assoc] at g1
      obtain ⟨z0, e0, _⟩ := DataW.trod_int Tryz.underlying3 t0
      obtain ⟨z1, e1, _⟩ := DataW.trod_int Tryz.underlying3 t1
      simp only [List.cons.injEq, and_true] at e0 e1
      refine ⟨?_, ?_⟩
      · show _ = some (Value.int .i64 (intOf (V0 i)))
        rw [g0, e0]
        rfl
      · show _ = some (Value.int .i64 (intOf (V1 i)))
        rw [g1, e1]
        rfl
theorem heap_of8 {H : Type} {enc : TypeId × Value → H} {w : World} {base b0 : Nat} {spare : Nat → Bool} {held : Bool} {v : Value} {d : DataW H} {p : List MemPlace} {r : Reach}
    (hv : Value.okWide Tryz.prog w r b0 28 v) (h : DataW.Trod enc Tryz.prog w base spare held 28 v d p) :
    ∃ (s : Hs) (e : Hd_), v = (.agg #[.slice s.w.a s.w.n s.w.c, .slice s.p.a s.p.n s.p.c, .slice (s.u 0).a (s.u 0).n (s.u 0).c, .slice (s.u 1).a (s.u 1).n (s.u 1).c, .slice (s.u 2).a (s.u 2).n (s.u 2).c, .slice s.c.a s.c.n s.c.c]) ∧ Hp w w.heap.size s e ∧ Fit64 e.ws ∧ s.p.n ≤ s.p.c := by
  obtain ⟨⟨l⟩, rfl, hsz⟩ := okWide_struct Tryz.underlying28 hv
  obtain ⟨fuel, hf⟩ := h
  obtain ⟨xs, k, _, hx, hl, hlen, hg⟩ := DataW.trod_struct Tryz.underlying28 hf
  have hl6 : l.length = 6 := hsz.trans (by kernel_rfl)
  match l, hl6, xs, hlen with
  | [c0, c1, c2, c3, c4, c5], _, [y0, y1, y2, y3], _ =>
    have e22 : Tryz.prog.cellsOf 22 = 1 := by kernel_rfl
    have e23 : Tryz.prog.cellsOf 23 = 1 := by kernel_rfl
    have e25 : Tryz.prog.cellsOf 25 = 3 := by kernel_rfl
    have e26 : Tryz.prog.cellsOf 26 = 1 := by kernel_rfl
    have g0 : DataW.trod enc Tryz.prog w base spare held k 22 [c0] = some y0 := by have := hg 0 _ rfl; simpa [e22, Value.cells] using this
    have g1 : DataW.trod enc Tryz.prog w base spare held k 23 [c1] = some y1 := by have := hg 1 _ rfl; simpa [e23, Value.cells] using this
    have g2 : DataW.trod enc Tryz.prog w base spare held k 25 [c2, c3, c4] = some y2 := by have := hg 2 _ rfl; simpa [e25, Value.cells] using this
    have g3 : DataW.trod enc Tryz.prog w base spare held k 26 [c5] = some y3 := by have := hg 3 _ rfl; simpa [e26, Value.cells] using this
    obtain ⟨s0, zs, h0, r0, _, f0⟩ := ints_in g0
    obtain ⟨s1, f1, h1, r1, c1'⟩ := pin_cap g1
    obtain ⟨u, F, h2, r2, _⟩ := lists_in g2
    obtain ⟨s3, f3, h3, r3⟩ := bools_in g3
    simp only [List.cons.injEq, and_true] at h0 h1 h2 h3
    obtain ⟨rfl, rfl, rfl⟩ := h2
    subst h0 h1 h3
    refine ⟨⟨s0, s1, u, s3⟩, ⟨zs, f1, F, f3⟩, rfl, ⟨r0.1, r1, r2, r3⟩, f0, c1'⟩
end Go.Proofs.YtcbnefjfoeanoaaGreatDoor
end
section
namespace Go.Proofs.YtcbnefjfoeanoaaGreatDoor.Al
open Go.Proofs.YtcbnefjfoeanoaaGreatDoor
open Go.RowKit
set_option maxRecDepth 100000

structure Lw (w W : World) (s : Hs) (d : Hd_) (u : Nat → Ls.Sl) (G : Nat → List Int) : Prop where
  bel : Below w.heap.size w W
  hb : HBox W w.heap.size s
  cb : Ls.Box3 W (w.heap.size + 1) u
  hp : Hp W W.heap.size s d
  l3 : Ls.L3 W W.heap.size u G
section
variable {w W W' : World} {s : Hs} {d : Hd_} {u : Nat → Ls.Sl} {G : Nat → List Int}
theorem Lw.next (h : Lw w W s d u G) (hb : Below W.heap.size W W') : Lw w W' s d u G := ⟨h.bel.trans (hb.mono h.bel.size), h.hb.next hb, h.cb.next hb, h.hp.next hb, h.l3.next hb⟩
end
end Go.Proofs.YtcbnefjfoeanoaaGreatDoor.Al
end
section
namespace Go.Proofs.YtcbnefjfoeanoaaGreatDoor.Al
open Go.Proofs.YtcbnefjfoeanoaaGreatDoor
open Go.RowKit
set_option maxRecDepth 100000

structure Lh (w W : World) (s : Hs) (d : Hd_) (A : Option Addr) (n : Nat) (U : Nat → Nat → Ls.Sl) (F : Nat → Nat → List Int) : Prop where
  bel : Below w.heap.size w W
  hb : HBox W w.heap.size s
  hp : Hp W W.heap.size s d
  lr : Ls.LRow W W.heap.size A n U F
section
variable {w W W' : World} {s : Hs} {d : Hd_} {A : Option Addr} {n : Nat} {U : Nat → Nat → Ls.Sl} {F : Nat → Nat → List Int}
theorem Lh.next (h : Lh w W s d A n U F) (hb : Below W.heap.size W W') : Lh w W' s d A n U F := ⟨h.bel.trans (hb.mono h.bel.size), h.hb.next hb, h.hp.next hb, lrow_more (h.lr.below hb) hb.size⟩
theorem lh_start (hp : Hp w w.heap.size s d) (hl : Ls.LRow w w.heap.size A n U F) (h : W = w.alloc (.cells #[.slice s.w.a s.w.n s.w.c, .slice s.p.a s.p.n s.p.c, .slice (s.u 0).a (s.u 0).n (s.u 0).c, .slice (s.u 1).a (s.u 1).n (s.u 1).c, .slice (s.u 2).a (s.u 2).n (s.u 2).c, .slice s.c.a s.c.n s.c.c] 28)) : Lh w W s d A n U F := by
  have b1 : Below w.heap.size w W := by rw [h]; exact (Below.refl _ _).alloc (Nat.le_refl _) _
  have x1 : HBox W w.heap.size s := by rw [h]; exact HBox.new w s _
  exact ⟨b1, x1, hp.next b1, lrow_more (hl.below b1) b1.size⟩
/-- The heap is small, and so are all caches. -/
theorem lite_fewL {B : Nat} (h : fewL s U n = true) (hn : 0 < n) (hp : Hp w B s d) (hl : Ls.LRow w B A n U F) (hv : Fit64 d.ws) : Lite s d (F 0) 70 ∧ n ≤ 4 ∧ (Ls.allOf (ahead d.F F) (1 + n)).length ≤ 2000000 := by
  obtain ⟨b, off, _, _, hc⟩ := hl hn
  unfold fewL lights at h
  simp only [Bool.and_eq_true, decide_eq_true_eq] at h
  have hall := List.all_eq_true.1 h.1.2
  obtain ⟨h1, h2, h3, h4⟩ := few_parts h.1.1
  unfold lightB at h4
  simp only [decide_eq_true_eq] at h4
  have hG : ∀ i, i < n → ∀ j, j < 3 → (F i j).length ≤ 70 := fun i hi j hj => by
    have g := hall i (List.mem_range.2 hi)
    unfold lightB at g
    simp only [decide_eq_true_eq] at g
    have := (hc i hi).2.len j hj
    rcases (show j = 0 ∨ j = 1 ∨ j = 2 by omega) with rfl | rfl | rfl <;> omega
  have hF : ∀ j, j < 3 → (d.F j).length ≤ 70 := fun j hj => by
    have := hp.free.len j hj
    rcases (show j = 0 ∨ j = 1 ∨ j = 2 by omega) with rfl | rfl | rfl <;> omega
  refine ⟨⟨h1, h2, h3, hF, hG 0 hn, hv⟩, h.2, ?_⟩
  have key : ∀ m, m ≤ 1 + n → (Ls.allOf (ahead d.F F) m).length ≤ 210 * m := fun m => by
    induction m with
    | zero => intro _; simp [Ls.allOf]
    | succ m ih =>
      intro hm
      rw [Ls.allOf_succ, List.length_append, upTo3]
      have := ih (by omega)
      cases m with
      | zero => have a0 := hF 0 (by decide); have a1 := hF 1 (by decide); have a2 := hF 2 (by decide); simp only [ahead]; omega
      | succ i => have a0 := hG i (by omega) 0 (by decide); have a1 := hG i (by omega) 1 (by decide); have a2 := hG i (by omega) 2 (by decide); simp only [ahead]; omega
  have := key (1 + n) (Nat.le_refl _)
  have := h.2
  omega
theorem may_first : ∀ {m : Nat}, 0 < m → mayH s d m F = true → mayH s d 1 (fun _ => F 0) = true := fun {m} => by
  induction m with
  | zero => intro h; omega
  | succ m ih =>
    intro _ h
    cases m with
    | zero =>
      unfold mayH freeAll at h ⊢
      rw [show Ls.allOf (ahead d.F fun _ => F 0) (1 + 1) = Ls.allOf (ahead d.F F) (1 + (0 + 1)) by simp [Ls.allOf, List.range_succ, ahead]]
      simpa [List.range_succ, ahead] using h
    | succ k => exact ih (by omega) (may_less h)
end
theorem bl_alloc {w W : World} (h : Below w.heap.size w W) (v : Obj) : Below w.heap.size w (W.alloc v) := h.alloc h.size v
theorem bl_drew {w W : World} (h : Below w.heap.size w W) : Below w.heap.size w W.drew := below_drawn' h 1
theorem bl_call {w W W' : World} (h : Below w.heap.size w W) (hb : Below W.heap.size W W') : Below w.heap.size w W' := h.trans (hb.mono h.size)
theorem bl_set {w W : World} (h : Below w.heap.size w W) {b o : Nat} (hb : w.heap.size ≤ b) (v : Value) : Below w.heap.size w (W.setCell ⟨b, o, none⟩ v) := h.setCell (p := ⟨b, o, none⟩) hb _
theorem oc8 {a z : World} (h : Below a.heap.size a z) : ∀ i k, i < a.heap.size → z.cell? ⟨i, k, none⟩ = a.cell? ⟨i, k, none⟩ := fun i k hi => h.cell (p := ⟨i, k, none⟩) hi
theorem om8 {a z : World} (h : Below a.heap.size a z) : ∀ i k, i < a.heap.size → z.frozen? ⟨i, k, none⟩ = a.frozen? ⟨i, k, none⟩ := fun i k hi => h.frozen (p := ⟨i, k, none⟩) hi
theorem old6 {w w4 : World} (h : Below (w.alloc (.cells #[.slice none 0 0, .slice none 0 0, .slice none 0 0, .slice none 0 0, .slice none 0 0, .slice none 0 0] 28)).heap.size (w.alloc (.cells #[.slice none 0 0, .slice none 0 0, .slice none 0 0, .slice none 0 0, .slice none 0 0, .slice none 0 0] 28)) w4) : w.heap.size < w4.heap.size ∧ w4.cell? ⟨w.heap.size, 0, none⟩ = some (.slice none 0 0) ∧ w4.cell? ⟨w.heap.size, 1, none⟩ = some (.slice none 0 0) ∧ w4.cell? ⟨w.heap.size, 2, none⟩ = some (.slice none 0 0) ∧ w4.cell? ⟨w.heap.size, 3, none⟩ = some (.slice none 0 0) ∧ w4.cell? ⟨w.heap.size, 4, none⟩ = some (.slice none 0 0) ∧ w4.cell? ⟨w.heap.size, 5, none⟩ = some (.slice none 0 0) ∧ w4.frozen? ⟨w.heap.size, 0, none⟩ = false ∧ w4.frozen? ⟨w.heap.size, 1, none⟩ = false ∧ w4.frozen? ⟨w.heap.size, 2, none⟩ = false ∧ w4.frozen? ⟨w.heap.size, 3, none⟩ = false ∧ w4.frozen? ⟨w.heap.size, 4, none⟩ = false ∧ w4.frozen? ⟨w.heap.size, 5, none⟩ = false := by
  have hc := oc8 h
  have hf := om8 h
  have hs := h.size
  simp at hs
  refine ⟨by omega, (hc _ _ (by simp)).trans (by simp), (hc _ _ (by simp)).trans (by simp), (hc _ _ (by simp)).trans (by simp), (hc _ _ (by simp)).trans (by simp), (hc _ _ (by simp)).trans (by simp), (hc _ _ (by simp)).trans (by simp), (hf _ _ (by simp)).trans (by simp), (hf _ _ (by simp)).trans (by simp), (hf _ _ (by simp)).trans (by simp), (hf _ _ (by simp)).trans (by simp), (hf _ _ (by simp)).trans (by simp), (hf _ _ (by simp)).trans (by simp)⟩
theorem old6d {w w4 : World} (h : Below (w.alloc (.cells #[.slice none 0 0, .slice none 0 0, .slice none 0 0, .slice none 0 0, .slice none 0 0, .slice none 0 0] 28)).drew.heap.size (w.alloc (.cells #[.slice none 0 0, .slice none 0 0, .slice none 0 0, .slice none 0 0, .slice none 0 0, .slice none 0 0] 28)).drew w4) : w.heap.size < w4.heap.size ∧ w4.cell? ⟨w.heap.size, 0, none⟩ = some (.slice none 0 0) ∧ w4.cell? ⟨w.heap.size, 1, none⟩ = some (.slice none 0 0) ∧ w4.cell? ⟨w.heap.size, 2, none⟩ = some (.slice none 0 0) ∧ w4.cell? ⟨w.heap.size, 3, none⟩ = some (.slice none 0 0) ∧ w4.cell? ⟨w.heap.size, 4, none⟩ = some (.slice none 0 0) ∧ w4.cell? ⟨w.heap.size, 5, none⟩ = some (.slice none 0 0) ∧ w4.frozen? ⟨w.heap.size, 0, none⟩ = false ∧ w4.frozen? ⟨w.heap.size, 1, none⟩ = false ∧ w4.frozen? ⟨w.heap.size, 2, none⟩ = false ∧ w4.frozen? ⟨w.heap.size, 3, none⟩ = false ∧ w4.frozen? ⟨w.heap.size, 4, none⟩ = false ∧ w4.frozen? ⟨w.heap.size, 5, none⟩ = false := old6 (bl_call (bl_drew (Below.refl _ _)) h)
theorem old3 {w w4 : World} (h : Below (w.alloc (.cells #[.slice none 0 0, .slice none 0 0, .slice none 0 0] 25)).heap.size (w.alloc (.cells #[.slice none 0 0, .slice none 0 0, .slice none 0 0] 25)) w4) : w.heap.size < w4.heap.size ∧ w4.cell? ⟨w.heap.size, 0, none⟩ = some (.slice none 0 0) ∧ w4.cell? ⟨w.heap.size, 1, none⟩ = some (.slice none 0 0) ∧ w4.cell? ⟨w.heap.size, 2, none⟩ = some (.slice none 0 0) ∧ w4.frozen? ⟨w.heap.size, 0, none⟩ = false ∧ w4.frozen? ⟨w.heap.size, 1, none⟩ = false ∧ w4.frozen? ⟨w.heap.size, 2, none⟩ = false := by
  have hc := oc8 h
  have hf := om8 h
  have hs := h.size
  simp at hs
  refine ⟨by omega, (hc _ _ (by simp)).trans (by simp), (hc _ _ (by simp)).trans (by simp), (hc _ _ (by simp)).trans (by simp), (hf _ _ (by simp)).trans (by simp), (hf _ _ (by simp)).trans (by simp), (hf _ _ (by simp)).trans (by simp)⟩
theorem old3d {w w4 : World} (h : Below (w.alloc (.cells #[.slice none 0 0, .slice none 0 0, .slice none 0 0] 25)).drew.heap.size (w.alloc (.cells #[.slice none 0 0, .slice none 0 0, .slice none 0 0] 25)).drew w4) : w.heap.size < w4.heap.size ∧ w4.cell? ⟨w.heap.size, 0, none⟩ = some (.slice none 0 0) ∧ w4.cell? ⟨w.heap.size, 1, none⟩ = some (.slice none 0 0) ∧ w4.cell? ⟨w.heap.size, 2, none⟩ = some (.slice none 0 0) ∧ w4.frozen? ⟨w.heap.size, 0, none⟩ = false ∧ w4.frozen? ⟨w.heap.size, 1, none⟩ = false ∧ w4.frozen? ⟨w.heap.size, 2, none⟩ = false := old3 (bl_call (bl_drew (Below.refl _ _)) h)
theorem old63d {w w4 : World} (h : Below (((w.alloc (.cells #[.slice none 0 0, .slice none 0 0, .slice none 0 0, .slice none 0 0, .slice none 0 0, .slice none 0 0] 28)).alloc (.cells #[.slice none 0 0, .slice none 0 0, .slice none 0 0] 25)).drew).heap.size (((w.alloc (.cells #[.slice none 0 0, .slice none 0 0, .slice none 0 0, .slice none 0 0, .slice none 0 0, .slice none 0 0] 28)).alloc (.cells #[.slice none 0 0, .slice none 0 0, .slice none 0 0] 25)).drew) w4) : (w.heap.size + 1 < w4.heap.size ∧ w4.cell? ⟨w.heap.size + 1, 0, none⟩ = some (.slice none 0 0) ∧ w4.cell? ⟨w.heap.size + 1, 1, none⟩ = some (.slice none 0 0) ∧ w4.cell? ⟨w.heap.size + 1, 2, none⟩ = some (.slice none 0 0) ∧ w4.frozen? ⟨w.heap.size + 1, 0, none⟩ = false ∧ w4.frozen? ⟨w.heap.size + 1, 1, none⟩ = false ∧ w4.frozen? ⟨w.heap.size + 1, 2, none⟩ = false) ∧ w.heap.size < w4.heap.size ∧ w4.cell? ⟨w.heap.size, 0, none⟩ = some (.slice none 0 0) ∧ w4.cell? ⟨w.heap.size, 1, none⟩ = some (.slice none 0 0) ∧ w4.cell? ⟨w.heap.size, 2, none⟩ = some (.slice none 0 0) ∧ w4.cell? ⟨w.heap.size, 3, none⟩ = some (.slice none 0 0) ∧ w4.cell? ⟨w.heap.size, 4, none⟩ = some (.slice none 0 0) ∧ w4.cell? ⟨w.heap.size, 5, none⟩ = some (.slice none 0 0) ∧ w4.frozen? ⟨w.heap.size, 0, none⟩ = false ∧ w4.frozen? ⟨w.heap.size, 1, none⟩ = false ∧ w4.frozen? ⟨w.heap.size, 2, none⟩ = false ∧ w4.frozen? ⟨w.heap.size, 3, none⟩ = false ∧ w4.frozen? ⟨w.heap.size, 4, none⟩ = false ∧ w4.frozen? ⟨w.heap.size, 5, none⟩ = false := by
  have h1 := bl_call (bl_drew (Below.refl _ _)) h
  have h2 := old3 h1
  rw [show (w.alloc (.cells #[.slice none 0 0, .slice none 0 0, .slice none 0 0, .slice none 0 0, .slice none 0 0, .slice none 0 0] 28)).heap.size = w.heap.size + 1 by simp] at h2
  exact ⟨h2, old6 (bl_call (bl_alloc (Below.refl _ _) _) h1)⟩
theorem old36d {w w4 : World} (h : Below (((w.alloc (.cells #[.slice none 0 0, .slice none 0 0, .slice none 0 0] 25)).alloc (.cells #[.slice none 0 0, .slice none 0 0, .slice none 0 0, .slice none 0 0, .slice none 0 0, .slice none 0 0] 28)).drew).heap.size (((w.alloc (.cells #[.slice none 0 0, .slice none 0 0, .slice none 0 0] 25)).alloc (.cells #[.slice none 0 0, .slice none 0 0, .slice none 0 0, .slice none 0 0, .slice none 0 0, .slice none 0 0] 28)).drew) w4) : (w.heap.size + 1 < w4.heap.size ∧ w4.cell? ⟨w.heap.size + 1, 0, none⟩ = some (.slice none 0 0) ∧ w4.cell? ⟨w.heap.size + 1, 1, none⟩ = some (.slice none 0 0) ∧ w4.cell? ⟨w.heap.size + 1, 2, none⟩ = some (.slice none 0 0) ∧ w4.cell? ⟨w.heap.size + 1, 3, none⟩ = some (.slice none 0 0) ∧ w4.cell? ⟨w.heap.size + 1, 4, none⟩ = some (.slice none 0 0) ∧ w4.cell? ⟨w.heap.size + 1, 5, none⟩ = some (.slice none 0 0) ∧ w4.frozen? ⟨w.heap.size + 1, 0, none⟩ = false ∧ w4.frozen? ⟨w.heap.size + 1, 1, none⟩ = false ∧ w4.frozen? ⟨w.heap.size + 1, 2, none⟩ = false ∧ w4.frozen? ⟨w.heap.size + 1, 3, none⟩ = false ∧ w4.frozen? ⟨w.heap.size + 1, 4, none⟩ = false ∧ w4.frozen? ⟨w.heap.size + 1, 5, none⟩ = false) ∧ w.heap.size < w4.heap.size ∧ w4.cell? ⟨w.heap.size, 0, none⟩ = some (.slice none 0 0) ∧ w4.cell? ⟨w.heap.size, 1, none⟩ = some (.slice none 0 0) ∧ w4.cell? ⟨w.heap.size, 2, none⟩ = some (.slice none 0 0) ∧ w4.frozen? ⟨w.heap.size, 0, none⟩ = false ∧ w4.frozen? ⟨w.heap.size, 1, none⟩ = false ∧ w4.frozen? ⟨w.heap.size, 2, none⟩ = false := by
  have h1 := bl_call (bl_drew (Below.refl _ _)) h
  have h2 := old6 h1
  rw [show (w.alloc (.cells #[.slice none 0 0, .slice none 0 0, .slice none 0 0] 25)).heap.size = w.heap.size + 1 by simp] at h2
  exact ⟨h2, old3 (bl_call (bl_alloc (Below.refl _ _) _) h1)⟩
theorem full_keep {w w3 W : World} {s : Hs} {d : Hd_} {n b off : Nat} {U : Nat → Nat → Ls.Sl} {F : Nat → Nat → List Int} (u : Nat → Ls.Sl) (L : Lh w w3 s d (some ⟨b, off, none⟩) n U F) (hn : 0 < n) (hu : U 0 = u) (hb : Below w3.heap.size w3 W) :
    (Below w3.heap.size w3 W ∧ True) ∧ w.heap.size < W.heap.size ∧ W.cell? ⟨w.heap.size, 0, none⟩ = some (.slice s.w.a s.w.n s.w.c) ∧ W.cell? ⟨w.heap.size, 1, none⟩ = some (.slice s.p.a s.p.n s.p.c) ∧ W.cell? ⟨w.heap.size, 2, none⟩ = some (.slice (s.u 0).a (s.u 0).n (s.u 0).c) ∧ W.cell? ⟨w.heap.size, 3, none⟩ = some (.slice (s.u 1).a (s.u 1).n (s.u 1).c) ∧ W.cell? ⟨w.heap.size, 4, none⟩ = some (.slice (s.u 2).a (s.u 2).n (s.u 2).c) ∧ W.cell? ⟨w.heap.size, 5, none⟩ = some (.slice s.c.a s.c.n s.c.c) ∧ b < W.heap.size ∧ W.cell? ⟨b, off, none⟩ = some (.slice (u 0).a (u 0).n (u 0).c) ∧ W.cell? ⟨b, off + 1, none⟩ = some (.slice (u 1).a (u 1).n (u 1).c) ∧ W.cell? ⟨b, off + 2, none⟩ = some (.slice (u 2).a (u 2).n (u 2).c) := by
  have M := L.next hb
  obtain ⟨b', off', e, hbl, hc⟩ := M.lr hn
  cases e
  have c0 := (hc 0 hn).1 0 (by decide)
  have c1 := (hc 0 hn).1 1 (by decide)
  have c2 := (hc 0 hn).1 2 (by decide)
  rw [hu] at c0 c1 c2
  simp only [Nat.zero_mul, Nat.add_zero] at c0 c1 c2
  exact ⟨⟨hb, trivial⟩, M.hb.lt, M.hb.c0, M.hb.c1, M.hb.c2, M.hb.c3, M.hb.c4, M.hb.c5, hbl, c0, c1, c2⟩
end Go.Proofs.YtcbnefjfoeanoaaGreatDoor.Al
end
