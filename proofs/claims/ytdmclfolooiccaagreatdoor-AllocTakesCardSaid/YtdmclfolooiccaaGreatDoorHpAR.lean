/-
  Merged texts: AlTakeC, AlLawP, AlRoom, HpAwake, LsInts.
-/
import Derived.Test.YtdmclfolooiccaaGreatDoorAAlTakeB
import Derived.Test.YtdmclfolooiccaaGreatDoorHpAN
import Derived.Test.YtdmclfolooiccaaGreatDoorHpAM
import Derived.Test.YtdmclfolooiccaaGreatDoorHpAL
import Derived.Test.YtdmclfolooiccaaGreatDoorHpAJ
import Derived.Deep.CutRange
import Derived.Test.YtdmclfolooiccaaGreatDoorHpAI
import Derived.Deep.QuietTactic
import Derived.BigQuiet
section
namespace Go.Proofs.YtdmclfolooiccaaGreatDoor
open Go.RowKit
set_option maxRecDepth 100000

theorem ahead_one (G : Nat → List Int) : ahead G (fun _ => G) = fun _ => G := by
  funext k
  cases k <;> rfl
theorem Fit.of {s t : Hs} (h : Fit s) (hl : Lens s t) : Fit t := ⟨by rw [hl.1]; exact h.w, by rw [hl.1, hl.2.1]; exact h.wp, by rw [hl.2.1]; exact h.p⟩
theorem sto_sizes {W : World} {b : Nat} {s t : Hs} {u v : Nat → Ls.Sl} {d : Hd_} {G : Nat → List Int} (hf : FineT s d u G) (hL : ∀ j, j < 3 → (u j).n = (G j).length) (hs : Sto W b t v d G) (hl : Lens s t) : (∀ j, j < 3 → (t.u j).n ≤ 1000000) ∧ (∀ j, j < 3 → (v j).n ≤ 1000000) :=
  ⟨fun j hj => by have := hl.2.2.1 j hj; have := hf.lu j hj; omega, fun j hj => by have := hs.l3.len j hj; have := hL j hj; have := hf.lg j hj; omega⟩
theorem how_any {s : Hs} {d : Hd_} {u : Nat → Ls.Sl} {G : Nat → List Int} {o e : Bool} {N b m : Int} (hf : FineT s d u G) (hL : ∀ j, j < 3 → (u j).n = (G j).length) (hm : mayH s d 1 (fun _ => G) = true) (hh : Hd.mayB true o e N b m = true) : How s d G N (Hd.word true o e N b m) (tkR s d G true o e N b m) := by
  have hfit := fit_first (mayH_all hm).1
  have hok : Okay s.p.n d G 0 (fun _ => G) := (okay_iff.1 (by rw [ahead_one]; exact hm)).2
  have ha : argE s d G true o e N b m = Cl.classErr N := if_pos ⟨hm, hh, rfl⟩
  unfold tkR
  rw [ha]
  by_cases he : Cl.classErr N = 0
  · rw [if_pos he]
    cases hq : takeO d s.p.n G N with
    | none => exact .inl ⟨4, by decide, rfl, fun W b' t v hs _ hz hl => take_no b' t v d G W N hs hz (hfit.of hl) he (by rw [hl.2.1]; exact hq)⟩
    | some q => exact .inr ⟨q, rfl, (takeO_some (r := 0) (R := fun _ => G) hq).cell hok, fun W b' t v hs h0 hz hl => take_yes b' t v d G W N q hs hz h0 (hfit.of hl) (sto_sizes hf hL hs hl).1 (sto_sizes hf hL hs hl).2 he (by rw [hl.2.1]; exact hq)⟩
  · rw [if_neg he]
    exact .inl ⟨Cl.classErr N, he, rfl, fun W b' _ _ _ _ hz _ => take_err b' W N _ rfl he hz⟩
theorem ptake_any (s : Hs) (u : Nat → Ls.Sl) (d : Hd_) (G : Nat → List Int) (us o e : Bool) (N b m : Int) (w : World) (hp : Hp w w.heap.size s d) (l3 : Ls.L3 w w.heap.size u G) (hz : Cl.Sz w) (hf : FineT s d u G) :
    Calls Tryz.prog 7 #[(.agg #[.slice s.w.a s.w.n s.w.c, .slice s.p.a s.p.n s.p.c, .slice (s.u 0).a (s.u 0).n (s.u 0).c, .slice (s.u 1).a (s.u 1).n (s.u 1).c, .slice (s.u 2).a (s.u 2).n (s.u 2).c, .slice s.c.a s.c.n s.c.c]), (.agg #[.slice (u 0).a (u 0).n (u 0).c, .slice (u 1).a (u 1).n (u 1).c, .slice (u 2).a (u 2).n (u 2).c]), .agg #[.bool us, .bool o, .bool e, .int .i64 N, .int .i64 b, .int .i64 m]] w (TakeOut w (tkR s d G us o e N b m)) := by
  have hno : ∀ (_ : ¬ (mayH s d 1 (fun _ => G) = true ∧ Hd.mayB us o e N b m = true ∧ us = true)), tkR s d G us o e N b m = tkNo 1 := fun h => by
    have ha : argE s d G us o e N b m = 1 := if_neg h
    unfold tkR
    rw [ha, if_neg (by decide)]
  cases hm : mayH s d 1 (fun _ => G)
  · rw [hno (by rw [hm]; exact fun h => by cases h.1)]
    exact ptake_may s u d G us o e N b m w hp l3 hz hf hm
  · cases hh : Hd.mayB us o e N b m
    · rw [hno (by rw [hh]; exact fun h => by cases h.2.1)]
      exact ptake_head s u d G us o e N b m w hp l3 hz hf hm hh
    · cases us
      · rw [hno (fun h => by cases h.2.2)]
        exact ptake_used s u d G o e N b m w hp l3 hz hf hm hh
      · exact ptake_rest s u d G o e N b m w hp l3 hz hf hm hh _ (how_any hf l3.len hm hh) (fit_first (mayH_all hm).1)
end Go.Proofs.YtdmclfolooiccaaGreatDoor
end
section
namespace Go.Proofs.YtdmclfolooiccaaGreatDoor
open Go.RowKit
set_option maxRecDepth 100000

section
variable {n r k p : Nat} {a : Int} {d : Hd_} {G : Nat → List Int} {R : Nat → Nat → List Int}
theorem same_split (h : Cl.findO d.f n 1 = some p) (hk : k < 3) {y : Int} (hy : ¬ Cl.bg d.f n y = 0) : Same4 n d (splitD d n k p) y := by
  obtain ⟨h1, h2, h3⟩ := find_one h
  have hp : ¬ (y / 16 - 1).toNat = p := cell_off hy (Cl.free_zero h1 h2 h3).1
  have h16 := bg_in16 hy
  obtain ⟨_, e2, e3⟩ := split_other h hk h16 hp
  refine ⟨e3, e2, fun z hz1 hz2 => ?_⟩
  rw [wd_split (by omega), if_neg]
  intro hon
  obtain ⟨g1, g2⟩ := mem_on.1 hon
  have hy' : ¬ Cl.bg (splitD d n k p).f n y = 0 := by rw [e3]; exact hy
  have g3 := cell_end g1
  have := word_one (z := z) hy' (show ¬ Cl.bg (splitD d n k p).f n z = 0 from g1) ⟨hz1, by rw [e3]; exact hz2⟩ ⟨Int.le_refl _, by show z < z + Cl.bg (Cl.put d.f p (1, (k : Int))) n z; omega⟩
  subst this
  exact hp g2
theorem same_fill (k : Nat) (y : Int) : Same4 n d (fillD d k) y := ⟨rfl, rfl, fun _ _ _ => rfl⟩
theorem same_large {m : Int} (h : Cl.findO d.f n m = some p) {y : Int} (hy : ¬ Cl.bg d.f n y = 0) : Same4 n d (largeD d p m) y := ⟨(large_other h hy).2, (large_other h hy).1, fun _ _ _ => rfl⟩
theorem same_begin {x : Int} (hb : ¬ Cl.bg d.f n a = 0) (hl : d.ws.length = 16 * n) {y : Int} (hy : ¬ Cl.bg d.f n y = 0) (hne : ¬ y = a) : Same4 n d (beginD d n a x) y := by
  refine ⟨rfl, rfl, fun z hz1 hz2 => ?_⟩
  have h16 := bg_in16 hy
  have h2 := cell_end hb
  rw [wd_begin hb hl (by omega), if_neg, if_neg]
  · exact fun hc => hne (word_one hy hb ⟨hz1, hz2⟩ hc)
  · exact fun e => hne (word_one hy hb ⟨hz1, hz2⟩ (by rw [e]; omega))
/-- What the cache is filled with: all cells that were stay. -/
theorem same_small {q : Hd_ × (Nat → List Int)} (hk : k < 3) (h : smallO d n G k = some q) : (∀ y, ¬ Cl.bg d.f n y = 0 → Same4 n d q.1 y) ∧ (∀ y, ¬ Cl.bg q.1.f n y = 0 → ¬ wd q.1 y = 0 → ¬ Cl.bg d.f n y = 0) := by
  unfold smallO at h
  split at h
  · cases h; exact ⟨fun y _ => Same4.refl n d y, fun y hy _ => hy⟩
  · split at h
    · cases h; exact ⟨fun y _ => same_fill k y, fun y hy _ => hy⟩
    · split at h
      · next p hp =>
        cases h
        refine ⟨fun y hy => (same_split hp hk hy).trans (same_fill k y), fun y hy hw => ?_⟩
        have hy' : ¬ Cl.bg (splitD d n k p).f n y = 0 := hy
        by_cases hpg : (y / 16 - 1).toNat = p
        · have hon : y ∈ Cl.onS (Cl.put d.f p (1, (k : Int))) n p := mem_on.2 ⟨hy', hpg⟩
          exact absurd (free_facts (split_on (d := d) hon)).2.2 hw
        · rw [(split_other hp hk (bg_in16 hy') hpg).2.2] at hy'
          exact hy'
      · cases h
/-- What is taken: each object stays, and none is new but what is taken. -/
theorem same_take {N : Int} {q : Hd_ × (Nat → List Int) × Int} (hok : Okay n d G r R) (h : takeO d n G N = some q) : (∀ y, ¬ Cl.bg d.f n y = 0 → Same4 n d q.1 y) ∧ (∀ y, ¬ Cl.bg d.f n y = 0 → ¬ wd d y = 0 → ¬ y = q.2.2) ∧ (∀ y, ¬ Cl.bg q.1.f n y = 0 → ¬ y = q.2.2 → ¬ wd q.1 y = 0 → ¬ Cl.bg d.f n y = 0) := by
  unfold takeO at h
  split at h
  · split at h
    · next p hp =>
      cases h
      exact ⟨fun y hy => same_large hp hy, fun y hy _ e => by subst e; exact hy (large_at hp).2.2, fun y hy hne _ => (large_cell hp hy).resolve_left hne⟩
    · cases h
  · next h3 =>
    have hc := class_small h3
    have hk : (Cl.classOf N).toNat < 3 := by omega
    split at h
    · next q' hq =>
      cases h
      obtain ⟨h1, h2, _, _⟩ := smallO_some (r := r) (R := R) hk hq
      have h4 := same_small hk hq
      have hfr := (free_facts (pop_free (h2 hok) hk h1)).2.2
      refine ⟨h4.1, fun y hy hw e => hw ?_, fun y hy _ hw => h4.2 y hy hw⟩
      have h5 := (h4.1 y hy).wd y (Int.le_refl _) (by have := cell_end hy; omega)
      rw [← h5]
      have e' : y = popA q'.2 (Cl.classOf N).toNat := e
      rw [e']
      exact hfr
    · cases h
end
/-- The heap behind a Take that tells no error. -/
structure Took (s t : Hs) (d : Hd_) (G : Nat → List Int) (o e : Bool) (N b m : Int) (r : Tk) : Prop where
  may : ∀ k R, mayH s d (1 + k) (ahead G R) = true → mayH t r.d (1 + k) (ahead r.G R) = true
  whole : ∀ k R, wholeH s d (1 + k) (ahead G R) = true → wholeH t r.d (1 + k) (ahead r.G R) = true
  cell : ¬ Cl.bg r.d.f s.p.n r.a = 0
  word : wd r.d r.a = Hd.word true o e N b m
  zero : ∀ z, r.a < z → z < r.a + Cl.bg r.d.f s.p.n r.a → wd r.d z = 0
  fits : (pgAt r.d r.a = (1, Cl.classOf N) ∧ ¬ Cl.classOf N = 3) ∨ (pgAt r.d r.a = (2, Cl.runOf N) ∧ Cl.classOf N = 3)
  keeps : ∀ y, ¬ Cl.bg d.f s.p.n y = 0 → ¬ wd d y = 0 → ¬ y = r.a ∧ Same4 s.p.n d r.d y
  none : ∀ y, ¬ Cl.bg r.d.f s.p.n y = 0 → ¬ y = r.a → ¬ wd r.d y = 0 → ¬ Cl.bg d.f s.p.n y = 0
  len : r.d.ws.length = d.ws.length
theorem took {s t : Hs} {d : Hd_} {G : Nat → List Int} {o e : Bool} {N b m : Int} {q : Hd_ × (Nat → List Int) × Int} (hws : d.ws.length = s.w.n) (hm : mayH s d 1 (fun _ => G) = true) (hx : Hd.mayB true o e N b m = true) (hN : Cl.classErr N = 0) (hq : takeO d s.p.n G N = some q)
    (h1 : t.w.n = s.w.n) (h2 : t.p.n = s.p.n) (h3 : t.c.n = s.c.n) : Took s t d G o e N b m ⟨0, s.w.n, s.p.n, s.c.n, beginD q.1 s.p.n q.2.2 (Hd.word true o e N b m), q.2.1, q.2.2⟩ := by
  have hfb := (mayH_all hm).1
  have hwp := (fit_first hfb).wp
  have hok0 : Okay s.p.n d G 0 (fun _ => G) := (okay_iff.1 (by rw [ahead_one]; exact hm)).2
  have T0 := takeO_some (r := 0) (R := fun _ => G) hq
  have hc := T0.cell hok0
  have hl : q.1.ws.length = 16 * s.p.n := by rw [T0.len, hws, hwp]
  have hfit := word_fits hx hN (T0.fits hok0)
  have hp1 := (Hd.word_parts hx).1
  have hx0 : ¬ Hd.word true o e N b m = 0 := fun e0 => by rw [e0] at hp1; omega
  have key : ∀ k R, Okay s.p.n d G k R → Okay s.p.n (beginD q.1 s.p.n q.2.2 (Hd.word true o e N b m)) q.2.1 k R := fun k R hok => by
    have T := takeO_some (r := k) (R := R) hq
    exact (T.okay hok).begin (T.gone hok) hc hl hfit
  have hfb' : firstB t (beginD q.1 s.p.n q.2.2 (Hd.word true o e N b m)) = true := firstB_of hfb (key 0 _ hok0).may h1 h2 h3
  have st := same_take hok0 hq
  refine ⟨fun k R h => ?_, fun k R h => ?_, hc, begin_at hc hl, fun z hz1 hz2 => ?_, T0.fits hok0, fun y hy hw => ?_, fun y hy hne hw => ?_, ?_⟩
  · have ho := (okay_iff.1 h).2
    refine okay_iff.2 ⟨hfb', ?_⟩
    rw [h2]
    exact key k R ho
  · obtain ⟨_, ho, hF⟩ := whole_iff.1 h
    refine whole_iff.2 ⟨hfb', ?_, ?_⟩
    · rw [h2]; exact key k R ho
    · rw [h2]
      exact ((takeO_some (r := k) (R := R) hq).full hF).begin hc hl hx0
  · have g := cell_end hc
    have hz3 : q.2.2 < z := hz1
    have hz4 : z < q.2.2 + Cl.bg q.1.f s.p.n q.2.2 := hz2
    rw [wd_begin hc hl (by omega), if_neg (by omega), if_pos ⟨by omega, hz4⟩]
  · have hne := st.2.1 y hy hw
    have s1 := st.1 y hy
    exact ⟨hne, s1.trans (same_begin hc hl (by rw [s1.bg]; exact hy) hne)⟩
  · have hy' : ¬ Cl.bg q.1.f s.p.n y = 0 := hy
    have hw' : ¬ wd q.1 y = 0 := fun e0 => hw ((begin_other hc hl hy' hne).trans e0)
    exact st.2.2 y hy' hne hw'
  · show ((Ar.wipe q.1.ws _ _).set _ _).length = _
    rw [List.length_set, Ar.wipe_length, T0.len]
/-- How great a heap and a cache are. -/
structure Lite (s : Hs) (d : Hd_) (G : Nat → List Int) (B : Nat) : Prop where
  w : s.w.n ≤ 130
  p : s.p.n ≤ 9
  c : s.c.n ≤ 20
  F : ∀ j, j < 3 → (d.F j).length ≤ B
  G : ∀ j, j < 3 → (G j).length ≤ B
  hv : ∀ i, -9223372036854775808 ≤ d.ws.getD i 0 ∧ d.ws.getD i 0 ≤ 9223372036854775807
theorem Lite.fineT {s : Hs} {d : Hd_} {u : Nat → Ls.Sl} {G : Nat → List Int} {B : Nat} (h : Lite s d G B) (hB : B ≤ 1000) (hs : ∀ j, j < 3 → (s.u j).n = (d.F j).length) (hu : ∀ j, j < 3 → (u j).n = (G j).length) : FineT s d u G := by
  have hF := h.F
  have hG := h.G
  have f0 := hF 0 (by decide)
  have f1 := hF 1 (by decide)
  have f2 := hF 2 (by decide)
  have g0 := hG 0 (by decide)
  have g1 := hG 1 (by decide)
  have g2 := hG 2 (by decide)
  refine ⟨⟨by have := h.w; omega, by have := h.p; omega, by have := h.c; omega, h.hv, by rw [upTo3]; omega⟩, fun j hj => by have := hs j hj; have := hF j hj; omega, fun j hj => by have := hu j hj; have := hG j hj; omega, ?_⟩
  rw [show Ls.allOf (ahead d.F (fun _ => G)) (1 + 1) = Ls.upTo d.F 3 ++ Ls.upTo G 3 by simp [Ls.allOf, List.range_succ, ahead], List.length_append, upTo3, upTo3]
  omega
theorem word_fit {u o e : Bool} {N b m : Int} (h : Hd.mayB u o e N b m = true) : -9223372036854775808 ≤ Hd.word u o e N b m ∧ Hd.word u o e N b m ≤ 9223372036854775807 := by
  cases u
  · obtain ⟨rfl, rfl, rfl, rfl, rfl⟩ := (Hd.may_free_iff _ _ _ _ _).1 h
    decide
  · have h' := (Hd.may_used_iff o e N b m).1 h
    cases o <;> cases e <;> simp [Hd.word, Hd.bitOf] <;> omega
theorem upd_len {F : Nat → List Int} {k c : Nat} {xs : List Int} (h : xs.length ≤ (F k).length + c) (j : Nat) : (Ls.upd F k xs j).length ≤ (F j).length + c := by
  unfold Ls.upd
  split
  · next e => subst e; exact h
  · omega
/-- The lists grow by little; words are as they were, or noughts. -/
theorem small_lens {n k : Nat} {d : Hd_} {G : Nat → List Int} {q : Hd_ × (Nat → List Int)} (h : smallO d n G k = some q) : (∀ j, (q.1.F j).length ≤ (d.F j).length + 8) ∧ (∀ j, (q.2 j).length ≤ (G j).length + 2) ∧ ∀ i, q.1.ws.getD i 0 = 0 ∨ q.1.ws.getD i 0 = d.ws.getD i 0 := by
  have hfill : ∀ d' : Hd_, (∀ j, ((fillD d' k).F j).length ≤ (d'.F j).length) ∧ ∀ j, (fillG d'.F G k j).length ≤ (G j).length + 2 := fun d' => ⟨fun j => by
    have := upd_len (F := d'.F) (k := k) (c := 0) (xs := (d'.F k).take ((d'.F k).length - 2)) (by rw [List.length_take]; omega) j
    exact this, fun j => upd_len (by rw [List.length_append, List.length_reverse, List.length_drop]; omega) j⟩
  unfold smallO at h
  split at h
  · cases h; exact ⟨fun j => by show (d.F j).length ≤ _; omega, fun j => by show (G j).length ≤ _; omega, fun i => .inr rfl⟩
  · split at h
    · cases h
      exact ⟨fun j => by have := (hfill d).1 j; show ((fillD d k).F j).length ≤ _; omega, (hfill d).2, fun i => .inr rfl⟩
    · split at h
      · next p hp =>
        cases h
        refine ⟨fun j => ?_, (hfill (splitD d n k p)).2, fun i => ?_⟩
        · have h1 := (hfill (splitD d n k p)).1 j
          have h2 : ((splitD d n k p).F j).length ≤ (d.F j).length + 8 := upd_len (by rw [List.length_append, List.length_reverse]; have := on_short (Cl.put d.f p (1, (k : Int))) n p; omega) j
          simp only at h1 ⊢
          omega
        · show (zeroAt _ _).getD i 0 = 0 ∨ (zeroAt _ _).getD i 0 = _
          rw [zeroAt_get _ _ _ on_in16]
          split
          · exact .inl rfl
          · exact .inr rfl
      · cases h
theorem take_lens {n : Nat} {N : Int} {d : Hd_} {G : Nat → List Int} {q : Hd_ × (Nat → List Int) × Int} (h : takeO d n G N = some q) : (∀ j, (q.1.F j).length ≤ (d.F j).length + 8) ∧ (∀ j, (q.2.1 j).length ≤ (G j).length + 2) ∧ ∀ i, q.1.ws.getD i 0 = 0 ∨ q.1.ws.getD i 0 = d.ws.getD i 0 := by
  unfold takeO at h
  split at h
  · split at h
    · cases h; exact ⟨fun j => by show (d.F j).length ≤ _; omega, fun j => by show (G j).length ≤ _; omega, fun i => .inr rfl⟩
    · cases h
  · split at h
    · next q' hq =>
      cases h
      obtain ⟨h1, h2, h3⟩ := small_lens hq
      refine ⟨h1, fun j => ?_, h3⟩
      have h4 := upd_len (F := q'.2) (k := (Cl.classOf N).toNat) (c := 0) (xs := (q'.2 (Cl.classOf N).toNat).take ((q'.2 (Cl.classOf N).toNat).length - 1)) (by rw [List.length_take]; omega) j
      have h5 := h2 j
      show (popG q'.2 _ j).length ≤ _
      unfold popG
      omega
    · cases h
theorem Lite.took {s t : Hs} {d : Hd_} {G : Nat → List Int} {B : Nat} {u o e : Bool} {N b m : Int} {q : Hd_ × (Nat → List Int) × Int} (h : Lite s d G B) (hx : Hd.mayB u o e N b m = true) (hq : takeO d s.p.n G N = some q) (hc : ¬ Cl.bg q.1.f s.p.n q.2.2 = 0) (hl : q.1.ws.length = 16 * s.p.n)
    (h1 : t.w.n = s.w.n) (h2 : t.p.n = s.p.n) (h3 : t.c.n = s.c.n) : Lite t (beginD q.1 s.p.n q.2.2 (Hd.word u o e N b m)) q.2.1 (B + 8) := by
  obtain ⟨l1, l2, l3⟩ := take_lens hq
  have hw := word_fit hx
  refine ⟨by rw [h1]; exact h.w, by rw [h2]; exact h.p, by rw [h3]; exact h.c, fun j hj => by have := h.F j hj; have := l1 j; show (q.1.F j).length ≤ _; omega, fun j hj => by have := h.G j hj; have := l2 j; omega, fun i => ?_⟩
  have h4 := h.hv i
  have g := cell_end hc
  have h5 := l3 i
  show -9223372036854775808 ≤ ((Ar.wipe q.1.ws _ _).set _ _).getD i 0 ∧ ((Ar.wipe q.1.ws _ _).set _ _).getD i 0 ≤ _
  rw [getD_set, Ar.wipe_getD _ _ _ _ (by omega)]
  split
  · exact hw
  · split <;> omega
end Go.Proofs.YtdmclfolooiccaaGreatDoor
end
section
namespace Go.Proofs.YtdmclfolooiccaaGreatDoor
open Go.RowKit
set_option maxRecDepth 100000

def roomB (s : Hs) (d : Hd_) (G : Nat → List Int) (N : Int) : Bool := (tkR s d G true false false N 0 0).er == 0
theorem room_any (s : Hs) (u : Nat → Ls.Sl) (d : Hd_) (G : Nat → List Int) (N : Int) (w : World) (hp : Hp w w.heap.size s d) (l3 : Ls.L3 w w.heap.size u G) (hz : Cl.Sz w) (hf : FineT s d u G) :
    Calls Tryz.prog 11 #[(.agg #[.slice s.w.a s.w.n s.w.c, .slice s.p.a s.p.n s.p.c, .slice (s.u 0).a (s.u 0).n (s.u 0).c, .slice (s.u 1).a (s.u 1).n (s.u 1).c, .slice (s.u 2).a (s.u 2).n (s.u 2).c, .slice s.c.a s.c.n s.c.c]), (.agg #[.slice (u 0).a (u 0).n (u 0).c, .slice (u 1).a (u 1).n (u 1).c, .slice (u 2).a (u 2).n (u 2).c]), .int .i64 N] w fun e w' => e = .returned (.bool (roomB s d G N)) ∧ Below w.heap.size w w' := by
  have HP := Lib.hid hp
  have HL := Lib.hid l3
  have HZ := Lib.hid hz
  have hz0 := hz.pos
  have HF := Lib.hid hf
  obtain ⟨r, hr⟩ : ∃ r, r = tkR s d G true false false N 0 0 := ⟨_, rfl⟩
  have HR := Lib.hid hr
  have HB : Hid (roomB s d G N = (r.er == 0)) := Lib.hid (by rw [hr]; rfl)
  obtain ⟨bb, hbb⟩ : ∃ bb, bb = roomB s d G N := ⟨_, rfl⟩
  rw [← hbb] at HB ⊢
  clear hp l3 hz hf hr hbb
  go_enter Tryz.func11, Tryz.ntmps11
  go_wp2_with fail
  obtain ⟨W1, hW1⟩ : ∃ W1, W1 = (w.alloc (.cells #[.slice s.w.a s.w.n s.w.c, .slice s.p.a s.p.n s.p.c, .slice (s.u 0).a (s.u 0).n (s.u 0).c, .slice (s.u 1).a (s.u 1).n (s.u 1).c, .slice (s.u 2).a (s.u 2).n (s.u 2).c, .slice s.c.a s.c.n s.c.c] 28)).alloc (.cells #[.slice (u 0).a (u 0).n (u 0).c, .slice (u 1).a (u 1).n (u 1).c, .slice (u 2).a (u 2).n (u 2).c] 25) := ⟨_, rfl⟩
  have b1 : Below w.heap.size w W1 := by rw [hW1]; exact ((Below.refl _ _).alloc (Nat.le_refl _) _).alloc (by simp) _
  have B1 := Lib.hid b1
  rw [← hW1]
  clear hW1 b1
  refine (ptake_any s u d G true false false N 0 0 W1 (HP.out.next B1.out |>.more (Nat.le_refl _)) (HL.out.next B1.out) (HZ.out.over B1.out hz0) HF.out).mono ?_
  rw [← HR.out]
  rintro e9 w2 ⟨t, v, rfl, _, _, _, hb2⟩
  have B2 := Lib.hid (B1.out.trans (hb2.mono B1.out.size))
  clear hb2
  go_wp2
  go_ret
  have hs2 := B2.out.size
  exact ⟨by rw [HB.out]; rfl, (B2.out.alloc hs2 _).alloc (by simp; omega) _⟩
/-- All caches are light. -/
def lights (U : Nat → Nat → Ls.Sl) (m : Nat) : Bool := (List.range m).all fun i => lightB (U i)
def fewL (s : Hs) (U : Nat → Nat → Ls.Sl) (m : Nat) : Bool := (fewH s && lights U m) && decide (m ≤ 4)
theorem lights_succ (U : Nat → Nat → Ls.Sl) (m : Nat) : lights U (m + 1) = (lights U m && lightB (U m)) := by simp [lights, List.range_succ]
theorem few8_any (s : Hs) (A : Option Addr) (n c : Nat) (U : Nat → Nat → Ls.Sl) (F : Nat → Nat → List Int) (w : World) (hn : n ≤ 9223372036854775807) (hl : Ls.LRow w w.heap.size A n U F) :
    Calls Tryz.prog 5 #[(.agg #[.slice s.w.a s.w.n s.w.c, .slice s.p.a s.p.n s.p.c, .slice (s.u 0).a (s.u 0).n (s.u 0).c, .slice (s.u 1).a (s.u 1).n (s.u 1).c, .slice (s.u 2).a (s.u 2).n (s.u 2).c, .slice s.c.a s.c.n s.c.c]), .slice A n c] w fun e w' => e = .returned (.bool (fewL s U n)) ∧ Below w.heap.size w w' := by
  have HL := Lib.hid hl
  clear hl
  go_enter Tryz.func5, Tryz.ntmps5
  go_wp2_with fail
  have b0 := (Below.refl w.heap.size w).alloc (Nat.le_refl _) (.cells #[.slice s.w.a s.w.n s.w.c, .slice s.p.a s.p.n s.p.c, .slice (s.u 0).a (s.u 0).n (s.u 0).c, .slice (s.u 1).a (s.u 1).n (s.u 1).c, .slice (s.u 2).a (s.u 2).n (s.u 2).c, .slice s.c.a s.c.n s.c.c] 28)
  refine (rfew_any s _).mono ?_
  rintro e w1 ⟨rfl, hb1⟩
  have B1 := Lib.hid (b0.trans (hb1.mono b0.size))
  clear b0 hb1
  go_wp2
  go_loopw [5, 6] (fun q i wr => ∃ k : Nat, k ≤ n ∧ q = .bool (fewH s && lights U k) ∧ i = .int .i64 k ∧ Hid (Below w.heap.size w wr)) (fun _ i _ => n - (intOf i).toNat)
  case atStart => exact ⟨0, Nat.zero_le _, by simp [lights], rfl, B1⟩
  case round =>
    obtain ⟨k, hk, rfl, rfl, HB⟩ := hrel
    clear B1
    by_cases hlt : k < n
    · have dq : decide ((k : Int) < n) = true := by simp; omega
      have ik0 : (0 : Int) ≤ k := by omega
      have ik1 : (k : Int) < n := by omega
      have hnx : (fewH s && lights U (k + 1)) = ((fewH s && lights U k) && lightB (U k)) := by rw [lights_succ, Bool.and_assoc]
      have HNX := Lib.hid hnx
      obtain ⟨q, hq⟩ : ∃ q, q = (fewH s && lights U k) := ⟨_, rfl⟩
      rw [← hq] at HNX ⊢
      clear hnx hq
      cases q
      · go_wp2
        go_roundw
        case rel => exact ⟨k + 1, by omega, by rw [HNX.out]; rfl, by go_num, HB⟩
        case measure => simp [intOf]; omega
      · obtain ⟨b, off, rfl, hbl, hc⟩ := HL.out (by omega)
        have h0 := (hc k hlt).1 0 (by decide)
        have h1 := (hc k hlt).1 1 (by decide)
        have h2 := (hc k hlt).1 2 (by decide)
        have c0 := (HB.out.cell (p := ⟨b, off + k * 3 + 0, none⟩) hbl).trans h0
        have c1 := (HB.out.cell (p := ⟨b, off + k * 3 + 1, none⟩) hbl).trans h1
        have c2 := (HB.out.cell (p := ⟨b, off + k * 3 + 2, none⟩) hbl).trans h2
        have cl : b < wr.heap.size := by have := HB.out.size; omega
        rw [Nat.add_zero] at c0
        clear h0 h1 h2 hc
        go_wp2_with fail
        refine (rlight_any (U k) wr).mono ?_
        rintro e9 w5 ⟨rfl, hb5⟩
        have B5 := Lib.hid (HB.out.trans (hb5.mono HB.out.size))
        clear hb5 c0 c1 c2 cl
        go_wp2
        go_roundw
        case rel => exact ⟨k + 1, by omega, by rw [HNX.out]; rfl, by go_num, B5⟩
        case measure => simp [intOf]; omega
    · have dq : decide ((k : Int) < n) = false := by simp; omega
      obtain rfl : k = n := by omega
      have d4 : decide ((k : Int) ≤ 4) = decide (k ≤ 4) := by rw [decide_eq_decide]; omega
      have HE : Hid (fewL s U k = ((fewH s && lights U k) && decide (k ≤ 4))) := Lib.hid rfl
      obtain ⟨q, hq⟩ : ∃ q, q = (fewH s && lights U k) := ⟨_, rfl⟩
      rw [← hq] at HE ⊢
      clear hq hlt
      by_cases h4 : k ≤ 4
      · have d5 : decide ((k : Int) ≤ 4) = true := by simp; omega
        rw [decide_eq_true h4] at HE
        clear d4
        cases q
        · go_wp2
          go_ret
          exact ⟨by rw [HE.out]; rfl, HB.out⟩
        · go_wp2
          go_ret
          exact ⟨by rw [HE.out]; rfl, HB.out⟩
      · have d5 : decide ((k : Int) ≤ 4) = false := by simp; omega
        rw [decide_eq_false h4] at HE
        clear d4
        cases q
        · go_wp2
          go_ret
          exact ⟨by rw [HE.out]; rfl, HB.out⟩
        · go_wp2
          go_ret
          exact ⟨by rw [HE.out]; rfl, HB.out⟩
end Go.Proofs.YtdmclfolooiccaaGreatDoor
end
section
namespace Go.Proofs.YtdmclfolooiccaaGreatDoor
open Go.RowKit
set_option maxRecDepth 100000

def wsM : List Int := [0, 0, 0, 0, 0, 0, 0, 0, 41, 0, 0, 0, 0, 0, 0, 0]
theorem rep0 (n i : Nat) : (List.replicate n (0 : Int)).getD i 0 = 0 := by by_cases h : i < n <;> simp [List.getD, h]
def dM : Hd_ := ⟨wsM, fun _ => (1, 2), Ls.noLists, fun _ => false⟩
theorem four (W : World) (o1 o2 o3 o4 : Obj) : ((((W.alloc o1).alloc o2).alloc o3).alloc o4).heap[W.heap.size]? = some o1 ∧ ((((W.alloc o1).alloc o2).alloc o3).alloc o4).heap[W.heap.size + 1]? = some o2 ∧
    ((((W.alloc o1).alloc o2).alloc o3).alloc o4).heap[W.heap.size + 1 + 1]? = some o3 ∧ ((((W.alloc o1).alloc o2).alloc o3).alloc o4).heap[W.heap.size + 1 + 1 + 1]? = some o4 := by
  refine ⟨?_, ?_, ?_, ?_⟩
  · rw [Below.heap_alloc _ _ _ (by simp only [World.size_alloc]; omega), Below.heap_alloc _ _ _ (by simp only [World.size_alloc]; omega), Below.heap_alloc _ _ _ (by simp only [World.size_alloc]; omega)]
    exact World.alloc_heap_new W o1
  · rw [Below.heap_alloc _ _ _ (by simp only [World.size_alloc]; omega), Below.heap_alloc _ _ _ (by simp only [World.size_alloc]; omega)]
    have := World.alloc_heap_new (W.alloc o1) o2
    rwa [World.size_alloc] at this
  · rw [Below.heap_alloc _ _ _ (by simp)]
    have := World.alloc_heap_new ((W.alloc o1).alloc o2) o3
    rwa [World.size_alloc, World.size_alloc] at this
  · have := World.alloc_heap_new (((W.alloc o1).alloc o2).alloc o3) o4
    rwa [World.size_alloc, World.size_alloc, World.size_alloc] at this
def dZ : Hd_ := ⟨List.replicate 32 0, fun _ => (0, 0), Ls.noLists, fun _ => false⟩
def dK : Hd_ := ⟨wsM, fun _ => (1, 2), fun j => if j = 2 then [16] else [], fun _ => false⟩
/-- What the example holds: three heaps in their boxes, a head. -/
structure Six (w : World) (b1 b bk bx : Nat) (s1 s3 sk : Hs) (W : World) : Prop where
  h : HBox W b1 s1
  m : HBox W b s3
  k : HBox W bk sk
  ph : Hp W W.heap.size s1 dZ
  pm : Hp W W.heap.size s3 dM
  pk : Hp W W.heap.size sk dK
  n : W.cell? ⟨bx, 3, none⟩ = some (.int .i64 5)
  nl : bx < W.heap.size
  bel : Below w.heap.size w W
theorem Six.next {w W W' : World} {b1 b bk bx : Nat} {s1 s3 sk : Hs} (h : Six w b1 b bk bx s1 s3 sk W) (hb : Below W.heap.size W W') (h0 : w.heap.size ≤ W.heap.size) : Six w b1 b bk bx s1 s3 sk W' :=
  ⟨h.h.next hb, h.m.next hb, h.k.next hb, h.ph.next hb, h.pm.next hb, h.pk.next hb, (hb.cell (p := ⟨bx, 3, none⟩) h.nl).trans h.n, Nat.lt_of_lt_of_le h.nl hb.size, h.bel.trans (hb.mono h0)⟩
end Go.Proofs.YtdmclfolooiccaaGreatDoor
end
section
namespace Go.Proofs.YtdmclfolooiccaaGreatDoor.Ls
open Go.Proofs.YtdmclfolooiccaaGreatDoor
set_option maxRecDepth 100000
open Go.RowKit

theorem ints_other {xs ys : List Int} {k : Nat} (h : ¬ xs.getD k 0 = ys.getD k 0) : decide (xs = ys) = false := by
  simp only [decide_eq_false_iff_not]
  rintro rfl
  exact h rfl
theorem ints_all {xs ys : List Int} {n : Nat} (h1 : xs.length = n) (h2 : ys.length = n) (h : ∀ j, j < n → xs.getD j 0 = ys.getD j 0) : decide (xs = ys) = true := by
  simp only [decide_eq_true_eq]
  apply List.ext_getElem (by omega)
  intro i hi hj
  have := h i (by omega)
  simpa [List.getD, hi, hj] using this
theorem ints_any (B C : Nat) (A A' : Option Addr) (n m c c' : Nat) (xs ys : List Int) (w : World) (hn : n ≤ 4000000) (hm : m ≤ 4000000) (hr : Row w B A n xs) (hs : Row w C A' m ys) :
    Calls Tryz.prog 13 #[.slice A n c, .slice A' m c'] w fun e w' => e = .returned (.bool (decide (xs = ys))) ∧ ∃ d, w' = w.drewN d := by
  by_cases hnm : n = m
  · subst hnm
    have HR := Lib.hid hr
    have HS := Lib.hid hs
    clear hr hs
    go_enter Tryz.func13, Tryz.ntmps13
    go_wp2
    go_loopw [5] (fun i wr => ∃ k d : Nat, k ≤ n ∧ i = .int .i64 k ∧ wr = w.drewN d ∧ Hid (∀ j, j < k → xs.getD j 0 = ys.getD j 0)) (fun i _ => n - (intOf i).toNat)
    case atStart => exact ⟨0, 0, Nat.zero_le _, rfl, rfl, Lib.hid fun j h => absurd h (by omega)⟩
    case round =>
      obtain ⟨k, d, hk, rfl, rfl, HE⟩ := hrel
      by_cases hlt : k < n
      · obtain ⟨b, off, rfl, _, hc⟩ := HR.out.2 (by omega)
        obtain ⟨b', off', rfl, _, hc'⟩ := HS.out.2 (by omega)
        have h1 := hc k hlt
        have h2 := hc' k hlt
        clear hc hc'
        by_cases he : xs.getD k 0 = ys.getD k 0
        · have HE2 : Hid (∀ j, j < k + 1 → xs.getD j 0 = ys.getD j 0) := Lib.hid fun j hj => by
            by_cases e : j = k
            · rw [e]; exact he
            · exact HE.out j (by omega)
          rw [← he] at h2
          clear he HE
          go_wp2
          go_quiet (fail)
          go_wp2
          go_roundw
          case rel => exact ⟨k + 1, _, by omega, by go_num, rfl, HE2⟩
          case measure => simp [intOf]; omega
        · have HO := Lib.hid (ints_other he)
          obtain ⟨x, hx⟩ : ∃ x, x = xs.getD k 0 := ⟨_, rfl⟩
          obtain ⟨y, hy⟩ : ∃ y, y = ys.getD k 0 := ⟨_, rfl⟩
          rw [← hx, ← hy] at he
          rw [← hx] at h1
          rw [← hy] at h2
          have hd : (x != y) = true := by simpa using he
          clear he hx hy HE
          go_wp2
          go_quiet (fail)
          go_wp2
          go_ret
          exact ⟨rint HO.out.symm, _, World.drewN_drewN _ _ _⟩
      · obtain rfl : k = n := by omega
        have HO := Lib.hid (ints_all HR.out.1 HS.out.1 HE.out)
        clear HE
        go_wp2
        go_ret
        exact ⟨rint HO.out.symm, _, rfl⟩
  · have hd : ((n : Int) != m) = true := by simp; omega
    have HO : Hid (decide (xs = ys) = false) := Lib.hid (by
      simp only [decide_eq_false_iff_not]
      rintro rfl
      exact hnm (hr.1.symm.trans hs.1))
    clear hr hs hnm
    go_enter Tryz.func13, Tryz.ntmps13
    go_wp2
    go_ret
    exact ⟨rint HO.out.symm, 0, rfl⟩
theorem ints_tell (B C : Nat) (A A' : Option Addr) (n m c c' : Nat) (xs ys : List Int) (w : World) (hn : n ≤ 4000000) (hm : m ≤ 4000000) (hr : Row w B A n xs) (hs : Row w C A' m ys) :
    Calls Tryz.prog 13 #[.slice A n c, .slice A' m c'] w (Tells w (decide (xs = ys))) :=
  (ints_any B C A A' n m c c' xs ys w hn hm hr hs).mono fun _ _ ⟨he, d, hd⟩ => ⟨he, by rw [hd]; exact below_drewN (Below.refl _ _) _⟩

theorem below_row_drewN {w : World} {B n : Nat} {a : Option Addr} {xs : List Int} (h : Row w B a n xs) (d : Nat) : Row (w.drewN d) B a n xs := h
/-- Whether two are the same. -/
def sameUp (f g : Nat → List Int) (k : Nat) : Prop := ∀ j, j < k → f j = g j
theorem sameUp_next {f g : Nat → List Int} {k : Nat} (h : sameUp f g k) (hk : f k = g k) : sameUp f g (k + 1) := fun j hj => by
  by_cases e : j = k
  · rw [e]; exact hk
  · exact h j (by omega)
instance (f g : Nat → List Int) (k : Nat) : Decidable (sameUp f g k) := inferInstanceAs (Decidable (∀ j, j < k → f j = g j))

set_option maxHeartbeats 1000000 in
theorem same_any (B C : Nat) (u v : Nat → Sl) (f g : Nat → List Int) (w : World) (hu : L3 w B u f) (hB : B ≤ w.heap.size) (hv : L3 w C v g) (hC : C ≤ w.heap.size) (hn : ∀ j, j < 3 → (u j).n ≤ 4000000) (hm : ∀ j, j < 3 → (v j).n ≤ 4000000) :
    Calls Tryz.prog 10 #[(.agg #[.slice (u 0).a (u 0).n (u 0).c, .slice (u 1).a (u 1).n (u 1).c, .slice (u 2).a (u 2).n (u 2).c]), (.agg #[.slice (v 0).a (v 0).n (v 0).c, .slice (v 1).a (v 1).n (v 1).c, .slice (v 2).a (v 2).n (v 2).c])] w (Tells w (decide (sameUp f g 3))) := by
  have HU := Lib.hid hu
  have HV := Lib.hid hv
  have HN := Lib.hid hn
  have HM := Lib.hid hm
  clear hu hv hn hm
  go_enter Tryz.func10, Tryz.ntmps10
  go_wp2
  have bb := two_below w (.cells #[.slice (u 0).a (u 0).n (u 0).c, .slice (u 1).a (u 1).n (u 1).c, .slice (u 2).a (u 2).n (u 2).c] 25) (.cells #[.slice (v 0).a (v 0).n (v 0).c, .slice (v 1).a (v 1).n (v 1).c, .slice (v 2).a (v 2).n (v 2).c] 25)
  have X := Lib.hid ((Box3.new w u 25).alloc (.cells #[.slice (v 0).a (v 0).n (v 0).c, .slice (v 1).a (v 1).n (v 1).c, .slice (v 2).a (v 2).n (v 2).c] 25))
  have Y := Lib.hid (Box3.new (w.alloc (.cells #[.slice (u 0).a (u 0).n (u 0).c, .slice (u 1).a (u 1).n (u 1).c, .slice (u 2).a (u 2).n (u 2).c] 25)) v 25)
  have LU := Lib.hid (HU.out.over bb hB)
  have LV := Lib.hid (HV.out.over bb hC)
  rw [World.size_alloc] at Y
  obtain ⟨w1, hw1⟩ : ∃ w1, w1 = (w.alloc (.cells #[.slice (u 0).a (u 0).n (u 0).c, .slice (u 1).a (u 1).n (u 1).c, .slice (u 2).a (u 2).n (u 2).c] 25)).alloc (.cells #[.slice (v 0).a (v 0).n (v 0).c, .slice (v 1).a (v 1).n (v 1).c, .slice (v 2).a (v 2).n (v 2).c] 25) := ⟨_, rfl⟩
  rw [← hw1] at X Y LU LV bb ⊢
  have BB := Lib.hid bb
  have hx := X.out.lt
  have hy := Y.out.lt
  clear hw1 bb HU HV
  go_loopw [5] (fun i wr => ∃ k : Nat, k ≤ 3 ∧ i = .int .i64 k ∧ Hid ((∃ d, wr = w1.drewN d) ∧ sameUp f g k)) (fun i _ => 3 - (intOf i).toNat)
  case atStart => exact ⟨0, Nat.zero_le _, rfl, Lib.hid ⟨⟨0, rfl⟩, fun j h => absurd h (by omega)⟩⟩
  case round =>
    obtain ⟨k, hk, rfl, HE⟩ := hrel
    obtain ⟨d, hd⟩ := HE.out.1
    by_cases hlt : k < 3
    · have cx := (X.out.drewN d).cell k hlt
      have cy := (Y.out.drewN d).cell k hlt
      have LU2 := Lib.hid ((LU.out.drewN d) k hlt).1
      have LV2 := Lib.hid ((LV.out.drewN d) k hlt).1
      have hx2 := (X.out.drewN d).lt
      have hy2 := (Y.out.drewN d).lt
      rw [← hd] at cx cy LU2 LV2 hx2 hy2
      replace hd := Lib.hid hd
      by_cases he : f k = g k
      · have HS := Lib.hid (sameUp_next HE.out.2 he)
        have hdec : decide (f k = g k) = true := by simpa using he
        have HI := Lib.hid (fun n : Nat => by
          have := ints_any B C (u k).a (v k).a (u k).n (v k).n (u k).c (v k).c (f k) (g k) (wr.drewN n) (HN.out k hlt) (HM.out k hlt) (below_row_drewN LU2.out n) (below_row_drewN LV2.out n)
          rw [hdec] at this
          exact this)
        clear he hdec
        go_wp2
        go_quiet ((go_at_call 13; exact Calls.quiet_of (HI.out _)))
        go_wp2
        go_roundw
        case rel => exact ⟨k + 1, by omega, by go_num, Lib.hid ⟨⟨_, by rw [hd.out]; exact World.drewN_drewN _ _ _⟩, HS.out⟩⟩
        case measure => simp [intOf]; omega
      · have hdec : decide (f k = g k) = false := by simpa using he
        have HO : Hid (decide (sameUp f g 3) = false) := Lib.hid (by
          simp only [decide_eq_false_iff_not]
          intro h
          exact he (h k hlt))
        have HI := Lib.hid (fun n : Nat => by
          have := ints_any B C (u k).a (v k).a (u k).n (v k).n (u k).c (v k).c (f k) (g k) (wr.drewN n) (HN.out k hlt) (HM.out k hlt) (below_row_drewN LU2.out n) (below_row_drewN LV2.out n)
          rw [hdec] at this
          exact this)
        clear he hdec
        go_wp2
        go_quiet ((go_at_call 13; exact Calls.quiet_of (HI.out _)))
        go_wp2
        go_ret
        exact ⟨rint HO.out.symm, by rw [hd.out]; exact below_drewN (below_drewN BB.out _) _⟩
    · obtain rfl : k = 3 := by omega
      have HO : Hid (decide (sameUp f g 3) = true) := Lib.hid (by simpa using HE.out.2)
      replace hd := Lib.hid hd
      go_wp2
      go_ret
      exact ⟨rint HO.out.symm, by rw [hd.out]; exact below_drewN BB.out _⟩
end Go.Proofs.YtdmclfolooiccaaGreatDoor.Ls
end
