/-
  Merged texts: TrE, TrE2, TrE3, HpIns, HpLess, HpSix, AlIns, ShIns.
-/
import Derived.Test.YtccjelpfmkbmiaaGreatDoorVTrLed
import Derived.Test.YtccjelpfmkbmiaaGreatDoorVTrKnow
import Derived.Test.YtccjelpfmkbmiaaGreatDoorHpVK
import Derived.Test.YtccjelpfmkbmiaaGreatDoorCards
import Derived.Test.YtccjelpfmkbmiaaGreatDoorTie
import Derived.Test.YtccjelpfmkbmiaaGreatDoorHpVG
import Derived.Deep.SlicePairs
import Derived.Deep.Slices
import Derived.Deep.Fields
import Derived.ProofKit
import Derived.OpenShut
import Derived.ShutString
import Derived.ChangeOld
import Derived.LaidMore
import Derived.Lib.LaidTab
import Derived.Stop.Joined
import Derived.SevenTiedAt
import Derived.Laws.IdiomArrays
import Derived.Test.YtccjelpfmkbmiaaGreatDoorHpVH
import Derived.Test.YtccjelpfmkbmiaaGreatDoorRows
import Derived.WalkKit
section
namespace Go.Proofs.YtccjelpfmkbmiaaGreatDoor.Tr
open Go.Proofs.YtccjelpfmkbmiaaGreatDoor Go.Proofs.YtccjelpfmkbmiaaGreatDoor.Sh
set_option maxRecDepth 100000

section
variable {s t : Hs} {d d' : Hd_} {k : Ks} {xs : List Int} {mj : Bool} {ep a y q : Int}
/-- An object's fields lie apart from where objects begin. -/
theorem fld_apart {u v j : Int} (hu : u ∈ usedL s d) (hv : v ∈ usedL s d) (h0 : 0 ≤ j) (h1 : j < nOf (wd d u)) : ¬ u + 1 + j = v := fun e => by
  have f := fld_in (used_E hu)
  have mem : ∀ z, z ∈ usedL s d → ∃ c, c ∈ Cl.allL d.f s.p.n ∧ c.1 = z := fun z hz => by
    unfold usedL at hz
    split at hz
    · obtain ⟨c, hc, e⟩ := List.mem_map.1 (List.mem_filter.1 hz).1
      exact ⟨c, hc, e⟩
    · cases hz
  obtain ⟨c, hc, ec⟩ := mem u hu
  obtain ⟨c', hc', ec'⟩ := mem v hv
  have hb := Cl.bg_cell hc
  rw [ec] at hb
  have ap := Cl.allL_apart d.f s.p.n
  obtain ⟨i, hi, rfl⟩ := List.mem_iff_getElem.1 hc
  obtain ⟨i', hi', rfl⟩ := List.mem_iff_getElem.1 hc'
  have r := (ap.2 _ hc').2
  rcases Nat.lt_trichotomy i i' with h | h | h
  · have := List.pairwise_iff_getElem.1 ap.1 i i' hi hi' h
    omega
  · subst h; omega
  · have := List.pairwise_iff_getElem.1 ap.1 i' i hi' hi h
    omega
theorem sh_wd (hlen : d.ws.length = s.w.n) (hy : 16 ≤ y) (h : ¬ (isC s d mj ep a 1 = true ∧ y = a)) : wd (shD s d mj ep a) y = wd d y := by
  unfold shD
  split
  · next hc =>
    obtain ⟨h1, h2, _⟩ := isC_iff.1 hc
    exact (hd_turned (lens_refl s) hlen h2 false h1.1 h1.2).oth y hy fun e => h ⟨hc, e⟩
  · rfl
theorem bl_wd (hlen : d.ws.length = s.w.n) (hy : 16 ≤ y) (h : ¬ (isC s d mj ep a 2 = true ∧ y = a)) : wd (blD s d mj ep a) y = wd d y := by
  unfold blD
  split
  · next hc =>
    obtain ⟨_, h2, _⟩ := isC_iff.1 hc
    have p := (obj_of h2).parts
    exact (hd_turned (lens_refl s) hlen h2 true p.2.2.2.2.1 p.2.2.2.2.2).oth y hy fun e => h ⟨hc, e⟩
  · rfl
theorem sh_nof (hlen : d.ws.length = s.w.n) (hy : 16 ≤ y) : nOf (wd (shD s d mj ep a) y) = nOf (wd d y) := by
  unfold shD
  split
  · next hc =>
    obtain ⟨h1, h2, _⟩ := isC_iff.1 hc
    exact ((hd_turned (lens_refl s) hlen h2 false h1.1 h1.2).word hy).2.2.1
  · rfl
theorem bl_nof (hlen : d.ws.length = s.w.n) (hy : 16 ≤ y) : nOf (wd (blD s d mj ep a) y) = nOf (wd d y) := by
  unfold blD
  split
  · next hc =>
    obtain ⟨_, h2, _⟩ := isC_iff.1 hc
    have p := (obj_of h2).parts
    exact ((hd_turned (lens_refl s) hlen h2 true p.2.2.2.2.1 p.2.2.2.2.2).word hy).2.2.1
  · rfl
theorem sh_used (hlen : d.ws.length = s.w.n) (mj : Bool) (ep a : Int) : usedL s (shD s d mj ep a) = usedL s d := (kin_sh (lens_refl s) hlen mj ep a).used
theorem bl_used (hlen : d.ws.length = s.w.n) (mj : Bool) (ep a : Int) : usedL s (blD s d mj ep a) = usedL s d := (kin_bl (lens_refl s) hlen mj ep a).used
theorem grey_used (h : isC s d mj ep a q = true) : a ∈ usedL s d := (obj_of (isC_iff.1 h).2.1).used
/-- No black object leads to a white one. -/
def Led (s : Hs) (d : Hd_) (mj : Bool) (ep : Int) : Prop := ∀ u, isC s d mj ep u 3 = true → ∀ j, 0 ≤ j → j < nOf (wd d u) → ¬ isC s d mj ep (wd d (u + 1 + j)) 1 = true
theorem led_iff : ledI s d mj ep = 0 ↔ Led s d mj ep := by
  have e : (usedL s d).all (ledB s d mj ep) = true ↔ Led s d mj ep := by
    rw [List.all_eq_true]
    constructor
    · intro h u hu j h0 h1 hw
      have hb := h u (grey_used hu)
      unfold ledB at hb
      rw [decide_eq_true ((col_is (by decide)).2 hu)] at hb
      simp only [Bool.not_true, Bool.false_or] at hb
      have := List.all_eq_true.1 hb j.toNat (by simp; omega)
      rw [show ((j.toNat : Nat) : Int) = j by omega, decide_eq_true ((col_is (by decide)).2 hw)] at this
      cases this
    · intro h u hu
      unfold ledB
      by_cases h3 : colQ s d mj ep u = 3
      · rw [Bool.or_eq_true]
        refine .inr (List.all_eq_true.2 fun j hj => ?_)
        have hj' : j < (nOf (wd d u)).toNat := by simpa using hj
        have := h u ((col_is (by decide)).1 h3) j (by omega) (by omega)
        rw [decide_eq_false (fun e => this ((col_is (by decide)).1 e))]
        rfl
      · rw [decide_eq_false h3]
        rfl
  unfold ledI
  split
  · next h => exact ⟨fun _ => e.1 h, fun _ => rfl⟩
  · next h => exact ⟨fun hh => absurd hh (by decide), fun hh => absurd (e.2 hh) h⟩
/-- What stands between steps. -/
structure Inv (s : Hs) (d : Hd_) (k : Ks) (xs : List Int) : Prop where
  known : Known s d k xs
  led : Led s d k.mj k.ep
  pf : 0 ≤ k.pf
  at_ : isC s d k.mj k.ep k.pa 2 = true → k.pf < nOf (wd d k.pa) ∧ ∀ j, 0 ≤ j → j < k.pf → ¬ isC s d k.mj k.ep (wd d (k.pa + 1 + j)) 1 = true
theorem isC_zero : ¬ isC s d mj ep 0 q = true := fun h => by have := (obj_of (isC_iff.1 h).2.1).lo; omega
theorem wh_zero {k : Ks} {xs : List Int} (h : wh k xs = 0) : ¬ k.pa = 0 := fun e => by
  unfold wh at h
  rw [if_neg (fun hh => hh e)] at h
  split at h
  · omega
  · split at h
    · omega
    · split at h <;> omega
theorem wh_pos {k : Ks} {xs : List Int} (h : ¬ wh k xs = 0) : k.pa = 0 := Classical.byContradiction fun hh => h (by unfold wh; rw [if_pos hh])
theorem wh_one {k : Ks} {xs : List Int} (h : wh k xs = 1) : 0 < xs.length := by
  unfold wh at h
  split at h
  · omega
  · split at h
    · assumption
    · split at h
      · omega
      · split at h <;> omega
theorem wh_two {k : Ks} {xs : List Int} (h : wh k xs = 2) : ¬ k.ps = 0 ∧ xs.length = 0 := by
  unfold wh at h
  split at h
  · omega
  · split at h
    · omega
    · split at h
      · next h1 h2 h3 => exact ⟨h3, by omega⟩
      · split at h <;> omega
theorem wh_three {k : Ks} {xs : List Int} (h : wh k xs = 3) : k.ov = true ∧ k.ps = 0 ∧ xs.length = 0 := by
  unfold wh at h
  split at h
  · omega
  · split at h
    · omega
    · split at h
      · omega
      · split at h
        · next h1 h2 h3 h4 => exact ⟨h4, by omega, by omega⟩
        · omega
theorem wh_four {k : Ks} {xs : List Int} (h : wh k xs = 4) : k.ov = false ∧ k.ps = 0 ∧ k.pa = 0 ∧ xs = [] := by
  unfold wh at h
  split at h
  · omega
  · split at h
    · omega
    · split at h
      · omega
      · split at h
        · omega
        · next h1 h2 h3 h4 => exact ⟨by simpa using h4, by omega, by omega, List.eq_nil_of_length_eq_zero (by omega)⟩
/-- The step, by its kinds. -/
theorem on_0 (h : wh k xs = 0) : onR s d k xs = fieldR s d k xs := if_pos h
theorem on_1 (h : wh k xs = 1) : onR s d k xs = takeR d k xs := (if_neg (by omega)).trans (if_pos h)
theorem on_2 (h : wh k xs = 2) : onR s d k xs = seekR s d k xs := (if_neg (by omega)).trans ((if_neg (by omega)).trans (if_pos h))
theorem on_3 (h : wh k xs = 3) : onR s d k xs = ⟨d, kv1 k, xs⟩ := (if_neg (by omega)).trans ((if_neg (by omega)).trans ((if_neg (by omega)).trans (if_pos h)))
theorem on_4 (h : wh k xs = 4) : onR s d k xs = ⟨d, kend k, xs⟩ := (if_neg (by omega)).trans ((if_neg (by omega)).trans ((if_neg (by omega)).trans (if_neg (by omega))))
theorem known_step' (hlen : d.ws.length = s.w.n) (hm : mayB0 s d = true) (h5 : k.ph = 5) (hi : Inv s d k xs) : Known s (stepR s d k xs).d (stepR s d k xs).k (stepR s d k xs).xs := by
  by_cases hg : isC s d k.mj k.ep k.pa 2 = true
  · exact known_step hlen hi.known fun _ => ⟨hi.pf, (hi.at_ hg).1⟩
  · by_cases h0 : wh k xs = 0
    · rw [step_on ⟨hm, h5⟩, on_0 h0]
      have hf : fldN s d k = 0 := if_neg hg
      have e : fieldR s d k xs = ⟨d, kp k 0 0, xs⟩ := if_pos (by rw [hf]; omega)
      rw [e]
      intro z hz
      have hz' : isC s d k.mj k.ep z 2 = true := hz
      refine know_iff.2 ?_
      show k.ov = true ∨ z = 0 ∨ (¬ k.ps = 0 ∧ k.ps < z) ∨ z ∈ xs
      rcases know_iff.1 (hi.known z hz') with h1 | h1 | h1 | h1
      · exact .inl h1
      · rw [h1] at hz'; exact absurd hz' hg
      · exact .inr (.inr (.inl h1))
      · exact .inr (.inr (.inr h1))
    · refine known_step hlen hi.known fun he => ?_
      have hp := wh_pos h0
      rw [hp] at he
      have := (obj_of he).lo
      omega
/-- Shading turns nothing white, nothing black. -/
theorem sh_no {z : Int} (hlen : d.ws.length = s.w.n) (h : isC s (shD s d mj ep a) mj ep z 1 = true) : isC s d mj ep z 1 = true ∧ ¬ (isC s d mj ep a 1 = true ∧ z = a) := by
  rw [sh_col (lens_refl s) hlen] at h
  split at h
  · cases h
  · next hn => exact ⟨h, hn⟩
theorem sh_black {z : Int} (hlen : d.ws.length = s.w.n) (h : isC s (shD s d mj ep a) mj ep z 3 = true) : isC s d mj ep z 3 = true := by
  rw [sh_col (lens_refl s) hlen] at h
  split at h
  · cases h
  · exact h
theorem sh_grey {z : Int} (hlen : d.ws.length = s.w.n) (h : isC s d mj ep z 2 = true) : isC s (shD s d mj ep a) mj ep z 2 = true := by
  rw [sh_col (lens_refl s) hlen]
  split
  · rfl
  · exact h
theorem led_sh (hlen : d.ws.length = s.w.n) (h : Led s d mj ep) (a : Int) : Led s (shD s d mj ep a) mj ep := by
  intro u hu j h0 h1 hw
  have hu' := sh_black hlen hu
  have u16 := (obj_of (isC_iff.1 hu').2.1).lo
  rw [sh_nof hlen u16] at h1
  have ap : ¬ (isC s d mj ep a 1 = true ∧ u + 1 + j = a) := fun hh => fld_apart (grey_used hu') (grey_used hh.1) h0 h1 hh.2
  rw [sh_wd hlen (by omega) ap] at hw
  exact h u hu' j h0 h1 (sh_no hlen hw).1
/-- What a field has is not white once it is shaded. -/
theorem sh_fld (hlen : d.ws.length = s.w.n) : ¬ isC s (shD s d mj ep a) mj ep a 1 = true := fun h => by
  obtain ⟨h1, h2⟩ := sh_no hlen h
  exact h2 ⟨h1, rfl⟩
theorem step_inv (hlen : d.ws.length = s.w.n) (hm : mayB0 s d = true) (h5 : k.ph = 5) (hi : Inv s d k xs) : Inv s (stepR s d k xs).d (stepR s d k xs).k (stepR s d k xs).xs := by
  have hk := known_step' hlen hm h5 hi
  rw [step_on ⟨hm, h5⟩] at hk ⊢
  rcases wh_cases k xs with e | e | e | e | e
  · rw [on_0 e] at hk ⊢
    unfold fieldR at hk ⊢
    split
    · next hc =>
      rw [if_pos hc] at hk
      exact ⟨hk, hi.led, Int.le_refl 0, fun h => absurd h isC_zero⟩
    · next hc =>
      rw [if_neg hc] at hk
      have hg : isC s d k.mj k.ep k.pa 2 = true := Classical.byContradiction fun hh => by
        have : fldN s d k = 0 := if_neg hh
        omega
      have hN : fldN s d k = nOf (wd d k.pa) := if_pos hg
      have p16 := (obj_of (isC_iff.1 hg).2.1).lo
      obtain ⟨_, hat⟩ := hi.at_ hg
      have hg' := sh_grey (a := fldV d k) hlen hg
      have hl' := led_sh hlen hi.led (fldV d k)
      -- the fields behind the one at hand
      have fl : ∀ j, 0 ≤ j → j < k.pf + 1 → ¬ isC s (shD s d k.mj k.ep (fldV d k)) k.mj k.ep (wd (shD s d k.mj k.ep (fldV d k)) (k.pa + 1 + j)) 1 = true := fun j h0 h1 hw => by
        have ap : ¬ (isC s d k.mj k.ep (fldV d k) 1 = true ∧ k.pa + 1 + j = fldV d k) := fun hh => fld_apart (grey_used hg) (grey_used hh.1) h0 (by omega) hh.2
        rw [sh_wd hlen (by omega) ap] at hw
        by_cases ej : j = k.pf
        · subst ej
          exact sh_fld hlen hw
        · exact hat j h0 (by omega) (sh_no hlen hw).1
      have hlen' : (shD s d k.mj k.ep (fldV d k)).ws.length = s.w.n := by rw [sh_len]; exact hlen
      split
      · next hl =>
        rw [if_pos hl] at hk
        refine ⟨hk, ?_, Int.le_refl 0, fun h => absurd h isC_zero⟩
        show Led s (blD s (shD s d k.mj k.ep (fldV d k)) k.mj k.ep k.pa) k.mj k.ep
        intro u hu j h0 h1 hw
        rw [bl_col (lens_refl s) hlen'] at hu hw
        have u16 : 16 ≤ u := by
          split at hu
          · next hh => rw [hh.2]; exact p16
          · exact (obj_of (isC_iff.1 hu).2.1).lo
        rw [bl_nof hlen' u16] at h1
        have uu : u ∈ usedL s (shD s d k.mj k.ep (fldV d k)) := by
          split at hu
          · next hh => rw [hh.2]; exact grey_used hg'
          · exact grey_used hu
        have ap : ¬ (isC s (shD s d k.mj k.ep (fldV d k)) k.mj k.ep k.pa 2 = true ∧ u + 1 + j = k.pa) := fun hh => fld_apart uu (grey_used hg') h0 h1 hh.2
        rw [bl_wd hlen' (by omega) ap] at hw
        split at hw
        · cases hw
        · split at hu
          · next hh =>
            rw [hh.2] at hw h1
            rw [sh_nof hlen p16] at h1
            exact fl j h0 (by omega) hw
          · exact hl' u hu j h0 h1 hw
      · next hl =>
        rw [if_neg hl] at hk
        refine ⟨hk, hl', ?_, fun _ => ⟨?_, fl⟩⟩
        · show 0 ≤ k.pf + 1
          have := hi.pf
          omega
        · show k.pf + 1 < nOf (wd (shD s d k.mj k.ep (fldV d k)) k.pa)
          rw [sh_nof hlen p16]
          omega
  · rw [on_1 e] at hk ⊢
    refine ⟨hk, hi.led, Int.le_refl 0, fun h => ?_⟩
    have f := fld_in (isC_iff.1 (show isC s d k.mj k.ep (xs.getD (xs.length - 1) 0) 2 = true from h)).2.1
    exact ⟨by show 0 < nOf (wd d (xs.getD (xs.length - 1) 0)); omega, fun j h0 h1 => absurd h1 (by show ¬ j < 0; omega)⟩
  · rw [on_2 e] at hk ⊢
    have hp := wh_pos (k := k) (xs := xs) (by omega)
    unfold seekR at hk ⊢
    split
    · next hc =>
      rw [if_pos hc] at hk
      refine ⟨hk, hi.led, Int.le_refl 0, fun h => ?_⟩
      have f := fld_in (isC_iff.1 hc).2.1
      exact ⟨by show 0 < nOf (wd d (nxt s d k.ps)); omega, fun j h0 h1 => absurd h1 (by show ¬ j < 0; omega)⟩
    · next hc =>
      rw [if_neg hc] at hk
      exact ⟨hk, hi.led, hi.pf, fun h => by rw [show (kq k (nxt s d k.ps)).pa = 0 from hp] at h; exact absurd h isC_zero⟩
  · rw [on_3 e] at hk ⊢
    have hp := wh_pos (k := k) (xs := xs) (by omega)
    exact ⟨hk, hi.led, hi.pf, fun h => by rw [show (kv1 k).pa = 0 from hp] at h; exact absurd h isC_zero⟩
  · rw [on_4 e] at hk ⊢
    exact ⟨hk, hi.led, Int.le_refl 0, fun h => absurd h isC_zero⟩
end
end Go.Proofs.YtccjelpfmkbmiaaGreatDoor.Tr
end
section
namespace Go.Proofs.YtccjelpfmkbmiaaGreatDoor.Tr
open Go.Proofs.YtccjelpfmkbmiaaGreatDoor Go.Proofs.YtccjelpfmkbmiaaGreatDoor.Sh
set_option maxRecDepth 100000

/-- Cells; those behind an address; what a full work list is worth. -/
def cellsN (s : Hs) (d : Hd_) : Int := ((Cl.allS d.f s.p.n).length : Nat)
def upN (s : Hs) (d : Hd_) (a : Int) : Int := (((Cl.allS d.f s.p.n).filter fun c => decide (a < c)).length : Nat)
def bet (s : Hs) (d : Hd_) : Int := (2 * cellsN s d + 4) / 5
def wgt (s : Hs) (d : Hd_) (B : Int) (mj : Bool) (ep y : Int) : Int := if isC s d mj ep y 1 = true then B + 2 + nOf (wd d y) + 1 else if isC s d mj ep y 2 = true then nOf (wd d y) + 1 else 0
def sumW (s : Hs) (d : Hd_) (B : Int) (mj : Bool) (ep : Int) : Int := ((usedL s d).map (wgt s d B mj ep)).sum
/-- What is left to be done. -/
def left (s : Hs) (d : Hd_) (k : Ks) (xs : List Int) : Int :=
  sumW s d (bet s d) k.mj k.ep + (if k.ov = true then 2 * cellsN s d + 2 else bet s d * (xs.length : Nat)) + 2 * (xs.length : Nat) + (if k.ps = 0 then 0 else 2 * upN s d k.ps + 1) + (if k.pa = 0 then 0 else 1 - (if isC s d k.mj k.ep k.pa 2 = true then k.pf else 0))
theorem sum_turn {f g : Int → Int} {a : Int} : ∀ {l : List Int}, l.Pairwise (· < ·) → a ∈ l → (∀ y ∈ l, ¬ y = a → g y = f y) → (l.map g).sum = (l.map f).sum + (g a - f a)
  | [], _, h, _ => by cases h
  | x :: l, hp, hm, h => by
    rw [List.map_cons, List.map_cons, List.sum_cons, List.sum_cons]
    have hp' := List.pairwise_cons.1 hp
    by_cases e : x = a
    · subst e
      have : l.map g = l.map f := List.map_congr_left fun y hy => h y (by simp [hy]) (by have := hp'.1 y hy; omega)
      rw [this]
      omega
    · have hm' : a ∈ l := by
        rcases List.mem_cons.1 hm with e' | hm
        · exact absurd e'.symm e
        · exact hm
      rw [sum_turn hp'.2 hm' fun y hy => h y (by simp [hy]), h x (by simp) e]
      omega
theorem sum_pos {f : Int → Int} : ∀ {l : List Int}, (∀ y ∈ l, 0 ≤ f y) → 0 ≤ (l.map f).sum
  | [], _ => by simp
  | x :: l, h => by
    rw [List.map_cons, List.sum_cons]
    have := sum_pos (l := l) fun y hy => h y (by simp [hy])
    have := h x (by simp)
    omega
theorem sum_one {f : Int → Int} {a : Int} : ∀ {l : List Int}, (∀ y ∈ l, 0 ≤ f y) → a ∈ l → f a ≤ (l.map f).sum
  | [], _, h => by cases h
  | x :: l, h, hm => by
    rw [List.map_cons, List.sum_cons]
    have h0 := sum_pos (l := l) fun y hy => h y (by simp [hy])
    rcases List.mem_cons.1 hm with e | hm
    · subst e; omega
    · have := sum_one (l := l) (fun y hy => h y (by simp [hy])) hm
      have := h x (by simp)
      omega
section
variable {s t : Hs} {d d' : Hd_} {k : Ks} {xs : List Int} {mj : Bool} {ep a y q B : Int}
theorem wgt_pos (hB : 0 ≤ B) (hy : y ∈ usedL s d) : 0 ≤ wgt s d B mj ep y := by
  have := (fld_in (used_E hy)).2.1
  unfold wgt
  split
  · omega
  · split <;> omega
theorem cells_pos (s : Hs) (d : Hd_) : 0 ≤ cellsN s d ∧ 0 ≤ bet s d ∧ 2 * cellsN s d ≤ 5 * bet s d := by
  have : 0 ≤ cellsN s d := Int.natCast_nonneg _
  unfold bet
  omega
theorem up_le (s : Hs) (d : Hd_) (a : Int) : 0 ≤ upN s d a ∧ upN s d a ≤ cellsN s d := by
  unfold upN cellsN
  have := List.length_filter_le (fun c => decide (a < c)) (Cl.allS d.f s.p.n)
  omega
theorem nxt_in (h : ¬ nxt s d a = 0) : nxt s d a ∈ Cl.allS d.f s.p.n ∧ a < nxt s d a := by
  unfold nxt Cl.foundV at h ⊢
  cases hf : (Cl.allL d.f s.p.n).find? (Cl.pUp a) with
  | none => rw [hf] at h; exact absurd rfl h
  | some c => exact ⟨List.mem_map.2 ⟨c, List.mem_of_find?_eq_some hf, rfl⟩, of_decide_eq_true (show decide (a < c.1) = true from List.find?_some (p := Cl.pUp a) hf)⟩
theorem filt_lt {p r : Int → Bool} {z : Int} : ∀ {l : List Int}, (∀ y, r y = true → p y = true) → z ∈ l → p z = true → r z = false → (l.filter r).length < (l.filter p).length
  | [], _, h, _, _ => by cases h
  | x :: l, h, hm, h1, h2 => by
    have le : (l.filter r).length ≤ (l.filter p).length := by
      clear hm h1 h2
      induction l with
      | nil => simp
      | cons w l ih =>
        rw [List.filter_cons, List.filter_cons]
        cases hr : r w
        · cases hp : p w <;> simp <;> omega
        · rw [h w hr]
          simp
          exact ih
    rw [List.filter_cons, List.filter_cons]
    rcases List.mem_cons.1 hm with e | hm
    · subst e
      rw [h1, h2]
      simp
      omega
    · have := filt_lt h hm h1 h2
      cases hr : r x
      · cases hp : p x <;> simp <;> omega
      · rw [h x hr]
        simp
        exact this
theorem up_next (h : ¬ nxt s d a = 0) : upN s d (nxt s d a) + 1 ≤ upN s d a := by
  obtain ⟨h1, h2⟩ := nxt_in h
  unfold upN
  have := filt_lt (p := fun c => decide (a < c)) (r := fun c => decide (nxt s d a < c)) (z := nxt s d a) (l := Cl.allS d.f s.p.n) (fun y hy => by have := of_decide_eq_true hy; exact decide_eq_true (by omega)) h1 (decide_eq_true h2) (decide_eq_false (by omega))
  omega
theorem same_cells (s : Hs) (d : Hd_) (mj : Bool) (ep a : Int) : (shD s d mj ep a).f = d.f ∧ (blD s d mj ep a).f = d.f := by
  constructor
  · unfold shD; split <;> rfl
  · unfold blD; split <;> rfl
theorem cells_f (h : d'.f = d.f) : cellsN s d' = cellsN s d ∧ bet s d' = bet s d ∧ ∀ a, upN s d' a = upN s d a := by
  unfold bet cellsN upN
  rw [h]
  exact ⟨rfl, rfl, fun _ => rfl⟩
theorem sh_oth (hlen : d.ws.length = s.w.n) (h : ¬ y = a) (q : Int) : isC s (shD s d mj ep a) mj ep y q = isC s d mj ep y q := by
  rw [sh_col (lens_refl s) hlen, if_neg (fun hh => h hh.2)]
theorem bl_oth (hlen : d.ws.length = s.w.n) (h : ¬ y = a) (q : Int) : isC s (blD s d mj ep a) mj ep y q = isC s d mj ep y q := by
  rw [bl_col (lens_refl s) hlen, if_neg (fun hh => h hh.2)]
theorem sh_self (hlen : d.ws.length = s.w.n) (h : isC s d mj ep a 1 = true) (q : Int) : isC s (shD s d mj ep a) mj ep a q = decide (q = 2) := by
  rw [sh_col (lens_refl s) hlen, if_pos ⟨h, rfl⟩]
theorem bl_self (hlen : d.ws.length = s.w.n) (h : isC s d mj ep a 2 = true) (q : Int) : isC s (blD s d mj ep a) mj ep a q = decide (q = 3) := by
  rw [bl_col (lens_refl s) hlen, if_pos ⟨h, rfl⟩]
/-- The sum behind Shade, behind Black. -/
theorem sum_sh (hlen : d.ws.length = s.w.n) : sumW s (shD s d mj ep a) B mj ep = sumW s d B mj ep - (if isC s d mj ep a 1 = true then B + 2 else 0) := by
  unfold sumW
  rw [sh_used hlen]
  by_cases hw : isC s d mj ep a 1 = true
  · rw [if_pos hw]
    have a16 := (obj_of (isC_iff.1 hw).2.1).lo
    have key := sum_turn (f := wgt s d B mj ep) (g := wgt s (shD s d mj ep a) B mj ep) (used_rise s d) (grey_used hw) fun y hy hne => by
      have y16 := (used_in hy).1
      unfold wgt
      rw [sh_oth hlen hne, sh_oth hlen hne, sh_nof hlen y16]
    rw [key]
    have e1 : wgt s (shD s d mj ep a) B mj ep a = nOf (wd d a) + 1 := by
      unfold wgt
      rw [sh_self hlen hw, sh_self hlen hw, sh_nof hlen a16]
      rfl
    have e2 : wgt s d B mj ep a = B + 2 + nOf (wd d a) + 1 := if_pos hw
    omega
  · rw [if_neg hw]
    have : shD s d mj ep a = d := if_neg hw
    rw [this]
    omega
theorem sum_bl (hlen : d.ws.length = s.w.n) (hg : isC s d mj ep a 2 = true) : sumW s (blD s d mj ep a) B mj ep = sumW s d B mj ep - (nOf (wd d a) + 1) := by
  unfold sumW
  rw [bl_used hlen]
  have a16 := (obj_of (isC_iff.1 hg).2.1).lo
  have key := sum_turn (f := wgt s d B mj ep) (g := wgt s (blD s d mj ep a) B mj ep) (used_rise s d) (grey_used hg) fun y hy hne => by
    have y16 := (used_in hy).1
    unfold wgt
    rw [bl_oth hlen hne, bl_oth hlen hne, bl_nof hlen y16]
  rw [key]
  have e1 : wgt s (blD s d mj ep a) B mj ep a = 0 := by
    unfold wgt
    rw [bl_self hlen hg, bl_self hlen hg]
    rfl
  have nw : ¬ isC s d mj ep a 1 = true := fun h => by have := one_col h hg; omega
  have e2 : wgt s d B mj ep a = nOf (wd d a) + 1 := (if_neg nw).trans (if_pos hg)
  omega
/-- What is left is never less than nothing. -/
theorem left_pos (hi : Inv s d k xs) : 0 ≤ left s d k xs := by
  have hc := cells_pos s d
  have hu := up_le s d k.ps
  have hs : 0 ≤ sumW s d (bet s d) k.mj k.ep := sum_pos fun y hy => wgt_pos hc.2.1 hy
  have hx : 0 ≤ bet s d * (xs.length : Nat) := Int.mul_nonneg hc.2.1 (Int.natCast_nonneg _)
  have h1 : 0 ≤ (if k.ov = true then 2 * cellsN s d + 2 else bet s d * (xs.length : Nat)) := by split <;> omega
  have h2 : 0 ≤ (if k.ps = 0 then (0 : Int) else 2 * upN s d k.ps + 1) := by split <;> omega
  unfold left
  by_cases hg : isC s d k.mj k.ep k.pa 2 = true
  · have hw : nOf (wd d k.pa) + 1 ≤ sumW s d (bet s d) k.mj k.ep := by
      have nw : ¬ isC s d k.mj k.ep k.pa 1 = true := fun h => by have := one_col h hg; omega
      have e2 : wgt s d (bet s d) k.mj k.ep k.pa = nOf (wd d k.pa) + 1 := (if_neg nw).trans (if_pos hg)
      rw [← e2]
      exact sum_one (fun y hy => wgt_pos hc.2.1 hy) (grey_used hg)
    have hp := (hi.at_ hg).1
    have h3 : -(nOf (wd d k.pa)) ≤ (if k.pa = 0 then (0 : Int) else 1 - (if isC s d k.mj k.ep k.pa 2 = true then k.pf else 0)) := by
      rw [if_pos hg]
      split
      · have := (fld_in (isC_iff.1 hg).2.1).2.1; omega
      · omega
    omega
  · have h3 : 0 ≤ (if k.pa = 0 then (0 : Int) else 1 - (if isC s d k.mj k.ep k.pa 2 = true then k.pf else 0)) := by
      rw [if_neg hg]
      split <;> omega
    omega
/-- What the list is worth behind Shade. -/
theorem list_room {A B : Int} (hB : 0 ≤ B) (hA : A ≤ 5 * B) (c o : Bool) (xs : List Int) (v : Int) : (if shO c xs o = true then A + 2 else B * ((shX c xs v).length : Nat)) + 2 * ((shX c xs v).length : Nat) ≤ (if o = true then A + 2 else B * (xs.length : Nat)) + 2 * (xs.length : Nat) + (if c = true then B + 2 else 0) := by
  cases c
  · have e1 : shO false xs o = o := by simp [shO]
    have e2 : shX false xs v = xs := if_neg (by simp)
    rw [e1, e2, if_neg (show ¬ (false : Bool) = true by decide)]
    omega
  · rw [if_pos rfl]
    by_cases h4 : 4 ≤ xs.length
    · have e1 : shO true xs o = true := by simp [shO, h4]
      have e2 : shX true xs v = xs := if_neg (fun h => by omega)
      have : B * 4 ≤ B * (xs.length : Nat) := Int.mul_le_mul_of_nonneg_left (by omega) hB
      rw [e1, e2, if_pos rfl]
      cases o
      · rw [if_neg (by decide)]; omega
      · rw [if_pos rfl]; omega
    · have e1 : shO true xs o = o := by simp [shO, h4]
      have e2 : shX true xs v = xs ++ [v] := if_pos ⟨rfl, by omega⟩
      have e3 : (((xs ++ [v]).length : Nat) : Int) = (xs.length : Nat) + 1 := by simp
      rw [e1, e2, e3, Int.mul_add, Int.mul_one]
      cases o
      · rw [if_neg (by decide), if_neg (by decide)]; omega
      · rw [if_pos rfl, if_pos rfl]; omega
/-- Each step but the last leaves less. -/
theorem left_step (hlen : d.ws.length = s.w.n) (hm : mayB0 s d = true) (h5 : k.ph = 5) (hi : Inv s d k xs) : ((stepR s d k xs).k.ph = 5 ∧ left s (stepR s d k xs).d (stepR s d k xs).k (stepR s d k xs).xs + 1 ≤ left s d k xs) ∨ ((stepR s d k xs).k.ph = 6 ∧ overB s (stepR s d k xs).d (stepR s d k xs).k (stepR s d k xs).xs = true) := by
  have hc := cells_pos s d
  rcases wh_cases k xs with e | e | e | e | e
  · have hp := wh_zero e
    rw [step_on ⟨hm, h5⟩, on_0 e]
    refine .inl ?_
    unfold fieldR
    split
    · next h0 =>
      refine ⟨h5, ?_⟩
      have ng : ¬ isC s d k.mj k.ep k.pa 2 = true := fun hg => by
        have : fldN s d k = nOf (wd d k.pa) := if_pos hg
        have := (hi.at_ hg).1
        have := hi.pf
        omega
      show left s d (kp k 0 0) xs + 1 ≤ left s d k xs
      unfold left
      rw [if_neg hp, if_neg ng, show (kp k 0 0).pa = 0 from rfl, if_pos rfl]
      show sumW s d (bet s d) k.mj k.ep + (if k.ov = true then 2 * cellsN s d + 2 else bet s d * (xs.length : Nat)) + 2 * (xs.length : Nat) + (if k.ps = 0 then 0 else 2 * upN s d k.ps + 1) + 0 + 1 ≤ _
      omega
    · next h0 =>
      have hg : isC s d k.mj k.ep k.pa 2 = true := Classical.byContradiction fun hh => by
        have : fldN s d k = 0 := if_neg hh
        omega
      have hN : fldN s d k = nOf (wd d k.pa) := if_pos hg
      have p16 := (obj_of (isC_iff.1 hg).2.1).lo
      have hlen' : (shD s d k.mj k.ep (fldV d k)).ws.length = s.w.n := by rw [sh_len]; exact hlen
      have hg' := sh_grey (a := fldV d k) hlen hg
      have S1 := sum_sh (s := s) (d := d) (mj := k.mj) (ep := k.ep) (a := fldV d k) (B := bet s d) hlen
      have F1 := cells_f (s := s) (same_cells s d k.mj k.ep (fldV d k)).1
      -- the list, and whether it has no more room
      have X : (if shO (white s d k (fldV d k)) xs k.ov = true then 2 * cellsN s d + 2 else bet s d * ((shX (white s d k (fldV d k)) xs (fldV d k)).length : Nat)) + 2 * ((shX (white s d k (fldV d k)) xs (fldV d k)).length : Nat) ≤ (if k.ov = true then 2 * cellsN s d + 2 else bet s d * (xs.length : Nat)) + 2 * (xs.length : Nat) + (if isC s d k.mj k.ep (fldV d k) 1 = true then bet s d + 2 else 0) := by
        exact list_room hc.2.1 hc.2.2 _ _ _ _
      split
      · next hl =>
        refine ⟨h5, ?_⟩
        have S2 := sum_bl (s := s) (d := shD s d k.mj k.ep (fldV d k)) (mj := k.mj) (ep := k.ep) (a := k.pa) (B := bet s d) hlen' hg'
        rw [sh_nof hlen p16] at S2
        have F2 := cells_f (s := s) (same_cells s (shD s d k.mj k.ep (fldV d k)) k.mj k.ep k.pa).2
        show left s (blD s (shD s d k.mj k.ep (fldV d k)) k.mj k.ep k.pa) (kp (kw k k.wk (shO (white s d k (fldV d k)) xs k.ov)) 0 0) (shX (white s d k (fldV d k)) xs (fldV d k)) + 1 ≤ left s d k xs
        unfold left
        rw [F2.1, F2.2.1, F2.2.2, F1.1, F1.2.1, F1.2.2, if_neg hp, if_pos hg]
        show sumW s (blD s (shD s d k.mj k.ep (fldV d k)) k.mj k.ep k.pa) (bet s d) k.mj k.ep + (if shO (white s d k (fldV d k)) xs k.ov = true then 2 * cellsN s d + 2 else bet s d * ((shX (white s d k (fldV d k)) xs (fldV d k)).length : Nat)) + 2 * ((shX (white s d k (fldV d k)) xs (fldV d k)).length : Nat) + (if k.ps = 0 then 0 else 2 * upN s d k.ps + 1) + (if (0 : Int) = 0 then 0 else _) + 1 ≤ _
        rw [if_pos rfl, S2, S1]
        omega
      · next hl =>
        refine ⟨h5, ?_⟩
        show left s (shD s d k.mj k.ep (fldV d k)) (kp (kw k k.wk (shO (white s d k (fldV d k)) xs k.ov)) k.pa (k.pf + 1)) (shX (white s d k (fldV d k)) xs (fldV d k)) + 1 ≤ left s d k xs
        unfold left
        rw [F1.1, F1.2.1, F1.2.2, if_neg hp, if_pos hg]
        show sumW s (shD s d k.mj k.ep (fldV d k)) (bet s d) k.mj k.ep + (if shO (white s d k (fldV d k)) xs k.ov = true then 2 * cellsN s d + 2 else bet s d * ((shX (white s d k (fldV d k)) xs (fldV d k)).length : Nat)) + 2 * ((shX (white s d k (fldV d k)) xs (fldV d k)).length : Nat) + (if k.ps = 0 then 0 else 2 * upN s d k.ps + 1) + (if k.pa = 0 then 0 else 1 - (if isC s (shD s d k.mj k.ep (fldV d k)) k.mj k.ep k.pa 2 = true then k.pf + 1 else 0)) + 1 ≤ _
        rw [if_neg hp, if_pos hg', S1]
        omega
  · have hp := wh_pos (k := k) (xs := xs) (by omega)
    have hl := wh_one e
    rw [step_on ⟨hm, h5⟩, on_1 e]
    refine .inl ⟨h5, ?_⟩
    show left s d (kp k (xs.getD (xs.length - 1) 0) 0) (xs.take (xs.length - 1)) + 1 ≤ left s d k xs
    have hlt : ((xs.take (xs.length - 1)).length : Nat) + 1 = xs.length := by rw [List.length_take]; omega
    have hmul : bet s d * ((xs.take (xs.length - 1)).length : Nat) ≤ bet s d * (xs.length : Nat) := Int.mul_le_mul_of_nonneg_left (by omega) hc.2.1
    unfold left
    rw [if_pos hp]
    show sumW s d (bet s d) k.mj k.ep + (if k.ov = true then 2 * cellsN s d + 2 else bet s d * ((xs.take (xs.length - 1)).length : Nat)) + 2 * ((xs.take (xs.length - 1)).length : Nat) + (if k.ps = 0 then 0 else 2 * upN s d k.ps + 1) + (if xs.getD (xs.length - 1) 0 = 0 then 0 else 1 - (if isC s d k.mj k.ep (xs.getD (xs.length - 1) 0) 2 = true then 0 else 0)) + 1 ≤ _
    have h1 : (if xs.getD (xs.length - 1) 0 = 0 then (0 : Int) else 1 - (if isC s d k.mj k.ep (xs.getD (xs.length - 1) 0) 2 = true then 0 else 0)) ≤ 1 := by
      split
      · omega
      · split <;> omega
    have h2 : (if k.ov = true then 2 * cellsN s d + 2 else bet s d * ((xs.take (xs.length - 1)).length : Nat)) ≤ (if k.ov = true then 2 * cellsN s d + 2 else bet s d * (xs.length : Nat)) := by
      split <;> omega
    omega
  · have hp := wh_pos (k := k) (xs := xs) (by omega)
    have hq := (wh_two e).1
    rw [step_on ⟨hm, h5⟩, on_2 e]
    refine .inl ?_
    have hu0 := up_le s d (nxt s d k.ps)
    have hup : (if nxt s d k.ps = 0 then (0 : Int) else 2 * upN s d (nxt s d k.ps) + 1) + (if nxt s d k.ps = 0 then 1 else 2) ≤ 2 * upN s d k.ps + 1 := by
      have := up_le s d k.ps
      by_cases hn : nxt s d k.ps = 0
      · rw [if_pos hn, if_pos hn]; omega
      · rw [if_neg hn, if_neg hn]; have := up_next hn; omega
    unfold seekR
    split
    · next hg =>
      refine ⟨h5, ?_⟩
      have hn : ¬ nxt s d k.ps = 0 := fun h => by rw [h] at hg; exact isC_zero hg
      rw [if_neg hn, if_neg hn] at hup
      show left s d (kp (kq k (nxt s d k.ps)) (nxt s d k.ps) 0) xs + 1 ≤ left s d k xs
      unfold left
      rw [if_pos hp, if_neg hq]
      show sumW s d (bet s d) k.mj k.ep + (if k.ov = true then 2 * cellsN s d + 2 else bet s d * (xs.length : Nat)) + 2 * (xs.length : Nat) + (if nxt s d k.ps = 0 then 0 else 2 * upN s d (nxt s d k.ps) + 1) + (if nxt s d k.ps = 0 then 0 else 1 - (if isC s d k.mj k.ep (nxt s d k.ps) 2 = true then 0 else 0)) + 1 ≤ _
      rw [if_neg hn, if_neg hn, if_pos hg]
      omega
    · refine ⟨h5, ?_⟩
      show left s d (kq k (nxt s d k.ps)) xs + 1 ≤ left s d k xs
      unfold left
      rw [if_pos hp, if_neg hq]
      show sumW s d (bet s d) k.mj k.ep + (if k.ov = true then 2 * cellsN s d + 2 else bet s d * (xs.length : Nat)) + 2 * (xs.length : Nat) + (if nxt s d k.ps = 0 then 0 else 2 * upN s d (nxt s d k.ps) + 1) + (if k.pa = 0 then 0 else 1 - (if isC s d k.mj k.ep k.pa 2 = true then k.pf else 0)) + 1 ≤ _
      rw [if_pos hp]
      have : (1 : Int) ≤ (if nxt s d k.ps = 0 then 1 else 2) := by split <;> omega
      omega
  · have hp := wh_pos (k := k) (xs := xs) (by omega)
    obtain ⟨ho, hq, hx⟩ := wh_three e
    rw [step_on ⟨hm, h5⟩, on_3 e]
    refine .inl ⟨h5, ?_⟩
    have hu0 := up_le s d 1
    show left s d (kv1 k) xs + 1 ≤ left s d k xs
    unfold left
    rw [if_pos hp, if_pos hq, if_pos ho]
    show sumW s d (bet s d) k.mj k.ep + (if (false : Bool) = true then 2 * cellsN s d + 2 else bet s d * (xs.length : Nat)) + 2 * (xs.length : Nat) + (if (1 : Int) = 0 then 0 else 2 * upN s d 1 + 1) + (if k.pa = 0 then 0 else _) + 1 ≤ _
    rw [if_pos hp, if_neg (by decide), if_neg (by decide), hx]
    simp
    omega
  · obtain ⟨h1, h2, h3, h4⟩ := wh_four e
    have hs := known_sweep hi.known (by rw [step_on ⟨hm, h5⟩, on_4 e]; rfl) h5
    rw [step_on ⟨hm, h5⟩, on_4 e] at hs ⊢
    refine .inr ⟨rfl, ?_⟩
    show overB s d (kend k) xs = true
    unfold overB
    have hw : wh (kend k) xs = 4 := by
      unfold wh
      rw [h4]
      show (if ¬ (0 : Int) = 0 then (0 : Int) else if 0 < ([] : List Int).length then 1 else if ¬ (0 : Int) = 0 then 2 else if k.ov = true then 3 else 4) = 4
      rw [h1]
      rfl
    rw [hw, show Sh.greyL s d (kend k).mj (kend k).ep = [] from hs]
    rfl
end
end Go.Proofs.YtccjelpfmkbmiaaGreatDoor.Tr
end
section
namespace Go.Proofs.YtccjelpfmkbmiaaGreatDoor.Tr
open Go.Proofs.YtccjelpfmkbmiaaGreatDoor Go.Proofs.YtccjelpfmkbmiaaGreatDoor.Sh
set_option maxRecDepth 100000

theorem sum_filter {p : Int → Bool} {f : Int → Int} {g : Int × Int → Int} : ∀ {l : List (Int × Int)}, (∀ c ∈ l, 0 ≤ g c ∧ (p c.1 = true → f c.1 ≤ g c)) → (((l.map (·.1)).filter p).map f).sum ≤ (l.map g).sum
  | [], _ => by simp
  | c :: l, h => by
    have ih := sum_filter (p := p) (f := f) (l := l) fun x hx => h x (by simp [hx])
    have hc := h c (by simp)
    rw [List.map_cons, List.filter_cons, List.map_cons, List.sum_cons]
    split
    · next hp =>
      rw [List.map_cons, List.sum_cons]
      have := hc.2 hp
      omega
    · omega
theorem sum_apart {hi : Int} : ∀ {l : List (Int × Int)} {lo : Int}, l.Pairwise (fun c d => c.1 + c.2 ≤ d.1) → (∀ c ∈ l, lo ≤ c.1 ∧ c.1 + c.2 ≤ hi) → lo ≤ hi → (l.map (·.2)).sum ≤ hi - lo
  | [], lo, _, _, h => by simp; omega
  | c :: l, lo, hp, hc, h => by
    have hp' := List.pairwise_cons.1 hp
    have h0 := hc c (by simp)
    have ih := sum_apart (hi := hi) (lo := c.1 + c.2) hp'.2 (fun x hx => ⟨hp'.1 x hx, (hc x (by simp [hx])).2⟩) h0.2
    rw [List.map_cons, List.sum_cons]
    omega
theorem sum_add {A : Int} {g : Int × Int → Int} : ∀ l : List (Int × Int), (l.map fun c => A + g c).sum = A * (l.length : Nat) + (l.map g).sum
  | [] => by simp
  | c :: l => by
    rw [List.map_cons, List.sum_cons, List.map_cons, List.sum_cons, sum_add l, show (((c :: l).length : Nat) : Int) = (l.length : Nat) + 1 by simp, Int.mul_add, Int.mul_one]
    omega
theorem sum_two : ∀ {l : List (Int × Int)}, (∀ c ∈ l, 2 ≤ c.2) → 2 * ((l.length : Nat) : Int) ≤ (l.map (·.2)).sum
  | [], _ => by simp
  | c :: l, h => by
    have ih := sum_two (l := l) fun x hx => h x (by simp [hx])
    have h0 := h c (by simp)
    rw [List.map_cons, List.sum_cons, show (((c :: l).length : Nat) : Int) = (l.length : Nat) + 1 by simp]
    omega
section
variable {s t : Hs} {d d' : Hd_} {k : Ks} {xs : List Int} {mj : Bool} {ep a y q B : Int}
theorem cells_le (s : Hs) (d : Hd_) : (((Cl.allL d.f s.p.n).map (·.2)).sum) ≤ 16 * (s.p.n : Int) ∧ 2 * cellsN s d ≤ ((Cl.allL d.f s.p.n).map (·.2)).sum := by
  have ap := Cl.allL_apart d.f s.p.n
  constructor
  · have := sum_apart (hi := 16 + 16 * (s.p.n : Int)) (lo := 16) ap.1 (fun c hc => ⟨(ap.2 c hc).1, (Cl.allL_end hc).2⟩) (by omega)
    omega
  · have := sum_two fun c hc => (ap.2 c hc).2
    unfold cellsN Cl.allS
    rw [List.length_map]
    exact this
theorem sum_le (hm : mayB0 s d = true) (hB : 0 ≤ B) (mj : Bool) (ep : Int) : sumW s d B mj ep ≤ (B + 2) * cellsN s d + ((Cl.allL d.f s.p.n).map (·.2)).sum := by
  unfold sumW usedL
  rw [if_pos hm]
  unfold usedF Cl.allS
  have ap := Cl.allL_apart d.f s.p.n
  refine Int.le_trans (sum_filter (g := fun c => (B + 2) + c.2) fun c hc => ⟨?_, fun hp => ?_⟩) ?_
  · have := (ap.2 c hc).2
    show 0 ≤ B + 2 + c.2
    omega
  · have hu : c.1 ∈ usedL s d := by
      unfold usedL
      rw [if_pos hm]
      exact List.mem_filter.2 ⟨List.mem_map.2 ⟨c, hc, rfl⟩, hp⟩
    have f := fld_in (used_E hu)
    rw [Cl.bg_cell hc] at f
    show wgt s d B mj ep c.1 ≤ B + 2 + c.2
    unfold wgt
    split
    · omega
    · split <;> omega
  · rw [sum_add]
    unfold cellsN Cl.allS
    rw [List.length_map]
    exact Int.le_refl _
/-- What is left at the start. -/
theorem left_start (hm : mayB0 s d = true) (hp : s.p.n ≤ 9) (hpa : k.pa = 0) (hps : k.ps = 0) (hx : xs.length ≤ 4) : left s d k xs < (16 * (s.p.n : Int)) * (16 * (s.p.n : Int)) / 4 + 40 := by
  have hc := cells_pos s d
  have h1 := sum_le (s := s) (d := d) hm hc.2.1 k.mj k.ep
  obtain ⟨h2, h3⟩ := cells_le s d
  have hb : bet s d = (2 * cellsN s d + 4) / 5 := rfl
  have h4 : (if k.ov = true then 2 * cellsN s d + 2 else bet s d * (xs.length : Nat)) ≤ 2 * cellsN s d + 6 := by
    split
    · omega
    · have : bet s d * (xs.length : Nat) ≤ bet s d * 4 := Int.mul_le_mul_of_nonneg_left (by omega) hc.2.1
      omega
  unfold left
  rw [if_pos hpa, if_pos hps]
  generalize hS : sumW s d (bet s d) k.mj k.ep = S at h1 ⊢
  generalize (if k.ov = true then 2 * cellsN s d + 2 else bet s d * (xs.length : Nat)) = T at h4 ⊢
  generalize ((Cl.allL d.f s.p.n).map (·.2)).sum = R at h1 h2 h3
  generalize bet s d = b at h1 hb hc
  generalize cellsN s d = M at h1 h3 h4 hb hc
  generalize s.p.n = p at hp h2 ⊢
  clear hS
  have hm' : ∀ K P : Int, b + 2 ≤ K → M ≤ P → (b + 2) * M ≤ K * P := fun K P g1 g2 => Int.mul_le_mul g1 g2 hc.1 (by omega)
  rcases (show p = 0 ∨ p = 1 ∨ p = 2 ∨ p = 3 ∨ p = 4 ∨ p = 5 ∨ p = 6 ∨ p = 7 ∨ p = 8 ∨ p = 9 by omega) with rfl | rfl | rfl | rfl | rfl | rfl | rfl | rfl | rfl | rfl
  · have := hm' 2 0 (by omega) (by omega); omega
  · have := hm' 6 8 (by omega) (by omega); omega
  · have := hm' 9 16 (by omega) (by omega); omega
  · have := hm' 12 24 (by omega) (by omega); omega
  · have := hm' 15 32 (by omega) (by omega); omega
  · have := hm' 18 40 (by omega) (by omega); omega
  · have := hm' 22 48 (by omega) (by omega); omega
  · have := hm' 25 56 (by omega) (by omega); omega
  · have := hm' 28 64 (by omega) (by omega); omega
  · have := hm' 31 72 (by omega) (by omega); omega
/-- What holds behind j steps. -/
structure EndJ (s : Hs) (B : Int) (j : Nat) (m : Q2) : Prop where
  len : Lens s m.s
  fine : Fine m.s m.d
  may : mayB0 s m.d = true
  ws : m.d.ws.length = s.w.n
  x : m.xs.length ≤ 4 + j
  st : (m.k.ph = 5 ∧ Inv s m.d m.k m.xs ∧ left s m.d m.k m.xs + (j : Nat) ≤ B) ∨ (m.k.ph = 6 ∧ overB s m.d m.k m.xs = true ∧ Led s m.d m.k.mj m.k.ep)
theorem inv_kw {v : Ls.Sl} (h : Inv s d k xs) : Inv s d (kw k v k.ov) xs := ⟨h.known, h.led, h.pf, h.at_⟩
theorem EndJ.next {j : Nat} {m z : Q2} (h : EndJ s B j m) (h5 : m.k.ph = 5) (hl : Lens m.s z.s) (hd : z.d = (stepR m.s m.d m.k m.xs).d) (hx : z.xs = (stepR m.s m.d m.k m.xs).xs) (hk : z.k = kw (stepR m.s m.d m.k m.xs).k z.k.wk (stepR m.s m.d m.k m.xs).k.ov) : EndJ s B (j + 1) z := by
  have e := step_sim (d := m.d) (k := m.k) (xs := m.xs) (v := m.k.wk) h.len
  rw [show kw m.k m.k.wk m.k.ov = m.k from rfl] at e
  have hms : m.d.ws.length = m.s.w.n := by rw [h.ws]; exact h.len.1.symm
  have hkin := step_kin m.s m.d m.k m.xs hms
  have hkin' := step_kin s m.d m.k m.xs h.ws
  have hfz : Fine z.s z.d := by rw [hd]; exact fine_lens hl (hkin.fine h.fine)
  have hxl : z.xs.length ≤ 4 + (j + 1) := by rw [hx]; have := step_xs m.s m.d m.k m.xs; have := h.x; omega
  rw [e] at hd hx hk
  have hd' : z.d = (stepR s m.d m.k m.xs).d := hd
  have hx' : z.xs = (stepR s m.d m.k m.xs).xs := hx
  have hk' : z.k = kw (stepR s m.d m.k m.xs).k z.k.wk (stepR s m.d m.k m.xs).k.ov := hk
  have hi : Inv s m.d m.k m.xs ∧ left s m.d m.k m.xs + (j : Nat) ≤ B := by
    rcases h.st with h | h
    · exact h.2
    · exact absurd h.1 (by omega)
  have hin := step_inv h.ws h.may h5 hi.1
  have hls := left_step h.ws h.may h5 hi.1
  refine ⟨lens_trans' h.len hl, hfz, by rw [hd', hkin'.may]; exact h.may, by rw [hd']; exact hkin'.wlen.trans h.ws, hxl, ?_⟩
  rw [hd', hx', hk']
  rcases hls with ⟨g5, gl⟩ | ⟨g6, go⟩
  · refine .inl ⟨g5, inv_kw hin, ?_⟩
    have : left s (stepR s m.d m.k m.xs).d (kw (stepR s m.d m.k m.xs).k z.k.wk (stepR s m.d m.k m.xs).k.ov) (stepR s m.d m.k m.xs).xs = left s (stepR s m.d m.k m.xs).d (stepR s m.d m.k m.xs).k (stepR s m.d m.k m.xs).xs := rfl
    rw [this]
    have := hi.2
    omega
  · exact .inr ⟨g6, go, hin.led⟩
/-- No step is left once as many were taken. -/
theorem EndJ.lt {j : Nat} {m : Q2} {N : Int} (h : EndJ s B j m) (h5 : m.k.ph = 5) (hB : B < N) : (j : Int) < N := by
  rcases h.st with ⟨_, hi, hl⟩ | ⟨h6, _⟩
  · have := left_pos hi
    omega
  · omega
/-- At the end. -/
theorem EndJ.out {j : Nat} {m : Q2} (h : EndJ s B j m) (h5 : ¬ m.k.ph = 5) : m.k.ph = 6 ∧ overB m.s m.d m.k m.xs = true ∧ ledI m.s m.d m.k.mj m.k.ep = 0 ∧ mayB0 m.s m.d = true := by
  rcases h.st with ⟨h5', _⟩ | ⟨h6, ho, hl⟩
  · exact absurd h5' h5
  · refine ⟨h6, ?_, led_iff.2 ?_, by rw [may_lens h.len]; exact h.may⟩
    · have := over_lens h.len m.d m.k m.k.wk m.xs
      rw [show kw m.k m.k.wk m.k.ov = m.k from rfl] at this
      rw [this]
      exact ho
    · intro u hu j h0 h1 hw
      rw [same_col h.len] at hu hw
      exact hl u hu j h0 h1 hw
theorem start_end (hm : mayB0 s d = true) (hf : Fine s d) (hws : d.ws.length = s.w.n) (h5 : k.ph = 5) (hkn : Known s d k xs) (hl : Led s d k.mj k.ep) (hx : xs.length ≤ 4) (hpa : k.pa = 0) (hpf : k.pf = 0) : EndJ s (left s d k xs) 0 ⟨s, k, d, xs⟩ :=
  ⟨lens_refl s, hf, hm, hws, hx, .inl ⟨h5, ⟨hkn, hl, by rw [hpf]; exact Int.le_refl 0, fun h => by rw [show k.pa = 0 from hpa] at h; exact absurd h isC_zero⟩, by simp⟩⟩
end
end Go.Proofs.YtccjelpfmkbmiaaGreatDoor.Tr
end
section
namespace Go.Proofs.YtccjelpfmkbmiaaGreatDoor
open Go.ChangeShapes Go.WideShapes Go.ChangeAt Go.RowKit Go.Deep
set_option maxRecDepth 100000

theorem own : ownKnob Tryz.prog.godebug = none := by kernel_rfl
theorem laidOut : laidOutB Tryz.prog = true := by kernel_rfl
def laidSizes : List (String × DataW Unit) := [("ragpicker/class.sizes", Rows.laid_ragpicker_class_sizes)]
theorem gSizes : Tryz.prog.globalNamed "ragpicker/class.sizes" = some 0 := by kernel_rfl
theorem tSizes : (Tryz.prog.globals[0]?).map (·.type) = some 151 := by kernel_rfl
theorem cInt : Tryz.prog.cellsOf 3 = 1 := by kernel_rfl
theorem cSizes : Tryz.prog.cellsOf 151 = 3 := by kernel_rfl
theorem of_laid {W : World} (h : laidMetH Tryz.prog laidSizes W) : Cl.Sz W := by
  rw [MakeChecks.laidMetH_plain _ _ _ (by kernel_rfl)] at h
  have hT : Lib.TabIs Tryz.prog W "ragpicker/class.sizes" .i64 [2, 4, 8] := Lib.tabIs_of_head gSizes tSizes Tryz.underlying151 Tryz.underlying3 cInt cSizes h
  exact ⟨hT.cell gSizes 0 (by decide), hT.cell gSizes 1 (by decide), hT.cell gSizes 2 (by decide)⟩
theorem door_met (os : Os) (args : Array Value) : laidMetH Tryz.prog laidSizes ((World.doorLaid Tryz.prog 400 os).forCall (fun _ _ => 0) ⟨#[], args, []⟩).memory :=
  laidMetH_of_parts3 (fuel := 8) (laidMet_of_run' 8 (by kernel_rfl) (by kernel_rfl)) (by kernel_rfl) (by kernel_rfl)

/-- How much a reading holds. -/
theorem bulk_one {H : Type} (d : DataW H) : 1 ≤ Rows.uptoBulk d := by
  cases d <;> first | (simp only [Rows.uptoBulk]; omega) | (rename_i l; cases l <;> simp [Rows.uptoBulk])
theorem bulk_long {H : Type} : ∀ l : List (DataW H), l.length ≤ Rows.uptoBulkAll l
  | [] => by simp [Rows.uptoBulkAll]
  | x :: r => by
    have h1 := bulk_one x
    have h2 := bulk_long r
    simp only [Rows.uptoBulkAll, List.length_cons]
    omega
theorem bulk_slice {H : Type} (l r : List (DataW H)) : l.length ≤ Rows.uptoBulk (.slice l r) := by
  have := bulk_long l
  simp only [Rows.uptoBulk]
  omega
theorem wf_bounds {n : Int} (h : (Lit.int .i64 n).wf = true) : -9223372036854775808 ≤ n ∧ n ≤ 9223372036854775807 := by
  simpa [Lit.wf, IntKind.min, IntKind.max, IntKind.signed, IntKind.bits] using h
def Fit64 (zs : List Int) : Prop := ∀ i, -9223372036854775808 ≤ zs.getD i 0 ∧ zs.getD i 0 ≤ 9223372036854775807
/-- A slice of numbers that comes in. -/
theorem ints_in {H : Type} {enc : TypeId × Value → H} {w : World} {base : Nat} {spare : Nat → Bool} {held : Bool} {fuel : Nat} {cs : List Value} {x : DataW H × List MemPlace}
    (h : DataW.trod enc Tryz.prog w base spare held fuel 22 cs = some x) :
    ∃ (s : Ls.Sl) (zs : List Int), cs = [.slice s.a s.n s.c] ∧ (Row w w.heap.size s.a s.n zs ∧ s.n ≤ s.c ∧ s.c ≤ maxLen) ∧ s.n ≤ Rows.uptoBulk x.1 ∧ Fit64 zs := by
  rcases open_ints Tryz.underlying22 Tryz.underlying3 (by kernel_rfl) h with ⟨rfl, rfl⟩ | ⟨y, len, cap, zs, rfl, _, hl, hm, hz, rfl, hcell, hwz⟩
  · exact ⟨⟨none, 0, 0⟩, [], rfl, ⟨Row.none_ _ _, Nat.le_refl _, by show (0 : Nat) ≤ maxLen; unfold maxLen; omega⟩, Nat.zero_le _, fun i => by simp⟩
  · have hz' : len ≤ zs.length := by rw [hz]; split <;> omega
    refine ⟨⟨some y, len, cap⟩, zs.take len, rfl, ⟨⟨by simp; omega, fun hn => ?_⟩, hl, hm⟩, ?_, fun i => ?_⟩
    · have hn' : 0 < len := hn
      obtain ⟨b, off, spot⟩ := y
      have h0 := hcell 0 (by omega)
      have hs : spot = none := by simpa [Addr.add] using World.cell?_spot h0
      subst hs
      refine ⟨b, off, rfl, ?_, fun i hi => ?_⟩
      · have := World.block_lt_of_cell? w _ h0
        simpa [Addr.add] using this
      · have hi' : i < len := hi
        have := hcell i (by omega)
        rw [Addr.add_lit] at this
        rw [this]
        simp [List.getD, hi']
    · have := bulk_slice (H := H) (lits .i64 (zs.take len)) (lits .i64 (zs.drop len))
      have e : (lits (H := H) .i64 (zs.take len)).length = len := by simp [lits]; omega
      show len ≤ Rows.uptoBulk (DataW.slice (lits .i64 (zs.take len)) (lits .i64 (zs.drop len)))
      rw [e] at this
      exact this
    · by_cases hi : i < len
      · have hi2 : i < zs.length := by omega
        have h1 := hwz (zs.getD i 0) (getD_mem hi2)
        rw [show (zs.take len).getD i 0 = zs.getD i 0 by simp [List.getD, hi]]
        exact wf_bounds h1
      · rw [show (zs.take len).getD i 0 = 0 by simp [List.getD, List.getElem?_eq_none (show (zs.take len).length ≤ i by simp; omega)]]
        omega
theorem bools_in {H : Type} {enc : TypeId × Value → H} {w : World} {base : Nat} {spare : Nat → Bool} {held : Bool} {fuel : Nat} {cs : List Value} {x : DataW H × List MemPlace}
    (h : DataW.trod enc Tryz.prog w base spare held fuel 26 cs = some x) : ∃ (s : Ls.Sl) (f : Nat → Bool), cs = [.slice s.a s.n s.c] ∧ BRow w w.heap.size s.a s.n f := by
  rcases open_slice Tryz.underlying26 h with ⟨hcs, _⟩ | ⟨y, len, cap, m, k, D, Pl, hcs, _, hl, hm, hmm, _, hi⟩
  · exact ⟨⟨none, 0, 0⟩, fun _ => false, hcs, fun h0 => absurd h0 (by simp)⟩
  · have hm' : len ≤ m := by rw [hmm]; split <;> omega
    have each : ∀ i, i < len → ∃ v : Bool, w.cell? ((y.add (i * 1)).add 0) = some (.bool v) := by
      intro i hlt
      obtain ⟨cs', h1, h2⟩ := hi i (by omega)
      have ce : Tryz.prog.cellsOf 4 = 1 := by kernel_rfl
      rw [ce] at h1
      obtain ⟨_, hlen, hcell⟩ := World.cells?_some h1
      match cs', hlen with
      | [c0], _ =>
        obtain ⟨v, e, _⟩ := DataW.trod_bool Tryz.underlying4 h2
        simp only [List.cons.injEq, and_true] at e
        subst e
        exact ⟨v, by simpa using hcell 0 (by decide)⟩
    obtain ⟨q, hq⟩ := choose_lt each
    refine ⟨⟨some y, len, cap⟩, q, hcs, fun hn => ?_⟩
    have hn' : 0 < len := hn
    obtain ⟨b, off, spot⟩ := y
    have h0 := hq 0 hn'
    have hs : spot = none := by simpa [Addr.add] using World.cell?_spot h0
    subst hs
    refine ⟨b, off, rfl, ?_, fun i hlt => ?_⟩
    · have := World.block_lt_of_cell? w _ h0
      simpa [Addr.add] using this
    · have := hq i hlt
      rw [Addr.add_lit, Addr.add_lit, Nat.mul_one] at this
      exact this
/-- Three of them. -/
def tri {α : Type} (a b c : α) : Nat → α
  | 0 => a
  | 1 => b
  | _ => c
theorem lists_in {H : Type} {enc : TypeId × Value → H} {w : World} {base : Nat} {spare : Nat → Bool} {held : Bool} {fuel : Nat} {c0 c1 c2 : Value} {x : DataW H × List MemPlace}
    (h : DataW.trod enc Tryz.prog w base spare held fuel 25 [c0, c1, c2] = some x) :
    ∃ (u : Nat → Ls.Sl) (f : Nat → List Int), [c0, c1, c2] = [.slice (u 0).a (u 0).n (u 0).c, .slice (u 1).a (u 1).n (u 1).c, .slice (u 2).a (u 2).n (u 2).c] ∧ Ls.L3 w w.heap.size u f ∧ (u 0).n + (u 1).n + (u 2).n ≤ Rows.uptoBulk x.1 := by
  obtain ⟨y0, y1, y2, n, rfl, h0, h1, h2⟩ := trod_array3 Tryz.underlying25 (by kernel_rfl) h
  obtain ⟨s0, z0, e0, r0, b0, _⟩ := ints_in h0
  obtain ⟨s1, z1, e1, r1, b1, _⟩ := ints_in h1
  obtain ⟨s2, z2, e2, r2, b2, _⟩ := ints_in h2
  simp only [List.cons.injEq, and_true] at e0 e1 e2
  refine ⟨tri s0 s1 s2, tri z0 z1 z2, by rw [e0, e1, e2]; rfl, fun j hj => ?_, ?_⟩
  · match j, hj with
    | 0, _ => exact r0
    | 1, _ => exact r1
    | 2, _ => exact r2
  · simp only [Rows.uptoBulk, Rows.uptoBulkAll, tri]
    omega
end Go.Proofs.YtccjelpfmkbmiaaGreatDoor
end
section
namespace Go.Proofs.YtccjelpfmkbmiaaGreatDoor
open Go.ChangeShapes Go.WideShapes Go.ChangeAt Go.RowKit Go.Deep
set_option maxRecDepth 100000

end Go.Proofs.YtccjelpfmkbmiaaGreatDoor
end
section
namespace Go.Proofs.YtccjelpfmkbmiaaGreatDoor
open Go.ChangeShapes Go.WideShapes Go.ChangeAt Go.RowKit Go.Deep

section
variable {H : Type} {enc : TypeId × Value → H} {P : Program} {w : World} {base : Nat} {spare : Nat → Bool} {held : Bool}

end
end Go.Proofs.YtccjelpfmkbmiaaGreatDoor
end
section
namespace Go.Proofs.YtccjelpfmkbmiaaGreatDoor
open Go.ChangeShapes Go.WideShapes Go.ChangeAt Go.RowKit Go.Deep
set_option maxRecDepth 100000

theorem pin_cap {H : Type} {enc : TypeId × Value → H} {w : World} {base : Nat} {spare : Nat → Bool} {held : Bool} {fuel : Nat} {cs : List Value} {x : DataW H × List MemPlace}
    (h : DataW.trod enc Tryz.prog w base spare held fuel 23 cs = some x) : ∃ (s : Ls.Sl) (f : Nat → Int × Int), cs = [.slice s.a s.n s.c] ∧ Cl.PRow w w.heap.size s.a s.n f ∧ s.n ≤ s.c := by
  rcases open_slice_pairs Tryz.underlying23 Tryz.underlying81 (by kernel_rfl) rfl rfl (by kernel_rfl) (by kernel_rfl) h with ⟨hcs, _⟩ | ⟨x, l, c, m, n, V0, V1, D0, D1, P0, P1, hcs, _, hl, hm, hmm, _, hi⟩
  · exact ⟨⟨none, 0, 0⟩, fun _ => (0, 0), hcs, Cl.PRow.empty _ _ _ _, Nat.le_refl _⟩
  · refine ⟨⟨some x, l, c⟩, fun i => (intOf (V0 i), intOf (V1 i)), hcs, fun hn => ?_, hl⟩
    have hn' : 0 < l := hn
    have hm' : l ≤ m := by rw [hmm]; split <;> omega
    obtain ⟨b, off, spot⟩ := x
    have h0 := (hi 0 (by omega)).1
    have hs : spot = none := by simpa [Addr.add] using World.cell?_spot h0
    subst hs
    refine ⟨b, off, rfl, ?_, fun i hlt => ?_⟩
    · have := World.block_lt_of_cell? w _ h0
      simpa [Addr.add] using this
    · have hlt' : i < l := hlt
      obtain ⟨g0, g1, t0, t1⟩ := hi i (by omega)
      rw [Addr.add_lit] at g0 g1
      rw [← Nat.add_assoc] at g1
      obtain ⟨z0, e0, _⟩ := DataW.trod_int Tryz.underlying3 t0
      obtain ⟨z1, e1, _⟩ := DataW.trod_int Tryz.underlying3 t1
      simp only [List.cons.injEq, and_true] at e0 e1
      refine ⟨?_, ?_⟩
      · show _ = some (Value.int .i64 (intOf (V0 i)))
        rw [g0, e0]
        rfl
      · show _ = some (Value.int .i64 (intOf (V1 i)))
        rw [g1, e1]
        rfl
theorem heap_of8 {H : Type} {enc : TypeId × Value → H} {w : World} {base b0 : Nat} {spare : Nat → Bool} {held : Bool} {v : Value} {d : DataW H} {p : List MemPlace} {r : Reach}
    (hv : Value.okWide Tryz.prog w r b0 28 v) (h : DataW.Trod enc Tryz.prog w base spare held 28 v d p) :
    ∃ (s : Hs) (e : Hd_), v = (.agg #[.slice s.w.a s.w.n s.w.c, .slice s.p.a s.p.n s.p.c, .slice (s.u 0).a (s.u 0).n (s.u 0).c, .slice (s.u 1).a (s.u 1).n (s.u 1).c, .slice (s.u 2).a (s.u 2).n (s.u 2).c, .slice s.c.a s.c.n s.c.c]) ∧ Hp w w.heap.size s e ∧ Fit64 e.ws ∧ s.p.n ≤ s.p.c := by
  obtain ⟨⟨l⟩, rfl, hsz⟩ := okWide_struct Tryz.underlying28 hv
  obtain ⟨fuel, hf⟩ := h
  obtain ⟨xs, k, _, hx, hl, hlen, hg⟩ := DataW.trod_struct Tryz.underlying28 hf
  have hl6 : l.length = 6 := hsz.trans (by kernel_rfl)
  match l, hl6, xs, hlen with
  | [c0, c1, c2, c3, c4, c5], _, [y0, y1, y2, y3], _ =>
    have e22 : Tryz.prog.cellsOf 22 = 1 := by kernel_rfl
    have e23 : Tryz.prog.cellsOf 23 = 1 := by kernel_rfl
    have e25 : Tryz.prog.cellsOf 25 = 3 := by kernel_rfl
    have e26 : Tryz.prog.cellsOf 26 = 1 := by kernel_rfl
    have g0 : DataW.trod enc Tryz.prog w base spare held k 22 [c0] = some y0 := by have := hg 0 _ rfl; simpa [e22, Value.cells] using this
    have g1 : DataW.trod enc Tryz.prog w base spare held k 23 [c1] = some y1 := by have := hg 1 _ rfl; simpa [e23, Value.cells] using this
    have g2 : DataW.trod enc Tryz.prog w base spare held k 25 [c2, c3, c4] = some y2 := by have := hg 2 _ rfl; simpa [e25, Value.cells] using this
    have g3 : DataW.trod enc Tryz.prog w base spare held k 26 [c5] = some y3 := by have := hg 3 _ rfl; simpa [e26, Value.cells] using this
    obtain ⟨s0, zs, h0, r0, _, f0⟩ := ints_in g0
    obtain ⟨s1, f1, h1, r1, c1'⟩ := pin_cap g1
    obtain ⟨u, F, h2, r2, _⟩ := lists_in g2
    obtain ⟨s3, f3, h3, r3⟩ := bools_in g3
    simp only [List.cons.injEq, and_true] at h0 h1 h2 h3
    obtain ⟨rfl, rfl, rfl⟩ := h2
    subst h0 h1 h3
    refine ⟨⟨s0, s1, u, s3⟩, ⟨zs, f1, F, f3⟩, rfl, ⟨r0.1, r1, r2, r3⟩, f0, c1'⟩
end Go.Proofs.YtccjelpfmkbmiaaGreatDoor
end
section
namespace Go.Proofs.YtccjelpfmkbmiaaGreatDoor.Sh
open Go.Proofs.YtccjelpfmkbmiaaGreatDoor
open Go.ChangeShapes Go.WideShapes Go.ChangeAt Go.RowKit Go.Deep
set_option maxRecDepth 100000

theorem col_of {H : Type} {enc : TypeId × Value → H} {w : World} {base b0 : Nat} {spare : Nat → Bool} {held : Bool} {v : Value} {d : DataW H} {p : List MemPlace} {r : Reach}
    (hv : Value.okWide Tryz.prog w r b0 30 v) (h : DataW.Trod enc Tryz.prog w base spare held 30 v d p) :
    ∃ (k : Ks) (xs : List Int), v = (.agg #[.int .i64 k.ph, .int .i64 k.ep, .bool k.mj, .slice k.wk.a k.wk.n k.wk.c, .bool k.ov, .int .i64 k.pa, .int .i64 k.pf, .int .i64 k.ps, .int .i64 k.pc, .bool k.me]) ∧ WRow w w.heap.size k xs ∧ k.wk.n ≤ k.wk.c ∧ k.wk.c ≤ maxLen ∧ (Lit.int .i64 k.ep).wf = true := by
  obtain ⟨⟨l⟩, rfl, hsz⟩ := okWide_struct Tryz.underlying30 hv
  obtain ⟨fuel, hf⟩ := h
  obtain ⟨xs, k, _, hx, hl, hlen, hg⟩ := DataW.trod_struct Tryz.underlying30 hf
  have hl10 : l.length = 10 := hsz.trans (by kernel_rfl)
  match l, hl10, xs, hlen with
  | [c0, c1, c2, c3, c4, c5, c6, c7, c8, c9], _, [y0, y1, y2, y3, y4, y5, y6, y7, y8, y9], _ =>
    have e1 : Tryz.prog.cellsOf 3 = 1 := by kernel_rfl
    have e2 : Tryz.prog.cellsOf 4 = 1 := by kernel_rfl
    have e3 : Tryz.prog.cellsOf 22 = 1 := by kernel_rfl
    have g0 : DataW.trod enc Tryz.prog w base spare held k 3 [c0] = some y0 := by have := hg 0 _ rfl; simpa [e1, Value.cells] using this
    have g1 : DataW.trod enc Tryz.prog w base spare held k 3 [c1] = some y1 := by have := hg 1 _ rfl; simpa [e1, Value.cells] using this
    have g2 : DataW.trod enc Tryz.prog w base spare held k 4 [c2] = some y2 := by have := hg 2 _ rfl; simpa [e2, Value.cells] using this
    have g3 : DataW.trod enc Tryz.prog w base spare held k 22 [c3] = some y3 := by have := hg 3 _ rfl; simpa [e3, Value.cells] using this
    have g4 : DataW.trod enc Tryz.prog w base spare held k 4 [c4] = some y4 := by have := hg 4 _ rfl; simpa [e2, Value.cells] using this
    have g5 : DataW.trod enc Tryz.prog w base spare held k 3 [c5] = some y5 := by have := hg 5 _ rfl; simpa [e1, Value.cells] using this
    have g6 : DataW.trod enc Tryz.prog w base spare held k 3 [c6] = some y6 := by have := hg 6 _ rfl; simpa [e1, Value.cells] using this
    have g7 : DataW.trod enc Tryz.prog w base spare held k 3 [c7] = some y7 := by have := hg 7 _ rfl; simpa [e1, Value.cells] using this
    have g8 : DataW.trod enc Tryz.prog w base spare held k 3 [c8] = some y8 := by have := hg 8 _ rfl; simpa [e1, Value.cells] using this
    have g9 : DataW.trod enc Tryz.prog w base spare held k 4 [c9] = some y9 := by have := hg 9 _ rfl; simpa [e2, Value.cells] using this
    obtain ⟨n0, h0, _, _⟩ := DataW.trod_int Tryz.underlying3 g0
    obtain ⟨n1, h1, _, w1⟩ := DataW.trod_int Tryz.underlying3 g1
    obtain ⟨n2, h2, _⟩ := DataW.trod_bool Tryz.underlying4 g2
    obtain ⟨s3, zs, h3, r3, _, _⟩ := ints_in g3
    obtain ⟨n4, h4, _⟩ := DataW.trod_bool Tryz.underlying4 g4
    obtain ⟨n5, h5, _, _⟩ := DataW.trod_int Tryz.underlying3 g5
    obtain ⟨n6, h6, _, _⟩ := DataW.trod_int Tryz.underlying3 g6
    obtain ⟨n7, h7, _, _⟩ := DataW.trod_int Tryz.underlying3 g7
    obtain ⟨n8, h8, _, _⟩ := DataW.trod_int Tryz.underlying3 g8
    obtain ⟨n9, h9, _⟩ := DataW.trod_bool Tryz.underlying4 g9
    simp only [List.cons.injEq, and_true] at h0 h1 h2 h3 h4 h5 h6 h7 h8 h9
    subst h0 h1 h2 h3 h4 h5 h6 h7 h8 h9
    exact ⟨⟨n0, n1, n2, s3, n4, n5, n6, n7, n8, n9⟩, zs, rfl, r3.1, r3.2.1, r3.2.2, w1⟩
end Go.Proofs.YtccjelpfmkbmiaaGreatDoor.Sh
end
