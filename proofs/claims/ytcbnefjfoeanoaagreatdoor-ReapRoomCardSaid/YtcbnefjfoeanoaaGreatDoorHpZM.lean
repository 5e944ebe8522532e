/-
  Merged texts: RpP, HpSlab, PgTake, PgDrop.
-/
import Derived.Test.YtcbnefjfoeanoaaGreatDoorHpZL
section
namespace Go.Proofs.YtcbnefjfoeanoaaGreatDoor
open Go.RowKit
set_option maxRecDepth 100000

/-- The cells of page p that Free tells of. -/
def onFree (d : Hd_) (p : Nat) : List Int := Ls.inOf (16 + 16 * (p : Int)) (32 + 16 * (p : Int)) (d.F (d.f p).2.toNat)
def givenB (d : Hd_) (p : Nat) : Bool := decide ((d.f p).1 = 1) && !decide (((onFree d p).length : Int) < Cl.perPage (d.f p).2)
def gaveD (d : Hd_) (p : Nat) : Hd_ := ⟨d.ws, Cl.drop d.f p, Ls.upd d.F (d.f p).2.toNat (Ls.outOf (16 + 16 * (p : Int)) (32 + 16 * (p : Int)) (d.F (d.f p).2.toNat)), d.cs⟩
/-- A page is given back, if it may be. -/
def backD (d : Hd_) (p : Nat) : Hd_ := if givenB d p = true then gaveD d p else d
def flushTo (d : Hd_) : Nat → Hd_
  | 0 => d
  | k + 1 => backD (flushTo d k) k
def joinTo (d : Hd_) (G : Nat → List Int) (k : Nat) : Hd_ := ⟨d.ws, d.f, fun j => if j < k then d.F j ++ G j else d.F j, d.cs⟩
def joinD (d : Hd_) (G : Nat → List Int) : Hd_ := joinTo d G 3
def flushD (d : Hd_) (n : Nat) (G : Nat → List Int) : Hd_ := flushTo (joinD d G) n
theorem sub_len : ∀ {xs ys : List Int}, xs.Nodup → (∀ x ∈ xs, x ∈ ys) → ys.length ≤ xs.length → ∀ y ∈ ys, y ∈ xs
  | [], ys, _, _, hl, y, hy => by
    have : ys = [] := List.eq_nil_of_length_eq_zero (by simpa using hl)
    rw [this] at hy
    cases hy
  | a :: t, ys, hn, hs, hl, y, hy => by
    obtain ⟨ha, ht⟩ := List.nodup_cons.1 hn
    have ham : a ∈ ys := hs a List.mem_cons_self
    by_cases e : y = a
    · rw [e]; exact List.mem_cons_self
    · have h1 : (ys.erase a).length ≤ t.length := by
        rw [List.length_erase_of_mem ham]
        simp only [List.length_cons] at hl
        omega
      have h2 : ∀ x ∈ t, x ∈ ys.erase a := fun x hx => (List.mem_erase_of_ne (by rintro rfl; exact ha hx)).2 (hs x (List.mem_cons_of_mem _ hx))
      exact List.mem_cons_of_mem _ (sub_len ht h2 h1 y ((List.mem_erase_of_ne e).2 hy))
theorem isIn_iff {l h a : Int} : Ls.isIn l h a = true ↔ l ≤ a ∧ a < h := by simp [Ls.isIn]
theorem mem_inOf {l h x : Int} {xs : List Int} : x ∈ Ls.inOf l h xs ↔ x ∈ xs ∧ l ≤ x ∧ x < h := by
  unfold Ls.inOf
  rw [List.mem_filter, isIn_iff]
theorem mem_outOf {l h x : Int} {xs : List Int} : x ∈ Ls.outOf l h xs ↔ x ∈ xs ∧ ¬ (l ≤ x ∧ x < h) := by
  unfold Ls.outOf
  rw [List.mem_filter, Bool.not_eq_true', Bool.eq_false_iff, ne_eq, isIn_iff]
theorem out_count {l h x : Int} {xs : List Int} : (Ls.outOf l h xs).count x ≤ xs.count x := List.Sublist.count_le x List.filter_sublist
theorem out_same {l h x : Int} {xs : List Int} (hx : ¬ (l ≤ x ∧ x < h)) : (Ls.outOf l h xs).count x = xs.count x := by
  unfold Ls.outOf
  refine List.count_filter ?_
  rw [Bool.not_eq_true', Bool.eq_false_iff, ne_eq, isIn_iff]
  exact hx
theorem drop_one {f : Nat → Int × Int} {p q : Nat} (h : (f p).1 = 1) (hq : ¬ q = p) : Cl.drop f p q = f q := by
  unfold Cl.drop Cl.wide
  rw [if_neg (show ¬ (f p).1 = 2 by omega), if_neg (by omega)]
theorem drop_self {f : Nat → Int × Int} {p : Nat} (h : (f p).1 = 1) : Cl.drop f p p = (0, 0) := by
  unfold Cl.drop Cl.wide
  rw [if_neg (show ¬ (f p).1 = 2 by omega), if_pos (by omega)]
/-- Where a cell lies. -/
theorem page_range {x : Int} {p : Nat} (h : 16 ≤ x) : (x / 16 - 1).toNat = p ↔ 16 + 16 * (p : Int) ≤ x ∧ x < 32 + 16 * (p : Int) := by omega
section
variable {n r p : Nat} {a : Int} {d d' : Hd_} {G : Nat → List Int} {R : Nat → Nat → List Int}
theorem told_le {x : Int} {k : Nat} (hk : k < 3) : (d.F k).count x ≤ told d G r R x := by
  unfold told
  rw [count_upTo]
  rcases (show k = 0 ∨ k = 1 ∨ k = 2 by omega) with rfl | rfl | rfl <;> omega
theorem small_kind (hm : Cl.mayB d.f n = true) (hp : p < n) (h1 : (d.f p).1 = 1) : (d.f p).2.toNat < 3 ∧ d.f p = (1, (((d.f p).2.toNat : Nat) : Int)) := by
  have h := (Cl.pmB_iff _).1 (Cl.may_pm hm hp)
  exact ⟨by omega, Prod.ext h1 (by show (d.f p).2 = _; omega)⟩
theorem on_len (hm : Cl.mayB d.f n = true) (hp : p < n) (h1 : (d.f p).1 = 1) : ((Cl.onS d.f n p).length : Int) = Cl.perPage (d.f p).2 := by
  obtain ⟨hk, e⟩ := small_kind hm hp h1
  unfold Cl.onS
  rw [if_pos ⟨hm, by omega, by omega⟩, List.length_map, Cl.pageL_length, Int.toNat_natCast]
  rw [e]
  generalize (d.f p).2.toNat = k at hk
  rcases (show k = 0 ∨ k = 1 ∨ k = 2 by omega) with rfl | rfl | rfl <;> decide
theorem onFree_nodup (h : OkayBut n a d G r R) (hp : p < n) (h1 : (d.f p).1 = 1) : (onFree d p).Nodup := by
  obtain ⟨hk, _⟩ := small_kind h.may hp h1
  refine List.Nodup.sublist List.filter_sublist (List.nodup_iff_count.2 fun x => ?_)
  have := told_le (d := d) (G := G) (r := r) (R := R) (x := x) hk
  have := h.one x
  omega
theorem onFree_on (h : OkayBut n a d G r R) (hp : p < n) (h1 : (d.f p).1 = 1) {x : Int} (hx : x ∈ onFree d p) : x ∈ Cl.onS d.f n p := by
  obtain ⟨hk, _⟩ := small_kind h.may hp h1
  obtain ⟨h2, h3⟩ := mem_inOf.1 hx
  have hb := (free_facts (h.fF _ hk x h2)).1
  exact mem_on.2 ⟨hb, (page_range (bg_in16 hb)).2 h3⟩
theorem given_parts (hg : givenB d p = true) : (d.f p).1 = 1 ∧ Cl.perPage (d.f p).2 ≤ (onFree d p).length := by
  unfold givenB at hg
  simp only [Bool.and_eq_true, decide_eq_true_eq, Bool.not_eq_true', decide_eq_false_iff_not, Int.not_lt] at hg
  exact hg
/-- All cells of a page that is given back are told of by Free. -/
theorem given_all (h : OkayBut n a d G r R) (hp : p < n) (hg : givenB d p = true) {y : Int} (hy : ¬ Cl.bg d.f n y = 0) (hpg : (y / 16 - 1).toNat = p) : y ∈ d.F (d.f p).2.toNat := by
  obtain ⟨h1, h2⟩ := given_parts hg
  have hl := on_len h.may hp h1
  have := sub_len (onFree_nodup h hp h1) (fun x hx => onFree_on h hp h1 hx) (by omega) y (mem_on.2 ⟨hy, hpg⟩)
  exact (mem_inOf.1 this).1
theorem gave_may (hm : Cl.mayB d.f n = true) (hp : p < n) (hg : givenB d p = true) : Cl.mayB (gaveD d p).f n = true := Cl.drop_may hm hp (.inl (given_parts hg).1)
theorem gave_other (hm : Cl.mayB d.f n = true) (hp : p < n) (hg : givenB d p = true) {y : Int} (hpg : ¬ (y / 16 - 1).toNat = p) : pgAt (gaveD d p) y = pgAt d y ∧ Cl.bg (gaveD d p).f n y = Cl.bg d.f n y := by
  have h1 : pgAt (gaveD d p) y = pgAt d y := drop_one (given_parts hg).1 hpg
  exact ⟨h1, bg_local hm (gave_may hm hp hg) h1⟩
theorem gave_cell (hm : Cl.mayB d.f n = true) (hp : p < n) (hg : givenB d p = true) {y : Int} (hy : ¬ Cl.bg (gaveD d p).f n y = 0) : ¬ (y / 16 - 1).toNat = p ∧ ¬ Cl.bg d.f n y = 0 := by
  have h1 : ¬ (y / 16 - 1).toNat = p := cell_off hy (drop_self (given_parts hg).1)
  rw [(gave_other hm hp hg h1).2] at hy
  exact ⟨h1, hy⟩
theorem gave_keeps (hm : Cl.mayB d.f n = true) (hp : p < n) (hg : givenB d p = true) {x c : Int} (hx : freeH d n x c = true) (hne : ¬ (x / 16 - 1).toNat = p) : freeH (gaveD d p) n x c = true := by
  rw [free_local (d := d) (d' := gaveD d p) hm (gave_may hm hp hg) rfl (gave_other hm hp hg hne).1]
  exact hx
theorem told_gave {x : Int} (hk : (d.f p).2.toNat < 3) : told (gaveD d p) G r R x + (d.F (d.f p).2.toNat).count x = told d G r R x + (Ls.outOf (16 + 16 * (p : Int)) (32 + 16 * (p : Int)) (d.F (d.f p).2.toNat)).count x := by
  have h1 := upd_count (F := d.F) (xs := Ls.outOf (16 + 16 * (p : Int)) (32 + 16 * (p : Int)) (d.F (d.f p).2.toNat)) (x := x) hk
  unfold told gaveD
  simp only
  omega
/-- What caches tell of lies on no page that is given back. -/
theorem given_off (h : OkayBut n a d G r R) (hp : p < n) (hg : givenB d p = true) {x : Int} (hx : 0 < (Ls.upTo G 3).count x + (Ls.allOf R r).count x) : ¬ (x / 16 - 1).toNat = p := fun e => by
  obtain ⟨hk, _⟩ := small_kind h.may hp (given_parts hg).1
  have h0 : 0 < told d G r R x := by unfold told; omega
  obtain ⟨c, hc⟩ := told_free h h0
  have h1 := List.count_pos_iff.2 (given_all h hp hg (free_facts hc).1 e)
  have h2 : (d.F (d.f p).2.toNat).count x + ((Ls.upTo G 3).count x + (Ls.allOf R r).count x) ≤ told d G r R x := by
    unfold told
    rw [count_upTo d.F]
    generalize (d.f p).2.toNat = k at hk
    rcases (show k = 0 ∨ k = 1 ∨ k = 2 by omega) with rfl | rfl | rfl <;> omega
  have := h.one x
  omega
theorem Okay.gave (h : Okay n d G r R) (hp : p < n) (hg : givenB d p = true) : Okay n (gaveD d p) G r R := by
  obtain ⟨hk, e⟩ := small_kind h.may hp (given_parts hg).1
  refine ⟨gave_may h.may hp hg, fun y hy _ => ?_, fun j hj x hx => ?_, fun j hj x hx => ?_, fun i hi j hj x hx => ?_, fun x => ?_⟩
  · obtain ⟨h1, h2⟩ := gave_cell h.may hp hg hy
    rw [cell_local (d := d) (d' := gaveD d p) rfl (gave_other h.may hp hg h1).1]
    exact h.cell y h2 (bg_zero _ _ h2)
  · rcases upd_mem hx with ⟨rfl, hx2⟩ | ⟨hne, hx2⟩
    · obtain ⟨h1, h2⟩ := mem_outOf.1 hx2
      have hf := h.fF _ hj x h1
      exact gave_keeps h.may hp hg hf fun ep => h2 ((page_range (bg_in16 (free_facts hf).1)).1 ep)
    · have hf := h.fF j hj x hx2
      refine gave_keeps h.may hp hg hf fun ep => hne ?_
      have h3 := (free_facts hf).2.1
      unfold pgAt at h3
      rw [ep, e] at h3
      have := (Prod.mk.inj h3).2
      omega
  · exact gave_keeps h.may hp hg (h.fG j hj x hx) (given_off h hp hg (by have := List.count_pos_iff.2 (mem_upTo3.2 ⟨j, hj, hx⟩); omega))
  · exact gave_keeps h.may hp hg (h.fR i hi j hj x hx) (given_off h hp hg (by have := List.count_pos_iff.2 (mem_allOf.2 ⟨i, j, hi, hj, hx⟩); omega))
  · have h1 := told_gave (d := d) (p := p) (G := G) (r := r) (R := R) (x := x) hk
    have h2 := out_count (l := 16 + 16 * (p : Int)) (h := 32 + 16 * (p : Int)) (x := x) (xs := d.F (d.f p).2.toNat)
    have h3 := h.one x
    omega
theorem Full.gave (hF : Full n 0 d G r R) (hm : Cl.mayB d.f n = true) (hp : p < n) (hg : givenB d p = true) : Full n 0 (gaveD d p) G r R := fun y hy _ h0 => by
  obtain ⟨hk, _⟩ := small_kind hm hp (given_parts hg).1
  obtain ⟨h1, h2⟩ := gave_cell hm hp hg hy
  have h3 := hF y h2 (bg_zero _ _ h2) h0
  have h4 := told_gave (d := d) (p := p) (G := G) (r := r) (R := R) (x := y) hk
  rw [out_same fun hc => h1 ((page_range (bg_in16 h2)).2 hc)] at h4
  omega
end
/-- Pages may be given back: each object stays, and none is new. -/
structure Kept9 (n : Nat) (d d' : Hd_) : Prop where
  same : ∀ y, ¬ Cl.bg d.f n y = 0 → ¬ wd d y = 0 → Same4 n d d' y
  none : ∀ y, ¬ Cl.bg d'.f n y = 0 → ¬ Cl.bg d.f n y = 0
  ws : d'.ws = d.ws
  cs : d'.cs = d.cs
theorem Kept9.refl (n : Nat) (d : Hd_) : Kept9 n d d := ⟨fun _ _ _ => Same4.refl _ _ _, fun _ h => h, rfl, rfl⟩
theorem Kept9.word {n : Nat} {d d' : Hd_} (h : Kept9 n d d') (y : Int) : wd d' y = wd d y := by unfold wd; rw [h.ws]
theorem Kept9.trans {n : Nat} {d d' d2 : Hd_} (h : Kept9 n d d') (k : Kept9 n d' d2) : Kept9 n d d2 :=
  ⟨fun y h1 h2 => (h.same y h1 h2).trans (k.same y (by rw [(h.same y h1 h2).bg]; exact h1) (by rw [h.word]; exact h2)), fun y hy => h.none y (k.none y hy), k.ws.trans h.ws, k.cs.trans h.cs⟩
section
variable {n r p : Nat} {d d' : Hd_} {G : Nat → List Int} {R : Nat → Nat → List Int}
theorem Okay.back (h : Okay n d G r R) (hp : p < n) : Okay n (backD d p) G r R ∧ (Full n 0 d G r R → Full n 0 (backD d p) G r R) ∧ Kept9 n d (backD d p) := by
  unfold backD
  split
  · next hg =>
    refine ⟨h.gave hp hg, fun hF => hF.gave h.may hp hg, ⟨fun y hy hw => ?_, fun y hy => (gave_cell h.may hp hg hy).2, rfl, rfl⟩⟩
    have hne : ¬ (y / 16 - 1).toNat = p := fun e => by
      obtain ⟨hk, _⟩ := small_kind h.may hp (given_parts hg).1
      exact hw (free_facts (h.fF _ hk y (given_all h hp hg hy e))).2.2
    have := gave_other h.may hp hg hne
    exact ⟨this.2, this.1, fun _ _ _ => rfl⟩
  · exact ⟨h, id, Kept9.refl n d⟩
theorem Okay.flushTo (h : Okay n d G r R) : ∀ k, k ≤ n → Okay n (flushTo d k) G r R ∧ (Full n 0 d G r R → Full n 0 (Go.Proofs.YtcbnefjfoeanoaaGreatDoor.flushTo d k) G r R) ∧ Kept9 n d (Go.Proofs.YtcbnefjfoeanoaaGreatDoor.flushTo d k)
  | 0, _ => ⟨h, id, Kept9.refl n d⟩
  | k + 1, hk => by
    obtain ⟨h1, h2, h3⟩ := Okay.flushTo h k (by omega)
    obtain ⟨h4, h5, h6⟩ := h1.back (p := k) (by omega)
    exact ⟨h4, fun hF => h5 (h2 hF), h3.trans h6⟩
theorem told_join {x : Int} : told (joinD d G) Ls.noLists r R x = told d G r R x := by
  unfold told joinD joinTo
  rw [count_upTo, count_upTo, count_upTo, count_upTo]
  simp only [Ls.noLists, List.count_nil, if_pos (show 0 < 3 by decide), if_pos (show 1 < 3 by decide), if_pos (show 2 < 3 by decide), List.count_append]
  omega
theorem Okay.join (h : Okay n d G r R) : Okay n (joinD d G) Ls.noLists r R ∧ (Full n 0 d G r R → Full n 0 (joinD d G) Ls.noLists r R) ∧ Kept9 n d (joinD d G) := by
  refine ⟨⟨h.may, h.cell, fun j hj x hx => ?_, fun j hj x hx => (by cases hx), h.fR, fun x => by rw [told_join]; exact h.one x⟩, fun hF y h1 h2 h3 => by rw [told_join]; exact hF y h1 h2 h3, ⟨fun y _ _ => ⟨rfl, rfl, fun _ _ _ => rfl⟩, fun y hy => hy, rfl, rfl⟩⟩
  have hx' : x ∈ d.F j ++ G j := by
    have e : (joinD d G).F j = d.F j ++ G j := if_pos hj
    rwa [e] at hx
  rcases List.mem_append.1 hx' with hx | hx
  · exact h.fF j hj x hx
  · exact h.fG j hj x hx
/-- A cache is flushed. -/
theorem Okay.flush (h : Okay n d G r R) : Okay n (flushD d n G) Ls.noLists r R ∧ (Full n 0 d G r R → Full n 0 (flushD d n G) Ls.noLists r R) ∧ Kept9 n d (flushD d n G) := by
  obtain ⟨h1, h2, h3⟩ := h.join
  obtain ⟨h4, h5, h6⟩ := h1.flushTo n (Nat.le_refl _)
  exact ⟨h4, fun hF => h5 (h2 hF), h3.trans h6⟩
end
/-- A cell's words are noughts, and Free tells of it. -/
def pushD (d : Hd_) (n : Nat) (a : Int) : Hd_ := ⟨Ar.wipe d.ws (a - 16).toNat (Cl.bg d.f n a).toNat, d.f, Ls.upd d.F (pgAt d a).2.toNat (d.F (pgAt d a).2.toNat ++ [a]), d.cs⟩
def dropD (d : Hd_) (n : Nat) (a : Int) : Hd_ := ⟨Ar.wipe d.ws (a - 16).toNat (Cl.bg d.f n a).toNat, Cl.drop d.f (a / 16 - 1).toNat, d.F, d.cs⟩
/-- An object is given back. -/
def freedD (d : Hd_) (n : Nat) (a : Int) : Hd_ := if (pgAt d a).1 = 1 then backD (pushD d n a) (a / 16 - 1).toNat else dropD d n a
/-- What an object that is given back leaves. -/
structure Freed (n : Nat) (d : Hd_) (a : Int) (d' : Hd_) : Prop where
  okay : ∀ r G R, Okay n d G r R → Okay n d' G r R
  full : ∀ r G R, Okay n d G r R → Full n 0 d G r R → Full n 0 d' G r R
  keeps : ∀ y, ¬ Cl.bg d.f n y = 0 → ¬ wd d y = 0 → ¬ y = a → Same4 n d d' y
  none : ∀ y, ¬ Cl.bg d'.f n y = 0 → ¬ y = a → ¬ Cl.bg d.f n y = 0 ∧ wd d' y = wd d y
  gone : Cl.bg d'.f n a = 0 ∨ wd d' a = 0
  len : d'.ws.length = d.ws.length
  cs : d'.cs = d.cs
section
variable {n : Nat} {a : Int} {d : Hd_}
theorem wd_wiped {f : Nat → Int × Int} {F : Nat → List Int} {cs : Nat → Bool} (hb : ¬ Cl.bg d.f n a = 0) (hl : d.ws.length = 16 * n) {y : Int} (hy : 16 ≤ y) : wd ⟨Ar.wipe d.ws (a - 16).toNat (Cl.bg d.f n a).toNat, f, F, cs⟩ y = if a ≤ y ∧ y < a + Cl.bg d.f n a then 0 else wd d y := by
  have h1 := cell_end hb
  unfold wd
  simp only
  rw [Ar.wipe_getD _ _ _ _ (by omega)]
  by_cases e2 : a ≤ y ∧ y < a + Cl.bg d.f n a
  · rw [if_pos e2, if_pos ⟨by omega, by omega⟩]
  · rw [if_neg e2, if_neg (by omega)]
theorem wiped_other {f : Nat → Int × Int} {F : Nat → List Int} {cs : Nat → Bool} (hb : ¬ Cl.bg d.f n a = 0) (hl : d.ws.length = 16 * n) {y : Int} (hy : ¬ Cl.bg d.f n y = 0) (hne : ¬ y = a) : ∀ z, y ≤ z → z < y + Cl.bg d.f n y → wd ⟨Ar.wipe d.ws (a - 16).toNat (Cl.bg d.f n a).toNat, f, F, cs⟩ z = wd d z := fun z h1 h2 => by
  rw [wd_wiped hb hl (by have := bg_in16 hy; omega), if_neg]
  exact fun hc => hne (word_one hy hb ⟨h1, h2⟩ hc)
theorem wiped_at {f : Nat → Int × Int} {F : Nat → List Int} {cs : Nat → Bool} (hb : ¬ Cl.bg d.f n a = 0) (hl : d.ws.length = 16 * n) : wd ⟨Ar.wipe d.ws (a - 16).toNat (Cl.bg d.f n a).toNat, f, F, cs⟩ a = 0 := by
  have := cell_end hb
  rw [wd_wiped hb hl (by omega), if_pos ⟨by omega, by omega⟩]
theorem bg_self {y : Int} (hy : ¬ Cl.bg d.f n y = 0) : y < y + Cl.bg d.f n y := by have := cell_end hy; omega
theorem used_untold {r : Nat} {G : Nat → List Int} {R : Nat → Nat → List Int} (h : Okay n d G r R) (hw : ¬ wd d a = 0) : told d G r R a = 0 := Nat.eq_zero_of_not_pos fun hc => by
  obtain ⟨c, hc⟩ := told_free h hc
  exact hw (free_facts hc).2.2
theorem push_okay {r : Nat} {G : Nat → List Int} {R : Nat → Nat → List Int} (h : Okay n d G r R) (hb : ¬ Cl.bg d.f n a = 0) (hw : ¬ wd d a = 0) (hl : d.ws.length = 16 * n) (h1 : (pgAt d a).1 = 1) : Okay n (pushD d n a) G r R ∧ (Full n 0 d G r R → Full n 0 (pushD d n a) G r R) := by
  have hp := bg_page hb
  have hpn : (a / 16 - 1).toNat < n := by have := hp.2.1; have := hp.2.2.1; omega
  obtain ⟨hk, e⟩ := small_kind h.may hpn h1
  have hk' : (pgAt d a).2.toNat < 3 := hk
  have e' : pgAt d a = (1, (((pgAt d a).2.toNat : Nat) : Int)) := e
  have ht := used_untold h hw
  have hkeep : ∀ {x c : Int}, freeH d n x c = true → freeH (pushD d n a) n x c = true := fun {x c} hx => by
    have hf := free_facts hx
    have hne : ¬ x = a := fun e0 => hw (by rw [← e0]; exact hf.2.2)
    exact free_mk hf.1 hf.2.1 ((wiped_other hb hl hf.1 hne x (Int.le_refl _) (bg_self hf.1)).trans hf.2.2)
  have htold : ∀ x, told (pushD d n a) G r R x = told d G r R x + [a].count x := fun x => by
    have h2 := upd_count (F := d.F) (xs := d.F (pgAt d a).2.toNat ++ [a]) (x := x) hk'
    rw [List.count_append] at h2
    unfold told pushD
    simp only
    omega
  refine ⟨⟨h.may, fun y hy _ => ?_, fun j hj x hx => ?_, fun j hj x hx => hkeep (h.fG j hj x hx), fun i hi j hj x hx => hkeep (h.fR i hi j hj x hx), fun x => ?_⟩, fun hF y hy h0 hz => ?_⟩
  · by_cases ey : y = a
    · subst ey
      have hw0 : wd (pushD d n y) y = 0 := wiped_at hb hl
      unfold cellAt
      rw [show (pushD d n y).ws.getD (y - 16).toNat 0 = wd (pushD d n y) y from rfl, hw0, show (pushD d n y).f (y / 16 - 1).toNat = pgAt d y from rfl, e']
      rfl
    · have hy' : ¬ Cl.bg d.f n y = 0 := hy
      rw [cell_local (d := d) (d' := pushD d n a) (wiped_other hb hl hy' ey y (Int.le_refl _) (bg_self hy')) rfl]
      exact h.cell y hy' (bg_zero _ _ hy')
  · rcases upd_mem hx with ⟨rfl, hx2⟩ | ⟨_, hx2⟩
    · rcases List.mem_append.1 hx2 with hx3 | hx3
      · exact hkeep (h.fF _ hj x hx3)
      · obtain rfl := List.mem_singleton.1 hx3
        exact free_mk hb e' (wiped_at hb hl)
    · exact hkeep (h.fF j hj x hx2)
  · rw [htold]
    have := h.one x
    by_cases ex : x = a
    · subst ex
      rw [ht]
      simp
    · rw [List.count_eq_zero_of_not_mem (by simpa using ex)]
      omega
  · rw [htold]
    by_cases ey : y = a
    · subst ey
      simp
    · have hy' : ¬ Cl.bg d.f n y = 0 := hy
      have := hF y hy' (bg_zero _ _ hy') ((wiped_other (f := d.f) (F := Ls.upd d.F (pgAt d a).2.toNat (d.F (pgAt d a).2.toNat ++ [a])) (cs := d.cs) hb hl hy' ey y (Int.le_refl _) (bg_self hy')).symm.trans hz)
      omega
/-- A large object's pages. -/
theorem large_page (hb : ¬ Cl.bg d.f n a = 0) (h2 : (pgAt d a).1 = 2) : a = 16 + 16 * (((a / 16 - 1).toNat : Nat) : Int) := by
  have hp := bg_page hb
  rw [hp.2.2.2] at hb
  have h16 := hp.2.1
  have hm : a % 16 = 0 := Classical.byContradiction fun hn => hb (by
    unfold Cl.pg
    rw [if_neg (fun hc => hn hc.2), if_neg (fun hc => by have : (pgAt d a).1 = 1 := hc.1; omega)])
  omega
theorem dropL_off (hb : ¬ Cl.bg d.f n a = 0) (h2 : (pgAt d a).1 = 2) {y : Int} (hy : ¬ Cl.bg d.f n y = 0) (hne : ¬ y = a) : Cl.drop d.f (a / 16 - 1).toNat (y / 16 - 1).toNat = d.f (y / 16 - 1).toNat := by
  have hp := bg_page hb
  have hpn : (a / 16 - 1).toNat < n := by have := hp.2.1; have := hp.2.2.1; omega
  obtain ⟨w1, w4, wn, _, hj⟩ := Cl.wide_facts hp.1 hpn (.inr h2)
  have ea := large_page hb h2
  unfold Cl.drop
  rw [if_neg]
  rintro ⟨h3, h4⟩
  by_cases e : (y / 16 - 1).toNat = (a / 16 - 1).toNat
  · have hpy : (pgAt d y).1 = 2 := by unfold pgAt; rw [e]; exact h2
    have ey := large_page hy hpy
    rw [e] at ey
    omega
  · have h5 := (hj ((y / 16 - 1).toNat - (a / 16 - 1).toNat) (by omega)).2 (by omega)
    rw [show (a / 16 - 1).toNat + ((y / 16 - 1).toNat - (a / 16 - 1).toNat) = (y / 16 - 1).toNat by omega] at h5
    have hq := bg_page hy
    rw [hq.2.2.2, h5, pg_rest] at hy
    exact hy rfl
theorem dropL_cell (hb : ¬ Cl.bg d.f n a = 0) (h2 : (pgAt d a).1 = 2) {y : Int} (hy : ¬ Cl.bg (dropD d n a).f n y = 0) : ¬ y = a ∧ ¬ Cl.bg d.f n y = 0 := by
  have hp := bg_page hb
  have hpn : (a / 16 - 1).toNat < n := by have := hp.2.1; have := hp.2.2.1; omega
  have hmay : Cl.mayB (dropD d n a).f n = true := Cl.drop_may hp.1 hpn (.inr h2)
  by_cases hin : (a / 16 - 1).toNat ≤ (y / 16 - 1).toNat ∧ (((y / 16 - 1).toNat : Nat) : Int) < (a / 16 - 1).toNat + Cl.wide d.f (a / 16 - 1).toNat
  · exact absurd rfl (cell_off hy (show (dropD d n a).f (y / 16 - 1).toNat = (0, 0) from if_pos hin))
  · have e : (dropD d n a).f (y / 16 - 1).toNat = d.f (y / 16 - 1).toNat := if_neg hin
    rw [bg_local hp.1 hmay e] at hy
    refine ⟨fun e0 => hin ?_, hy⟩
    subst e0
    have := (Cl.wide_facts hp.1 hpn (.inr h2)).1
    omega
theorem Freed.large (hb : ¬ Cl.bg d.f n a = 0) (hw : ¬ wd d a = 0) (hl : d.ws.length = 16 * n) (h2 : (pgAt d a).1 = 2) : Freed n d a (dropD d n a) := by
  have hp := bg_page hb
  have hpn : (a / 16 - 1).toNat < n := by have := hp.2.1; have := hp.2.2.1; omega
  have hmay : Cl.mayB (dropD d n a).f n = true := Cl.drop_may hp.1 hpn (.inr h2)
  have hbg : ∀ {y : Int}, ¬ Cl.bg d.f n y = 0 → ¬ y = a → Cl.bg (dropD d n a).f n y = Cl.bg d.f n y := fun {y} hy hne => bg_local hp.1 hmay (dropL_off hb h2 hy hne)
  have hwd : ∀ {y : Int}, ¬ Cl.bg d.f n y = 0 → ¬ y = a → wd (dropD d n a) y = wd d y := fun {y} hy hne => wiped_other hb hl hy hne y (Int.le_refl _) (bg_self hy)
  have hkeep : ∀ {x c : Int}, freeH d n x c = true → freeH (dropD d n a) n x c = true := fun {x c} hx => by
    have hf := free_facts hx
    have hne : ¬ x = a := fun e0 => hw (by rw [← e0]; exact hf.2.2)
    exact free_mk (by rw [hbg hf.1 hne]; exact hf.1) ((dropL_off hb h2 hf.1 hne).trans hf.2.1) ((hwd hf.1 hne).trans hf.2.2)
  refine ⟨fun r G R h => ⟨hmay, fun y hy _ => ?_, fun j hj x hx => hkeep (h.fF j hj x hx), fun j hj x hx => hkeep (h.fG j hj x hx), fun i hi j hj x hx => hkeep (h.fR i hi j hj x hx), h.one⟩, fun r G R h hF y hy _ h0 => ?_, fun y hy _ hne => ⟨hbg hy hne, dropL_off hb h2 hy hne, wiped_other hb hl hy hne⟩, fun y hy hne => ?_, .inl ?_, Ar.wipe_length _ _ _, rfl⟩
  · obtain ⟨hne, hy'⟩ := dropL_cell hb h2 hy
    rw [cell_local (d := d) (d' := dropD d n a) (hwd hy' hne) (dropL_off hb h2 hy' hne)]
    exact h.cell y hy' (bg_zero _ _ hy')
  · obtain ⟨hne, hy'⟩ := dropL_cell hb h2 hy
    exact hF y hy' (bg_zero _ _ hy') ((hwd hy' hne).symm.trans h0)
  · obtain ⟨_, hy'⟩ := dropL_cell hb h2 hy
    exact ⟨hy', hwd hy' hne⟩
  · exact Classical.byContradiction fun hc => (dropL_cell hb h2 hc).1 rfl
theorem Freed.small {r0 : Nat} {G0 : Nat → List Int} {R0 : Nat → Nat → List Int} (h0 : Okay n d G0 r0 R0) (hb : ¬ Cl.bg d.f n a = 0) (hw : ¬ wd d a = 0) (hl : d.ws.length = 16 * n) (h1 : (pgAt d a).1 = 1) : Freed n d a (backD (pushD d n a) (a / 16 - 1).toNat) := by
  have hp := bg_page hb
  have hpn : (a / 16 - 1).toNat < n := by have := hp.2.1; have := hp.2.2.1; omega
  have hP := push_okay h0 hb hw hl h1
  obtain ⟨_, _, K⟩ := hP.1.back (p := (a / 16 - 1).toNat) hpn
  have hwd : ∀ {y : Int}, ¬ Cl.bg d.f n y = 0 → ¬ y = a → wd (pushD d n a) y = wd d y := fun {y} hy hne => wiped_other hb hl hy hne y (Int.le_refl _) (bg_self hy)
  have hs : ∀ {y : Int}, ¬ Cl.bg d.f n y = 0 → ¬ y = a → Same4 n d (pushD d n a) y := fun {y} hy hne => ⟨rfl, rfl, wiped_other hb hl hy hne⟩
  refine ⟨fun r G R h => ?_, fun r G R h hF => ?_, fun y hy hwy hne => (hs hy hne).trans (K.same y hy (by rw [hwd hy hne]; exact hwy)), fun y hy hne => ?_, .inr ?_, ?_, K.cs⟩
  · exact ((push_okay h hb hw hl h1).1.back hpn).1
  · have := push_okay h hb hw hl h1
    exact (this.1.back hpn).2.1 (this.2 hF)
  · have hy' : ¬ Cl.bg d.f n y = 0 := K.none y hy
    exact ⟨hy', by rw [K.word]; exact hwd hy' hne⟩
  · rw [K.word]; exact wiped_at hb hl
  · rw [K.ws]; exact Ar.wipe_length _ _ _
theorem kind_of (hb : ¬ Cl.bg d.f n a = 0) : (pgAt d a).1 = 1 ∨ (pgAt d a).1 = 2 := by
  have := page_of (d := d) (mem_allS.2 hb)
  omega
/-- An object is given back. -/
theorem freed {r : Nat} {G : Nat → List Int} {R : Nat → Nat → List Int} (h : Okay n d G r R) (hb : ¬ Cl.bg d.f n a = 0) (hw : ¬ wd d a = 0) (hl : d.ws.length = 16 * n) : Freed n d a (freedD d n a) := by
  unfold freedD
  rcases kind_of hb with h1 | h2
  · rw [if_pos h1]
    exact Freed.small h hb hw hl h1
  · rw [if_neg (by omega)]
    exact Freed.large hb hw hl h2
end
end Go.Proofs.YtcbnefjfoeanoaaGreatDoor
end
section
namespace Go.Proofs.YtcbnefjfoeanoaaGreatDoor
open Go.RowKit
set_option maxRecDepth 100000

theorem hbox_same {W W' : World} {b : Nat} {t : Hs} (h : HBox W b t) (hs : W'.heap[b]? = W.heap[b]?) (hl : W.heap.size ≤ W'.heap.size) : HBox W' b t :=
  ⟨(World.cell?_of_block (a := ⟨b, 0, none⟩) hs).trans h.c0, (World.cell?_of_block (a := ⟨b, 1, none⟩) hs).trans h.c1, (World.cell?_of_block (a := ⟨b, 2, none⟩) hs).trans h.c2, (World.cell?_of_block (a := ⟨b, 3, none⟩) hs).trans h.c3, (World.cell?_of_block (a := ⟨b, 4, none⟩) hs).trans h.c4, (World.cell?_of_block (a := ⟨b, 5, none⟩) hs).trans h.c5, Nat.lt_of_lt_of_le h.lt hl⟩
/-- All cells of a block hold slices. -/
def Slices (W : World) (b : Nat) : Prop := ∀ j v, W.cell? ⟨b, j, none⟩ = some v → ∃ a n c, v = .slice a n c
theorem Slices.row {W : World} {b B n : Nat} {a : Option Addr} {xs : List Int} (h : Slices W b) (hr : Row W B a n xs) : 0 < n → ∀ x, a = some x → ¬ x.block = b := fun hn x hx e => by
  obtain ⟨b', off, e', _, hc⟩ := hr.2 hn
  rw [hx] at e'
  cases e'
  subst e
  obtain ⟨_, _, _, hv⟩ := h _ _ (hc 0 hn)
  cases hv
theorem Slices.prow {W : World} {b B n : Nat} {a : Option Addr} {f : Nat → Int × Int} (h : Slices W b) (hr : Cl.PRow W B a n f) : 0 < n → ∀ x, a = some x → ¬ x.block = b := fun hn x hx e => by
  obtain ⟨b', off, e', _, hc⟩ := hr hn
  rw [hx] at e'
  cases e'
  subst e
  obtain ⟨_, _, _, hv⟩ := h _ _ (hc 0 hn).1
  cases hv
theorem Slices.brow {W : World} {b B n : Nat} {a : Option Addr} {f : Nat → Bool} (h : Slices W b) (hr : BRow W B a n f) : 0 < n → ∀ x, a = some x → ¬ x.block = b := fun hn x hx e => by
  obtain ⟨b', off, e', _, hc⟩ := hr hn
  rw [hx] at e'
  cases e'
  subst e
  obtain ⟨_, _, _, hv⟩ := h _ _ (hc 0 hn)
  cases hv
theorem Slices.same {W W' : World} {b : Nat} (h : Slices W b) (hs : W'.heap[b]? = W.heap[b]?) : Slices W' b := fun j v hv => h j v ((World.cell?_of_block (a := ⟨b, j, none⟩) hs).symm.trans hv)
theorem cell_set_none {W : World} {b j : Nat} {v : Value} (h : W.cell? ⟨b, j, none⟩ = none) : (W.setCell ⟨b, j, none⟩ v).cell? ⟨b, j, none⟩ = none := by
  unfold World.cell? at h ⊢
  unfold World.setCell
  simp only [Array.getElem?_modify, if_true]
  cases hb : W.heap[b]? with
  | none => rfl
  | some o =>
    cases o with
    | cells c e f =>
      rw [hb] at h
      simp at h
      simp [h]
    | _ => rfl
theorem Slices.set {W : World} {b k : Nat} {a : Option Addr} {n c : Nat} (h : Slices W b) : Slices (W.setCell ⟨b, k, none⟩ (.slice a n c)) b := fun j v hv => by
  by_cases e : j = k
  · subst e
    cases hc : W.cell? ⟨b, j, none⟩ with
    | none => rw [cell_set_none hc] at hv; cases hv
    | some x =>
      rw [World.cell?_setCell_same' _ _ _ (by rw [hc]; rfl)] at hv
      cases hv
      exact ⟨a, n, c, rfl⟩
  · rw [World.cell?_setCell_other _ _ _ _ (by intro hh; simp only [Addr.mk.injEq, true_and, and_true] at hh; omega)] at hv
    exact h j v hv
/-- Rows stand where another block alone is turned. -/
theorem l3_turn {W W' : World} {b : Nat} {u : Nat → Ls.Sl} {F : Nat → List Int} (hS : Slices W b) (h : Ls.L3 W W.heap.size u F) (hs : ∀ i, ¬ i = b → W'.heap[i]? = W.heap[i]?) (hl : W.heap.size = W'.heap.size) : Ls.L3 W' W'.heap.size u F := fun j hj => by
  rw [← hl]
  exact ⟨row_same (h j hj).1 fun hn x hx => hs _ (hS.row (h j hj).1 hn x hx), (h j hj).2⟩
theorem hp_turn {W W' : World} {b : Nat} {t : Hs} {d : Hd_} (hS : Slices W b) (h : Hp W W.heap.size t d) (hs : ∀ i, ¬ i = b → W'.heap[i]? = W.heap[i]?) (hl : W.heap.size = W'.heap.size) : Hp W' W'.heap.size t d := by
  refine ⟨?_, fun hn => ?_, l3_turn hS h.free hs hl, fun hn => ?_⟩
  · rw [← hl]
    exact row_same h.words fun hn x hx => hs _ (hS.row h.words hn x hx)
  · obtain ⟨b', off, e, hlt, hc⟩ := h.pages hn
    rw [← hl]
    refine ⟨b', off, e, hlt, fun i hi => ?_⟩
    have hb' := hs b' (hS.prow h.pages hn _ e)
    exact ⟨(World.cell?_of_block (a := ⟨b', off + i * 2, none⟩) hb').trans (hc i hi).1, (World.cell?_of_block (a := ⟨b', off + i * 2 + 1, none⟩) hb').trans (hc i hi).2⟩
  · obtain ⟨b', off, e, hlt, hc⟩ := h.cards hn
    rw [← hl]
    refine ⟨b', off, e, hlt, fun i hi => ?_⟩
    exact (World.cell?_of_block (a := ⟨b', off + i, none⟩) (hs b' (hS.brow h.cards hn _ e))).trans (hc i hi)
theorem set_others {W : World} {b k : Nat} {v : Value} : ∀ i, ¬ i = b → (W.setCell ⟨b, k, none⟩ v).heap[i]? = W.heap[i]? := fun _ hi => Below.heap_setCell _ _ _ _ hi
theorem set3_others {W : World} {b k0 k1 k2 : Nat} {v0 v1 v2 : Value} : ∀ i, ¬ i = b → (((W.setCell ⟨b, k0, none⟩ v0).setCell ⟨b, k1, none⟩ v1).setCell ⟨b, k2, none⟩ v2).heap[i]? = W.heap[i]? := fun i hi => ((set_others i hi).trans (set_others i hi)).trans (set_others i hi)
theorem set_size {W : World} {p : Addr} {v : Value} : (W.setCell p v).heap.size = W.heap.size := by simp [World.setCell]
theorem slices6 (w : World) (t : Hs) (ty : TypeId) : Slices (w.alloc (.cells #[.slice t.w.a t.w.n t.w.c, .slice t.p.a t.p.n t.p.c, .slice (t.u 0).a (t.u 0).n (t.u 0).c, .slice (t.u 1).a (t.u 1).n (t.u 1).c, .slice (t.u 2).a (t.u 2).n (t.u 2).c, .slice t.c.a t.c.n t.c.c] ty)) w.heap.size := fun j v hv => by
  rcases j with _ | _ | _ | _ | _ | _ | j
  · simp [go_sem] at hv; exact ⟨_, _, _, hv.symm⟩
  · simp [go_sem] at hv; exact ⟨_, _, _, hv.symm⟩
  · simp [go_sem] at hv; exact ⟨_, _, _, hv.symm⟩
  · simp [go_sem] at hv; exact ⟨_, _, _, hv.symm⟩
  · simp [go_sem] at hv; exact ⟨_, _, _, hv.symm⟩
  · simp [go_sem] at hv; exact ⟨_, _, _, hv.symm⟩
  · simp [go_sem] at hv
/-- A box of a heap, or of what is made of one. -/
structure Rm (W : World) (b : Nat) (t : Hs) : Prop where
  box : Box6 W b t
  sl : Slices W b
section
variable {w W W' : World} {b : Nat} {t t' : Hs} {d d' : Hd_}
theorem Rm.same (h : Rm W b t) (hs : W'.heap[b]? = W.heap[b]?) (hl : W.heap.size ≤ W'.heap.size) : Rm W' b t := ⟨h.box.same hs hl, h.sl.same hs⟩
theorem Rm.next (h : Rm W b t) (hb : Below W.heap.size W W') : Rm W' b t := h.same (hb.block b h.box.box.lt) hb.size
theorem Rm.new (w : World) (t : Hs) (ty : TypeId) : Rm (w.alloc (.cells #[.slice t.w.a t.w.n t.w.c, .slice t.p.a t.p.n t.p.c, .slice (t.u 0).a (t.u 0).n (t.u 0).c, .slice (t.u 1).a (t.u 1).n (t.u 1).c, .slice (t.u 2).a (t.u 2).n (t.u 2).c, .slice t.c.a t.c.n t.c.c] ty)) w.heap.size t :=
  ⟨⟨HBox.new w t ty, fun j => by simp [go_sem]⟩, slices6 w t ty⟩
theorem Rm.set (h : Rm W b t) (k : Nat) (a : Option Addr) (n c : Nat)
    (e0 : Value.slice t'.w.a t'.w.n t'.w.c = if 0 = k then .slice a n c else .slice t.w.a t.w.n t.w.c) (e1 : Value.slice t'.p.a t'.p.n t'.p.c = if 1 = k then .slice a n c else .slice t.p.a t.p.n t.p.c)
    (e2 : Value.slice (t'.u 0).a (t'.u 0).n (t'.u 0).c = if 2 = k then .slice a n c else .slice (t.u 0).a (t.u 0).n (t.u 0).c) (e3 : Value.slice (t'.u 1).a (t'.u 1).n (t'.u 1).c = if 3 = k then .slice a n c else .slice (t.u 1).a (t.u 1).n (t.u 1).c)
    (e4 : Value.slice (t'.u 2).a (t'.u 2).n (t'.u 2).c = if 4 = k then .slice a n c else .slice (t.u 2).a (t.u 2).n (t.u 2).c) (e5 : Value.slice t'.c.a t'.c.n t'.c.c = if 5 = k then .slice a n c else .slice t.c.a t.c.n t.c.c) : Rm (W.setCell ⟨b, k, none⟩ (.slice a n c)) b t' :=
  ⟨⟨⟨cell_set h.box.box.c0 e0, cell_set h.box.box.c1 e1, cell_set h.box.box.c2 e2, cell_set h.box.box.c3 e3, cell_set h.box.box.c4 e4, cell_set h.box.box.c5 e5, by simpa [World.setCell] using h.box.box.lt⟩, frozen_set h.box.free⟩, h.sl.set⟩
/-- A box, and the heap that it holds, in the midst of a call. -/
structure Ro (w W : World) (b : Nat) (t : Hs) (d : Hd_) : Prop where
  bel : Below w.heap.size w W
  hi : w.heap.size ≤ b
  rm : Rm W b t
  hp : Hp W W.heap.size t d
theorem Ro.next (h : Ro w W b t d) (hb : Below W.heap.size W W') : Ro w W' b t d := ⟨h.bel.trans (hb.mono h.bel.size), h.hi, h.rm.next hb, h.hp.next hb⟩
theorem Ro.drew (h : Ro w W b t d) : Ro w W.drew b t d := h.next (below_drawn' (Below.refl _ _) 1)
/-- The box is turned, to what lies in memory already. -/
theorem Ro.turn (h : Ro w W b t d) (hr : Rm W' b t') (hb : Below w.heap.size w W') (hs : ∀ i, ¬ i = b → W'.heap[i]? = W.heap[i]?) (hl : W.heap.size = W'.heap.size) (hp : Hp W W.heap.size t' d') : Ro w W' b t' d' :=
  ⟨hb, h.hi, hr, hp_turn h.rm.sl hp hs hl⟩
theorem Ro.words (h : Ro w W b t d) (v : Ls.Sl) (ws : List Int) (hr : Row W W.heap.size v.a v.n ws) : Ro w (W.setCell ⟨b, 0, none⟩ (.slice v.a v.n v.c)) b ⟨v, t.p, t.u, t.c⟩ ⟨ws, d.f, d.F, d.cs⟩ :=
  h.turn (h.rm.set 0 _ _ _ rfl rfl rfl rfl rfl rfl) (h.bel.setCell (p := ⟨b, 0, none⟩) h.hi _) set_others set_size.symm ⟨hr, h.hp.pages, h.hp.free, h.hp.cards⟩
theorem Ro.pages (h : Ro w W b t d) (v : Ls.Sl) (f : Nat → Int × Int) (hr : Cl.PRow W W.heap.size v.a v.n f) : Ro w (W.setCell ⟨b, 1, none⟩ (.slice v.a v.n v.c)) b ⟨t.w, v, t.u, t.c⟩ ⟨d.ws, f, d.F, d.cs⟩ :=
  h.turn (h.rm.set 1 _ _ _ rfl rfl rfl rfl rfl rfl) (h.bel.setCell (p := ⟨b, 1, none⟩) h.hi _) set_others set_size.symm ⟨h.hp.words, hr, h.hp.free, h.hp.cards⟩
theorem Ro.cards (h : Ro w W b t d) (v : Ls.Sl) (cs : Nat → Bool) (hr : BRow W W.heap.size v.a v.n cs) : Ro w (W.setCell ⟨b, 5, none⟩ (.slice v.a v.n v.c)) b ⟨t.w, t.p, t.u, v⟩ ⟨d.ws, d.f, d.F, cs⟩ :=
  h.turn (h.rm.set 5 _ _ _ rfl rfl rfl rfl rfl rfl) (h.bel.setCell (p := ⟨b, 5, none⟩) h.hi _) set_others set_size.symm ⟨h.hp.words, h.hp.pages, h.hp.free, hr⟩
def triS (a b c : Ls.Sl) : Nat → Ls.Sl := fun | 0 => a | 1 => b | _ => c
theorem Rm.free3 (h : Rm W b t) (v : Nat → Ls.Sl) : Rm (((W.setCell ⟨b, 2, none⟩ (.slice (v 0).a (v 0).n (v 0).c)).setCell ⟨b, 3, none⟩ (.slice (v 1).a (v 1).n (v 1).c)).setCell ⟨b, 4, none⟩ (.slice (v 2).a (v 2).n (v 2).c)) b ⟨t.w, t.p, v, t.c⟩ := by
  have h1 := h.set (t' := ⟨t.w, t.p, triS (v 0) (t.u 1) (t.u 2), t.c⟩) 2 (v 0).a (v 0).n (v 0).c rfl rfl rfl rfl rfl rfl
  have h2 := h1.set (t' := ⟨t.w, t.p, triS (v 0) (v 1) (t.u 2), t.c⟩) 3 (v 1).a (v 1).n (v 1).c rfl rfl rfl rfl rfl rfl
  exact h2.set (t' := ⟨t.w, t.p, v, t.c⟩) 4 (v 2).a (v 2).n (v 2).c rfl rfl rfl rfl rfl rfl
theorem Ro.free3 (h : Ro w W b t d) (v : Nat → Ls.Sl) (F : Nat → List Int) (hl : Ls.L3 W W.heap.size v F) : Ro w (((W.setCell ⟨b, 2, none⟩ (.slice (v 0).a (v 0).n (v 0).c)).setCell ⟨b, 3, none⟩ (.slice (v 1).a (v 1).n (v 1).c)).setCell ⟨b, 4, none⟩ (.slice (v 2).a (v 2).n (v 2).c)) b ⟨t.w, t.p, v, t.c⟩ ⟨d.ws, d.f, F, d.cs⟩ :=
  h.turn (h.rm.free3 v) (((h.bel.setCell (p := ⟨b, 2, none⟩) h.hi _).setCell (p := ⟨b, 3, none⟩) h.hi _).setCell (p := ⟨b, 4, none⟩) h.hi _) set3_others (by simp) ⟨h.hp.words, h.hp.pages, hl, h.hp.cards⟩
/-- A whole heap is stored into the box. -/
theorem Rm.put (h : Rm W b t) (t' : Hs) : Rm (put6 W b (.slice t'.w.a t'.w.n t'.w.c) (.slice t'.p.a t'.p.n t'.p.c) (.slice (t'.u 0).a (t'.u 0).n (t'.u 0).c) (.slice (t'.u 1).a (t'.u 1).n (t'.u 1).c) (.slice (t'.u 2).a (t'.u 2).n (t'.u 2).c) (.slice t'.c.a t'.c.n t'.c.c)) b t' := by
  have h1 := h.set (t' := ⟨t'.w, t.p, t.u, t.c⟩) 0 t'.w.a t'.w.n t'.w.c rfl rfl rfl rfl rfl rfl
  have h2 := h1.set (t' := ⟨t'.w, t'.p, t.u, t.c⟩) 1 t'.p.a t'.p.n t'.p.c rfl rfl rfl rfl rfl rfl
  have h3 := h2.free3 t'.u
  exact h3.set (t' := t') 5 t'.c.a t'.c.n t'.c.c rfl rfl rfl rfl rfl rfl
theorem Ro.put (h : Ro w W b t d) (hp : Hp W W.heap.size t' d') : Ro w (put6 W b (.slice t'.w.a t'.w.n t'.w.c) (.slice t'.p.a t'.p.n t'.p.c) (.slice (t'.u 0).a (t'.u 0).n (t'.u 0).c) (.slice (t'.u 1).a (t'.u 1).n (t'.u 1).c) (.slice (t'.u 2).a (t'.u 2).n (t'.u 2).c) (.slice t'.c.a t'.c.n t'.c.c)) b t' d' :=
  h.turn (h.rm.put t') (below_put6 h.bel h.hi _ _ _ _ _ _) (fun _ hi => put6_other _ _ _ _ _ _ _ _ hi) (put6_size _ _ _ _ _ _ _ _).symm hp
/-- The result's cell is turned: all else stands. -/
theorem Ro.res {rb : Nat} {t0 : Hs} (h : Ro w W b t d) (hr : Rm W rb t0) (hi : w.heap.size ≤ rb) (t' : Hs) : Hp (put6 W rb (.slice t'.w.a t'.w.n t'.w.c) (.slice t'.p.a t'.p.n t'.p.c) (.slice (t'.u 0).a (t'.u 0).n (t'.u 0).c) (.slice (t'.u 1).a (t'.u 1).n (t'.u 1).c) (.slice (t'.u 2).a (t'.u 2).n (t'.u 2).c) (.slice t'.c.a t'.c.n t'.c.c)) (put6 W rb (.slice t'.w.a t'.w.n t'.w.c) (.slice t'.p.a t'.p.n t'.p.c) (.slice (t'.u 0).a (t'.u 0).n (t'.u 0).c) (.slice (t'.u 1).a (t'.u 1).n (t'.u 1).c) (.slice (t'.u 2).a (t'.u 2).n (t'.u 2).c) (.slice t'.c.a t'.c.n t'.c.c)).heap.size t d ∧
    Below w.heap.size w (put6 W rb (.slice t'.w.a t'.w.n t'.w.c) (.slice t'.p.a t'.p.n t'.p.c) (.slice (t'.u 0).a (t'.u 0).n (t'.u 0).c) (.slice (t'.u 1).a (t'.u 1).n (t'.u 1).c) (.slice (t'.u 2).a (t'.u 2).n (t'.u 2).c) (.slice t'.c.a t'.c.n t'.c.c)) :=
  ⟨hp_turn hr.sl h.hp (fun _ hi => put6_other _ _ _ _ _ _ _ _ hi) (put6_size _ _ _ _ _ _ _ _).symm, below_put6 h.bel hi _ _ _ _ _ _⟩
theorem ro_start {ty : TypeId} (hp : Hp w w.heap.size t d) : Ro w (w.alloc (.cells #[.slice t.w.a t.w.n t.w.c, .slice t.p.a t.p.n t.p.c, .slice (t.u 0).a (t.u 0).n (t.u 0).c, .slice (t.u 1).a (t.u 1).n (t.u 1).c, .slice (t.u 2).a (t.u 2).n (t.u 2).c, .slice t.c.a t.c.n t.c.c] ty)) w.heap.size t d :=
  have b1 : Below w.heap.size w _ := (Below.refl _ _).alloc (Nat.le_refl _) _
  ⟨b1, Nat.le_refl _, Rm.new w t ty, hp.next b1⟩
end
/-- A heap was returned. -/
def RoOut (w : World) (s : Hs) (d : Hd_) (e : Ending) (w' : World) : Prop :=
  ∃ t : Hs, e = .returned (.agg #[.slice t.w.a t.w.n t.w.c, .slice t.p.a t.p.n t.p.c, .slice (t.u 0).a (t.u 0).n (t.u 0).c, .slice (t.u 1).a (t.u 1).n (t.u 1).c, .slice (t.u 2).a (t.u 2).n (t.u 2).c, .slice t.c.a t.c.n t.c.c]) ∧ Hp w' w'.heap.size t d ∧ (t.w.n = s.w.n ∧ t.p.n = s.p.n ∧ t.c.n = s.c.n) ∧ Below w.heap.size w w'
end Go.Proofs.YtcbnefjfoeanoaaGreatDoor
end
section
namespace Go.Proofs.YtcbnefjfoeanoaaGreatDoor.Cl
open Go.Proofs.YtcbnefjfoeanoaaGreatDoor
set_option maxRecDepth 100000
open Go.RowKit

def outN (err : Int) (n : Nat) : Nat := if err = 0 then n else 0
theorem PMine.lower {w : World} {base base' e g n c : Nat} {f : Nat → Int × Int} (h : PMine w base e g n c f) (hb : base' ≤ base) : PMine w base' e g n c f := by
  refine ⟨⟨h.1.1, ?_⟩, by have := h.2.1; omega, h.2.2⟩
  rcases h.1.2 with h2 | ⟨g', cap, cur, hv, hb', hr⟩
  · exact .inl h2
  · exact .inr ⟨g', cap, cur, hv, by omega, hr⟩
/-- An error and no pages, or n pages; all that was there is as it was. -/
def TOut (w : World) (err : Int) (n : Nat) (g : Nat → Int × Int) (e : Ending) (w' : World) : Prop :=
  ∃ A c, e = .returned (.tuple #[.slice A (outN err n) c, .int .i64 err]) ∧ PRow w' w'.heap.size A (outN err n) g ∧ outN err n ≤ c ∧ Below w.heap.size w w'
theorem tout_err {w w' : World} {err : Int} {n : Nat} {g : Nat → Int × Int} {e : Ending} {E : Int} (he : e = .returned (.tuple #[.slice none 0 0, .int .i64 E])) (hE : err = E) (h0 : E ≠ 0) (hb : Below w.heap.size w w') : TOut w err n g e w' := by
  subst hE
  have e0 : outN err n = 0 := if_neg h0
  unfold TOut
  rw [e0]
  exact ⟨none, 0, he, PRow.empty _ _ _ _, Nat.le_refl _, hb⟩
theorem tout_ok {w w' : World} {err : Int} {n b c : Nat} {g f : Nat → Int × Int} {e : Ending} (he : e = .returned (.tuple #[.slice (some ⟨b, 0, none⟩) n c, .int .i64 0])) (hE : err = 0)
    (h : PMine w' w.heap.size 81 b n c f) (hg : ∀ i, i < n → g i = f i) (hb : Below w.heap.size w w') : TOut w err n g e w' := by
  subst hE
  have e0 : outN 0 n = n := if_pos rfl
  unfold TOut
  rw [e0]
  exact ⟨_, c, he, h.row.congr hg, h.2.2.2.1, hb⟩

/-- The error of taking m pages from a place on. -/
def takeE (f : Nat → Int × Int) (n : Nat) (at_ m : Int) : Int := if mayB f n = false then 1 else if at_ < 0 ∨ (n : Int) - m < at_ then 3 else if freeB f at_.toNat m.toNat = true then 0 else 4
theorem takeE_may {f : Nat → Int × Int} {n : Nat} {at_ m : Int} (h : mayB f n = false) : takeE f n at_ m = 1 := if_pos h
theorem takeE_none {f : Nat → Int × Int} {n : Nat} {at_ m : Int} (h : mayB f n = true) (ha : at_ < 0 ∨ (n : Int) - m < at_) : takeE f n at_ m = 3 := by
  unfold takeE
  rw [if_neg (by rw [h]; decide), if_pos ha]
theorem takeE_full {f : Nat → Int × Int} {n : Nat} {at_ m : Int} (h : mayB f n = true) (ha : ¬ (at_ < 0 ∨ (n : Int) - m < at_)) (hf : freeB f at_.toNat m.toNat = false) : takeE f n at_ m = 4 := by
  unfold takeE
  rw [if_neg (by rw [h]; decide), if_neg ha, if_neg (by rw [hf]; decide)]
theorem takeE_ok {f : Nat → Int × Int} {n : Nat} {at_ m : Int} (h : mayB f n = true) (ha : ¬ (at_ < 0 ∨ (n : Int) - m < at_)) (hf : freeB f at_.toNat m.toNat = true) : takeE f n at_ m = 0 := by
  unfold takeE
  rw [if_neg (by rw [h]; decide), if_neg ha, if_pos hf]
def smallE (f : Nat → Int × Int) (n : Nat) (at_ c : Int) : Int := if clB c = true then takeE f n at_ 1 else 1
def smallF (f : Nat → Int × Int) (at_ c : Int) : Nat → Int × Int := put f at_.toNat (1, c)
def largeE (f : Nat → Int × Int) (n : Nat) (at_ m : Int) : Int := if runB m = true then takeE f n at_ m else 1
def largeF (f : Nat → Int × Int) (at_ m : Int) : Nat → Int × Int := large f at_.toNat m
def dropE (f : Nat → Int × Int) (n : Nat) (at_ : Int) : Int := if mayB f n = false then 1 else if at_ < 0 ∨ (n : Int) ≤ at_ then 3 else if (f at_.toNat).1 = 1 ∨ (f at_.toNat).1 = 2 then 0 else 3
def dropF (f : Nat → Int × Int) (at_ : Int) : Nat → Int × Int := drop f at_.toNat

/-- m pages from a on, the first of them p. -/
def took (f : Nat → Int × Int) (a m : Nat) (p : Int × Int) : Nat → Int × Int := put (fillF f a m (3, 0)) a p
theorem took_small (f : Nat → Int × Int) (a : Nat) (c : Int) (i : Nat) : put f a (1, c) i = took f a 1 (1, c) i := by
  unfold took put fillF
  by_cases h : i = a
  · rw [if_pos h, if_pos h]
  · rw [if_neg h, if_neg h, if_neg (by omega)]
theorem took_large (f : Nat → Int × Int) (a m i : Nat) : large f a m i = took f a m (2, m) i := by
  unfold large took put fillF
  by_cases h : i = a
  · rw [if_pos h, if_pos h]
  · rw [if_neg h, if_neg h]
    by_cases h2 : a < i ∧ (i : Int) < a + m
    · rw [if_pos h2, if_pos (by omega)]
    · rw [if_neg h2, if_neg (by omega)]

theorem count_free (B : Nat) (A : Option Addr) (m c : Nat) (f : Nat → Int × Int) (a : Nat) (w : World) (hm : m ≤ 1000) (h : freeB f a m = true) (hr : PRow w B A m (fun i => f (a + i))) (hB : B ≤ w.heap.size) :
    Calls Tryz.prog 156 #[.slice A m c, .int .i64 0] w fun e w' => e = .returned (.int .i64 m) ∧ Below w.heap.size w w' := by
  have := cnt_all (f := fun j => f (a + j)) (kind := 0) (k := m) ((freeB_iff f a m).1 h)
  rw [← this]
  exact count_any B A m c _ 0 w hm hr hB
def Lesser (w : World) (m : Nat) (e : Ending) (w' : World) : Prop := ∃ x : Int, e = .returned (.int .i64 x) ∧ x < m ∧ Below w.heap.size w w'
theorem count_less (B : Nat) (A : Option Addr) (m c : Nat) (f : Nat → Int × Int) (a : Nat) (w : World) (hm : m ≤ 1000) (h : freeB f a m = false) (hr : PRow w B A m (fun i => f (a + i))) (hB : B ≤ w.heap.size) :
    Calls Tryz.prog 156 #[.slice A m c, .int .i64 0] w (Lesser w m) := by
  have := cnt_lt (f := fun j => f (a + j)) (kind := 0) (freeB_ex h)
  exact (count_any B A m c _ 0 w hm hr hB).mono fun e w' ⟨he, hb⟩ => ⟨_, he, this, hb⟩

set_option maxHeartbeats 1000000 in
theorem take_any (B : Nat) (A : Option Addr) (n c : Nat) (f : Nat → Int × Int) (at_ : Int) (m : Nat) (p : Int × Int) (w : World) (hn : n ≤ 1000) (hnc : n ≤ c) (hm1 : 1 ≤ m) (hm4 : m ≤ 4)
    (hr : PRow w B A n f) (hB : B ≤ w.heap.size) :
    Calls Tryz.prog 144 #[.slice A n c, .int .i64 at_, .int .i64 m, .agg #[.int .i64 p.1, .int .i64 p.2]] w (TOut w (takeE f n at_ m) n (took f at_.toNat m p)) := by
  obtain ⟨p0, p1⟩ := p
  have HR := Lib.hid hr
  clear hr
  have HR1 := Lib.hid (HR.out.alloc (.cells #[.int .i64 p0, .int .i64 p1] 81) hB)
  have hB1 : B ≤ (w.alloc (.cells #[.int .i64 p0, .int .i64 p1] 81)).heap.size := by simp; omega
  have HB0 : Hid (Below w.heap.size w (w.alloc (.cells #[.int .i64 p0, .int .i64 p1] 81))) := Lib.hid ((Below.refl _ _).alloc (Nat.le_refl _) _)
  cases hM : mayB f n
  · have HE := Lib.hid (takeE_may (f := f) (n := n) (at_ := at_) (m := m) hM)
    have HM := Lib.hid hM
    clear hM
    go_enter Tryz.func144, Tryz.ntmps144
    go_wp2_with fail
    refine (may_no B _ _ _ _ _ HM.out hn HR1.out hB1).mono ?_
    rintro e w1 ⟨rfl, hb1⟩
    go_wp2
    go_ret2
    exact tout_err rfl HE.out (by decide) (below_pair (Below.refl _ _) hb1)
  have HM := Lib.hid hM
  obtain ⟨n1, n64, -, -⟩ := (mayB_iff f n).1 hM
  by_cases hat : at_ < 0 ∨ (n : Int) - m < at_
  · have HE := Lib.hid (takeE_none hM hat)
    clear hM
    by_cases h0 : at_ < 0
    · have d0 : decide (at_ < 0) = true := by simpa using h0
      clear hat
      go_enter Tryz.func144, Tryz.ntmps144
      go_wp2_with fail
      refine (may_yes B _ _ _ _ _ HM.out HR1.out hB1).mono ?_
      rintro e w1 ⟨rfl, hb1⟩
      go_wp2
      go_ret2
      exact tout_err rfl HE.out (by decide) (below_pair (Below.refl _ _) hb1)
    · have d0 : decide (at_ < 0) = false := by simpa using h0
      have h1 : (n : Int) - m < at_ := by omega
      have d1 : decide ((n : Int) - m < at_) = true := by simpa using h1
      clear hat
      go_enter Tryz.func144, Tryz.ntmps144
      go_wp2_with fail
      refine (may_yes B _ _ _ _ _ HM.out HR1.out hB1).mono ?_
      rintro e w1 ⟨rfl, hb1⟩
      go_wp2
      go_ret2
      exact tout_err rfl HE.out (by decide) (below_pair (Below.refl _ _) hb1)
  obtain ⟨a, rfl⟩ : ∃ a : Nat, at_ = a := ⟨at_.toNat, by omega⟩
  have ham : a + m ≤ n := by omega
  obtain ⟨b, off, rfl, hbB, -⟩ := HR.out (by omega)
  cases hf : freeB f a m
  · have HE := Lib.hid (takeE_full hM hat (by simpa using hf))
    have HF := Lib.hid hf
    clear hM hf hat
    go_enter Tryz.func144, Tryz.ntmps144
    go_wp2_with fail
    refine (may_yes B _ _ _ _ _ HM.out HR1.out hB1).mono ?_
    rintro e w1 ⟨rfl, hb1⟩
    have HB1 := Lib.hid hb1
    have HR2 := Lib.hid ((HR1.out.over hb1 hB1).part (k := a) (m := m) ham)
    have hz1 := hb1.size
    have HBall := Lib.hid (below_pair (Below.refl w.heap.size w) hb1)
    clear hb1
    go_wp2_with fail
    rw [show a + m - a = m by omega]
    refine (count_less B _ _ _ _ _ _ (by omega) HF.out HR2.out (by omega)).mono ?_
    rintro e w2 ⟨x, rfl, hx, hb2⟩
    have dx : decide (x < m) = true := by simpa using hx
    go_wp2
    go_ret2
    exact tout_err rfl HE.out (by decide) (HBall.out.trans (hb2.mono (by have := HBall.out.size; omega)))
  · have HE := Lib.hid (takeE_ok hM hat (by simpa using hf))
    have HF := Lib.hid hf
    clear hM hf hat
    go_enter Tryz.func144, Tryz.ntmps144
    go_wp2_with fail
    refine (may_yes B _ _ _ _ _ HM.out HR1.out hB1).mono ?_
    rintro e w1 ⟨rfl, hb1⟩
    have HR2 := Lib.hid (HR1.out.over hb1 hB1)
    have HR3 := Lib.hid (HR2.out.part (k := a) (m := m) ham)
    have hz1 := hb1.size
    obtain ⟨k0, k1, hs1⟩ := pair_kept hb1
    have HB1 := Lib.hid (below_pair (Below.refl w.heap.size w) hb1)
    clear hb1
    go_wp2_with fail
    rw [show a + m - a = m by omega]
    refine (count_free B _ _ _ _ _ _ (by omega) HF.out HR3.out (by omega)).mono ?_
    rintro e w2 ⟨rfl, hb2⟩
    have k0' := (hb2.cell (p := ⟨w.heap.size, 0, none⟩) hs1).trans k0
    have k1' := (hb2.cell (p := ⟨w.heap.size, 1, none⟩) hs1).trans k1
    have hs2 : w.heap.size < w2.heap.size := by have := hb2.size; omega
    have HR4 := Lib.hid (HR2.out.over hb2 (by omega))
    have HB2 := Lib.hid (HB1.out.trans (hb2.mono (by have := HB1.out.size; omega)))
    clear hb2 k0 k1
    have d0 : decide ((m : Int) < m) = false := by simp
    go_wp2_with fail
    refine (pclone_ok B _ _ _ _ _ (by omega) hn HR4.out).mono ?_
    rintro e w3 ⟨g, c', rfl, hm3, hb3⟩
    have k0 := (hb3.cell (p := ⟨w.heap.size, 0, none⟩) hs2).trans k0'
    have k1 := (hb3.cell (p := ⟨w.heap.size, 1, none⟩) hs2).trans k1'
    have hs3 : w.heap.size < w3.heap.size := by have := hb3.size; omega
    have hg3 := hm3.2.1
    have hg3' := hm3.2.2.1
    have hc3 := hm3.2.2.2.1
    have HM3 := Lib.hid hm3
    have HB3 := Lib.hid (HB2.out.trans (hb3.mono (by omega)))
    clear hb3 hm3 k0' k1'
    have hs23 : w2.heap.size ≤ w3.heap.size := by omega
    go_wp2_with fail
    rw [show a + m - a = m by omega]
    refine (fill_any w2.heap.size g n c' _ a m f (3, 0) w3 hn ham hs23 HM3.out).mono ?_
    rintro e w4 ⟨rfl, hm4', hb4⟩
    have k0' := (hb4.cell (p := ⟨w.heap.size, 0, none⟩) hs2).trans k0
    have k1' := (hb4.cell (p := ⟨w.heap.size, 1, none⟩) hs2).trans k1
    have hs4 : w.heap.size < w4.heap.size := by have := hb4.size; omega
    have f0 := hm4'.free (a * 2)
    have f1 := hm4'.free (a * 2 + 1)
    obtain ⟨d0', d1'⟩ := hm4'.cells a (by omega)
    have hg4 := hm4'.2.2.1
    have HM4 := Lib.hid (hm4'.stored a (p0, p1))
    have HB4 := Lib.hid (HB3.out.trans (hb4.mono (by omega)))
    clear hb4 hm4' k0 k1
    go_wp2
    go_ret2
    exact tout_ok rfl HE.out (HM4.out.lower (by omega)) (fun i _ => rfl) ((HB4.out.setCell (by simpa using (show w.heap.size ≤ g by omega)) _).setCell (by simpa using (show w.heap.size ≤ g by omega)) _)
end Go.Proofs.YtcbnefjfoeanoaaGreatDoor.Cl
end
section
namespace Go.Proofs.YtcbnefjfoeanoaaGreatDoor.Cl
open Go.Proofs.YtcbnefjfoeanoaaGreatDoor
set_option maxRecDepth 100000
open Go.RowKit

theorem TOut.as {w w' : World} {E E' : Int} {n : Nat} {g g' : Nat → Int × Int} {e : Ending} (h : TOut w E n g e w') (he : E' = E) (hg : ∀ i, g' i = g i) : TOut w E' n g' e w' := by
  subst he
  obtain ⟨A, c, h1, h2, h3, h4⟩ := h
  exact ⟨A, c, h1, h2.congr (fun i _ => hg i), h3, h4⟩

theorem small_any (B : Nat) (A : Option Addr) (n c : Nat) (f : Nat → Int × Int) (at_ cl : Int) (w : World) (hn : n ≤ 1000) (hnc : n ≤ c) (hr : PRow w B A n f) (hB : B ≤ w.heap.size) :
    Calls Tryz.prog 157 #[.slice A n c, .int .i64 at_, .int .i64 cl] w (TOut w (smallE f n at_ cl) n (smallF f at_ cl)) := by
  have HR := Lib.hid hr
  clear hr
  cases hc : clB cl
  · have HE := Lib.hid (show smallE f n at_ cl = 1 from if_neg (by rw [hc]; decide))
    have HC := Lib.hid hc
    clear hc
    go_enter Tryz.func157, Tryz.ntmps157
    go_wp2_with fail
    refine (isClass_no _ _ HC.out).mono ?_
    rintro e w1 ⟨rfl, rfl⟩
    go_wp2
    go_ret2
    exact tout_err rfl HE.out (by decide) (Below.refl _ _)
  · have HE := Lib.hid (show smallE f n at_ cl = takeE f n at_ (1 : Nat) from if_pos hc)
    have HC := Lib.hid hc
    clear hc
    go_enter Tryz.func157, Tryz.ntmps157
    go_wp2_with fail
    refine (isClass_yes _ _ HC.out).mono ?_
    rintro e w1 ⟨rfl, rfl⟩
    go_wp2_with fail
    refine (take_any B _ _ _ f at_ 1 (1, cl) _ hn hnc (by decide) (by decide) HR.out hB).mono ?_
    rintro e w1 ⟨A', c', rfl, hrow, hle, hb⟩
    have HRow := Lib.hid hrow
    clear hrow
    go_wp2
    go_ret2
    exact TOut.as ⟨A', c', rfl, HRow.out, hle, hb⟩ HE.out (fun i => took_small f _ cl i)
theorem large_any (B : Nat) (A : Option Addr) (n c : Nat) (f : Nat → Int × Int) (at_ m : Int) (w : World) (hn : n ≤ 1000) (hnc : n ≤ c) (hr : PRow w B A n f) (hB : B ≤ w.heap.size) :
    Calls Tryz.prog 119 #[.slice A n c, .int .i64 at_, .int .i64 m] w (TOut w (largeE f n at_ m) n (largeF f at_ m)) := by
  have HR := Lib.hid hr
  clear hr
  cases hc : runB m
  · have HE := Lib.hid (show largeE f n at_ m = 1 from if_neg (by rw [hc]; decide))
    have HC := Lib.hid hc
    clear hc
    go_enter Tryz.func119, Tryz.ntmps119
    go_wp2_with fail
    refine (isRun_no _ _ HC.out).mono ?_
    rintro e w1 ⟨rfl, rfl⟩
    go_wp2
    go_ret2
    exact tout_err rfl HE.out (by decide) (Below.refl _ _)
  · have hm := (runB_iff m).1 hc
    obtain ⟨k, rfl⟩ : ∃ k : Nat, m = k := ⟨m.toNat, by omega⟩
    have HE := Lib.hid (show largeE f n at_ k = takeE f n at_ k from if_pos hc)
    have HC := Lib.hid hc
    clear hc
    go_enter Tryz.func119, Tryz.ntmps119
    go_wp2_with fail
    refine (isRun_yes _ _ HC.out).mono ?_
    rintro e w1 ⟨rfl, rfl⟩
    go_wp2_with fail
    refine (take_any B _ _ _ f at_ k (2, k) _ hn hnc (by omega) (by omega) HR.out hB).mono ?_
    rintro e w1 ⟨A', c', rfl, hrow, hle, hb⟩
    have HRow := Lib.hid hrow
    clear hrow
    go_wp2
    go_ret2
    exact TOut.as ⟨A', c', rfl, HRow.out, hle, hb⟩ HE.out (fun i => took_large f _ k i)

theorem dropE_may {f : Nat → Int × Int} {n : Nat} {at_ : Int} (h : mayB f n = false) : dropE f n at_ = 1 := if_pos h
theorem dropE_none {f : Nat → Int × Int} {n : Nat} {at_ : Int} (h : mayB f n = true) (ha : at_ < 0 ∨ (n : Int) ≤ at_) : dropE f n at_ = 3 := by
  unfold dropE
  rw [if_neg (by rw [h]; decide), if_pos ha]
theorem dropE_kind {f : Nat → Int × Int} {n a : Nat} (h : mayB f n = true) (ha : a < n) (hk : (f a).1 = 0 ∨ (f a).1 = 3) : dropE f n a = 3 := by
  unfold dropE
  rw [if_neg (by rw [h]; decide), if_neg (by omega), if_neg (by simp; omega)]
theorem dropE_ok {f : Nat → Int × Int} {n a : Nat} (h : mayB f n = true) (ha : a < n) (hk : (f a).1 = 1 ∨ (f a).1 = 2) : dropE f n a = 0 := by
  unfold dropE
  rw [if_neg (by rw [h]; decide), if_neg (by omega), if_pos (by simpa using hk)]
theorem kinds {f : Nat → Int × Int} {n a : Nat} (h : mayB f n = true) (ha : a < n) : (f a).1 = 0 ∨ (f a).1 = 1 ∨ (f a).1 = 2 ∨ (f a).1 = 3 := by
  have := (pmB_iff _).1 ((okB_iff f a).1 (((mayB_iff f n).1 h).2.2.1 a ha)).1
  omega
theorem drop_fill {f : Nat → Int × Int} {a m : Nat} (h : wide f a = m) (i : Nat) : drop f a i = fillF f a m (0, 0) i := by
  unfold drop fillF
  rw [h]
  by_cases h2 : a ≤ i ∧ (i : Int) < a + m
  · rw [if_pos h2, if_pos (by omega)]
  · rw [if_neg h2, if_neg (by omega)]

set_option maxHeartbeats 1000000 in
/-- What Drop does behind the switch: a small page (m = 1), or a large object's m pages. -/
theorem drop_core (B : Nat) (A : Option Addr) (n c : Nat) (f : Nat → Int × Int) (a : Nat) (w : World) (hM : mayB f n = true) (ha : a < n) (hk : (f a).1 = 1 ∨ (f a).1 = 2) (hr : PRow w B A n f) (hB : B ≤ w.heap.size) :
    Calls Tryz.prog 102 #[.slice A n c, .int .i64 a] w (TOut w (dropE f n a) n (dropF f a)) := by
  have HE := Lib.hid (dropE_ok hM ha hk)
  obtain ⟨w1', w4', hfit, -, -⟩ := wide_facts hM ha hk
  obtain ⟨m, hm⟩ : ∃ m : Nat, wide f a = m := ⟨(wide f a).toNat, by omega⟩
  have HW := Lib.hid hm
  rw [hm] at w1' w4' hfit
  have ham : a + m ≤ n := by omega
  have hm1 : 1 ≤ m := by omega
  obtain ⟨n1, n64, -, -⟩ := (mayB_iff f n).1 hM
  have hn : n ≤ 1000 := by omega
  have HM := Lib.hid hM
  have HR := Lib.hid hr
  obtain ⟨b, off, rfl, hbB, -⟩ := hr (by omega)
  clear hM hr w1' w4' hfit
  rcases hk with hk | hk
  · have em : m = 1 := by
      have := HW.out
      unfold wide at this
      rw [hk] at this
      simp at this
      omega
    subst em
    have e0 : ((f a).1 == 0) = false := by rw [hk]; decide
    have e3 : ((f a).1 == 3) = false := by rw [hk]; decide
    have e2 : ((f a).1 == 2) = false := by rw [hk]; decide
    clear hk hm
    go_enter Tryz.func102, Tryz.ntmps102
    go_wp2_with fail
    refine (may_yes B _ _ _ _ _ HM.out HR.out hB).mono ?_
    rintro e w1 ⟨rfl, hb1⟩
    have HR1 := Lib.hid (HR.out.over hb1 hB)
    obtain ⟨_, _, ea, hb', hc'⟩ := HR1.out (by omega)
    simp at ea
    obtain ⟨rfl, rfl⟩ := ea
    obtain ⟨p0, p1⟩ := hc' a ha
    have hz1 := hb1.size
    have HB1 := Lib.hid hb1
    clear hb1 hc'
    go_wp2_with fail
    refine (pclone_ok B _ _ _ _ _ (by omega) hn HR1.out).mono ?_
    rintro e w3 ⟨g, c', rfl, hm3, hb3⟩
    have hg3 := hm3.2.1
    have hg3' := hm3.2.2.1
    have hc3 := hm3.2.2.2.1
    have hs3 := hb3.size
    have HM3 := Lib.hid hm3
    have HB3 := Lib.hid (HB1.out.trans (hb3.mono (by omega)))
    clear hb3 hm3
    go_wp2_with fail
    refine (fill_any w1.heap.size g n c' _ a 1 f (0, 0) w3 hn ham hs3 HM3.out).mono ?_
    rintro e w4 ⟨rfl, hm4', hb4⟩
    have HM4 := Lib.hid hm4'
    have HB4 := Lib.hid (HB3.out.trans (hb4.mono (by omega)))
    clear hb4 hm4'
    go_wp2
    go_ret2
    exact tout_ok rfl HE.out (HM4.out.lower (by omega)) (fun i _ => drop_fill HW.out i) HB4.out
  · have em : (f a).2 = m := by
      have := HW.out
      unfold wide at this
      rw [if_pos hk] at this
      exact this
    have e0 : ((f a).1 == 0) = false := by rw [hk]; decide
    have e3 : ((f a).1 == 3) = false := by rw [hk]; decide
    have e2 : ((f a).1 == 2) = true := by rw [hk]; decide
    have EM := Lib.hid em
    clear hk hm em
    go_enter Tryz.func102, Tryz.ntmps102
    go_wp2_with fail
    refine (may_yes B _ _ _ _ _ HM.out HR.out hB).mono ?_
    rintro e w1 ⟨rfl, hb1⟩
    have HR1 := Lib.hid (HR.out.over hb1 hB)
    obtain ⟨_, _, ea, hb', hc'⟩ := HR1.out (by omega)
    simp at ea
    obtain ⟨rfl, rfl⟩ := ea
    obtain ⟨p0, p1⟩ := hc' a ha
    rw [EM.out] at p1
    have hz1 := hb1.size
    have HB1 := Lib.hid hb1
    clear hb1 hc'
    go_wp2_with fail
    refine (pclone_ok B _ _ _ _ _ (by omega) hn HR1.out).mono ?_
    rintro e w3 ⟨g, c', rfl, hm3, hb3⟩
    have hg3 := hm3.2.1
    have hg3' := hm3.2.2.1
    have hc3 := hm3.2.2.2.1
    have hs3 := hb3.size
    have HM3 := Lib.hid hm3
    have HB3 := Lib.hid (HB1.out.trans (hb3.mono (by omega)))
    clear hb3 hm3
    go_wp2_with fail
    rw [show a + m - a = m by omega]
    refine (fill_any w1.heap.size g n c' _ a m f (0, 0) w3 hn ham hs3 HM3.out).mono ?_
    rintro e w4 ⟨rfl, hm4', hb4⟩
    have HM4 := Lib.hid hm4'
    have HB4 := Lib.hid (HB3.out.trans (hb4.mono (by omega)))
    clear hb4 hm4'
    go_wp2
    go_ret2
    exact tout_ok rfl HE.out (HM4.out.lower (by omega)) (fun i _ => drop_fill HW.out i) HB4.out

theorem drop_any (B : Nat) (A : Option Addr) (n c : Nat) (f : Nat → Int × Int) (at_ : Int) (w : World) (hn : n ≤ 1000) (hr : PRow w B A n f) (hB : B ≤ w.heap.size) :
    Calls Tryz.prog 102 #[.slice A n c, .int .i64 at_] w (TOut w (dropE f n at_) n (dropF f at_)) := by
  cases hM : mayB f n
  · have HE := Lib.hid (dropE_may (at_ := at_) hM)
    have HM := Lib.hid hM
    have HR := Lib.hid hr
    clear hM hr
    go_enter Tryz.func102, Tryz.ntmps102
    go_wp2_with fail
    refine (may_no B _ _ _ _ _ HM.out hn HR.out hB).mono ?_
    rintro e w1 ⟨rfl, hb1⟩
    go_wp2
    go_ret2
    exact tout_err rfl HE.out (by decide) hb1
  by_cases hat : at_ < 0 ∨ (n : Int) ≤ at_
  · have HE := Lib.hid (dropE_none hM hat)
    have HM := Lib.hid hM
    have HR := Lib.hid hr
    clear hM hr
    by_cases h0 : at_ < 0
    · have d0 : decide (at_ < 0) = true := by simpa using h0
      clear hat
      go_enter Tryz.func102, Tryz.ntmps102
      go_wp2_with fail
      refine (may_yes B _ _ _ _ _ HM.out HR.out hB).mono ?_
      rintro e w1 ⟨rfl, hb1⟩
      go_wp2
      go_ret2
      exact tout_err rfl HE.out (by decide) hb1
    · have d0 : decide (at_ < 0) = false := by simpa using h0
      have h1 : (n : Int) ≤ at_ := by omega
      have d1 : decide ((n : Int) ≤ at_) = true := by simpa using h1
      clear hat
      go_enter Tryz.func102, Tryz.ntmps102
      go_wp2_with fail
      refine (may_yes B _ _ _ _ _ HM.out HR.out hB).mono ?_
      rintro e w1 ⟨rfl, hb1⟩
      go_wp2
      go_ret2
      exact tout_err rfl HE.out (by decide) hb1
  obtain ⟨a, rfl⟩ : ∃ a : Nat, at_ = a := ⟨at_.toNat, by omega⟩
  have ha : a < n := by omega
  rcases (show ((f a).1 = 0 ∨ (f a).1 = 3) ∨ ((f a).1 = 1 ∨ (f a).1 = 2) by have := kinds hM ha; omega) with hk | hk
  · have HE := Lib.hid (dropE_kind hM ha hk)
    have HM := Lib.hid hM
    have HR := Lib.hid hr
    obtain ⟨b, off, rfl, hbB, -⟩ := hr (by omega)
    clear hM hr hat
    rcases hk with hk | hk
    · have e0 : ((f a).1 == 0) = true := by simpa using hk
      clear hk
      go_enter Tryz.func102, Tryz.ntmps102
      go_wp2_with fail
      refine (may_yes B _ _ _ _ _ HM.out HR.out hB).mono ?_
      rintro e w1 ⟨rfl, hb1⟩
      obtain ⟨_, _, ea, hb', hc'⟩ := (HR.out.over hb1 hB) (by omega)
      simp at ea
      obtain ⟨rfl, rfl⟩ := ea
      obtain ⟨p0, p1⟩ := hc' a ha
      have HB1 := Lib.hid hb1
      clear hb1 hc'
      go_wp2
      go_ret2
      exact tout_err rfl HE.out (by decide) HB1.out
    · have e0 : ((f a).1 == 0) = false := by rw [hk]; decide
      have e3 : ((f a).1 == 3) = true := by simpa using hk
      clear hk
      go_enter Tryz.func102, Tryz.ntmps102
      go_wp2_with fail
      refine (may_yes B _ _ _ _ _ HM.out HR.out hB).mono ?_
      rintro e w1 ⟨rfl, hb1⟩
      obtain ⟨_, _, ea, hb', hc'⟩ := (HR.out.over hb1 hB) (by omega)
      simp at ea
      obtain ⟨rfl, rfl⟩ := ea
      obtain ⟨p0, p1⟩ := hc' a ha
      have HB1 := Lib.hid hb1
      clear hb1 hc'
      go_wp2
      go_ret2
      exact tout_err rfl HE.out (by decide) HB1.out
  · exact drop_core B A n c f a w hM ha hk hr hB
end Go.Proofs.YtcbnefjfoeanoaaGreatDoor.Cl
end
