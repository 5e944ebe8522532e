/-
  Merged texts: RpP, RpRoom, LsRPop.
-/
import Derived.Test.YtdmclfolooiccaaGreatDoorHpAN
import Derived.Test.YtdmclfolooiccaaGreatDoorHpAK
import Derived.Test.YtdmclfolooiccaaGreatDoorHpAB
import Derived.Test.YtdmclfolooiccaaGreatDoorHpAI
import Derived.Deep.DrawnRows
section
namespace Go.Proofs.YtdmclfolooiccaaGreatDoor
open Go.RowKit
set_option maxRecDepth 100000

/-- The cells of page p that Free tells of. -/
def onFree (d : Hd_) (p : Nat) : List Int := Ls.inOf (16 + 16 * (p : Int)) (32 + 16 * (p : Int)) (d.F (d.f p).2.toNat)
def givenB (d : Hd_) (p : Nat) : Bool := decide ((d.f p).1 = 1) && !decide (((onFree d p).length : Int) < Cl.perPage (d.f p).2)
def gaveD (d : Hd_) (p : Nat) : Hd_ := ⟨d.ws, Cl.drop d.f p, Ls.upd d.F (d.f p).2.toNat (Ls.outOf (16 + 16 * (p : Int)) (32 + 16 * (p : Int)) (d.F (d.f p).2.toNat)), d.cs⟩
/-- A page is given back, if it may be. -/
def backD (d : Hd_) (p : Nat) : Hd_ := if givenB d p = true then gaveD d p else d
def flushTo (d : Hd_) : Nat → Hd_
  | 0 => d
  | k + 1 => backD (flushTo d k) k
def joinTo (d : Hd_) (G : Nat → List Int) (k : Nat) : Hd_ := ⟨d.ws, d.f, fun j => if j < k then d.F j ++ G j else d.F j, d.cs⟩
theorem sub_len : ∀ {xs ys : List Int}, xs.Nodup → (∀ x ∈ xs, x ∈ ys) → ys.length ≤ xs.length → ∀ y ∈ ys, y ∈ xs
  | [], ys, _, _, hl, y, hy => by
    have : ys = [] := List.eq_nil_of_length_eq_zero (by simpa using hl)
    rw [this] at hy
    cases hy
  | a :: t, ys, hn, hs, hl, y, hy => by
    obtain ⟨ha, ht⟩ := List.nodup_cons.1 hn
    have ham : a ∈ ys := hs a List.mem_cons_self
    by_cases e : y = a
    · rw [e]; exact List.mem_cons_self
    · have h1 : (ys.erase a).length ≤ t.length := by
        rw [List.length_erase_of_mem ham]
        simp only [List.length_cons] at hl
        omega
      have h2 : ∀ x ∈ t, x ∈ ys.erase a := fun x hx => (List.mem_erase_of_ne (by rintro rfl; exact ha hx)).2 (hs x (List.mem_cons_of_mem _ hx))
      exact List.mem_cons_of_mem _ (sub_len ht h2 h1 y ((List.mem_erase_of_ne e).2 hy))
theorem isIn_iff {l h a : Int} : Ls.isIn l h a = true ↔ l ≤ a ∧ a < h := by simp [Ls.isIn]
theorem mem_inOf {l h x : Int} {xs : List Int} : x ∈ Ls.inOf l h xs ↔ x ∈ xs ∧ l ≤ x ∧ x < h := by
  unfold Ls.inOf
  rw [List.mem_filter, isIn_iff]
theorem mem_outOf {l h x : Int} {xs : List Int} : x ∈ Ls.outOf l h xs ↔ x ∈ xs ∧ ¬ (l ≤ x ∧ x < h) := by
  unfold Ls.outOf
  rw [List.mem_filter, Bool.not_eq_true', Bool.eq_false_iff, ne_eq, isIn_iff]
theorem out_count {l h x : Int} {xs : List Int} : (Ls.outOf l h xs).count x ≤ xs.count x := List.Sublist.count_le x List.filter_sublist
theorem out_same {l h x : Int} {xs : List Int} (hx : ¬ (l ≤ x ∧ x < h)) : (Ls.outOf l h xs).count x = xs.count x := by
  unfold Ls.outOf
  refine List.count_filter ?_
  rw [Bool.not_eq_true', Bool.eq_false_iff, ne_eq, isIn_iff]
  exact hx
theorem drop_one {f : Nat → Int × Int} {p q : Nat} (h : (f p).1 = 1) (hq : ¬ q = p) : Cl.drop f p q = f q := by
  unfold Cl.drop Cl.wide
  rw [if_neg (show ¬ (f p).1 = 2 by omega), if_neg (by omega)]
theorem drop_self {f : Nat → Int × Int} {p : Nat} (h : (f p).1 = 1) : Cl.drop f p p = (0, 0) := by
  unfold Cl.drop Cl.wide
  rw [if_neg (show ¬ (f p).1 = 2 by omega), if_pos (by omega)]
/-- Where a cell lies. -/
theorem page_range {x : Int} {p : Nat} (h : 16 ≤ x) : (x / 16 - 1).toNat = p ↔ 16 + 16 * (p : Int) ≤ x ∧ x < 32 + 16 * (p : Int) := by omega
section
variable {n r p : Nat} {a : Int} {d d' : Hd_} {G : Nat → List Int} {R : Nat → Nat → List Int}
theorem told_le {x : Int} {k : Nat} (hk : k < 3) : (d.F k).count x ≤ told d G r R x := by
  unfold told
  rw [count_upTo]
  rcases (show k = 0 ∨ k = 1 ∨ k = 2 by omega) with rfl | rfl | rfl <;> omega
theorem small_kind (hm : Cl.mayB d.f n = true) (hp : p < n) (h1 : (d.f p).1 = 1) : (d.f p).2.toNat < 3 ∧ d.f p = (1, (((d.f p).2.toNat : Nat) : Int)) := by
  have h := (Cl.pmB_iff _).1 (Cl.may_pm hm hp)
  exact ⟨by omega, Prod.ext h1 (by show (d.f p).2 = _; omega)⟩
theorem on_len (hm : Cl.mayB d.f n = true) (hp : p < n) (h1 : (d.f p).1 = 1) : ((Cl.onS d.f n p).length : Int) = Cl.perPage (d.f p).2 := by
  obtain ⟨hk, e⟩ := small_kind hm hp h1
  unfold Cl.onS
  rw [if_pos ⟨hm, by omega, by omega⟩, List.length_map, Cl.pageL_length, Int.toNat_natCast]
  rw [e]
  generalize (d.f p).2.toNat = k at hk
  rcases (show k = 0 ∨ k = 1 ∨ k = 2 by omega) with rfl | rfl | rfl <;> decide
theorem onFree_nodup (h : OkayBut n a d G r R) (hp : p < n) (h1 : (d.f p).1 = 1) : (onFree d p).Nodup := by
  obtain ⟨hk, _⟩ := small_kind h.may hp h1
  refine List.Nodup.sublist List.filter_sublist (List.nodup_iff_count.2 fun x => ?_)
  have := told_le (d := d) (G := G) (r := r) (R := R) (x := x) hk
  have := h.one x
  omega
theorem onFree_on (h : OkayBut n a d G r R) (hp : p < n) (h1 : (d.f p).1 = 1) {x : Int} (hx : x ∈ onFree d p) : x ∈ Cl.onS d.f n p := by
  obtain ⟨hk, _⟩ := small_kind h.may hp h1
  obtain ⟨h2, h3⟩ := mem_inOf.1 hx
  have hb := (free_facts (h.fF _ hk x h2)).1
  exact mem_on.2 ⟨hb, (page_range (bg_in16 hb)).2 h3⟩
theorem given_parts (hg : givenB d p = true) : (d.f p).1 = 1 ∧ Cl.perPage (d.f p).2 ≤ (onFree d p).length := by
  unfold givenB at hg
  simp only [Bool.and_eq_true, decide_eq_true_eq, Bool.not_eq_true', decide_eq_false_iff_not, Int.not_lt] at hg
  exact hg
/-- All cells of a page that is given back are told of by Free. -/
theorem given_all (h : OkayBut n a d G r R) (hp : p < n) (hg : givenB d p = true) {y : Int} (hy : ¬ Cl.bg d.f n y = 0) (hpg : (y / 16 - 1).toNat = p) : y ∈ d.F (d.f p).2.toNat := by
  obtain ⟨h1, h2⟩ := given_parts hg
  have hl := on_len h.may hp h1
  have := sub_len (onFree_nodup h hp h1) (fun x hx => onFree_on h hp h1 hx) (by omega) y (mem_on.2 ⟨hy, hpg⟩)
  exact (mem_inOf.1 this).1
theorem gave_may (hm : Cl.mayB d.f n = true) (hp : p < n) (hg : givenB d p = true) : Cl.mayB (gaveD d p).f n = true := Cl.drop_may hm hp (.inl (given_parts hg).1)
theorem gave_other (hm : Cl.mayB d.f n = true) (hp : p < n) (hg : givenB d p = true) {y : Int} (hpg : ¬ (y / 16 - 1).toNat = p) : pgAt (gaveD d p) y = pgAt d y ∧ Cl.bg (gaveD d p).f n y = Cl.bg d.f n y := by
  have h1 : pgAt (gaveD d p) y = pgAt d y := drop_one (given_parts hg).1 hpg
  exact ⟨h1, bg_local hm (gave_may hm hp hg) h1⟩
theorem gave_cell (hm : Cl.mayB d.f n = true) (hp : p < n) (hg : givenB d p = true) {y : Int} (hy : ¬ Cl.bg (gaveD d p).f n y = 0) : ¬ (y / 16 - 1).toNat = p ∧ ¬ Cl.bg d.f n y = 0 := by
  have h1 : ¬ (y / 16 - 1).toNat = p := cell_off hy (drop_self (given_parts hg).1)
  rw [(gave_other hm hp hg h1).2] at hy
  exact ⟨h1, hy⟩
theorem gave_keeps (hm : Cl.mayB d.f n = true) (hp : p < n) (hg : givenB d p = true) {x c : Int} (hx : freeH d n x c = true) (hne : ¬ (x / 16 - 1).toNat = p) : freeH (gaveD d p) n x c = true := by
  rw [free_local (d := d) (d' := gaveD d p) hm (gave_may hm hp hg) rfl (gave_other hm hp hg hne).1]
  exact hx
theorem told_gave {x : Int} (hk : (d.f p).2.toNat < 3) : told (gaveD d p) G r R x + (d.F (d.f p).2.toNat).count x = told d G r R x + (Ls.outOf (16 + 16 * (p : Int)) (32 + 16 * (p : Int)) (d.F (d.f p).2.toNat)).count x := by
  have h1 := upd_count (F := d.F) (xs := Ls.outOf (16 + 16 * (p : Int)) (32 + 16 * (p : Int)) (d.F (d.f p).2.toNat)) (x := x) hk
  unfold told gaveD
  simp only
  omega
/-- What caches tell of lies on no page that is given back. -/
theorem given_off (h : OkayBut n a d G r R) (hp : p < n) (hg : givenB d p = true) {x : Int} (hx : 0 < (Ls.upTo G 3).count x + (Ls.allOf R r).count x) : ¬ (x / 16 - 1).toNat = p := fun e => by
  obtain ⟨hk, _⟩ := small_kind h.may hp (given_parts hg).1
  have h0 : 0 < told d G r R x := by unfold told; omega
  obtain ⟨c, hc⟩ := told_free h h0
  have h1 := List.count_pos_iff.2 (given_all h hp hg (free_facts hc).1 e)
  have h2 : (d.F (d.f p).2.toNat).count x + ((Ls.upTo G 3).count x + (Ls.allOf R r).count x) ≤ told d G r R x := by
    unfold told
    rw [count_upTo d.F]
    generalize (d.f p).2.toNat = k at hk
    rcases (show k = 0 ∨ k = 1 ∨ k = 2 by omega) with rfl | rfl | rfl <;> omega
  have := h.one x
  omega
theorem Okay.gave (h : Okay n d G r R) (hp : p < n) (hg : givenB d p = true) : Okay n (gaveD d p) G r R := by
  obtain ⟨hk, e⟩ := small_kind h.may hp (given_parts hg).1
  refine ⟨gave_may h.may hp hg, fun y hy _ => ?_, fun j hj x hx => ?_, fun j hj x hx => ?_, fun i hi j hj x hx => ?_, fun x => ?_⟩
  · obtain ⟨h1, h2⟩ := gave_cell h.may hp hg hy
    rw [cell_local (d := d) (d' := gaveD d p) rfl (gave_other h.may hp hg h1).1]
    exact h.cell y h2 (bg_zero _ _ h2)
  · rcases upd_mem hx with ⟨rfl, hx2⟩ | ⟨hne, hx2⟩
    · obtain ⟨h1, h2⟩ := mem_outOf.1 hx2
      have hf := h.fF _ hj x h1
      exact gave_keeps h.may hp hg hf fun ep => h2 ((page_range (bg_in16 (free_facts hf).1)).1 ep)
    · have hf := h.fF j hj x hx2
      refine gave_keeps h.may hp hg hf fun ep => hne ?_
      have h3 := (free_facts hf).2.1
      unfold pgAt at h3
      rw [ep, e] at h3
      have := (Prod.mk.inj h3).2
      omega
  · exact gave_keeps h.may hp hg (h.fG j hj x hx) (given_off h hp hg (by have := List.count_pos_iff.2 (mem_upTo3.2 ⟨j, hj, hx⟩); omega))
  · exact gave_keeps h.may hp hg (h.fR i hi j hj x hx) (given_off h hp hg (by have := List.count_pos_iff.2 (mem_allOf.2 ⟨i, j, hi, hj, hx⟩); omega))
  · have h1 := told_gave (d := d) (p := p) (G := G) (r := r) (R := R) (x := x) hk
    have h2 := out_count (l := 16 + 16 * (p : Int)) (h := 32 + 16 * (p : Int)) (x := x) (xs := d.F (d.f p).2.toNat)
    have h3 := h.one x
    omega
theorem Full.gave (hF : Full n 0 d G r R) (hm : Cl.mayB d.f n = true) (hp : p < n) (hg : givenB d p = true) : Full n 0 (gaveD d p) G r R := fun y hy _ h0 => by
  obtain ⟨hk, _⟩ := small_kind hm hp (given_parts hg).1
  obtain ⟨h1, h2⟩ := gave_cell hm hp hg hy
  have h3 := hF y h2 (bg_zero _ _ h2) h0
  have h4 := told_gave (d := d) (p := p) (G := G) (r := r) (R := R) (x := y) hk
  rw [out_same fun hc => h1 ((page_range (bg_in16 h2)).2 hc)] at h4
  omega
end
/-- Pages may be given back: each object stays, and none is new. -/
structure Kept9 (n : Nat) (d d' : Hd_) : Prop where
  same : ∀ y, ¬ Cl.bg d.f n y = 0 → ¬ wd d y = 0 → Same4 n d d' y
  none : ∀ y, ¬ Cl.bg d'.f n y = 0 → ¬ Cl.bg d.f n y = 0
  ws : d'.ws = d.ws
  cs : d'.cs = d.cs
theorem Kept9.refl (n : Nat) (d : Hd_) : Kept9 n d d := ⟨fun _ _ _ => Same4.refl _ _ _, fun _ h => h, rfl, rfl⟩
theorem Kept9.word {n : Nat} {d d' : Hd_} (h : Kept9 n d d') (y : Int) : wd d' y = wd d y := by unfold wd; rw [h.ws]
theorem Kept9.trans {n : Nat} {d d' d2 : Hd_} (h : Kept9 n d d') (k : Kept9 n d' d2) : Kept9 n d d2 :=
  ⟨fun y h1 h2 => (h.same y h1 h2).trans (k.same y (by rw [(h.same y h1 h2).bg]; exact h1) (by rw [h.word]; exact h2)), fun y hy => h.none y (k.none y hy), k.ws.trans h.ws, k.cs.trans h.cs⟩
section
variable {n r p : Nat} {d d' : Hd_} {G : Nat → List Int} {R : Nat → Nat → List Int}
theorem Okay.back (h : Okay n d G r R) (hp : p < n) : Okay n (backD d p) G r R ∧ (Full n 0 d G r R → Full n 0 (backD d p) G r R) ∧ Kept9 n d (backD d p) := by
  unfold backD
  split
  · next hg =>
    refine ⟨h.gave hp hg, fun hF => hF.gave h.may hp hg, ⟨fun y hy hw => ?_, fun y hy => (gave_cell h.may hp hg hy).2, rfl, rfl⟩⟩
    have hne : ¬ (y / 16 - 1).toNat = p := fun e => by
      obtain ⟨hk, _⟩ := small_kind h.may hp (given_parts hg).1
      exact hw (free_facts (h.fF _ hk y (given_all h hp hg hy e))).2.2
    have := gave_other h.may hp hg hne
    exact ⟨this.2, this.1, fun _ _ _ => rfl⟩
  · exact ⟨h, id, Kept9.refl n d⟩
theorem Okay.flushTo (h : Okay n d G r R) : ∀ k, k ≤ n → Okay n (flushTo d k) G r R ∧ (Full n 0 d G r R → Full n 0 (Go.Proofs.YtdmclfolooiccaaGreatDoor.flushTo d k) G r R) ∧ Kept9 n d (Go.Proofs.YtdmclfolooiccaaGreatDoor.flushTo d k)
  | 0, _ => ⟨h, id, Kept9.refl n d⟩
  | k + 1, hk => by
    obtain ⟨h1, h2, h3⟩ := Okay.flushTo h k (by omega)
    obtain ⟨h4, h5, h6⟩ := h1.back (p := k) (by omega)
    exact ⟨h4, fun hF => h5 (h2 hF), h3.trans h6⟩
end
/-- A cell's words are noughts, and Free tells of it. -/
def pushD (d : Hd_) (n : Nat) (a : Int) : Hd_ := ⟨Ar.wipe d.ws (a - 16).toNat (Cl.bg d.f n a).toNat, d.f, Ls.upd d.F (pgAt d a).2.toNat (d.F (pgAt d a).2.toNat ++ [a]), d.cs⟩
def dropD (d : Hd_) (n : Nat) (a : Int) : Hd_ := ⟨Ar.wipe d.ws (a - 16).toNat (Cl.bg d.f n a).toNat, Cl.drop d.f (a / 16 - 1).toNat, d.F, d.cs⟩
/-- What an object that is given back leaves. -/
structure Freed (n : Nat) (d : Hd_) (a : Int) (d' : Hd_) : Prop where
  okay : ∀ r G R, Okay n d G r R → Okay n d' G r R
  full : ∀ r G R, Okay n d G r R → Full n 0 d G r R → Full n 0 d' G r R
  keeps : ∀ y, ¬ Cl.bg d.f n y = 0 → ¬ wd d y = 0 → ¬ y = a → Same4 n d d' y
  none : ∀ y, ¬ Cl.bg d'.f n y = 0 → ¬ y = a → ¬ Cl.bg d.f n y = 0 ∧ wd d' y = wd d y
  gone : Cl.bg d'.f n a = 0 ∨ wd d' a = 0
  len : d'.ws.length = d.ws.length
  cs : d'.cs = d.cs
section
variable {n : Nat} {a : Int} {d : Hd_}
theorem wd_wiped {f : Nat → Int × Int} {F : Nat → List Int} {cs : Nat → Bool} (hb : ¬ Cl.bg d.f n a = 0) (hl : d.ws.length = 16 * n) {y : Int} (hy : 16 ≤ y) : wd ⟨Ar.wipe d.ws (a - 16).toNat (Cl.bg d.f n a).toNat, f, F, cs⟩ y = if a ≤ y ∧ y < a + Cl.bg d.f n a then 0 else wd d y := by
  have h1 := cell_end hb
  unfold wd
  simp only
  rw [Ar.wipe_getD _ _ _ _ (by omega)]
  by_cases e2 : a ≤ y ∧ y < a + Cl.bg d.f n a
  · rw [if_pos e2, if_pos ⟨by omega, by omega⟩]
  · rw [if_neg e2, if_neg (by omega)]
theorem wiped_other {f : Nat → Int × Int} {F : Nat → List Int} {cs : Nat → Bool} (hb : ¬ Cl.bg d.f n a = 0) (hl : d.ws.length = 16 * n) {y : Int} (hy : ¬ Cl.bg d.f n y = 0) (hne : ¬ y = a) : ∀ z, y ≤ z → z < y + Cl.bg d.f n y → wd ⟨Ar.wipe d.ws (a - 16).toNat (Cl.bg d.f n a).toNat, f, F, cs⟩ z = wd d z := fun z h1 h2 => by
  rw [wd_wiped hb hl (by have := bg_in16 hy; omega), if_neg]
  exact fun hc => hne (word_one hy hb ⟨h1, h2⟩ hc)
theorem wiped_at {f : Nat → Int × Int} {F : Nat → List Int} {cs : Nat → Bool} (hb : ¬ Cl.bg d.f n a = 0) (hl : d.ws.length = 16 * n) : wd ⟨Ar.wipe d.ws (a - 16).toNat (Cl.bg d.f n a).toNat, f, F, cs⟩ a = 0 := by
  have := cell_end hb
  rw [wd_wiped hb hl (by omega), if_pos ⟨by omega, by omega⟩]
theorem bg_self {y : Int} (hy : ¬ Cl.bg d.f n y = 0) : y < y + Cl.bg d.f n y := by have := cell_end hy; omega
theorem used_untold {r : Nat} {G : Nat → List Int} {R : Nat → Nat → List Int} (h : Okay n d G r R) (hw : ¬ wd d a = 0) : told d G r R a = 0 := Nat.eq_zero_of_not_pos fun hc => by
  obtain ⟨c, hc⟩ := told_free h hc
  exact hw (free_facts hc).2.2
theorem push_okay {r : Nat} {G : Nat → List Int} {R : Nat → Nat → List Int} (h : Okay n d G r R) (hb : ¬ Cl.bg d.f n a = 0) (hw : ¬ wd d a = 0) (hl : d.ws.length = 16 * n) (h1 : (pgAt d a).1 = 1) : Okay n (pushD d n a) G r R ∧ (Full n 0 d G r R → Full n 0 (pushD d n a) G r R) := by
  have hp := bg_page hb
  have hpn : (a / 16 - 1).toNat < n := by have := hp.2.1; have := hp.2.2.1; omega
  obtain ⟨hk, e⟩ := small_kind h.may hpn h1
  have hk' : (pgAt d a).2.toNat < 3 := hk
  have e' : pgAt d a = (1, (((pgAt d a).2.toNat : Nat) : Int)) := e
  have ht := used_untold h hw
  have hkeep : ∀ {x c : Int}, freeH d n x c = true → freeH (pushD d n a) n x c = true := fun {x c} hx => by
    have hf := free_facts hx
    have hne : ¬ x = a := fun e0 => hw (by rw [← e0]; exact hf.2.2)
    exact free_mk hf.1 hf.2.1 ((wiped_other hb hl hf.1 hne x (Int.le_refl _) (bg_self hf.1)).trans hf.2.2)
  have htold : ∀ x, told (pushD d n a) G r R x = told d G r R x + [a].count x := fun x => by
    have h2 := upd_count (F := d.F) (xs := d.F (pgAt d a).2.toNat ++ [a]) (x := x) hk'
    rw [List.count_append] at h2
    unfold told pushD
    simp only
    omega
  refine ⟨⟨h.may, fun y hy _ => ?_, fun j hj x hx => ?_, fun j hj x hx => hkeep (h.fG j hj x hx), fun i hi j hj x hx => hkeep (h.fR i hi j hj x hx), fun x => ?_⟩, fun hF y hy h0 hz => ?_⟩
  · by_cases ey : y = a
    · subst ey
      have hw0 : wd (pushD d n y) y = 0 := wiped_at hb hl
      unfold cellAt
      rw [show (pushD d n y).ws.getD (y - 16).toNat 0 = wd (pushD d n y) y from rfl, hw0, show (pushD d n y).f (y / 16 - 1).toNat = pgAt d y from rfl, e']
      rfl
    · have hy' : ¬ Cl.bg d.f n y = 0 := hy
      rw [cell_local (d := d) (d' := pushD d n a) (wiped_other hb hl hy' ey y (Int.le_refl _) (bg_self hy')) rfl]
      exact h.cell y hy' (bg_zero _ _ hy')
  · rcases upd_mem hx with ⟨rfl, hx2⟩ | ⟨_, hx2⟩
    · rcases List.mem_append.1 hx2 with hx3 | hx3
      · exact hkeep (h.fF _ hj x hx3)
      · obtain rfl := List.mem_singleton.1 hx3
        exact free_mk hb e' (wiped_at hb hl)
    · exact hkeep (h.fF j hj x hx2)
  · rw [htold]
    have := h.one x
    by_cases ex : x = a
    · subst ex
      rw [ht]
      simp
    · rw [List.count_eq_zero_of_not_mem (by simpa using ex)]
      omega
  · rw [htold]
    by_cases ey : y = a
    · subst ey
      simp
    · have hy' : ¬ Cl.bg d.f n y = 0 := hy
      have := hF y hy' (bg_zero _ _ hy') ((wiped_other (f := d.f) (F := Ls.upd d.F (pgAt d a).2.toNat (d.F (pgAt d a).2.toNat ++ [a])) (cs := d.cs) hb hl hy' ey y (Int.le_refl _) (bg_self hy')).symm.trans hz)
      omega
/-- A large object's pages. -/
theorem large_page (hb : ¬ Cl.bg d.f n a = 0) (h2 : (pgAt d a).1 = 2) : a = 16 + 16 * (((a / 16 - 1).toNat : Nat) : Int) := by
  have hp := bg_page hb
  rw [hp.2.2.2] at hb
  have h16 := hp.2.1
  have hm : a % 16 = 0 := Classical.byContradiction fun hn => hb (by
    unfold Cl.pg
    rw [if_neg (fun hc => hn hc.2), if_neg (fun hc => by have : (pgAt d a).1 = 1 := hc.1; omega)])
  omega
theorem dropL_off (hb : ¬ Cl.bg d.f n a = 0) (h2 : (pgAt d a).1 = 2) {y : Int} (hy : ¬ Cl.bg d.f n y = 0) (hne : ¬ y = a) : Cl.drop d.f (a / 16 - 1).toNat (y / 16 - 1).toNat = d.f (y / 16 - 1).toNat := by
  have hp := bg_page hb
  have hpn : (a / 16 - 1).toNat < n := by have := hp.2.1; have := hp.2.2.1; omega
  obtain ⟨w1, w4, wn, _, hj⟩ := Cl.wide_facts hp.1 hpn (.inr h2)
  have ea := large_page hb h2
  unfold Cl.drop
  rw [if_neg]
  rintro ⟨h3, h4⟩
  by_cases e : (y / 16 - 1).toNat = (a / 16 - 1).toNat
  · have hpy : (pgAt d y).1 = 2 := by unfold pgAt; rw [e]; exact h2
    have ey := large_page hy hpy
    rw [e] at ey
    omega
  · have h5 := (hj ((y / 16 - 1).toNat - (a / 16 - 1).toNat) (by omega)).2 (by omega)
    rw [show (a / 16 - 1).toNat + ((y / 16 - 1).toNat - (a / 16 - 1).toNat) = (y / 16 - 1).toNat by omega] at h5
    have hq := bg_page hy
    rw [hq.2.2.2, h5, pg_rest] at hy
    exact hy rfl
theorem dropL_cell (hb : ¬ Cl.bg d.f n a = 0) (h2 : (pgAt d a).1 = 2) {y : Int} (hy : ¬ Cl.bg (dropD d n a).f n y = 0) : ¬ y = a ∧ ¬ Cl.bg d.f n y = 0 := by
  have hp := bg_page hb
  have hpn : (a / 16 - 1).toNat < n := by have := hp.2.1; have := hp.2.2.1; omega
  have hmay : Cl.mayB (dropD d n a).f n = true := Cl.drop_may hp.1 hpn (.inr h2)
  by_cases hin : (a / 16 - 1).toNat ≤ (y / 16 - 1).toNat ∧ (((y / 16 - 1).toNat : Nat) : Int) < (a / 16 - 1).toNat + Cl.wide d.f (a / 16 - 1).toNat
  · exact absurd rfl (cell_off hy (show (dropD d n a).f (y / 16 - 1).toNat = (0, 0) from if_pos hin))
  · have e : (dropD d n a).f (y / 16 - 1).toNat = d.f (y / 16 - 1).toNat := if_neg hin
    rw [bg_local hp.1 hmay e] at hy
    refine ⟨fun e0 => hin ?_, hy⟩
    subst e0
    have := (Cl.wide_facts hp.1 hpn (.inr h2)).1
    omega
theorem Freed.large (hb : ¬ Cl.bg d.f n a = 0) (hw : ¬ wd d a = 0) (hl : d.ws.length = 16 * n) (h2 : (pgAt d a).1 = 2) : Freed n d a (dropD d n a) := by
  have hp := bg_page hb
  have hpn : (a / 16 - 1).toNat < n := by have := hp.2.1; have := hp.2.2.1; omega
  have hmay : Cl.mayB (dropD d n a).f n = true := Cl.drop_may hp.1 hpn (.inr h2)
  have hbg : ∀ {y : Int}, ¬ Cl.bg d.f n y = 0 → ¬ y = a → Cl.bg (dropD d n a).f n y = Cl.bg d.f n y := fun {y} hy hne => bg_local hp.1 hmay (dropL_off hb h2 hy hne)
  have hwd : ∀ {y : Int}, ¬ Cl.bg d.f n y = 0 → ¬ y = a → wd (dropD d n a) y = wd d y := fun {y} hy hne => wiped_other hb hl hy hne y (Int.le_refl _) (bg_self hy)
  have hkeep : ∀ {x c : Int}, freeH d n x c = true → freeH (dropD d n a) n x c = true := fun {x c} hx => by
    have hf := free_facts hx
    have hne : ¬ x = a := fun e0 => hw (by rw [← e0]; exact hf.2.2)
    exact free_mk (by rw [hbg hf.1 hne]; exact hf.1) ((dropL_off hb h2 hf.1 hne).trans hf.2.1) ((hwd hf.1 hne).trans hf.2.2)
  refine ⟨fun r G R h => ⟨hmay, fun y hy _ => ?_, fun j hj x hx => hkeep (h.fF j hj x hx), fun j hj x hx => hkeep (h.fG j hj x hx), fun i hi j hj x hx => hkeep (h.fR i hi j hj x hx), h.one⟩, fun r G R h hF y hy _ h0 => ?_, fun y hy _ hne => ⟨hbg hy hne, dropL_off hb h2 hy hne, wiped_other hb hl hy hne⟩, fun y hy hne => ?_, .inl ?_, Ar.wipe_length _ _ _, rfl⟩
  · obtain ⟨hne, hy'⟩ := dropL_cell hb h2 hy
    rw [cell_local (d := d) (d' := dropD d n a) (hwd hy' hne) (dropL_off hb h2 hy' hne)]
    exact h.cell y hy' (bg_zero _ _ hy')
  · obtain ⟨hne, hy'⟩ := dropL_cell hb h2 hy
    exact hF y hy' (bg_zero _ _ hy') ((hwd hy' hne).symm.trans h0)
  · obtain ⟨_, hy'⟩ := dropL_cell hb h2 hy
    exact ⟨hy', hwd hy' hne⟩
  · exact Classical.byContradiction fun hc => (dropL_cell hb h2 hc).1 rfl
theorem Freed.small {r0 : Nat} {G0 : Nat → List Int} {R0 : Nat → Nat → List Int} (h0 : Okay n d G0 r0 R0) (hb : ¬ Cl.bg d.f n a = 0) (hw : ¬ wd d a = 0) (hl : d.ws.length = 16 * n) (h1 : (pgAt d a).1 = 1) : Freed n d a (backD (pushD d n a) (a / 16 - 1).toNat) := by
  have hp := bg_page hb
  have hpn : (a / 16 - 1).toNat < n := by have := hp.2.1; have := hp.2.2.1; omega
  have hP := push_okay h0 hb hw hl h1
  obtain ⟨_, _, K⟩ := hP.1.back (p := (a / 16 - 1).toNat) hpn
  have hwd : ∀ {y : Int}, ¬ Cl.bg d.f n y = 0 → ¬ y = a → wd (pushD d n a) y = wd d y := fun {y} hy hne => wiped_other hb hl hy hne y (Int.le_refl _) (bg_self hy)
  have hs : ∀ {y : Int}, ¬ Cl.bg d.f n y = 0 → ¬ y = a → Same4 n d (pushD d n a) y := fun {y} hy hne => ⟨rfl, rfl, wiped_other hb hl hy hne⟩
  refine ⟨fun r G R h => ?_, fun r G R h hF => ?_, fun y hy hwy hne => (hs hy hne).trans (K.same y hy (by rw [hwd hy hne]; exact hwy)), fun y hy hne => ?_, .inr ?_, ?_, K.cs⟩
  · exact ((push_okay h hb hw hl h1).1.back hpn).1
  · have := push_okay h hb hw hl h1
    exact (this.1.back hpn).2.1 (this.2 hF)
  · have hy' : ¬ Cl.bg d.f n y = 0 := K.none y hy
    exact ⟨hy', by rw [K.word]; exact hwd hy' hne⟩
  · rw [K.word]; exact wiped_at hb hl
  · rw [K.ws]; exact Ar.wipe_length _ _ _
end
end Go.Proofs.YtdmclfolooiccaaGreatDoor
end
section
namespace Go.Proofs.YtdmclfolooiccaaGreatDoor
open Go.RowKit
set_option maxRecDepth 100000

section
variable (s : Hs) (d : Hd_) (p : Nat) (w : World)
end
end Go.Proofs.YtdmclfolooiccaaGreatDoor
end
section
namespace Go.Proofs.YtdmclfolooiccaaGreatDoor.Ls
open Go.Proofs.YtdmclfolooiccaaGreatDoor
set_option maxRecDepth 100000
open Go.RowKit
attribute [local go_sem ↓] Go.wp_at_zero Go.wp_at_succ

def RPopOut (w : World) (g : Nat → List Int) (a er : Int) (e : Ending) (w' : World) : Prop := ∃ u, e = .returned (.tuple #[(.agg #[.slice (u 0).a (u 0).n (u 0).c, .slice (u 1).a (u 1).n (u 1).c, .slice (u 2).a (u 2).n (u 2).c]), .int .i64 a, .int .i64 er]) ∧ L3 w' w'.heap.size u g ∧ Below w.heap.size w w' ∧ ∀ j x, j < 3 → (u j).a = some x → w.heap.size ≤ x.block

/-- Where the cut lists lie. -/
theorem cut_lies {w1 : World} {B C k m c : Nat} {v : Nat → Sl} {f : Nat → List Int} {a : Option Addr} (ho : Own3 w1 B v f) (hB : C ≤ B) (hk : k < 3) (ha : (v k).a = a) : ∀ j x, j < 3 → (upd v k ⟨a, m, c⟩ j).a = some x → C ≤ x.block := by
  intro j x hj hx
  by_cases e : j = k
  · subst e
    rw [upd_same] at hx
    have := (ho.block j hj (ha.trans hx)).1
    omega
  · rw [upd_other _ _ e] at hx
    have := (ho.block j hj hx).1
    omega
theorem old_boxes {w w1 : World} {u : Nat → Sl} (hb : Below ((w.alloc (.cells #[.slice (u 0).a (u 0).n (u 0).c, .slice (u 1).a (u 1).n (u 1).c, .slice (u 2).a (u 2).n (u 2).c] 25)).alloc (.cells #[.slice none 0 0, .slice none 0 0, .slice none 0 0] 25)).heap.size ((w.alloc (.cells #[.slice (u 0).a (u 0).n (u 0).c, .slice (u 1).a (u 1).n (u 1).c, .slice (u 2).a (u 2).n (u 2).c] 25)).alloc (.cells #[.slice none 0 0, .slice none 0 0, .slice none 0 0] 25)) w1) :
    Box3 w1 w.heap.size u ∧ Box3 w1 (w.heap.size + 1) noSl ∧ Below w.heap.size w w1 :=
  ⟨((Box3.new w u 25).alloc _).next hb, (two_boxes w u).next hb, (two_below w _ _).trans (hb.mono (two_below w _ _).size)⟩
set_option maxHeartbeats 1000000 in
theorem rpop_ok0 (B : Nat) (u : Nat → Sl) (f : Nat → List Int) (m : Nat) (w : World) (h : L3 w B u f) (hB : B ≤ w.heap.size) (hn : ∀ j, j < 3 → (u j).n ≤ 2000000) (hm : (u 0).n = m + 1) :
    Calls Tryz.prog 33 #[(.agg #[.slice (u 0).a (u 0).n (u 0).c, .slice (u 1).a (u 1).n (u 1).c, .slice (u 2).a (u 2).n (u 2).c]), .int .i64 0] w (RPopOut w (upd f 0 ((f 0).take m)) ((f 0).getD m 0) 0) := by
  have HL := Lib.hid h
  have HN := Lib.hid hn
  have hm2 : m ≤ 2000000 := by have := hn 0 (by decide); omega
  have hd : ((((u 0).n : Nat) : Int) == 0) = false := by simp; omega
  have HM := Lib.hid hm
  clear h hn hm
  go_enter Tryz.func33, Tryz.ntmps33
  go_wp2_with fail
  have b0 := two_below w (.cells #[.slice (u 0).a (u 0).n (u 0).c, .slice (u 1).a (u 1).n (u 1).c, .slice (u 2).a (u 2).n (u 2).c] 25) (.cells #[.slice none 0 0, .slice none 0 0, .slice none 0 0] 25)
  refine (rown_any B u f _ (HL.out.over b0 hB) (by simp; omega) HN.out).mono ?_
  rintro e w1 ⟨v, rfl, ho, hb⟩
  have hl3 := ho.l3
  obtain ⟨XU, XR, BW⟩ := old_boxes hb
  have hvn : (v 0).n = m + 1 := by
    have h1 := hl3.len 0 (by decide)
    have h2 := HL.out.len 0 (by decide)
    have h3 := HM.out
    omega
  have hcap := (hl3 0 (by decide)).2
  have hcm := hcap.2
  unfold maxLen at hcm
  have hcap : m + 1 ≤ (v 0).c := by omega
  obtain ⟨b, off, hA, _, _⟩ := (hl3 0 (by decide)).1.2 (by omega)
  obtain ⟨b', off', hA', hlt', hcell⟩ := ((HL.out 0 (by decide)).1.over BW hB).2 (by have := HM.out; omega)
  have hq := hcell m (by have := HM.out; omega)
  have hbw : b' < w1.heap.size := by have := XU.lt; omega
  obtain ⟨X1, ho2, hb2⟩ := two_on ho hb
  have HS := Lib.hid (And.intro (cut_end ho2 hb2 X1.out (k := 0) (m := m) (by decide) (by omega) hA) (cut_lies (k := 0) (m := m) (c := (v 0).c) ho2 (C := w.heap.size) (by omega) (by decide) hA))
  have HR := Lib.hid X1.out
  have c0 := XU.cell 0 (by decide)
  have c1 := XU.cell 1 (by decide)
  have c2 := XU.cell 2 (by decide)
  have cl := XU.lt
  have x0 := XR.cell 0 (by decide)
  have x1 := XR.cell 1 (by decide)
  have x2 := XR.cell 2 (by decide)
  have y0 := XR.free 0
  have y1 := XR.free 1
  have y2 := XR.free 2
  have xl := XR.lt
  have hm1 : (((u 0).n : Nat) : Int) - 1 = m := by have := HM.out; omega
  have hm3 : IntKind.i64.wrap (m : Int) = m := by simp [IntKind.wrap, IntKind.signed, IntKind.bits]; omega
  have j0 : (0 : Int) ≤ m := by omega
  have j1 : (m : Int) < (((u 0).n : Nat) : Int) := by omega
  clear hcell hl3 ho hb b0 HM XU XR BW hvn X1 ho2 hb2
  go_wp2
  go_region_with (fail)
  all_goals go_wp2
  all_goals refine bodyPost_ret (v := .tuple #[(.agg #[.slice (upd v 0 ⟨some ⟨b, off, none⟩, m, (v 0).c⟩ 0).a (upd v 0 ⟨some ⟨b, off, none⟩, m, (v 0).c⟩ 0).n (upd v 0 ⟨some ⟨b, off, none⟩, m, (v 0).c⟩ 0).c, .slice (upd v 0 ⟨some ⟨b, off, none⟩, m, (v 0).c⟩ 1).a (upd v 0 ⟨some ⟨b, off, none⟩, m, (v 0).c⟩ 1).n (upd v 0 ⟨some ⟨b, off, none⟩, m, (v 0).c⟩ 1).c, .slice (upd v 0 ⟨some ⟨b, off, none⟩, m, (v 0).c⟩ 2).a (upd v 0 ⟨some ⟨b, off, none⟩, m, (v 0).c⟩ 2).n (upd v 0 ⟨some ⟨b, off, none⟩, m, (v 0).c⟩ 2).c]), .int .i64 ((f 0).getD m 0), .int .i64 0]) ?_ rfl ?_
  all_goals first
    | exact ⟨_, rfl, ((HS.out.1 (.cells #[.slice (upd v 0 ⟨some ⟨b, off, none⟩, m, (v 0).c⟩ 0).a (upd v 0 ⟨some ⟨b, off, none⟩, m, (v 0).c⟩ 0).n (upd v 0 ⟨some ⟨b, off, none⟩, m, (v 0).c⟩ 0).c, .slice (upd v 0 ⟨some ⟨b, off, none⟩, m, (v 0).c⟩ 1).a (upd v 0 ⟨some ⟨b, off, none⟩, m, (v 0).c⟩ 1).n (upd v 0 ⟨some ⟨b, off, none⟩, m, (v 0).c⟩ 1).c, .slice (upd v 0 ⟨some ⟨b, off, none⟩, m, (v 0).c⟩ 2).a (upd v 0 ⟨some ⟨b, off, none⟩, m, (v 0).c⟩ 2).n (upd v 0 ⟨some ⟨b, off, none⟩, m, (v 0).c⟩ 2).c] 25) (upd v 0 ⟨some ⟨b, off, none⟩, m, (v 0).c⟩)).1).drewN 1, below_drawn (HS.out.1 _ (upd v 0 ⟨some ⟨b, off, none⟩, m, (v 0).c⟩)).2 1, HS.out.2⟩
    | (have R := (HR.out.put (upd v 0 ⟨some ⟨b, off, none⟩, m, (v 0).c⟩)).alloc (.cells #[.slice (upd v 0 ⟨some ⟨b, off, none⟩, m, (v 0).c⟩ 0).a (upd v 0 ⟨some ⟨b, off, none⟩, m, (v 0).c⟩ 0).n (upd v 0 ⟨some ⟨b, off, none⟩, m, (v 0).c⟩ 0).c, .slice (upd v 0 ⟨some ⟨b, off, none⟩, m, (v 0).c⟩ 1).a (upd v 0 ⟨some ⟨b, off, none⟩, m, (v 0).c⟩ 1).n (upd v 0 ⟨some ⟨b, off, none⟩, m, (v 0).c⟩ 1).c, .slice (upd v 0 ⟨some ⟨b, off, none⟩, m, (v 0).c⟩ 2).a (upd v 0 ⟨some ⟨b, off, none⟩, m, (v 0).c⟩ 2).n (upd v 0 ⟨some ⟨b, off, none⟩, m, (v 0).c⟩ 2).c] 25)
       have r0 := R.cell 0 (by decide)
       have r1 := R.cell 1 (by decide)
       have r2 := R.cell 2 (by decide)
       simp +decide only [put3, upd, reduceIte] at r0 r1 r2
       simp [results, Tryz.results33, go_sem, upd, r0, r1, r2])
set_option maxHeartbeats 1000000 in
theorem rpop_ok1 (B : Nat) (u : Nat → Sl) (f : Nat → List Int) (m : Nat) (w : World) (h : L3 w B u f) (hB : B ≤ w.heap.size) (hn : ∀ j, j < 3 → (u j).n ≤ 2000000) (hm : (u 1).n = m + 1) :
    Calls Tryz.prog 33 #[(.agg #[.slice (u 0).a (u 0).n (u 0).c, .slice (u 1).a (u 1).n (u 1).c, .slice (u 2).a (u 2).n (u 2).c]), .int .i64 1] w (RPopOut w (upd f 1 ((f 1).take m)) ((f 1).getD m 0) 0) := by
  have HL := Lib.hid h
  have HN := Lib.hid hn
  have hm2 : m ≤ 2000000 := by have := hn 1 (by decide); omega
  have hd : ((((u 1).n : Nat) : Int) == 0) = false := by simp; omega
  have HM := Lib.hid hm
  clear h hn hm
  go_enter Tryz.func33, Tryz.ntmps33
  go_wp2_with fail
  have b0 := two_below w (.cells #[.slice (u 0).a (u 0).n (u 0).c, .slice (u 1).a (u 1).n (u 1).c, .slice (u 2).a (u 2).n (u 2).c] 25) (.cells #[.slice none 0 0, .slice none 0 0, .slice none 0 0] 25)
  refine (rown_any B u f _ (HL.out.over b0 hB) (by simp; omega) HN.out).mono ?_
  rintro e w1 ⟨v, rfl, ho, hb⟩
  have hl3 := ho.l3
  obtain ⟨XU, XR, BW⟩ := old_boxes hb
  have hvn : (v 1).n = m + 1 := by
    have h1 := hl3.len 1 (by decide)
    have h2 := HL.out.len 1 (by decide)
    have h3 := HM.out
    omega
  have hcap := (hl3 1 (by decide)).2
  have hcm := hcap.2
  unfold maxLen at hcm
  have hcap : m + 1 ≤ (v 1).c := by omega
  obtain ⟨b, off, hA, _, _⟩ := (hl3 1 (by decide)).1.2 (by omega)
  obtain ⟨b', off', hA', hlt', hcell⟩ := ((HL.out 1 (by decide)).1.over BW hB).2 (by have := HM.out; omega)
  have hq := hcell m (by have := HM.out; omega)
  have hbw : b' < w1.heap.size := by have := XU.lt; omega
  obtain ⟨X1, ho2, hb2⟩ := two_on ho hb
  have HS := Lib.hid (And.intro (cut_end ho2 hb2 X1.out (k := 1) (m := m) (by decide) (by omega) hA) (cut_lies (k := 1) (m := m) (c := (v 1).c) ho2 (C := w.heap.size) (by omega) (by decide) hA))
  have HR := Lib.hid X1.out
  have c0 := XU.cell 0 (by decide)
  have c1 := XU.cell 1 (by decide)
  have c2 := XU.cell 2 (by decide)
  have cl := XU.lt
  have x0 := XR.cell 0 (by decide)
  have x1 := XR.cell 1 (by decide)
  have x2 := XR.cell 2 (by decide)
  have y0 := XR.free 0
  have y1 := XR.free 1
  have y2 := XR.free 2
  have xl := XR.lt
  have hm1 : (((u 1).n : Nat) : Int) - 1 = m := by have := HM.out; omega
  have hm3 : IntKind.i64.wrap (m : Int) = m := by simp [IntKind.wrap, IntKind.signed, IntKind.bits]; omega
  have j0 : (0 : Int) ≤ m := by omega
  have j1 : (m : Int) < (((u 1).n : Nat) : Int) := by omega
  clear hcell hl3 ho hb b0 HM XU XR BW hvn X1 ho2 hb2
  go_wp2
  go_region_with (fail)
  all_goals go_wp2
  all_goals refine bodyPost_ret (v := .tuple #[(.agg #[.slice (upd v 1 ⟨some ⟨b, off, none⟩, m, (v 1).c⟩ 0).a (upd v 1 ⟨some ⟨b, off, none⟩, m, (v 1).c⟩ 0).n (upd v 1 ⟨some ⟨b, off, none⟩, m, (v 1).c⟩ 0).c, .slice (upd v 1 ⟨some ⟨b, off, none⟩, m, (v 1).c⟩ 1).a (upd v 1 ⟨some ⟨b, off, none⟩, m, (v 1).c⟩ 1).n (upd v 1 ⟨some ⟨b, off, none⟩, m, (v 1).c⟩ 1).c, .slice (upd v 1 ⟨some ⟨b, off, none⟩, m, (v 1).c⟩ 2).a (upd v 1 ⟨some ⟨b, off, none⟩, m, (v 1).c⟩ 2).n (upd v 1 ⟨some ⟨b, off, none⟩, m, (v 1).c⟩ 2).c]), .int .i64 ((f 1).getD m 0), .int .i64 0]) ?_ rfl ?_
  all_goals first
    | exact ⟨_, rfl, ((HS.out.1 (.cells #[.slice (upd v 1 ⟨some ⟨b, off, none⟩, m, (v 1).c⟩ 0).a (upd v 1 ⟨some ⟨b, off, none⟩, m, (v 1).c⟩ 0).n (upd v 1 ⟨some ⟨b, off, none⟩, m, (v 1).c⟩ 0).c, .slice (upd v 1 ⟨some ⟨b, off, none⟩, m, (v 1).c⟩ 1).a (upd v 1 ⟨some ⟨b, off, none⟩, m, (v 1).c⟩ 1).n (upd v 1 ⟨some ⟨b, off, none⟩, m, (v 1).c⟩ 1).c, .slice (upd v 1 ⟨some ⟨b, off, none⟩, m, (v 1).c⟩ 2).a (upd v 1 ⟨some ⟨b, off, none⟩, m, (v 1).c⟩ 2).n (upd v 1 ⟨some ⟨b, off, none⟩, m, (v 1).c⟩ 2).c] 25) (upd v 1 ⟨some ⟨b, off, none⟩, m, (v 1).c⟩)).1).drewN 1, below_drawn (HS.out.1 _ (upd v 1 ⟨some ⟨b, off, none⟩, m, (v 1).c⟩)).2 1, HS.out.2⟩
    | (have R := (HR.out.put (upd v 1 ⟨some ⟨b, off, none⟩, m, (v 1).c⟩)).alloc (.cells #[.slice (upd v 1 ⟨some ⟨b, off, none⟩, m, (v 1).c⟩ 0).a (upd v 1 ⟨some ⟨b, off, none⟩, m, (v 1).c⟩ 0).n (upd v 1 ⟨some ⟨b, off, none⟩, m, (v 1).c⟩ 0).c, .slice (upd v 1 ⟨some ⟨b, off, none⟩, m, (v 1).c⟩ 1).a (upd v 1 ⟨some ⟨b, off, none⟩, m, (v 1).c⟩ 1).n (upd v 1 ⟨some ⟨b, off, none⟩, m, (v 1).c⟩ 1).c, .slice (upd v 1 ⟨some ⟨b, off, none⟩, m, (v 1).c⟩ 2).a (upd v 1 ⟨some ⟨b, off, none⟩, m, (v 1).c⟩ 2).n (upd v 1 ⟨some ⟨b, off, none⟩, m, (v 1).c⟩ 2).c] 25)
       have r0 := R.cell 0 (by decide)
       have r1 := R.cell 1 (by decide)
       have r2 := R.cell 2 (by decide)
       simp +decide only [put3, upd, reduceIte] at r0 r1 r2
       simp [results, Tryz.results33, go_sem, upd, r0, r1, r2])
set_option maxHeartbeats 1000000 in
theorem rpop_ok2 (B : Nat) (u : Nat → Sl) (f : Nat → List Int) (m : Nat) (w : World) (h : L3 w B u f) (hB : B ≤ w.heap.size) (hn : ∀ j, j < 3 → (u j).n ≤ 2000000) (hm : (u 2).n = m + 1) :
    Calls Tryz.prog 33 #[(.agg #[.slice (u 0).a (u 0).n (u 0).c, .slice (u 1).a (u 1).n (u 1).c, .slice (u 2).a (u 2).n (u 2).c]), .int .i64 2] w (RPopOut w (upd f 2 ((f 2).take m)) ((f 2).getD m 0) 0) := by
  have HL := Lib.hid h
  have HN := Lib.hid hn
  have hm2 : m ≤ 2000000 := by have := hn 2 (by decide); omega
  have hd : ((((u 2).n : Nat) : Int) == 0) = false := by simp; omega
  have HM := Lib.hid hm
  clear h hn hm
  go_enter Tryz.func33, Tryz.ntmps33
  go_wp2_with fail
  have b0 := two_below w (.cells #[.slice (u 0).a (u 0).n (u 0).c, .slice (u 1).a (u 1).n (u 1).c, .slice (u 2).a (u 2).n (u 2).c] 25) (.cells #[.slice none 0 0, .slice none 0 0, .slice none 0 0] 25)
  refine (rown_any B u f _ (HL.out.over b0 hB) (by simp; omega) HN.out).mono ?_
  rintro e w1 ⟨v, rfl, ho, hb⟩
  have hl3 := ho.l3
  obtain ⟨XU, XR, BW⟩ := old_boxes hb
  have hvn : (v 2).n = m + 1 := by
    have h1 := hl3.len 2 (by decide)
    have h2 := HL.out.len 2 (by decide)
    have h3 := HM.out
    omega
  have hcap := (hl3 2 (by decide)).2
  have hcm := hcap.2
  unfold maxLen at hcm
  have hcap : m + 1 ≤ (v 2).c := by omega
  obtain ⟨b, off, hA, _, _⟩ := (hl3 2 (by decide)).1.2 (by omega)
  obtain ⟨b', off', hA', hlt', hcell⟩ := ((HL.out 2 (by decide)).1.over BW hB).2 (by have := HM.out; omega)
  have hq := hcell m (by have := HM.out; omega)
  have hbw : b' < w1.heap.size := by have := XU.lt; omega
  obtain ⟨X1, ho2, hb2⟩ := two_on ho hb
  have HS := Lib.hid (And.intro (cut_end ho2 hb2 X1.out (k := 2) (m := m) (by decide) (by omega) hA) (cut_lies (k := 2) (m := m) (c := (v 2).c) ho2 (C := w.heap.size) (by omega) (by decide) hA))
  have HR := Lib.hid X1.out
  have c0 := XU.cell 0 (by decide)
  have c1 := XU.cell 1 (by decide)
  have c2 := XU.cell 2 (by decide)
  have cl := XU.lt
  have x0 := XR.cell 0 (by decide)
  have x1 := XR.cell 1 (by decide)
  have x2 := XR.cell 2 (by decide)
  have y0 := XR.free 0
  have y1 := XR.free 1
  have y2 := XR.free 2
  have xl := XR.lt
  have hm1 : (((u 2).n : Nat) : Int) - 1 = m := by have := HM.out; omega
  have hm3 : IntKind.i64.wrap (m : Int) = m := by simp [IntKind.wrap, IntKind.signed, IntKind.bits]; omega
  have j0 : (0 : Int) ≤ m := by omega
  have j1 : (m : Int) < (((u 2).n : Nat) : Int) := by omega
  clear hcell hl3 ho hb b0 HM XU XR BW hvn X1 ho2 hb2
  go_wp2
  go_region_with (fail)
  all_goals go_wp2
  all_goals refine bodyPost_ret (v := .tuple #[(.agg #[.slice (upd v 2 ⟨some ⟨b, off, none⟩, m, (v 2).c⟩ 0).a (upd v 2 ⟨some ⟨b, off, none⟩, m, (v 2).c⟩ 0).n (upd v 2 ⟨some ⟨b, off, none⟩, m, (v 2).c⟩ 0).c, .slice (upd v 2 ⟨some ⟨b, off, none⟩, m, (v 2).c⟩ 1).a (upd v 2 ⟨some ⟨b, off, none⟩, m, (v 2).c⟩ 1).n (upd v 2 ⟨some ⟨b, off, none⟩, m, (v 2).c⟩ 1).c, .slice (upd v 2 ⟨some ⟨b, off, none⟩, m, (v 2).c⟩ 2).a (upd v 2 ⟨some ⟨b, off, none⟩, m, (v 2).c⟩ 2).n (upd v 2 ⟨some ⟨b, off, none⟩, m, (v 2).c⟩ 2).c]), .int .i64 ((f 2).getD m 0), .int .i64 0]) ?_ rfl ?_
  all_goals first
    | exact ⟨_, rfl, ((HS.out.1 (.cells #[.slice (upd v 2 ⟨some ⟨b, off, none⟩, m, (v 2).c⟩ 0).a (upd v 2 ⟨some ⟨b, off, none⟩, m, (v 2).c⟩ 0).n (upd v 2 ⟨some ⟨b, off, none⟩, m, (v 2).c⟩ 0).c, .slice (upd v 2 ⟨some ⟨b, off, none⟩, m, (v 2).c⟩ 1).a (upd v 2 ⟨some ⟨b, off, none⟩, m, (v 2).c⟩ 1).n (upd v 2 ⟨some ⟨b, off, none⟩, m, (v 2).c⟩ 1).c, .slice (upd v 2 ⟨some ⟨b, off, none⟩, m, (v 2).c⟩ 2).a (upd v 2 ⟨some ⟨b, off, none⟩, m, (v 2).c⟩ 2).n (upd v 2 ⟨some ⟨b, off, none⟩, m, (v 2).c⟩ 2).c] 25) (upd v 2 ⟨some ⟨b, off, none⟩, m, (v 2).c⟩)).1).drewN 1, below_drawn (HS.out.1 _ (upd v 2 ⟨some ⟨b, off, none⟩, m, (v 2).c⟩)).2 1, HS.out.2⟩
    | (have R := (HR.out.put (upd v 2 ⟨some ⟨b, off, none⟩, m, (v 2).c⟩)).alloc (.cells #[.slice (upd v 2 ⟨some ⟨b, off, none⟩, m, (v 2).c⟩ 0).a (upd v 2 ⟨some ⟨b, off, none⟩, m, (v 2).c⟩ 0).n (upd v 2 ⟨some ⟨b, off, none⟩, m, (v 2).c⟩ 0).c, .slice (upd v 2 ⟨some ⟨b, off, none⟩, m, (v 2).c⟩ 1).a (upd v 2 ⟨some ⟨b, off, none⟩, m, (v 2).c⟩ 1).n (upd v 2 ⟨some ⟨b, off, none⟩, m, (v 2).c⟩ 1).c, .slice (upd v 2 ⟨some ⟨b, off, none⟩, m, (v 2).c⟩ 2).a (upd v 2 ⟨some ⟨b, off, none⟩, m, (v 2).c⟩ 2).n (upd v 2 ⟨some ⟨b, off, none⟩, m, (v 2).c⟩ 2).c] 25)
       have r0 := R.cell 0 (by decide)
       have r1 := R.cell 1 (by decide)
       have r2 := R.cell 2 (by decide)
       simp +decide only [put3, upd, reduceIte] at r0 r1 r2
       simp [results, Tryz.results33, go_sem, upd, r0, r1, r2])
theorem rpop_ok (B : Nat) (u : Nat → Sl) (f : Nat → List Int) (k : Nat) (hk : k < 3) (m : Nat) (w : World) (h : L3 w B u f) (hB : B ≤ w.heap.size) (hn : ∀ j, j < 3 → (u j).n ≤ 2000000) (hm : (u k).n = m + 1) :
    Calls Tryz.prog 33 #[(.agg #[.slice (u 0).a (u 0).n (u 0).c, .slice (u 1).a (u 1).n (u 1).c, .slice (u 2).a (u 2).n (u 2).c]), .int .i64 k] w (RPopOut w (upd f k ((f k).take m)) ((f k).getD m 0) 0) := by
  rcases (show k = 0 ∨ k = 1 ∨ k = 2 by omega) with rfl | rfl | rfl
  · exact rpop_ok0 B u f m w h hB hn hm
  · exact rpop_ok1 B u f m w h hB hn hm
  · exact rpop_ok2 B u f m w h hB hn hm
end Go.Proofs.YtdmclfolooiccaaGreatDoor.Ls
end
