/-
  A heap with another head of one object: what may be, is whole and is used, plainly.
-/
import Derived.Test.YthgcaehhjiccbaaGreatDoorHpZL
import Derived.Test.YthgcaehhjiccbaaGreatDoorZHpWholeP
import Derived.Test.YthgcaehhjiccbaaGreatDoorZHpHeadP
namespace Go.Proofs.YthgcaehhjiccbaaGreatDoor
open Go.RowKit
set_option maxRecDepth 100000

/-- Another head with as many fields stands at a; all else is as it was. -/
structure Turned (s t : Hs) (d d' : Hd_) (a : Int) : Prop where
  len : Lens s t
  f : d'.f = d.f
  F : d'.F = d.F
  oth : ∀ y, 16 ≤ y → ¬ y = a → wd d' y = wd d y
  w1 : Hd.isWord (wd d' a) = true ∧ wd d' a % 2 = 1
  w2 : Hd.isWord (wd d a) = true ∧ wd d a % 2 = 1
  n : nOf (wd d' a) = nOf (wd d a)
section
variable {s t : Hs} {d d' : Hd_} {a : Int}
theorem Turned.word (h : Turned s t d d' a) {y : Int} (hy : 16 ≤ y) : Hd.isWord (wd d' y) = Hd.isWord (wd d y) ∧ (wd d' y % 2 = 1 ↔ wd d y % 2 = 1) ∧ nOf (wd d' y) = nOf (wd d y) ∧ (wd d' y = 0 ↔ wd d y = 0) := by
  by_cases e : y = a
  · subst e
    have h1 := h.w1
    have h2 := h.w2
    exact ⟨h1.1.trans h2.1.symm, ⟨fun _ => h2.2, fun _ => h1.2⟩, h.n, ⟨fun e => by omega, fun e => by omega⟩⟩
  · rw [h.oth y hy e]
    exact ⟨rfl, Iff.rfl, rfl, Iff.rfl⟩
theorem Turned.cell (h : Turned s t d d' a) {y : Int} (hy : 16 ≤ y) : cellAt d' y = cellAt d y := by
  obtain ⟨h1, h2, h3, _⟩ := h.word hy
  unfold cellAt cellB
  rw [h.f, show d'.ws.getD (y - 16).toNat 0 = wd d' y from rfl, show d.ws.getD (y - 16).toNat 0 = wd d y from rfl]
  by_cases hc : Hd.isWord (wd d y) = true ∧ wd d y % 2 = 1
  · have hc' : Hd.isWord (wd d' y) = true ∧ wd d' y % 2 = 1 := ⟨h1.trans hc.1, h2.2 hc.2⟩
    rw [if_pos hc, if_pos hc', h3]
  · have hc' : ¬ (Hd.isWord (wd d' y) = true ∧ wd d' y % 2 = 1) := fun e => hc ⟨h1.symm.trans e.1, h2.1 e.2⟩
    rw [if_neg hc, if_neg hc', h1]
theorem bg_in16 {f : Nat → Int × Int} {n : Nat} {y : Int} (h : ¬ Cl.bg f n y = 0) : 16 ≤ y :=
  Classical.byContradiction fun hn => h (Cl.bg_no fun e => hn e.2.1)
theorem Turned.freeH (h : Turned s t d d' a) (n : Nat) (y c : Int) : freeH d' n y c = Go.Proofs.YthgcaehhjiccbaaGreatDoor.freeH d n y c := by
  unfold Go.Proofs.YthgcaehhjiccbaaGreatDoor.freeH
  rw [h.f]
  by_cases hb : Cl.bg d.f n y = 0
  · rw [if_pos hb, if_pos hb]
  · rw [if_neg hb, if_neg hb]
    have h4 := (h.word (bg_in16 hb)).2.2.2
    rw [show d'.ws.getD (y - 16).toNat 0 = wd d' y from rfl, show d.ws.getD (y - 16).toNat 0 = wd d y from rfl]
    congr 1
    rw [Bool.eq_iff_iff, beq_iff_eq, beq_iff_eq]
    exact h4
theorem Turned.may (h : Turned s t d d' a) (m : Nat) (F : Nat → Nat → List Int) : mayH t d' m F = mayH s d m F := by
  unfold mayH firstB freeAll
  rw [h.len.1, h.len.2.1, h.len.2.2.2, h.f, h.F, all_congr fun y hy => h.cell (allS_in hy).1]
  simp only [h.freeH]
theorem Turned.may0 (h : Turned s t d d' a) : mayB0 t d' = mayB0 s d := h.may 0 noCaches
theorem Turned.used (h : Turned s t d d' a) : usedL t d' = usedL s d := by
  unfold usedL usedF
  rw [h.may0, h.f, h.len.2.1]
  split
  · refine List.filter_congr fun y hy => ?_
    rw [decide_eq_decide]
    exact (h.word (allS_in hy).1).2.1
  · rfl
theorem Turned.whole (h : Turned s t d d' a) (m : Nat) (F : Nat → Nat → List Int) : wholeH t d' m F = wholeH s d m F := by
  unfold wholeH
  rw [h.may, h.f, h.F, h.len.2.1]
  congr 1
  refine all_congr fun y hy => ?_
  congr 2
  rw [Bool.eq_iff_iff, beq_iff_eq, beq_iff_eq]
  exact (h.word (allS_in hy).1).2.2.2
theorem Turned.headE (h : Turned s t d d' a) (y : Int) : headE t d' y = Go.Proofs.YthgcaehhjiccbaaGreatDoor.headE s d y := by
  unfold Go.Proofs.YthgcaehhjiccbaaGreatDoor.headE
  rw [h.may0, h.f, h.len.2.1]
  by_cases hm : mayB0 s d = false
  · rw [if_pos hm, if_pos hm]
  · rw [if_neg hm, if_neg hm]
    by_cases hb : Cl.bg d.f s.p.n y = 0
    · rw [if_pos (Or.inl hb), if_pos (Or.inl hb)]
    · have h4 := (h.word (bg_in16 hb)).2.2.2
      by_cases hw : wd d y = 0
      · rw [if_pos (Or.inr hw), if_pos (Or.inr (h4.2 hw))]
      · rw [if_neg (by rintro (e | e); exact hb e; exact hw (h4.1 e)), if_neg (by rintro (e | e); exact hb e; exact hw e)]
theorem Turned.headV (h : Turned s t d d' a) {y : Int} (hy : ¬ y = a) : headV t d' y = Go.Proofs.YthgcaehhjiccbaaGreatDoor.headV s d y := by
  unfold Go.Proofs.YthgcaehhjiccbaaGreatDoor.headV
  rw [h.headE]
  split
  · next he =>
    unfold Go.Proofs.YthgcaehhjiccbaaGreatDoor.headE at he
    split at he
    · omega
    · split at he
      · omega
      · next hn => rw [h.oth y (bg_in16 fun e => hn (.inl e)) hy]
  · rfl
end
/-- The heap with the head's word at a. -/
def dSet (d : Hd_) (a : Int) (o e : Bool) (n b m : Int) : Hd_ := ⟨d.ws.set (a - 16).toNat (Hd.word true o e n b m), d.f, d.F, d.cs⟩
theorem turned_set {s t : Hs} {d : Hd_} {a : Int} {o e : Bool} {n b m : Int} (hl : Lens s t) (hm : mayB0 s d = true) (hlen : d.ws.length = s.w.n) (he : headE s d a = 0) (hx : Hd.mayB true o e n b m = true) (hn : n = nOf (wd d a)) : Turned s t d (dSet d a o e n b m) a ∧ headV t (dSet d a o e n b m) a = .agg #[.bool true, .bool o, .bool e, .int .i64 n, .int .i64 b, .int .i64 m] := by
  have hb : ¬ Cl.bg d.f s.p.n a = 0 ∧ ¬ wd d a = 0 := by
    unfold headE at he
    rw [if_neg (by rw [hm]; decide)] at he
    split at he
    · omega
    · next h => exact ⟨fun e => h (.inl e), fun e => h (.inr e)⟩
  have hw := may0_word hm hb.1
  have hwd : Hd.isWord (wd d a) = true := hw.2.2.2
  have hodd : wd d a % 2 = 1 := Classical.byContradiction fun hn => hb.2 (Hd.isWord_even hwd hn)
  have hat : wd (dSet d a o e n b m) a = Hd.word true o e n b m := by
    unfold wd dSet
    have : (a - 16).toNat < d.ws.length := by omega
    simp [List.getD, this]
  obtain ⟨p1, p2, p3, p4, p5, p6⟩ := Hd.word_parts hx
  have hT : Turned s t d (dSet d a o e n b m) a := ⟨hl, rfl, rfl, fun y hy hne => by
    unfold wd dSet
    have : ¬ (a - 16).toNat = (y - 16).toNat := by omega
    simp [List.getD, List.getElem?_set_ne this], by rw [hat]; exact ⟨Hd.isWord_word hx, p1⟩, ⟨hwd, hodd⟩, by rw [hat, ← hn]; exact p4⟩
  refine ⟨hT, ?_⟩
  unfold headV
  rw [hT.headE, if_pos he, hat, headOf_yes (Hd.isWord_word hx), decide_eq_true p1]
  have e1 : decide (Hd.word true o e n b m / 2 % 2 = 1) = o := by cases o <;> simp [p2]
  have e2 : decide (Hd.word true o e n b m / 4 % 2 = 1) = e := by cases e <;> simp [p3]
  rw [e1, e2, show nOf (Hd.word true o e n b m) = n from p4, p5, p6]
end Go.Proofs.YthgcaehhjiccbaaGreatDoor
