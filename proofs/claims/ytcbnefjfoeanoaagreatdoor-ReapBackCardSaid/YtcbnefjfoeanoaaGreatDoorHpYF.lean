/-
  Merged texts: AlKpP, AlTkn.
-/
import Derived.Test.YtcbnefjfoeanoaaGreatDoorHpYD
import Derived.Test.YtcbnefjfoeanoaaGreatDoorHpYE
section
namespace Go.Proofs.YtcbnefjfoeanoaaGreatDoor
open Go.RowKit
set_option maxRecDepth 100000

/-- Whatever cell there was, but what is taken: it stays. -/
theorem took_same {s : Hs} {d : Hd_} {G : Nat → List Int} {N x : Int} {q : Hd_ × (Nat → List Int) × Int} (hws : d.ws.length = s.w.n) (hm : mayH s d 1 (fun _ => G) = true) (hq : takeO d s.p.n G N = some q) :
    ∀ y, ¬ Cl.bg d.f s.p.n y = 0 → ¬ y = q.2.2 → Same4 s.p.n d (beginD q.1 s.p.n q.2.2 x) y := fun y hy hne => by
  have hwp := (fit_first (mayH_all hm).1).wp
  have hok0 : Okay s.p.n d G 0 (fun _ => G) := (okay_iff.1 (by rw [ahead_one]; exact hm)).2
  have T0 := takeO_some (r := 0) (R := fun _ => G) hq
  have hl : q.1.ws.length = 16 * s.p.n := by rw [T0.len, hws, hwp]
  have s1 := (same_take hok0 hq).1 y hy
  exact s1.trans (same_begin (T0.cell hok0) hl (by rw [s1.bg]; exact hy) hne)
theorem used_more {s t : Hs} {d : Hd_} {G : Nat → List Int} {o e : Bool} {N b m : Int} {r : Tk} (T : Took s t d G o e N b m r) (hp : t.p.n = s.p.n) (hm : mayB0 s d = true) (hm' : mayB0 t r.d = true) (hx : ¬ Hd.word true o e N b m = 0) (hs : ∀ y, ¬ Cl.bg d.f s.p.n y = 0 → ¬ y = r.a → Same4 s.p.n d r.d y) :
    (usedL t r.d).length = (usedL s d).length + 1 := by
  have ha : r.a ∉ usedL s d := fun h => ((T.keeps r.a ((used_iff8 hm).1 h).1 ((used_iff8 hm).1 h).2).1) rfl
  have hperm : (usedL t r.d).Perm (r.a :: usedL s d) := (List.perm_ext_iff_of_nodup (used_nodup t r.d) (List.nodup_cons.2 ⟨ha, used_nodup s d⟩)).2 fun y => by
    rw [used_iff8 hm', List.mem_cons, used_iff8 hm, hp]
    constructor
    · rintro ⟨h1, h2⟩
      by_cases hy : y = r.a
      · exact .inl hy
      · have h3 := T.none y h1 hy h2
        refine .inr ⟨h3, fun e0 => ?_⟩
        exact h2 (((hs y h3 hy).wd y (Int.le_refl _) (by have := cell_end h3; omega)).trans e0)
    · rintro (rfl | ⟨h1, h2⟩)
      · exact ⟨T.cell, by rw [T.word]; exact hx⟩
      · obtain ⟨_, h4⟩ := T.keeps y h1 h2
        exact ⟨by rw [h4.bg]; exact h1, by rw [h4.wd y (Int.le_refl _) (by have := cell_end h1; omega)]; exact h2⟩
  have := hperm.length_eq
  simpa using this
end Go.Proofs.YtcbnefjfoeanoaaGreatDoor
end
section
namespace Go.Proofs.YtcbnefjfoeanoaaGreatDoor.Al
open Go.Proofs.YtcbnefjfoeanoaaGreatDoor
open Go.RowKit
set_option maxRecDepth 100000

theorem all_short8 {n : Nat} {d : Hd_} {F : Nat → Nat → List Int} (hd : ∀ j, j < 3 → (d.F j).length ≤ 1000) (hF : ∀ i, i < n → ∀ j, j < 3 → (F i j).length ≤ 1000) (hn : n ≤ 4) : (Ls.allOf (ahead d.F F) (1 + n)).length ≤ 2000000 := by
  have f0 := hd 0 (by decide)
  have f1 := hd 1 (by decide)
  have f2 := hd 2 (by decide)
  have key : ∀ m, m ≤ 1 + n → (Ls.allOf (ahead d.F F) m).length ≤ 3000 * m := fun m => by
    induction m with
    | zero => intro _; simp [Ls.allOf]
    | succ m ih =>
      intro hm
      rw [Ls.allOf_succ, List.length_append, upTo3]
      have := ih (by omega)
      cases m with
      | zero => simp only [ahead]; omega
      | succ i => have a0 := hF i (by omega) 0 (by decide); have a1 := hF i (by omega) 1 (by decide); have a2 := hF i (by omega) 2 (by decide); simp only [ahead]; omega
  have := key (1 + n) (Nat.le_refl _)
  omega
theorem used_len8 (s : Hs) (d : Hd_) : (usedL s d).length ≤ 512 := by
  unfold usedL usedF
  split
  · exact Nat.le_trans (List.length_filter_le _ _) (allS_len _ _)
  · exact Nat.zero_le _
theorem used_post8 (s : Hs) (d : Hd_) (w : World) (hp : Hp w w.heap.size s d) (hz : Cl.Sz w) (hf : Fine s d) (K : Nat) (hK : (usedL s d).length = K) : Calls Tryz.prog 17 #[(.agg #[.slice s.w.a s.w.n s.w.c, .slice s.p.a s.p.n s.p.c, .slice (s.u 0).a (s.u 0).n (s.u 0).c, .slice (s.u 1).a (s.u 1).n (s.u 1).c, .slice (s.u 2).a (s.u 2).n (s.u 2).c, .slice s.c.a s.c.n s.c.c])] w fun e w' => ∃ A' C', e = .returned (.slice A' K C') ∧ Below w.heap.size w w' :=
  (pused_any s d w hp hz hf).mono fun e w' ⟨v, he, ho, hb⟩ => by
    have hn : v.n = K := by have := ho.1; simp at this; omega
    exact ⟨v.a, v.c, by rw [he, hn], hb⟩
/-- What a law holds of a heap that room was taken from. -/
structure Tk8 (s : Hs) (d D : Hd_) (a : Int) : Prop where
  lF : ∀ j, j < 3 → (D.F j).length ≤ 78
  fine : ∀ t, Same3 s t → Fine t D
  may : ∀ t, Same3 s t → mayB0 t D = true
  used : (usedL s D).length = (usedL s d).length + 1
  keeps : ∀ y ∈ usedL s d, ¬ y = a ∧ Same4 s.p.n d D y
section
variable {s : Hs} {d D : Hd_} {G G' : Nat → List Int} {o e : Bool} {N b m a : Int}
theorem tk8_of (hm0 : mayB0 s d = true) (hm : mayH s d 1 (fun _ => G) = true) (hx : Hd.mayB true o e N b m = true)
    (T : ∀ t, Same3 s t → Took s t d G o e N b m ⟨0, s.w.n, s.p.n, s.c.n, D, G', a⟩) (L : ∀ t, Same3 s t → Lite t D G' (70 + 8)) (hs : ∀ y, ¬ Cl.bg d.f s.p.n y = 0 → ¬ y = a → Same4 s.p.n d D y) : Tk8 s d D a := by
  have Ts := T s ⟨rfl, rfl, rfl⟩
  have may0 : ∀ t, Same3 s t → mayB0 t D = true := fun t h => by
    have := (T t h).may 0 (fun _ => G) (by rw [ahead_one]; exact hm)
    exact may_none this
  have hp1 := (Hd.word_parts hx).1
  have hx0 : ¬ Hd.word true o e N b m = 0 := fun e0 => by rw [e0] at hp1; omega
  have hu := used_more Ts rfl hm0 (may0 s ⟨rfl, rfl, rfl⟩) hx0 hs
  refine ⟨(L s ⟨rfl, rfl, rfl⟩).F, fun t h => ?_, may0, hu, fun y hy => ?_⟩
  · have l := L t h
    have f0 := l.F 0 (by decide)
    have f1 := l.F 1 (by decide)
    have f2 := l.F 2 (by decide)
    exact ⟨by have := l.w; omega, by have := l.p; omega, by have := l.c; omega, l.hv, by rw [upTo3]; omega⟩
  · have hu := (used_iff8 hm0).1 hy
    obtain ⟨k1, k2⟩ := Ts.keeps y hu.1 hu.2
    exact ⟨k1, k2⟩
/-- What is taken has more words than there are fields. -/
theorem room_more (hc : ¬ Cl.bg D.f s.p.n a = 0) (hN : Cl.classErr N = 0) (hf : (pgAt D a = (1, Cl.classOf N) ∧ ¬ Cl.classOf N = 3) ∨ (pgAt D a = (2, Cl.runOf N) ∧ Cl.classOf N = 3)) : N < Cl.bg D.f s.p.n a := by
  have hb := bg_page hc
  have hn := class_cases hN
  rw [hb.2.2.2] at hc ⊢
  rcases hf with ⟨h1, h3⟩ | ⟨h1, h3⟩
  · rw [show D.f (a / 16 - 1).toNat = (1, Cl.classOf N) from h1] at hc ⊢
    unfold Cl.pg at hc ⊢
    rw [if_neg (by simp)] at hc ⊢
    split at hc
    · next hh =>
      rw [if_pos hh]
      have hk : (N ≤ 1 ∧ Cl.classOf N = 0) ∨ (N ≤ 3 ∧ Cl.classOf N = 1) ∨ (N ≤ 7 ∧ Cl.classOf N = 2) := by
        rcases (show N ≤ 1 ∨ (1 < N ∧ N ≤ 3) ∨ (3 < N ∧ N ≤ 7) ∨ 7 < N by omega) with g | g | g | g
        · exact .inl ⟨g, by unfold Cl.classOf; rw [if_neg (by omega), if_pos g]⟩
        · exact .inr (.inl ⟨g.2, by unfold Cl.classOf; rw [if_neg (by omega), if_neg (by omega), if_pos g.2]⟩)
        · exact .inr (.inr ⟨g.2, by unfold Cl.classOf; rw [if_neg (by omega), if_neg (by omega), if_neg (by omega), if_pos g.2]⟩)
        · exact absurd (by unfold Cl.classOf; rw [if_neg (by omega), if_neg (by omega), if_neg (by omega), if_neg (by omega)]) h3
      rcases hk with ⟨g, e⟩ | ⟨g, e⟩ | ⟨g, e⟩
      · rw [e]; show N < 2; omega
      · rw [e]; show N < 4; omega
      · rw [e]; show N < 8; omega
    · exact absurd rfl hc
  · rw [show D.f (a / 16 - 1).toNat = (2, Cl.runOf N) from h1] at hc ⊢
    unfold Cl.pg at hc ⊢
    split at hc
    · next hh =>
      rw [if_pos hh]
      have h8 : ¬ N ≤ 7 := fun h7 => by
        unfold Cl.classOf at h3
        rw [if_neg (by omega)] at h3
        split at h3
        · omega
        · split at h3
          · omega
          · omega
      show N < 16 * Cl.runOf N
      unfold Cl.runOf
      rw [if_neg (by omega)]
      split
      · omega
      · split
        · omega
        · split <;> omega
    · rw [if_neg (by simp)] at hc
      exact absurd rfl hc
theorem used_same {t : Hs} (h : Same3 s t) (h1 : mayB0 s D = true) (h2 : mayB0 t D = true) : (usedL t D).length = (usedL s D).length := by
  unfold usedL
  rw [if_pos h1, if_pos h2, h.2.1]
end
end Go.Proofs.YtcbnefjfoeanoaaGreatDoor.Al
end
