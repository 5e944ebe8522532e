/-
  HeapUsed: what is used, plainly.
-/
import Derived.Test.YtcbnefjfoeanoaaDoorZHpFew
namespace Go.Proofs.YtcbnefjfoeanoaaDoor
open Go.RowKit
set_option maxRecDepth 100000

theorem used_fits {d : Hd_} {n : Nat} {a : Int} (hb : ¬ Cl.bg d.f n a = 0) (hc : cellAt d a = true) (hu : wd d a % 2 = 1) : 1 ≤ nOf (wd d a) ∧ nOf (wd d a) < Cl.bg d.f n a := by
  have hp := (page_of (mem_allS.2 hb)).2.2
  have hw := (word_used hc).1
  have e : Cl.bg d.f n a = Cl.pg (pgAt d a) a := by
    unfold Cl.bg at hb ⊢
    split at hb
    · next h => rw [if_pos h]; rfl
    · exact absurd rfl hb
  rw [e] at hb ⊢
  clear e
  unfold cellAt cellB at hc
  rw [show d.ws.getD (a - 16).toNat 0 = wd d a from rfl, show d.f (a / 16 - 1).toNat = pgAt d a from rfl, if_pos ⟨hw, hu⟩] at hc
  generalize nOf (wd d a) = k at hc ⊢
  generalize pgAt d a = p at hc hp hb ⊢
  obtain ⟨p1, p2⟩ := p
  simp only at hc hp hb ⊢
  have h2 := (Bool.and_eq_true _ _ ▸ hc : _ ∧ _)
  have hk : 1 ≤ k ∧ k ≤ 63 := by
    have h3 : Cl.classErr k = 0 := by simpa using h2.1
    unfold Cl.classErr at h3
    split at h3
    · omega
    · split at h3 <;> omega
  have h4 := h2.2
  clear hc h2
  rcases hp with ⟨rfl, g0, g1⟩ | ⟨rfl, g0, g1⟩
  · rw [if_pos rfl] at h4
    have h5 : Cl.classOf k = p2 := by simpa using h4
    have e : Cl.pg (1, p2) a = Cl.wordsOf p2 := by
      unfold Cl.pg at hb ⊢
      simp only at hb ⊢
      split at hb
      · next h => omega
      · next h =>
        rw [if_neg h]
        split at hb
        · next h' => rw [if_pos h']
        · exact absurd rfl hb
    rw [e]
    refine ⟨hk.1, ?_⟩
    unfold Cl.classOf at h5
    split at h5
    · omega
    · split at h5
      · subst h5; simp [Cl.wordsOf]; omega
      · split at h5
        · subst h5; simp [Cl.wordsOf]; omega
        · split at h5
          · subst h5; simp [Cl.wordsOf]; omega
          · omega
  · rw [if_neg (by decide)] at h4
    have h5 := (Bool.and_eq_true _ _ ▸ h4 : _ ∧ _)
    have h6 : Cl.runErr k = 0 := by simpa using h5.1
    have h7 : Cl.runOf k = p2 := by simpa using h5.2
    have e : Cl.pg (2, p2) a = 16 * p2 := by
      unfold Cl.pg at hb ⊢
      simp only at hb ⊢
      split at hb
      · next h => rw [if_pos h]
      · split at hb
        · next h => omega
        · exact absurd rfl hb
    rw [e]
    refine ⟨hk.1, ?_⟩
    unfold Cl.runErr at h6
    unfold Cl.runOf at h7
    split at h7
    · split at h6
      · omega
      · split at h6
        · omega
        · split at h6 <;> omega
    · split at h7
      · omega
      · split at h7
        · omega
        · split at h7 <;> omega
/-- Head tells of an object just where one is used. -/
theorem used_head {s : Hs} {d : Hd_} (hm : mayB0 s d = true) (a : Int) :
    (a ∈ usedL s d ∧ headE s d a = 0 ∧ (∃ o e b m, headV s d a = .agg #[.bool true, .bool o, .bool e, .int .i64 (nOf (wd d a)), .int .i64 b, .int .i64 m]) ∧ 1 ≤ nOf (wd d a) ∧ nOf (wd d a) < Cl.bg d.f s.p.n a) ∨ (¬ a ∈ usedL s d ∧ headE s d a = 3) := by
  have hmem : a ∈ usedL s d ↔ (¬ Cl.bg d.f s.p.n a = 0 ∧ wd d a % 2 = 1) := by
    unfold usedL usedF
    rw [if_pos hm, List.mem_filter, mem_allS, decide_eq_true_iff]
  have hE : headE s d a = if Cl.bg d.f s.p.n a = 0 ∨ wd d a = 0 then 3 else 0 := by
    unfold headE
    rw [if_neg (by rw [hm]; decide)]
  by_cases hb : Cl.bg d.f s.p.n a = 0
  · exact Or.inr ⟨fun h => (hmem.1 h).1 hb, by rw [hE, if_pos (Or.inl hb)]⟩
  · have hc := List.all_eq_true.1 (mayH_all hm).2.1 a (mem_allS.2 hb)
    obtain ⟨hw, h0⟩ := word_used hc
    by_cases hu : wd d a % 2 = 1
    · have hE0 : headE s d a = 0 := by rw [hE, if_neg (by omega)]
      have e2 : headV s d a = .agg #[.bool true, .bool (decide (wd d a / 2 % 2 = 1)), .bool (decide (wd d a / 4 % 2 = 1)), .int .i64 (nOf (wd d a)), .int .i64 (wd d a / 1024 % 4194304), .int .i64 (wd d a / 4294967296)] := by
        unfold headV
        rw [if_pos hE0, headOf_yes hw, show decide (wd d a % 2 = 1) = true from decide_eq_true hu]
      exact Or.inl ⟨hmem.2 ⟨hb, hu⟩, hE0, ⟨_, _, _, _, e2⟩, used_fits hb hc hu⟩
    · exact Or.inr ⟨fun h => hu (hmem.1 h).2, by rw [hE, if_pos (Or.inr (h0 hu).2)]⟩
theorem used_rise (s : Hs) (d : Hd_) : (usedL s d).Pairwise (· < ·) := by
  unfold usedL usedF
  split
  · exact (allS_lt d.f s.p.n).sublist List.filter_sublist
  · exact List.Pairwise.nil
theorem used_in {s : Hs} {d : Hd_} {a : Int} (h : a ∈ usedL s d) : 16 ≤ a ∧ a < 16 + (s.w.n : Int) := by
  unfold usedL usedF at h
  split at h
  · next hm =>
    have hb := mem_allS.1 (List.mem_filter.1 h).1
    have := may0_word hm hb
    omega
  · simp at h
/-- A walk through rising numbers: n of them are behind. -/
structure Upon (xs : List Int) (k : Nat) (t : Int) : Prop where
  le : k ≤ xs.length
  lo : ∀ i, i < k → xs.getD i 0 < t
  hi : ∀ i, k ≤ i → i < xs.length → t ≤ xs.getD i 0
theorem Upon.no {xs : List Int} {k : Nat} {t : Int} (h : Upon xs k t) (hn : ¬ t ∈ xs) : Upon xs k (t + 1) := ⟨h.le, fun i hi => by have := h.lo i hi; omega, fun i h1 h2 => by
  have h3 := h.hi i h1 h2
  have h4 : ¬ xs.getD i 0 = t := fun e => hn (e ▸ getD_mem h2)
  omega⟩
theorem Upon.yes {xs : List Int} {k : Nat} {t : Int} (h : Upon xs k t) (hr : xs.Pairwise (· < ·)) (hn : t ∈ xs) : k < xs.length ∧ xs.getD k 0 = t ∧ Upon xs (k + 1) (t + 1) := by
  obtain ⟨i, hi, e⟩ := List.mem_iff_getElem.1 hn
  have e' : xs.getD i 0 = t := by simp [List.getD, hi, e]
  have hki : k ≤ i := Nat.le_of_not_lt fun hlt => by have := h.lo i hlt; omega
  have hk : k < xs.length := by omega
  have hrise : ∀ p q, p < q → q < xs.length → xs.getD p 0 < xs.getD q 0 := fun p q hpq hq => by
    have := List.pairwise_iff_getElem.1 hr p q (by omega) hq hpq
    simpa [List.getD, hq, show p < xs.length by omega] using this
  have hk2 := h.hi k (Nat.le_refl _) hk
  have hik : i = k := by
    by_cases e2 : i = k
    · exact e2
    · have := hrise k i (by omega) hi
      omega
  subst hik
  exact ⟨hi, e', hi, fun j hj => by
    by_cases e2 : j = i
    · subst e2; omega
    · have := h.lo j (by omega); omega, fun j h1 h2 => by
    have := hrise i j (by omega) h2
    omega⟩
theorem Upon.all {xs : List Int} {k : Nat} {t : Int} (h : Upon xs k t) (ht : ∀ x ∈ xs, x < t) : k = xs.length := by
  have := h.le
  by_cases e : k = xs.length
  · exact e
  · have h1 := h.hi k (Nat.le_refl _) (by omega)
    have h2 := ht _ (getD_mem (show k < xs.length by omega))
    omega
theorem obj_keep {w W W' : World} {s : Hs} {d : Hd_} {bx bb off n k : Nat} {x0 x1 x2 : Bool} {x3 x4 x5 t : Int} {us : List Int} (hk : k < n) (ht : us.getD k 0 = t) (h : HNow w W s d ∧ X6 W bx x0 x1 x2 x3 x4 x5 ∧ Row W W.heap.size (some ⟨bb, off, none⟩) n us) (hb : Below W.heap.size W W') :
    (HNow w W' s d ∧ X6 W' bx x0 x1 x2 x3 x4 x5 ∧ Row W' W'.heap.size (some ⟨bb, off, none⟩) n us) ∧ w.heap.size < W'.heap.size ∧ bx < W'.heap.size ∧ bb < W'.heap.size ∧ W'.cell? ⟨w.heap.size, 0, none⟩ = some (.slice s.w.a s.w.n s.w.c) ∧ W'.cell? ⟨w.heap.size, 1, none⟩ = some (.slice s.p.a s.p.n s.p.c) ∧ W'.cell? ⟨w.heap.size, 2, none⟩ = some (.slice (s.u 0).a (s.u 0).n (s.u 0).c) ∧ W'.cell? ⟨w.heap.size, 3, none⟩ = some (.slice (s.u 1).a (s.u 1).n (s.u 1).c) ∧ W'.cell? ⟨w.heap.size, 4, none⟩ = some (.slice (s.u 2).a (s.u 2).n (s.u 2).c) ∧ W'.cell? ⟨w.heap.size, 5, none⟩ = some (.slice s.c.a s.c.n s.c.c) ∧ W'.cell? ⟨bx, 0, none⟩ = some (.bool x0) ∧ W'.cell? ⟨bx, 1, none⟩ = some (.bool x1) ∧ W'.cell? ⟨bx, 2, none⟩ = some (.bool x2) ∧ W'.cell? ⟨bx, 3, none⟩ = some (.int .i64 x3) ∧ W'.cell? ⟨bx, 4, none⟩ = some (.int .i64 x4) ∧ W'.cell? ⟨bx, 5, none⟩ = some (.int .i64 x5) ∧ W'.cell? ⟨bb, off + k, none⟩ = some (.int .i64 t) := by
  have g := h.1.next hb
  have x := h.2.1.next hb
  have r := (h.2.2.below hb).more hb.size
  obtain ⟨b', off', e, hl, hc⟩ := r.2 (by omega)
  simp only [Option.some.injEq, Addr.mk.injEq, and_true] at e
  obtain ⟨rfl, rfl⟩ := e
  have hc' := hc k hk
  rw [ht] at hc'
  exact ⟨⟨g, x, r⟩, g.box.lt, x.lt, hl, g.box.c0, g.box.c1, g.box.c2, g.box.c3, g.box.c4, g.box.c5, x.c0, x.c1, x.c2, x.c3, x.c4, x.c5, hc'⟩
end Go.Proofs.YtcbnefjfoeanoaaDoor
