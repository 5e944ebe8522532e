/-
  In what is whole each word lies in just one: a cell that is used, one that is told of as free, or a free page: plainly.
-/
import Derived.Test.YtcbnefjfoeanoaaDoorZHpLess
import Derived.Test.YtcbnefjfoeanoaaDoorZHpObj
namespace Go.Proofs.YtcbnefjfoeanoaaDoor
open Go.RowKit
set_option maxRecDepth 100000

theorem st_big {f : Nat → Int × Int} : ∀ {k : Nat}, 0 < Cl.st f k → ∃ a, a < k ∧ (f a).1 = 2 ∧ (a : Int) + (f a).2 = k + Cl.st f k
  | 0, h => absurd h (by show ¬ (0 : Int) < 0; omega)
  | k + 1, h => by
    unfold Cl.st at h ⊢
    split at h
    · next h2 =>
      rw [if_pos h2]
      exact ⟨k, Nat.lt_succ_self k, h2, by omega⟩
    · next h2 =>
      rw [if_neg h2]
      split at h
      · next h3 =>
        rw [if_pos h3]
        obtain ⟨a, h4, h5, h6⟩ := st_big h3
        exact ⟨a, by omega, h5, by omega⟩
      · next h3 => exact absurd h h3
/-- A word of a page that is not free lies in a cell. -/
theorem covered {f : Nat → Int × Int} {n k : Nat} {a : Int} (h : Cl.mayB f n = true) (hk : k < n) (h0 : 16 + 16 * (k : Int) ≤ a) (h1 : a < 32 + 16 * (k : Int)) (hne : ¬ (f k).1 = 0) : ∃ c, c ∈ Cl.allL f n ∧ Cl.pIn a c = true := by
  have hok := (Cl.okB_iff f k).1 (((Cl.mayB_iff f n).1 h).2.2.1 k hk)
  have one : ∀ (i j : Nat), i < n → j < Cl.numOf (f i) → (16 + (i : Int) * 16 + j * Cl.roomOf (f i) ≤ a ∧ a < 16 + (i : Int) * 16 + j * Cl.roomOf (f i) + Cl.roomOf (f i)) → ∃ c, c ∈ Cl.allL f n ∧ Cl.pIn a c = true := fun i j hi hj hc =>
    ⟨_, List.mem_of_getElem? (Cl.allL_get h hi hj), Cl.pIn_iff.2 hc⟩
  rcases (Cl.pmB_iff _).1 hok.1 with e | e | e | e
  · exact absurd e.1 hne
  · have hc : (f k) = (1, 0) ∨ (f k) = (1, 1) ∨ (f k) = (1, 2) := by
      have e1 := e.1
      generalize f k = p at e e1 ⊢
      obtain ⟨p1, p2⟩ := p
      simp only at e e1
      subst e1
      have : p2 = 0 ∨ p2 = 1 ∨ p2 = 2 := by omega
      rcases this with rfl | rfl | rfl <;> simp
    rcases hc with e' | e' | e'
    · refine one k ((a - 16 - 16 * k).toNat / 2) hk ?_ ?_ <;> rw [e'] <;> simp [Cl.numOf, Cl.roomOf, Cl.wordsOf] <;> omega
    · refine one k ((a - 16 - 16 * k).toNat / 4) hk ?_ ?_ <;> rw [e'] <;> simp [Cl.numOf, Cl.roomOf, Cl.wordsOf] <;> omega
    · refine one k ((a - 16 - 16 * k).toNat / 8) hk ?_ ?_ <;> rw [e'] <;> simp [Cl.numOf, Cl.roomOf, Cl.wordsOf] <;> omega
  · have hnum : Cl.numOf (f k) = 1 := by unfold Cl.numOf; rw [if_neg (by omega), if_pos e.1]
    have hroom : Cl.roomOf (f k) = (f k).2 * 16 := by unfold Cl.roomOf; rw [if_neg (by omega), if_pos e.1]
    refine one k 0 hk (by omega) ?_
    rw [hroom]
    omega
  · have hs := hok.2.1 e.1
    obtain ⟨i, h2, h3, h4⟩ := st_big hs
    have hnum : Cl.numOf (f i) = 1 := by unfold Cl.numOf; rw [if_neg (by omega), if_pos h3]
    have hroom : Cl.roomOf (f i) = (f i).2 * 16 := by unfold Cl.roomOf; rw [if_neg (by omega), if_pos h3]
    refine one i 0 (by omega) (by omega) ?_
    rw [hroom]
    omega
/-- One of a free page lies in none. -/
theorem not_covered {f : Nat → Int × Int} {n k : Nat} {a : Int} (h : Cl.mayB f n = true) (h0 : 16 + 16 * (k : Int) ≤ a) (h1 : a < 32 + 16 * (k : Int)) (hf : (f k).1 = 0) {c : Int × Int} (hc : c ∈ Cl.allL f n) : Cl.pIn a c = false := by
  cases e : Cl.pIn a c
  · rfl
  · obtain ⟨_, i, j, hi, hj, hp, rfl, h2, h3⟩ := Cl.cell_page hc
    obtain ⟨h4, h5⟩ := Cl.pIn_iff.1 e
    simp only at h4 h5
    have hkind := (Cl.num_kind hp).1 (by omega)
    have hik : i ≤ k := by omega
    rcases hkind with hk1 | hk2
    · have hw : (j : Int) * Cl.roomOf (f i) + Cl.roomOf (f i) ≤ 16 := by
        rcases Cl.pm_cases hp with e' | e' | e' | e' | e' | e' | e' | e' | e' <;> rw [e'] at hj hk1 ⊢ <;> simp [Cl.numOf, Cl.roomOf, Cl.wordsOf] at hj hk1 ⊢ <;> omega
      obtain rfl : i = k := by omega
      omega
    · have hnum : Cl.numOf (f i) = 1 := by unfold Cl.numOf; rw [if_neg (by omega), if_pos hk2]
      have hroom : Cl.roomOf (f i) = (f i).2 * 16 := by unfold Cl.roomOf; rw [if_neg (by omega), if_pos hk2]
      obtain rfl : j = 0 := by omega
      rw [hroom] at h5
      have hwd := Cl.wide_facts h hi (.inr hk2)
      have hwi : Cl.wide f i = (f i).2 := by unfold Cl.wide; rw [if_pos hk2]
      rw [hwi] at hwd
      by_cases hz : i = k
      · subst hz; omega
      · have h6 := (hwd.2.2.2.2 (k - i) (by omega)).2 (by omega)
        rw [show i + (k - i) = k by omega] at h6
        rw [h6] at hf
        exact absurd hf (by decide)
/-- Does a cell that begins at x hold the word at a? -/
def cov (f : Nat → Int × Int) (n : Nat) (a x : Int) : Bool := decide (x ≤ a) && decide (a < x + Cl.bg f n x)
theorem cov_cell {f : Nat → Int × Int} {n : Nat} {a : Int} {c : Int × Int} (hc : c ∈ Cl.allL f n) : cov f n a c.1 = Cl.pIn a c := by
  unfold cov Cl.pIn
  rw [Cl.bg_cell hc]
theorem cov_one {f : Nat → Int × Int} {n : Nat} {a x y : Int} (hx : x ∈ Cl.allS f n) (hy : y ∈ Cl.allS f n) (h1 : cov f n a x = true) (h2 : cov f n a y = true) : x = y := by
  obtain ⟨c, hc, rfl⟩ := List.mem_map.1 hx
  obtain ⟨e, he, rfl⟩ := List.mem_map.1 hy
  rw [cov_cell hc] at h1
  rw [cov_cell he] at h2
  rw [(Cl.allL_apart f n).one hc he h1 h2]
theorem count_yes {p : Int → Bool} : ∀ {xs : List Int}, xs.Nodup → (∀ x ∈ xs, ∀ y ∈ xs, p x = true → p y = true → x = y) → ∀ {x}, x ∈ xs → p x = true → xs.countP p = 1
  | [], _, _, _, hx, _ => by cases hx
  | y :: ys, hn, h1, x, hx, hp => by
    obtain ⟨hny, hn2⟩ := List.nodup_cons.1 hn
    by_cases hy : p y = true
    · rw [List.countP_cons_of_pos hy, List.countP_eq_zero.2 fun z hz hpz => hny (by rw [← h1 z (List.mem_cons_of_mem _ hz) y List.mem_cons_self hpz hy]; exact hz)]
    · rw [List.countP_cons_of_neg hy]
      refine count_yes hn2 (fun a ha b hb => h1 a (List.mem_cons_of_mem _ ha) b (List.mem_cons_of_mem _ hb)) (x := x) ?_ hp
      rcases List.mem_cons.1 hx with rfl | hx
      · exact absurd hp hy
      · exact hx
theorem count_next {p : Int → Bool} {xs : List Int} {q : Nat} (hq : q < xs.length) : (xs.take (q + 1)).countP p = (xs.take q).countP p + (if p (xs.getD q 0) = true then 1 else 0) := by
  rw [← prefix_next hq, List.countP_append]
  congr 1
  split
  · next h => rw [List.countP_cons_of_pos h]; rfl
  · next h => rw [List.countP_cons_of_neg h]; rfl
theorem ahead_first (g : Nat → List Int) (F : Nat → Nat → List Int) : ∀ m, ∃ t, Ls.allOf (ahead g F) (1 + m) = Ls.upTo g 3 ++ t
  | 0 => ⟨[], by simp [Ls.allOf, ahead]⟩
  | m + 1 => by
    obtain ⟨t, ht⟩ := ahead_first g F m
    exact ⟨t ++ Ls.upTo (F m) 3, by rw [all_ahead, ht, List.append_assoc]⟩
theorem may_none {s : Hs} {d : Hd_} {m : Nat} {F : Nat → Nat → List Int} (h : mayH s d m F = true) : mayB0 s d = true := by
  obtain ⟨h1, h2, h3, h4⟩ := mayH_all h
  have e3 : freeAll d s.p.n (1 + 0) (ahead d.F noCaches) = true := List.all_eq_true.2 fun i hi => by
    have hi0 : i = 0 := by have := List.mem_range.1 hi; omega
    subst hi0
    exact List.all_eq_true.1 h3 0 (List.mem_range.2 (by omega))
  have e4 : (Ls.allOf (ahead d.F noCaches) (1 + 0)).Nodup := by
    obtain ⟨t, ht⟩ := ahead_first d.F F m
    rw [ht] at h4
    rw [show Ls.allOf (ahead d.F noCaches) (1 + 0) = Ls.upTo d.F 3 by simp [Ls.allOf, ahead]]
    exact (List.nodup_append.1 h4).1
  unfold mayB0 mayH
  rw [h1, h2, e3, decide_eq_true e4]
  rfl
theorem used_mem {s : Hs} {d : Hd_} {x : Int} (h : x ∈ usedL s d) : x ∈ Cl.allS d.f s.p.n ∧ wd d x % 2 = 1 := by
  unfold usedL usedF at h
  split at h
  · obtain ⟨h1, h2⟩ := List.mem_filter.1 h
    exact ⟨h1, of_decide_eq_true h2⟩
  · cases h
theorem used_nodup (s : Hs) (d : Hd_) : (usedL s d).Nodup := (used_rise s d).imp fun h => by omega
/-- In what is whole each word lies in just one. -/
theorem words_one {s : Hs} {d : Hd_} {m : Nat} {F : Nat → Nat → List Int} (h : wholeH s d m F = true) {a : Int} {k : Nat} (_ : 16 ≤ a) (h1 : a < 16 + (s.w.n : Int)) (hk : a / 16 - 1 = k) :
    (usedL s d).countP (cov d.f s.p.n a) + (Ls.allOf (ahead d.F F) (1 + m)).countP (cov d.f s.p.n a) + (if Cl.freeB d.f k 1 = true then 1 else 0) = 1 := by
  unfold wholeH at h
  obtain ⟨hm, ha⟩ := (Bool.and_eq_true _ _ ▸ h : _ ∧ _)
  obtain ⟨hfb, hcell, hfree, hnd⟩ := mayH_all hm
  have hmay : Cl.mayB d.f s.p.n = true ∧ s.w.n = 16 * s.p.n := by
    unfold firstB at hfb
    simp only [Bool.and_eq_true, decide_eq_true_eq] at hfb
    exact ⟨hfb.2.1, hfb.2.2.1⟩
  have hkn : k < s.p.n := by have := hmay.2; omega
  have k0 : 16 + 16 * (k : Int) ≤ a := by omega
  have k1 : a < 32 + 16 * (k : Int) := by omega
  by_cases hf : (d.f k).1 = 0
  · have none : ∀ x ∈ Cl.allS d.f s.p.n, ¬ cov d.f s.p.n a x = true := fun x hx => by
      obtain ⟨c, hc, rfl⟩ := List.mem_map.1 hx
      rw [cov_cell hc, not_covered hmay.1 k0 k1 hf hc]
      decide
    rw [List.countP_eq_zero.2 fun x hx => none x (used_mem hx).1, List.countP_eq_zero.2 fun x hx => none x (free_is hfree hx).1, if_pos ((Cl.freeB_iff _ _ _).2 fun j hj => by rw [show k + j = k by omega]; exact hf)]
  · have hnf : ¬ Cl.freeB d.f k 1 = true := fun e => hf (by have := (Cl.freeB_iff _ _ _).1 e 0 (by omega); exact this)
    rw [if_neg hnf]
    obtain ⟨c, hc, hp⟩ := covered hmay.1 hkn k0 k1 hf
    have hx : c.1 ∈ Cl.allS d.f s.p.n := List.mem_map.2 ⟨c, hc, rfl⟩
    rw [← cov_cell hc] at hp
    generalize c.1 = x at hx hp
    have hw := word_used (List.all_eq_true.1 hcell x hx)
    by_cases hu : wd d x % 2 = 1
    · have hxu : x ∈ usedL s d := by
        unfold usedL usedF
        rw [if_pos (may_none hm)]
        exact List.mem_filter.2 ⟨hx, decide_eq_true hu⟩
      rw [count_yes (used_nodup s d) (fun y hy z hz => cov_one (used_mem hy).1 (used_mem hz).1) hxu hp, List.countP_eq_zero.2 fun y hy hpy => by
        have hyf := free_is hfree hy
        rw [cov_one hyf.1 hx hpy hp] at hyf
        omega]
    · have hz := (hw.2 hu).2
      have hin := List.all_eq_true.1 ha x hx
      rw [hz] at hin
      have hin2 : x ∈ Ls.allOf (ahead d.F F) (1 + m) := by simpa using hin
      rw [count_yes hnd (fun y hy z hz => cov_one (free_is hfree hy).1 (free_is hfree hz).1) hin2 hp, List.countP_eq_zero.2 fun y hy hpy => by
        have hyu := used_mem hy
        rw [cov_one hyu.1 hx hpy hp] at hyu
        omega]
end Go.Proofs.YtcbnefjfoeanoaaDoor
