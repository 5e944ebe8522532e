/-
  All caches are flushed, plainly: no page stays all of whose cells are on Free.
-/
import Derived.Test.YtcbnefjfoeanoaaDoorHpZL
namespace Go.Proofs.YtcbnefjfoeanoaaDoor
open Go.RowKit
set_option maxRecDepth 100000

/-- The first caches are flushed. -/
def runD (d : Hd_) (n : Nat) (F : Nat → Nat → List Int) : Nat → Hd_
  | 0 => d
  | i + 1 => flushD (runD d n F i) n (F i)
theorem same3_refl (s : Hs) : Same3 s s := ⟨rfl, rfl, rfl⟩
theorem shift_ahead (F : Nat → Nat → List Int) (i : Nat) : (fun k => F (i + k)) = ahead (F i) (fun k => F (i + 1 + k)) := by
  funext k
  cases k with
  | zero => rfl
  | succ k => show F (i + (k + 1)) = F (i + 1 + k); rw [show i + (k + 1) = i + 1 + k by omega]
section
variable {s t : Hs} {d : Hd_} {m : Nat} {F : Nat → Nat → List Int}
theorem run_may (hW : mayH s d m F = true) : ∀ i, i ≤ m → ∀ t, Same3 s t → mayH t (runD d s.p.n F i) (m - i) (fun k => F (i + k)) = true ∧ (usedL t (runD d s.p.n F i)).length = (usedL s d).length
  | 0, _, t, ht => by
    have e : (fun k => F (0 + k)) = F := by funext k; rw [Nat.zero_add]
    have h1 : mayH t d m F = true := by unfold mayH firstB freeAll at hW ⊢; rw [ht.1, ht.2.1, ht.2.2]; exact hW
    refine ⟨by rw [e]; exact h1, ?_⟩
    show (usedL t d).length = _
    unfold usedL
    rw [if_pos (may_none h1), if_pos (may_none hW), ht.2.1]
  | i + 1, hi, t, ht => by
    obtain ⟨h1, h2⟩ := run_may hW i (by omega) s (same3_refl s)
    rw [shift_ahead, show m - i = 1 + (m - (i + 1)) by omega] at h1
    exact ⟨flush_may ht h1, (flush_used ht h1).2.trans h2⟩
theorem run_whole (hW : wholeH s d m F = true) : ∀ i, i ≤ m → ∀ t, Same3 s t → wholeH t (runD d s.p.n F i) (m - i) (fun k => F (i + k)) = true
  | 0, _, t, ht => by
    have e : (fun k => F (0 + k)) = F := by funext k; rw [Nat.zero_add]
    rw [e]
    show wholeH t d m F = true
    unfold wholeH mayH firstB freeAll at hW ⊢
    rw [ht.1, ht.2.1, ht.2.2]
    exact hW
  | i + 1, hi, t, ht => by
    have h1 := run_whole hW i (by omega) s (same3_refl s)
    rw [shift_ahead, show m - i = 1 + (m - (i + 1)) by omega] at h1
    exact flush_whole ht h1
theorem nodup_len : ∀ {xs ys : List Int}, xs.Nodup → (∀ x ∈ xs, x ∈ ys) → xs.length ≤ ys.length
  | [], _, _, _ => Nat.zero_le _
  | a :: t, ys, hn, hs => by
    obtain ⟨ha, ht⟩ := List.nodup_cons.1 hn
    have ham : a ∈ ys := hs a List.mem_cons_self
    have h1 := nodup_len (xs := t) (ys := ys.erase a) ht fun x hx => (List.mem_erase_of_ne (by rintro rfl; exact ha hx)).2 (hs x (List.mem_cons_of_mem _ hx))
    have h2 := List.length_erase_of_mem ham
    have h3 : 0 < ys.length := List.length_pos_of_mem ham
    simp only [List.length_cons]
    omega
/-- The last Tidy. -/
theorem last_whole {R : Nat → Nat → List Int} (hW : wholeH s d 0 R = true) (ht : Same3 s t) : wholeH t (flushD d s.p.n Ls.noLists) 0 R = true := by
  refine flush_whole (r := 0) (G := Ls.noLists) (R := R) ht ?_
  rw [whole_nil]
  exact hW
theorem last_may {R : Nat → Nat → List Int} (hW : mayH s d 0 R = true) : mayH s d 1 (fun _ => Ls.noLists) = true := by
  have := may_nil s d 0 (fun _ => Ls.noLists)
  rw [show ahead Ls.noLists (fun _ => Ls.noLists) = fun _ => Ls.noLists by funext i; cases i <;> rfl] at this
  rw [show (1 : Nat) = 1 + 0 from rfl, this]
  exact may_none hW
theorem last_used {R : Nat → Nat → List Int} (hW : mayH s d 0 R = true) (ht : Same3 s t) : (usedL t (flushD d s.p.n Ls.noLists)).length = (usedL s d).length := by
  refine (flush_used (r := 0) (G := Ls.noLists) (R := R) ht ?_).2
  rw [may_nil]
  exact hW
/-- Few are on Free of each page that stays. -/
theorem last_few {n p : Nat} (hp : p < n) (h1 : ((flushD d n Ls.noLists).f p).1 = 1) : ((onFree (flushD d n Ls.noLists) p).length : Int) < Cl.perPage ((flushD d n Ls.noLists).f p).2 := by
  have := flushed_none (joinD d Ls.noLists) n p hp
  unfold givenB at this
  rw [show flushTo (joinD d Ls.noLists) n = flushD d n Ls.noLists from rfl, decide_eq_true h1] at this
  simpa using this
/-- Where there are no objects all pages are free. -/
theorem all_free {R : Nat → Nat → List Int} (hW : wholeH s (flushD d s.p.n Ls.noLists) 0 R = true) (hu : (usedL s (flushD d s.p.n Ls.noLists)).length = 0) {p : Nat} (hp : p < s.p.n) : ((flushD d s.p.n Ls.noLists).f p).1 = 0 := by
  have few := fun (p : Nat) (hp : p < s.p.n) h1 => last_few (d := d) (n := s.p.n) (p := p) hp h1
  generalize flushD d s.p.n Ls.noLists = D at hW hu few
  have hm := whole_may hW
  have h0 := may_none hm
  obtain ⟨_, hO, hF⟩ := whole0_iff.1 hW
  have none : ∀ y, ¬ Cl.bg D.f s.p.n y = 0 → wd D y = 0 ∧ (pgAt D y).1 = 1 := fun y hy => by
    have hc := hO.cell y hy (bg_zero _ _ hy)
    have hw : wd D y = 0 := Classical.byContradiction fun hn => by
      have := (used_iff8 h0).2 ⟨hy, hn⟩
      rw [List.eq_nil_of_length_eq_zero hu] at this
      cases this
    exact ⟨hw, ((word_used hc).2 (by rw [hw]; decide)).1⟩
  have small : ∀ q, q < s.p.n → ¬ (D.f q).1 = 1 := fun q hq h1 => by
    have h2 := few q hq h1
    obtain ⟨hk, e⟩ := small_kind hO.may hq h1
    have h3 := on_len hO.may hq h1
    have h4 := nodup_len (on_nodup D.f s.p.n (q : Int)) (ys := onFree D q) fun y hy => by
      obtain ⟨g1, g2⟩ := mem_on.1 hy
      obtain ⟨g3, _⟩ := none y g1
      have g4 := hF y g1 (bg_zero _ _ g1) g3
      unfold told at g4
      rw [show Ls.upTo Ls.noLists 3 = [] by simp [Ls.upTo, Ls.noLists], show Ls.allOf R 0 = [] from rfl] at g4
      simp only [List.count_nil, Nat.add_zero] at g4
      obtain ⟨j, hj, g5⟩ := mem_upTo3.1 (List.count_pos_iff.1 g4)
      have g6 := (free_facts (hO.fF j hj y g5)).2.1
      have g7 : D.f q = (1, (j : Int)) := by rw [← g2]; exact g6
      unfold onFree
      rw [g7]
      exact mem_inOf.2 ⟨by simpa using g5, (page_range (bg_in16 g1)).1 g2⟩
    omega
  refine Classical.byContradiction fun hne => ?_
  obtain ⟨c, hc, _⟩ := covered hO.may hp (a := 16 + 16 * (p : Int)) (by omega) (by omega) hne
  have hx : c.1 ∈ Cl.allS D.f s.p.n := List.mem_map.2 ⟨c, hc, rfl⟩
  have hb := mem_allS.1 hx
  have hpg := bg_page hb
  exact small (c.1 / 16 - 1).toNat (by have := hpg.2.1; have := hpg.2.2.1; omega) (none c.1 hb).2
theorem cnt_all {f : Nat → Int × Int} : ∀ k, (∀ j, j < k → (f j).1 = 0) → Cl.cnt f 0 k = k
  | 0, _ => rfl
  | k + 1, h => by
    have h1 := cnt_all k fun j hj => h j (by omega)
    rw [Cl.cnt_succ, if_pos (h k (by omega)), h1]
    omega
end
end Go.Proofs.YtcbnefjfoeanoaaDoor
