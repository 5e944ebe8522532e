/-
  With fewer caches: what may be and what is whole, plainly; a slice of lists with fewer of them; the room behind such a slice that comes in.
-/
import Derived.Test.YtcbnefjfoeanoaaDoorZHpIns
import Derived.Test.YtcbnefjfoeanoaaDoorZHpFew
import Derived.Test.YtcbnefjfoeanoaaDoorZHpWholeP
namespace Go.Proofs.YtcbnefjfoeanoaaDoor
open Go.ChangeShapes Go.WideShapes Go.ChangeAt Go.RowKit Go.Deep
set_option maxRecDepth 100000

theorem cap_of {H : Type} {enc : TypeId × Value → H} {w : World} {base : Nat} {spare : Nat → Bool} {held : Bool} {a : Option Addr} {n c : Nat} {d : DataW H} {p : List MemPlace}
    (h : DataW.Trod enc Tryd.prog w base spare held 29 (.slice a n c) d p) : n ≤ c ∧ c ≤ maxLen := by
  obtain ⟨fuel, hf⟩ := h
  rcases open_slice Tryd.underlying29 hf with ⟨hcs, _⟩ | ⟨y, len, cap, m, k, D, Pl, hcs, _, hl, hm, hmm, hx, hi⟩
  · simp [Value.cells] at hcs
    obtain ⟨rfl, rfl, rfl⟩ := hcs
    exact ⟨Nat.le_refl _, Nat.zero_le _⟩
  · simp [Value.cells] at hcs
    obtain ⟨rfl, rfl, rfl⟩ := hcs
    exact ⟨hl, hm⟩
theorem lrow_less {w : World} {B n k : Nat} {A : Option Addr} {u : Nat → Nat → Ls.Sl} {f : Nat → Nat → List Int} (h : Ls.LRow w B A n u f) (hk : k ≤ n) : Ls.LRow w B A k u f := fun h0 => by
  obtain ⟨b, off, e, hlt, hc⟩ := h (by omega)
  exact ⟨b, off, e, hlt, fun i hi => hc i (by omega)⟩
theorem all_ahead (g : Nat → List Int) (F : Nat → Nat → List Int) (k : Nat) : Ls.allOf (ahead g F) (1 + (k + 1)) = Ls.allOf (ahead g F) (1 + k) ++ Ls.upTo (F k) 3 := by
  rw [show 1 + (k + 1) = 1 + k + 1 by omega, Ls.allOf_succ, show ahead g F (1 + k) = F k by rw [show 1 + k = k + 1 by omega]; rfl]
theorem mem_upTo3 {g : Nat → List Int} {x : Int} : x ∈ Ls.upTo g 3 ↔ ∃ j, j < 3 ∧ x ∈ g j := by
  unfold Ls.upTo
  rw [List.mem_flatMap]
  simp only [List.mem_range]
theorem mem_allOf {f : Nat → Nat → List Int} {n : Nat} {x : Int} : x ∈ Ls.allOf f n ↔ ∃ k j, k < n ∧ j < 3 ∧ x ∈ f k j := by
  unfold Ls.allOf
  rw [List.mem_flatMap]
  simp only [List.mem_range]
  constructor
  · rintro ⟨k, hk, h⟩
    obtain ⟨j, hj, h⟩ := mem_upTo3.1 h
    exact ⟨k, j, hk, hj, h⟩
  · rintro ⟨k, j, hk, hj, h⟩
    exact ⟨k, hk, mem_upTo3.2 ⟨j, hj, h⟩⟩
/-- What is told of as free is a cell that begins there, and has the word 0. -/
theorem free_is {d : Hd_} {n N : Nat} {F : Nat → Nat → List Int} (h : freeAll d n N F = true) {x : Int} (hx : x ∈ Ls.allOf F N) : x ∈ Cl.allS d.f n ∧ wd d x = 0 := by
  obtain ⟨k, j, hk, hj, hx⟩ := mem_allOf.1 hx
  have h1 := List.all_eq_true.1 h k (List.mem_range.2 hk)
  have h2 := List.all_eq_true.1 h1 j (List.mem_range.2 hj)
  have h3 := List.all_eq_true.1 h2 x hx
  unfold freeH at h3
  split at h3
  · cases h3
  · next hb =>
    have h4 := (Bool.and_eq_true _ _ ▸ h3 : _ ∧ _)
    exact ⟨mem_allS.2 hb, by simpa [wd] using h4.2⟩
theorem may_less {s : Hs} {d : Hd_} {k : Nat} {F : Nat → Nat → List Int} (h : mayH s d (k + 1) F = true) : mayH s d k F = true := by
  obtain ⟨h1, h2, h3, h4⟩ := mayH_all h
  have e3 : freeAll d s.p.n (1 + k) (ahead d.F F) = true := List.all_eq_true.2 fun i hi => List.all_eq_true.1 h3 i (List.mem_range.2 (by have := List.mem_range.1 hi; omega))
  have e4 : (Ls.allOf (ahead d.F F) (1 + k)).Nodup := by
    rw [all_ahead] at h4
    exact (List.nodup_append.1 h4).1
  simp [mayH, h1, h2, e3, e4]
/-- With one cache fewer a whole heap is whole just if that one was empty. -/
theorem whole_less {s : Hs} {d : Hd_} {k : Nat} {F : Nat → Nat → List Int} (h : wholeH s d (k + 1) F = true) : wholeH s d k F = decide ((F k 0).length = 0 ∧ (F k 1).length = 0 ∧ (F k 2).length = 0) := by
  unfold wholeH at h
  obtain ⟨hm, ha⟩ := (Bool.and_eq_true _ _ ▸ h : _ ∧ _)
  have hm2 := may_less hm
  obtain ⟨h1, h2, h3, h4⟩ := mayH_all hm
  unfold wholeH
  rw [hm2, Bool.true_and]
  rw [all_ahead] at ha h4
  by_cases he : (F k 0).length = 0 ∧ (F k 1).length = 0 ∧ (F k 2).length = 0
  · rw [decide_eq_true he]
    have e0 : Ls.upTo (F k) 3 = [] := List.eq_nil_of_length_eq_zero (by rw [upTo3]; omega)
    rw [e0, List.append_nil] at ha
    exact ha
  · rw [decide_eq_false he]
    have hne : Ls.upTo (F k) 3 ≠ [] := fun e => he (by have := upTo3 (F k); rw [e] at this; simp only [List.length_nil] at this; omega)
    obtain ⟨x, hx⟩ := List.exists_mem_of_ne_nil _ hne
    have hf := free_is h3 (x := x) (by rw [all_ahead]; exact List.mem_append_right _ hx)
    have hn : ¬ x ∈ Ls.allOf (ahead d.F F) (1 + k) := fun h5 => (List.nodup_append.1 h4).2.2 x h5 x hx rfl
    cases e : (Cl.allS d.f s.p.n).all fun a => !(wd d a == 0) || decide (a ∈ Ls.allOf (ahead d.F F) (1 + k))
    · rfl
    · have h6 := List.all_eq_true.1 e x hf.1
      rw [hf.2, decide_eq_false hn] at h6
      simp at h6
end Go.Proofs.YtcbnefjfoeanoaaDoor
