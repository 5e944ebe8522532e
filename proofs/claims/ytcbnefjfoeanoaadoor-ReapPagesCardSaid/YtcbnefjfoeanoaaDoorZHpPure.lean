/-
  What package heap asks of the cells is what the document's answer asks: plain mathematics.
-/
import Derived.Test.YtcbnefjfoeanoaaDoorZHpMayK
import Derived.Test.YtcbnefjfoeanoaaDoorZHpAmong
namespace Go.Proofs.YtcbnefjfoeanoaaDoor

/-- A cell's page. -/
theorem page_of {d : Hd_} {n : Nat} {a : Int} (h : a ∈ Cl.allS d.f n) : (a / 16 - 1).toNat < n ∧ Cl.pmB (pgAt d a) = true ∧ (((pgAt d a).1 = 1 ∧ 0 ≤ (pgAt d a).2 ∧ (pgAt d a).2 ≤ 2) ∨ ((pgAt d a).1 = 2 ∧ 1 ≤ (pgAt d a).2 ∧ (pgAt d a).2 ≤ 4)) := by
  obtain ⟨c, hc, rfl⟩ := List.mem_map.1 h
  obtain ⟨_, k, j, hk, hj, hp, e, h0, h1⟩ := Cl.cell_page hc
  have hk2 : (c.1 / 16 - 1).toNat = k := by rw [e]; simp only; omega
  have e2 : pgAt d c.1 = d.f k := by unfold pgAt; rw [hk2]
  rw [e2, hk2]
  refine ⟨hk, hp, ?_⟩
  have h3 := (Cl.num_kind hp).1 (by omega)
  rcases (Cl.pmB_iff _).1 hp with h | h | h | h
  · omega
  · exact .inl h
  · exact .inr h
  · omega
theorem run_class {n : Int} (h : Cl.runErr n = 0) : Cl.classErr n = 0 := by
  unfold Cl.runErr at h
  unfold Cl.classErr
  split at h
  · omega
  · split at h
    · omega
    · next h1 h2 => rw [if_neg h1, if_neg h2]
theorem holds_cell {d : Hd_} {n : Nat} {a : Int} (h : a ∈ Cl.allS d.f n) : holdsAt d (askM d) a = cellAt d a := by
  have hp := (page_of h).2.2
  unfold holdsAt cellAt cellB askM fillsB
  rw [show d.ws.getD (a - 16).toNat 0 = wd d a from rfl, show d.f (a / 16 - 1).toNat = pgAt d a from rfl]
  generalize wd d a = x at hp ⊢
  generalize pgAt d a = p at hp ⊢
  cases hw : Hd.isWord x
  · simp
  · by_cases hu : x % 2 = 1
    · have c1 : true = true ∧ x % 2 = 1 := ⟨rfl, hu⟩
      rw [if_pos hu, if_pos c1, Bool.true_and]
      rcases hp with ⟨h1, _⟩ | ⟨h1, _⟩
      · rw [if_neg (by omega), if_pos h1]
      · rw [if_pos h1, if_neg (by omega)]
        cases hr : (Cl.runErr (nOf x) == 0)
        · simp
        · rw [run_class (by simpa using hr)]
          rfl
    · have c1 : ¬ (true = true ∧ x % 2 = 1) := fun h => hu h.2
      rw [if_neg hu, if_neg c1, Bool.true_and, Bool.true_and]
      rcases hp with ⟨h1, _⟩ | ⟨h1, _⟩ <;> rw [h1] <;> rfl
theorem all_congr {xs : List Int} {f g : Int → Bool} (h : ∀ a ∈ xs, f a = g a) : xs.all f = xs.all g := by
  induction xs with
  | nil => rfl
  | cons x xs ih => rw [List.all_cons, List.all_cons, h x (by simp), ih (fun a ha => h a (by simp [ha]))]
theorem all_holds (d : Hd_) (n : Nat) : (Cl.allS d.f n).all (holdsAt d (askM d)) = (Cl.allS d.f n).all (cellAt d) := all_congr fun _ h => holds_cell h
/-- A cell begins just where Begins tells room. -/
theorem mem_allS {f : Nat → Int × Int} {n : Nat} {a : Int} : a ∈ Cl.allS f n ↔ ¬ Cl.bg f n a = 0 := by
  constructor
  · intro h
    obtain ⟨c, hc, rfl⟩ := List.mem_map.1 h
    rw [Cl.bg_cell hc]
    have := (Cl.allL_apart f n).2 c hc
    omega
  · intro h
    have := (Cl.bg_nonneg f n a).1
    obtain ⟨c, hc, rfl⟩ := Cl.bg_some (show 0 < Cl.bg f n a by omega)
    exact List.mem_map.2 ⟨c, hc, rfl⟩
theorem word_used {d : Hd_} {a : Int} (h : cellAt d a = true) : Hd.isWord (wd d a) = true ∧ (¬ wd d a % 2 = 1 → (pgAt d a).1 = 1 ∧ wd d a = 0) := by
  unfold cellAt cellB at h
  rw [show d.ws.getD (a - 16).toNat 0 = wd d a from rfl, show d.f (a / 16 - 1).toNat = pgAt d a from rfl] at h
  split at h
  · next hh => exact ⟨hh.1, fun hn => absurd hh.2 hn⟩
  · have h2 := (Bool.and_eq_true _ _ ▸ h : _ ∧ _)
    exact ⟨h2.1, fun hn => ⟨by simpa using h2.2, Hd.isWord_even h2.1 hn⟩⟩
theorem mem_unus {d : Hd_} {n : Nat} (hall : (Cl.allS d.f n).all (cellAt d) = true) (x : Int) (j : Nat) : decide (x ∈ unus d (Cl.allS d.f n) j) = freeH d n x (j : Nat) := by
  rw [Bool.eq_iff_iff, decide_eq_true_iff]
  unfold unus freeH
  rw [show d.ws.getD (x - 16).toNat 0 = wd d x from rfl, show d.f (x / 16 - 1).toNat = pgAt d x from rfl]
  rw [List.mem_filter, mem_allS, decide_eq_true_iff]
  by_cases hb : Cl.bg d.f n x = 0
  · rw [if_pos hb]
    simp [hb]
  · rw [if_neg hb]
    have hc := List.all_eq_true.1 hall x (mem_allS.2 hb)
    have hw := (word_used hc).2
    rw [Bool.and_eq_true, decide_eq_true_iff, beq_iff_eq]
    constructor
    · rintro ⟨_, h1, h2⟩
      exact ⟨⟨(hw h1).1, h2⟩, (hw h1).2⟩
    · rintro ⟨⟨h1, h2⟩, h3⟩
      exact ⟨hb, by rw [h3]; decide, h2⟩
theorem among_free {d : Hd_} {n N : Nat} {F : Nat → Nat → List Int} (hall : (Cl.allS d.f n).all (cellAt d) = true) : amongB N F (unus d (Cl.allS d.f n)) = freeAll d n N F := by
  unfold amongB freeAll inB
  simp only [mem_unus hall]
/-- Cells rise. -/
theorem allS_lt (f : Nat → Int × Int) (n : Nat) : (Cl.allS f n).Pairwise (· < ·) := by
  unfold Cl.allS
  rw [List.pairwise_map]
  refine List.Pairwise.imp_of_mem ?_ (Cl.allL_apart f n).1
  intro c e hc he h
  have := (Cl.allL_apart f n).2 c hc
  omega
theorem unus_rise (d : Hd_) (n j : Nat) : (unus d (Cl.allS d.f n) j).Pairwise (· ≤ ·) :=
  ((allS_lt d.f n).imp fun h => Int.le_of_lt h).sublist List.filter_sublist
theorem allS_len (f : Nat → Int × Int) (n : Nat) : (Cl.allS f n).length ≤ 512 := by
  have := Cl.allS_short f n (Cl.allS f n).length
  rwa [List.take_length] at this
end Go.Proofs.YtcbnefjfoeanoaaDoor
