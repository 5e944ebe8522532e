/-
  Where a text's words begin and end, plain.
-/
import Derived.Test.YtggjkagcnhhkjaaDoorCdP3
namespace Go.Proofs.YtggjkagcnhhkjaaDoor.Cd
open Go.Proofs.YtggjkagcnhhkjaaDoor Go.Proofs.YtggjkagcnhhkjaaDoor.Rt
open Go.RowKit
set_option maxRecDepth 100000

/-- A list's operations, by place. -/
def gl (l : List O4) (i : Nat) : O4 := l.getD i ⟨0, 0, 0, 0⟩
theorem gl_at {l : List O4} {i : Nat} (h : i < l.length) : gl l i = l[i] := by
  unfold gl
  rw [List.getD_eq_getElem?_getD, List.getElem?_eq_getElem h]
  rfl
theorem gl_left {l m : List O4} {i : Nat} (h : i < l.length) : gl (l ++ m) i = gl l i := by
  rw [gl_at (by simp; omega), gl_at h, List.getElem_append_left h]
theorem gl_last (l : List O4) (x : O4) : gl (l ++ [x]) l.length = x := by
  rw [gl_at (by simp)]
  simp
theorem ocells_congr {g g' : Nat → O4} {n : Nat} (h : ∀ i, i < n → g i = g' i) : ocells g n = ocells g' n := by
  unfold ocells
  refine List.map_congr_left (fun j hj => ?_)
  have hj' : j < n * 4 := List.mem_range.1 hj
  unfold ocell
  rw [h (j / 4) (by omega)]
/-- An operation's cells. -/
def opc (x : O4) : List Value := [.int .i64 x.k, .int .i64 x.a, .int .i64 x.b, .int .i64 x.c]
theorem ocells_succ (g : Nat → O4) (n : Nat) : ocells g (n + 1) = ocells g n ++ opc (g n) := by
  have e : (n + 1) * 4 = n * 4 + 1 + 1 + 1 + 1 := by omega
  unfold ocells
  rw [e, List.range_succ, List.range_succ, List.range_succ, List.range_succ]
  simp only [List.map_append, List.map_cons, List.map_nil, List.append_assoc]
  have d0 : n * 4 / 4 = n := by omega
  have d1 : (n * 4 + 1) / 4 = n := by omega
  have d2 : (n * 4 + 1 + 1) / 4 = n := by omega
  have d3 : (n * 4 + 1 + 1 + 1) / 4 = n := by omega
  have m0 : n * 4 % 4 = 0 := by omega
  have m1 : (n * 4 + 1) % 4 = 1 := by omega
  have m2 : (n * 4 + 1 + 1) % 4 = 2 := by omega
  have m3 : (n * 4 + 1 + 1 + 1) % 4 = 3 := by omega
  simp [ocell, d0, d1, d2, d3, m0, m1, m2, m3, o4c, opc]
theorem ocells_snoc (l : List O4) (x : O4) : ocells (gl (l ++ [x])) (l.length + 1) = ocells (gl l) l.length ++ opc x := by
  rw [ocells_succ, gl_last, ocells_congr (fun i hi => gl_left hi)]

/-- No blank from b on, up to p. -/
def NoB (T : List UInt8) (b p : Nat) : Prop := ∀ j u, T[j]? = some u → b ≤ j → j < p → u ≠ 32
theorem nob_word {T : List UInt8} {b p : Nat} (h : NoB T b p) : ∀ u ∈ (T.take p).drop b, u ≠ 32 := by
  intro u hu
  obtain ⟨i, hi, rfl⟩ := List.getElem_of_mem hu
  have h1 : i < p - b := by
    have := hi
    rw [List.length_drop, List.length_take] at this
    omega
  refine h (b + i) _ ?_ (by omega) (by omega)
  rw [List.getElem_drop, List.getElem_take]
  rw [List.getElem?_eq_getElem]
theorem take_two {T : List UInt8} {b p : Nat} (h : b ≤ p) : T.take p = T.take b ++ (T.take p).drop b := by
  have := (List.take_append_drop b (T.take p)).symm
  rwa [List.take_take, Nat.min_eq_left h] at this
theorem take_three {T : List UInt8} {b p : Nat} (h : b ≤ p) (hp : p < T.length) (hu : T[p] = 32) : T.take (p + 1) = T.take b ++ ((T.take p).drop b ++ [32]) := by
  rw [List.take_succ_eq_append_getElem hp, hu, take_two h, List.append_assoc, ← take_two h]
theorem take_all {T : List UInt8} {b p : Nat} (h : b ≤ p) (hp : p < T.length) (hu : T[p] = 32) : T = T.take b ++ ((T.take p).drop b ++ 32 :: T.drop (p + 1)) := by
  have := (List.take_append_drop (p + 1) T).symm
  rw [take_three h hp hu] at this
  simpa using this
theorem nob_start (T : List UInt8) (b : Nat) : NoB T b b := fun _ _ _ h1 h2 => absurd h1 (by omega)
theorem nob_step {T : List UInt8} {b p r n : Nat} (h : NoB T b p) (hp : p < T.length) (hd : Utf8.decode (bs T) p = (r, n)) (hr : r ≠ 32) : NoB T b (p + n) := by
  intro j u hj hb hjn
  by_cases hlt : j < p
  · exact h j u hj hb hlt
  · have hjl : j < T.length := (List.getElem?_eq_some_iff.1 hj).1
    have hju : T[j] = u := (List.getElem?_eq_some_iff.1 hj).2
    by_cases he : j = p
    · subst he
      rintro rfl
      have := byte_rune hp hd (by rw [hju]; decide)
      rw [hju] at this
      exact hr this.1
    · have hp' : p < (bs T).size := by rw [bs_size]; exact hp
      have hw := (decode_width (bs T) p hp').2.2 (j - p) (by omega) (by rw [hd]; show j - p < n; omega)
      rw [show p + (j - p) = j by omega, get_bs T j hjl, hju] at hw
      rintro rfl
      exact absurd hw (by decide)
theorem blank_rune {T : List UInt8} {p r n : Nat} (hp : p < T.length) (hd : Utf8.decode (bs T) p = (r, n)) (hr : r = 32) : T[p] = 32 ∧ n = 1 := by
  have := rune_byte hp hd (by omega)
  exact ⟨blank_iff.2 (by rw [this.1, hr]), this.2⟩
/-- The last word ends where the text does. -/
theorem nob_end {L : List UInt8} {b : Nat} (h : NoB (L ++ [32]) b (L.length + 1)) (hb : b ≤ L.length + 1) : b = L.length + 1 := by
  refine Decidable.byContradiction (fun hn => ?_)
  exact h L.length 32 (by simp) (by omega) (by omega) rfl
theorem flat_len : ∀ l : List O4, l.length ≤ (flat l).length
  | [] => by simp
  | x :: l => by
    have := flat_len l
    show l.length + 1 ≤ (word x ++ 32 :: flat l).length
    rw [List.length_append, List.length_cons]
    omega
theorem flat_snoc (l : List O4) (x : O4) : flat (l ++ [x]) = flat l ++ (word x ++ [32]) := by
  rw [flat_append]
  rfl
theorem good_end {L : List UInt8} {l : List O4} (h : ∀ x ∈ l, may x) (hf : L ++ [32] = flat l) (hc : L.count 32 < 200) : Good l L := by
  refine ⟨h, ?_, write_flat hf.symm⟩
  have := flat_count h
  rw [← hf, List.count_append] at this
  simp at this
  omega
end Go.Proofs.YtggjkagcnhhkjaaDoor.Cd
