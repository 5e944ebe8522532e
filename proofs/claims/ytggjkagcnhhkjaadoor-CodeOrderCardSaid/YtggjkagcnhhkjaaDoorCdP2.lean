/-
  Operations as a text, by definition: words with a blank behind each; how a word is read, rune by rune; where a blank stands.
-/
import Derived.Test.YtggjkagcnhhkjaaDoorCdP
import Derived.Laws.RangeAny
namespace Go.Proofs.YtggjkagcnhhkjaaDoor.Cd
open Go.Proofs.YtggjkagcnhhkjaaDoor Go.Proofs.YtggjkagcnhhkjaaDoor.Rt
set_option maxRecDepth 100000

/-- Each word, with a blank behind it. -/
def flat : List O4 → List UInt8
  | [] => []
  | x :: l => word x ++ 32 :: flat l
theorem flat_append : ∀ l m : List O4, flat (l ++ m) = flat l ++ flat m
  | [], _ => rfl
  | x :: l, m => by
    show word x ++ 32 :: flat (l ++ m) = (word x ++ 32 :: flat l) ++ flat m
    rw [flat_append l m]
    simp
theorem flat_write : ∀ {l : List O4}, l ≠ [] → flat l = write l ++ [32]
  | [], h => absurd rfl h
  | [x], _ => rfl
  | x :: y :: l, _ => by
    have := flat_write (l := y :: l) (by simp)
    show word x ++ 32 :: flat (y :: l) = (word x ++ 32 :: write (y :: l)) ++ [32]
    rw [this]
    simp
theorem flat_find : ∀ {l1 l : List O4} {wd rest : List UInt8}, (∀ x ∈ l1, may x) → (∀ x ∈ l, may x) → (∀ u ∈ wd, u ≠ 32) → flat l = flat l1 ++ (wd ++ 32 :: rest) → ∃ x l2, l = l1 ++ x :: l2 ∧ word x = wd ∧ flat l2 = rest
  | [], [], wd, rest, _, _, _, h => by simp [flat] at h
  | [], x :: l, wd, rest, _, hl, hw, h => by
    have h' : word x ++ 32 :: flat l = wd ++ 32 :: rest := h
    obtain ⟨h1, h2⟩ := span_unique (p := fun u => u ≠ 32) (word_blank (hl x (by simp))) hw (fun u r e => by cases e; simp) (fun u r e => by cases e; simp) h'
    simp only [List.cons.injEq, true_and] at h2
    exact ⟨x, l, rfl, h1, h2⟩
  | y :: l1, [], wd, rest, _, _, _, h => by
    have h' : ([] : List UInt8) = (word y ++ 32 :: flat l1) ++ (wd ++ 32 :: rest) := h
    simp at h'
  | y :: l1, z :: l, wd, rest, h1, hl, hw, h => by
    have h' : word z ++ 32 :: flat l = word y ++ 32 :: (flat l1 ++ (wd ++ 32 :: rest)) := by
      have : flat (z :: l) = (word y ++ 32 :: flat l1) ++ (wd ++ 32 :: rest) := h
      rw [show flat (z :: l) = word z ++ 32 :: flat l from rfl] at this
      rw [this]
      simp
    obtain ⟨e1, e2⟩ := span_unique (p := fun u => u ≠ 32) (word_blank (hl z (by simp))) (word_blank (h1 y (by simp))) (fun u r e => by cases e; simp) (fun u r e => by cases e; simp) h'
    simp only [List.cons.injEq, true_and] at e2
    obtain ⟨x, l2, r1, r2, r3⟩ := flat_find (l1 := l1) (l := l) (fun w hw => h1 w (List.mem_cons_of_mem _ hw)) (fun w hw => hl w (List.mem_cons_of_mem _ hw)) hw e2
    have : z = y := word_inj (hl z (by simp)) (h1 y (by simp)) e1
    exact ⟨x, l2, by rw [this, r1]; rfl, r2, r3⟩
/-- The text of operations that may be, no more than 200. -/
def Good (l : List O4) (s : List UInt8) : Prop := (∀ x ∈ l, may x) ∧ l.length ≤ 200 ∧ write l = s
theorem Good.one {l m : List O4} {s : List UInt8} (h : Good l s) (k : Good m s) : l = m := write_inj h.1 k.1 (h.2.2.trans k.2.2.symm)
theorem write_flat {l : List O4} {s : List UInt8} (h : flat l = s ++ [32]) : write l = s := by
  cases l with
  | nil => simp [flat] at h
  | cons x l =>
    rw [flat_write (by simp)] at h
    exact List.append_cancel_right h
theorem good_ne {l : List O4} {s : List UInt8} (h : Good l s) (hs : s ≠ []) : l ≠ [] := by
  rintro rfl
  exact hs h.2.2.symm
/-- Where a text's first words are those of l1, and a word that is none follows: it is no operations' text. -/
theorem not_good {l1 : List O4} {s wd rest : List UInt8} (h1 : ∀ x ∈ l1, may x) (hw : ∀ u ∈ wd, u ≠ 32) (hs : s ++ [32] = flat l1 ++ (wd ++ 32 :: rest)) (hne : s ≠ []) (hno : ∀ x, may x → word x ≠ wd) : ∀ l, ¬ Good l s := by
  intro l h
  have : flat l = flat l1 ++ (wd ++ 32 :: rest) := by rw [flat_write (good_ne h hne), h.2.2, hs]
  obtain ⟨x, l2, e, e2, _⟩ := flat_find h1 h.1 hw this
  exact hno x (h.1 x (by rw [e]; simp)) e2
/-- .. or too many words. -/
theorem flat_count : ∀ {l : List O4}, (∀ x ∈ l, may x) → (flat l).count 32 = l.length
  | [], _ => rfl
  | x :: l, h => by
    have h0 : (word x).count 32 = 0 := List.count_eq_zero.2 (fun hm => word_blank (h x (by simp)) 32 hm rfl)
    show (word x ++ 32 :: flat l).count 32 = _
    rw [List.count_append, h0, List.count_cons_self, flat_count (fun y hy => h y (List.mem_cons_of_mem _ hy))]
    simp
theorem good_count {l : List O4} {s : List UInt8} (h : Good l s) : s.count 32 ≤ 199 := by
  cases l with
  | nil =>
    have : s = [] := h.2.2.symm
    subst this
    simp
  | cons x l =>
    have := flat_count h.1
    rw [flat_write (by simp), h.2.2, List.count_append] at this
    have h2 := h.2.1
    simp at this h2
    omega
theorem flat_ne {x : O4} {l : List O4} : flat (l ++ [x]) ≠ [] := by
  rw [flat_append]
  simp [flat]
/-- More than 200 of them are in no good text. -/
theorem not_good_many {l1 : List O4} {s rest : List UInt8} (h1 : ∀ x ∈ l1, may x) (hs : s ++ [32] = flat l1 ++ rest) (hn : 200 ≤ l1.length) (hr : rest.count 32 ≠ 0) : ∀ l, ¬ Good l s := by
  intro l h
  have c := good_count h
  have e := congrArg (List.count (32 : UInt8)) hs
  rw [List.count_append, List.count_append, flat_count h1] at e
  simp at e
  omega

/-- A kind's sign, as a rune. -/
def signR : Int → Int
  | 0 => 110
  | 1 => 8594
  | 2 => 8592
  | 3 => 8709
  | 4 => 8801
  | 5 => 35
  | _ => 215
/-- The rune is a sign. -/
def isSign (r : Int) : Prop := r = 110 ∨ r = 8594 ∨ r = 8592 ∨ r = 8709 ∨ r = 8801 ∨ r = 35 ∨ r = 215
instance (r : Int) : Decidable (isSign r) := by unfold isSign; infer_instance
def kindR (r : Int) : Int := if r = 110 then 0 else if r = 8594 then 1 else if r = 8592 then 2 else if r = 8709 then 3 else if r = 8801 then 4 else if r = 35 then 5 else 6
theorem sign_kind {r : Int} (h : isSign r) : signR (kindR r) = r ∧ 0 ≤ kindR r ∧ kindR r ≤ 6 := by
  rcases h with rfl | rfl | rfl | rfl | rfl | rfl | rfl <;> decide
theorem kind_sign {k : Int} (h : 0 ≤ k ∧ k ≤ 6) : isSign (signR k) ∧ kindR (signR k) = k := by
  have : k = 0 ∨ k = 1 ∨ k = 2 ∨ k = 3 ∨ k = 4 ∨ k = 5 ∨ k = 6 := by omega
  rcases this with rfl | rfl | rfl | rfl | rfl | rfl | rfl <;> decide
theorem encode_sign {k : Int} (h : 0 ≤ k ∧ k ≤ 6) : Utf8.encode (signR k) = ⟨(sign k).toArray⟩ := by
  have : k = 0 ∨ k = 1 ∨ k = 2 ∨ k = 3 ∨ k = 4 ∨ k = 5 ∨ k = 6 := by omega
  rcases this with rfl | rfl | rfl | rfl | rfl | rfl | rfl <;> rfl

/-- A text's bytes. -/
def bs (l : List UInt8) : ByteArray := ⟨l.toArray⟩
theorem bs_size (l : List UInt8) : (bs l).size = l.length := by simp [bs, ByteArray.size]
theorem bs_list (s : ByteArray) : bs s.data.toList = s := by cases s; rfl
theorem list_bs (l : List UInt8) : (bs l).data.toList = l := rfl
theorem bs_at (l : List UInt8) (i : Nat) (h : i < (bs l).size) : (bs l)[i] = l[i]'(by rwa [bs_size] at h) := rfl
theorem get_bs (l : List UInt8) (i : Nat) (h : i < l.length) : (bs l).get! i = l[i] := by
  have h' : i < (bs l).size := by rw [bs_size]; exact h
  have := get_at (bs l) i h'
  rw [Nat.add_zero] at this
  exact this
theorem decode_two (a b : UInt8) (r : List UInt8) (v : Nat) (h0 : (decide (a.toNat < 128) = false ∧ (a.toNat / 32 == 6) = true ∧ (b.toNat / 64 == 2) = true)) (h1 : a.toNat % 32 * 64 + b.toNat % 64 = v) (h2 : decide (v ≥ 128) = true) : Utf8.decode (bs (a :: b :: r)) 0 = (v, 2) := by
  have e0 := get_bs (a :: b :: r) 0 (by simp)
  have e1 := get_bs (a :: b :: r) 1 (by simp)
  simp only [List.getElem_cons_zero, List.getElem_cons_succ] at e0 e1
  have hs : 1 < (bs (a :: b :: r)).size := by rw [bs_size]; simp
  obtain ⟨c1, c2, c3⟩ := h0
  have c1' : ¬ a.toNat < 128 := by simpa using c1
  simp only [Utf8.decode, Nat.zero_add, e0, e1]
  rw [if_neg c1', if_pos (by simp [c2, c3, hs]), h1, if_pos (by simpa using h2)]
theorem decode_three (a b c : UInt8) (r : List UInt8) (v : Nat) (h0 : (decide (a.toNat < 128) = false ∧ (a.toNat / 32 == 6) = false ∧ (a.toNat / 16 == 14) = true ∧ (b.toNat / 64 == 2) = true ∧ (c.toNat / 64 == 2) = true)) (h1 : a.toNat % 16 * 4096 + b.toNat % 64 * 64 + c.toNat % 64 = v) (h2 : (decide (v ≥ 2048) && Utf8.valid v) = true) : Utf8.decode (bs (a :: b :: c :: r)) 0 = (v, 3) := by
  have e0 := get_bs (a :: b :: c :: r) 0 (by simp)
  have e1 := get_bs (a :: b :: c :: r) 1 (by simp)
  have e2 := get_bs (a :: b :: c :: r) 2 (by simp)
  simp only [List.getElem_cons_zero, List.getElem_cons_succ] at e0 e1 e2
  have hs : 1 < (bs (a :: b :: c :: r)).size := by rw [bs_size]; simp
  have hs2 : 2 < (bs (a :: b :: c :: r)).size := by rw [bs_size]; simp
  obtain ⟨c1, c2, c3, c4, c5⟩ := h0
  have c1' : ¬ a.toNat < 128 := by simpa using c1
  simp only [Utf8.decode, Nat.zero_add, e0, e1, e2]
  rw [if_neg c1', if_neg (by simp [c2]), if_pos (by simp [c3, c4, c5, hs, hs2]), h1, if_pos h2]
theorem decode_sign {k : Int} (h : 0 ≤ k ∧ k ≤ 6) (r : List UInt8) : Utf8.decode (bs (sign k ++ r)) 0 = ((signR k).toNat, (sign k).length) := by
  have : k = 0 ∨ k = 1 ∨ k = 2 ∨ k = 3 ∨ k = 4 ∨ k = 5 ∨ k = 6 := by omega
  have one : ∀ u : UInt8, u.toNat < 128 → Utf8.decode (bs (u :: r)) 0 = (u.toNat, 1) := fun u hu => decode_ascii (bs (u :: r)) 0 (by rw [bs_size]; simp) hu
  rcases this with rfl | rfl | rfl | rfl | rfl | rfl | rfl
  · exact one 110 (by decide)
  · exact decode_three 226 134 146 r _ (by decide) rfl (by decide)
  · exact decode_three 226 134 144 r _ (by decide) rfl (by decide)
  · exact decode_three 226 136 133 r _ (by decide) rfl (by decide)
  · exact decode_three 226 137 161 r _ (by decide) rfl (by decide)
  · exact one 35 (by decide)
  · exact decode_two 195 151 r _ (by decide) rfl (by decide)
/-- What a rune takes: at least one byte, and no more than are left; behind the first one no byte of ASCII. -/
theorem decode_width (s : ByteArray) (pos : Nat) (h : pos < s.size) : 1 ≤ (Utf8.decode s pos).2 ∧ pos + (Utf8.decode s pos).2 ≤ s.size ∧ ∀ j, 0 < j → j < (Utf8.decode s pos).2 → 128 ≤ (s.get! (pos + j)).toNat := by
  simp only [Utf8.decode]
  repeat' split
  all_goals (
    simp only [Bool.and_eq_true, decide_eq_true_eq, beq_iff_eq] at *
    refine ⟨by omega, by omega, fun j h0 h1 => ?_⟩
    try dsimp only at h1
    have hj : j = 1 ∨ j = 2 ∨ j = 3 := by omega
    rcases hj with rfl | rfl | rfl <;> omega)
end Go.Proofs.YtggjkagcnhhkjaaDoor.Cd
