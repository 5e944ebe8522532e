/-
  How a word is read, byte by byte: what holds on the way of each operation whose word it is; and that there is none.
-/
import Derived.Test.YtggjkagcnhhkjaaDoorCdP2
namespace Go.Proofs.YtggjkagcnhhkjaaDoor.Cd
open Go.Proofs.YtggjkagcnhhkjaaDoor Go.Proofs.YtggjkagcnhhkjaaDoor.Rt
set_option maxRecDepth 100000

theorem val_nonneg {u : UInt8} (h : isDig u) : 0 ≤ val u ∧ val u ≤ 9 := by
  obtain ⟨h1, h2⟩ := h
  have a := UInt8.le_iff_toNat_le.1 h1
  have b := UInt8.le_iff_toNat_le.1 h2
  have e1 : (48 : UInt8).toNat = 48 := rfl
  have e2 : (57 : UInt8).toNat = 57 := rfl
  rw [e1] at a
  rw [e2] at b
  unfold val
  omega
theorem step_mono {i : Nat} {f : Nat → Int} {u : UInt8} {st : Nat × (Nat → Int)} (h0 : ∀ j, 0 ≤ f j) (h : step (i, f) u = some st) : ∀ j, f j ≤ st.2 j := by
  unfold step at h
  split at h
  · cases h
    exact fun j => Int.le_refl _
  · split at h
    · rename_i hd
      cases h
      have v := val_nonneg hd.1
      intro j
      show f j ≤ Ls.upd f i (10 * f i + val u) j
      unfold Ls.upd
      split
      · rename_i e
        subst e
        have := h0 j
        omega
      · exact Int.le_refl _
    · cases h
theorem scan_mono : ∀ {l : List UInt8} {i : Nat} {f : Nat → Int} {st : Nat × (Nat → Int)}, (∀ j, 0 ≤ f j) → scan l (i, f) = some st → ∀ j, f j ≤ st.2 j
  | [], _, _, _, _, h => by
    cases h
    exact fun j => Int.le_refl _
  | u :: l, i, f, st, h0, h => by
    have h' : (step (i, f) u).bind (scan l) = some st := h
    cases hs : step (i, f) u with
    | none => rw [hs] at h'; cases h'
    | some st1 =>
      rw [hs] at h'
      have m1 := step_mono h0 hs
      have m2 := scan_mono (l := l) (i := st1.1) (f := st1.2) (fun j => Int.le_trans (h0 j) (m1 j)) h'
      exact fun j => Int.le_trans (m1 j) (m2 j)

/-- On the way: of each operation whose word it is the kind is known, and the rest tells its numbers. -/
def Inv (wd : List UInt8) (pos i : Nat) (k : Int) (f : Nat → Int) : Prop :=
  ∀ x, may x → word x = wd → k = x.k ∧ ∃ j f', scan (wd.drop pos) (i, f) = some (j, f') ∧ f' 0 = x.a ∧ f' 1 = x.b ∧ f' 2 = x.c
/-- No operation has this word. -/
def NoOp (wd : List UInt8) : Prop := ∀ x, may x → word x ≠ wd
theorem inv_begin {wd r : List UInt8} {k : Int} (hk : 0 ≤ k ∧ k ≤ 6) (h : wd = sign k ++ r) : Inv wd (sign k).length 0 k (fun _ => 0) := by
  intro x hx hw
  have K := kinds hx
  have e : sign x.k ++ commas ((nums x).take (many x.k)) = sign k ++ r := hw.trans h
  obtain ⟨e1, e2⟩ := sign_inj K (by omega) e
  obtain ⟨j, f', hs, h0, h1, h2⟩ := scan_word hx
  refine ⟨e1.symm, j, f', ?_, h0, h1, h2⟩
  rw [h, List.drop_left, ← e2]
  exact hs
theorem inv_rune {wd : List UInt8} {r n : Nat} (h : Utf8.decode (bs wd) 0 = (r, n)) : Inv wd n 0 (kindR r) (fun _ => 0) := by
  intro x hx hw
  have K := kinds hx
  have hk : 0 ≤ x.k ∧ x.k ≤ 6 := ⟨hx.1, hx.2.1⟩
  have d := decode_sign hk (commas ((nums x).take (many x.k)))
  rw [show sign x.k ++ commas ((nums x).take (many x.k)) = wd from hw, h] at d
  simp only [Prod.mk.injEq] at d
  have hp : 0 ≤ signR x.k := by rcases K with e | e | e | e | e | e | e <;> rw [e] <;> decide
  have hr' : (r : Int) = signR x.k := by omega
  have b := inv_begin hk hw.symm x hx hw
  rw [hr', (kind_sign hk).2, d.2]
  exact ⟨rfl, b.2⟩
theorem noop_rune {wd : List UInt8} {r n : Nat} (h : Utf8.decode (bs wd) 0 = (r, n)) (hr : ¬ isSign (r : Int)) : NoOp wd := by
  intro x hx hw
  have K := kinds hx
  have hk : 0 ≤ x.k ∧ x.k ≤ 6 := ⟨hx.1, hx.2.1⟩
  have d := decode_sign hk (commas ((nums x).take (many x.k)))
  rw [show sign x.k ++ commas ((nums x).take (many x.k)) = wd from hw, h] at d
  simp only [Prod.mk.injEq] at d
  have hp : 0 ≤ signR x.k := by rcases K with e | e | e | e | e | e | e <;> rw [e] <;> decide
  have hr' : (r : Int) = signR x.k := by omega
  exact hr (by rw [hr']; exact (kind_sign hk).1)
section
variable {wd : List UInt8} {pos i : Nat} {k : Int} {f : Nat → Int}
theorem inv_step (h : Inv wd pos i k f) (hp : pos < wd.length) {i' : Nat} {f' : Nat → Int} (hs : step (i, f) wd[pos] = some (i', f')) : Inv wd (pos + 1) i' k f' := by
  intro x hx hw
  obtain ⟨e, j, g, hsc, h0⟩ := h x hx hw
  rw [List.drop_eq_getElem_cons hp] at hsc
  have hsc' : (step (i, f) wd[pos]).bind (scan (wd.drop (pos + 1))) = some (j, g) := hsc
  rw [hs] at hsc'
  exact ⟨e, j, g, hsc', h0⟩
theorem inv_none (h : Inv wd pos i k f) (hp : pos < wd.length) (hs : step (i, f) wd[pos] = none) : NoOp wd := by
  intro x hx hw
  obtain ⟨e, j, g, hsc, h0⟩ := h x hx hw
  rw [List.drop_eq_getElem_cons hp] at hsc
  have hsc' : (step (i, f) wd[pos]).bind (scan (wd.drop (pos + 1))) = some (j, g) := hsc
  rw [hs] at hsc'
  cases hsc'
theorem inv_comma (h : Inv wd pos i k f) (hp : pos < wd.length) (hu : wd[pos] = 44) (hi : i < 2) : Inv wd (pos + 1) (i + 1) k f := inv_step h hp (by rw [hu]; exact step_comma hi)
theorem step_some {u : UInt8} (hd : isDig u) (hf : f i < 1000) : step (i, f) u = some (i, Ls.upd f i (10 * f i + val u)) := by
  unfold step
  rw [if_neg (fun e => dig_44 hd e.1), if_pos ⟨hd, hf⟩]
theorem inv_dig (h : Inv wd pos i k f) (hp : pos < wd.length) (hd : isDig wd[pos]) (hf : f i < 1000) : Inv wd (pos + 1) i k (Ls.upd f i (10 * f i + val wd[pos])) := inv_step h hp (step_some hd hf)
theorem inv_no (h : Inv wd pos i k f) (hp : pos < wd.length) (hc : ¬ (wd[pos] = 44 ∧ i < 2)) (hd : ¬ (isDig wd[pos] ∧ f i < 1000)) : NoOp wd := inv_none h hp (by
  unfold step
  rw [if_neg hc, if_neg hd])
theorem inv_big (h : Inv wd pos i k f) (hp : pos < wd.length) (h0 : ∀ j, 0 ≤ f j) (hi : i ≤ 2) (hd : isDig wd[pos]) (hb : 999 < 10 * f i + val wd[pos]) : NoOp wd := by
  intro x hx hw
  have hv := val_nonneg hd
  by_cases hf : f i < 1000
  · obtain ⟨_, j, g, hs, e0, e1, e2⟩ := inv_dig h hp hd hf x hx hw
    have hnn : ∀ j, 0 ≤ Ls.upd f i (10 * f i + val wd[pos]) j := by
      intro j
      unfold Ls.upd
      split
      · have := h0 i; omega
      · exact h0 j
    have m := scan_mono hnn hs i
    have m' : 10 * f i + val wd[pos] ≤ g i := by rw [upd_at] at m; exact m
    obtain ⟨_, _, x1, x2, x3⟩ := hx
    rcases (show i = 0 ∨ i = 1 ∨ i = 2 by omega) with rfl | rfl | rfl
    · rw [e0] at m'; have := x1.2.1; omega
    · rw [e1] at m'; have := x2.2.1; omega
    · rw [e2] at m'; have := x3.2.1; omega
  · exact inv_no h hp (fun e => dig_44 hd e.1) (fun e => hf e.2) x hx hw
theorem inv_end (h : Inv wd wd.length i k f) : ∀ x, may x → word x = wd → x = ⟨k, f 0, f 1, f 2⟩ := by
  intro x hx hw
  obtain ⟨e, j, g, hs, h0, h1, h2⟩ := h x hx hw
  rw [List.drop_length] at hs
  cases hs
  obtain ⟨a, b, c, d⟩ := x
  dsimp only at e h0 h1 h2
  rw [e, h0, h1, h2]
end
theorem noop_nil : NoOp [] := fun x _ h => word_ne x h
/-- What was read is not it. -/
theorem noop_end {wd : List UInt8} {y : O4} (h : ∀ x, may x → word x = wd → x = y) (hn : ¬ (may y ∧ word y = wd)) : NoOp wd := by
  intro x hx hw
  have e := h x hx hw
  subst e
  exact hn ⟨hx, hw⟩
/-- A rune of ASCII is a byte. -/
theorem rune_byte {wd : List UInt8} {pos : Nat} (hp : pos < wd.length) {r n : Nat} (h : Utf8.decode (bs wd) pos = (r, n)) (hr : r < 128) : wd[pos].toNat = r ∧ n = 1 := by
  have hp' : pos < (bs wd).size := by rw [bs_size]; exact hp
  by_cases ha : ((bs wd)[pos]).toNat < 128
  · have := decode_ascii (bs wd) pos hp' ha
    rw [h, Prod.mk.injEq] at this
    exact ⟨by rw [this.1]; rfl, this.2⟩
  · have := (decode_high (bs wd) pos hp' (by omega)).1
    rw [h] at this
    have h' : 128 ≤ r := this
    omega
theorem byte_rune {wd : List UInt8} {pos : Nat} (hp : pos < wd.length) {r n : Nat} (h : Utf8.decode (bs wd) pos = (r, n)) (hu : wd[pos].toNat < 128) : r = wd[pos].toNat ∧ n = 1 := by
  have hp' : pos < (bs wd).size := by rw [bs_size]; exact hp
  have := decode_ascii (bs wd) pos hp' hu
  rw [h, Prod.mk.injEq] at this
  exact ⟨this.1, this.2⟩
theorem dig_iff {u : UInt8} : isDig u ↔ 48 ≤ u.toNat ∧ u.toNat ≤ 57 := by
  unfold isDig
  rw [UInt8.le_iff_toNat_le, UInt8.le_iff_toNat_le]
  exact Iff.rfl
theorem comma_iff {u : UInt8} : u = 44 ↔ u.toNat = 44 := by
  constructor
  · rintro rfl
    rfl
  · intro h
    exact UInt8.toNat_inj.1 h
theorem blank_iff {u : UInt8} : u = 32 ↔ u.toNat = 32 := by
  constructor
  · rintro rfl
    rfl
  · intro h
    exact UInt8.toNat_inj.1 h
end Go.Proofs.YtggjkagcnhhkjaaDoor.Cd
