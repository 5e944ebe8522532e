/-
  Package arena's Zero: where noughts are put, in a row of the call's own: the list with noughts at so many places.
-/
import Derived.Test.YtndjocfnepikhaaMake

namespace Go.Proofs.Ytndjocfnepikhaa
open Go.RowKit

/-- The list with noughts at k places from o on. -/
def wipe (xs : List Int) : Nat → Nat → List Int
  | _, 0 => xs
  | o, k + 1 => wipe (xs.set o 0) (o + 1) k
theorem wipe_length : ∀ (k o : Nat) (xs : List Int), (wipe xs o k).length = xs.length
  | 0, _, _ => rfl
  | k + 1, o, xs => by rw [wipe, wipe_length k, List.length_set]
theorem wipe_snoc : ∀ (k o : Nat) (xs : List Int), (wipe xs o k).set (o + k) 0 = wipe xs o (k + 1)
  | 0, _, _ => rfl
  | k + 1, o, xs => by
    rw [wipe, show o + (k + 1) = o + 1 + k by omega, wipe_snoc k (o + 1) (xs.set o 0)]
    rfl
theorem wipe_getD : ∀ (k o : Nat) (xs : List Int) (j : Nat), o + k ≤ xs.length → (wipe xs o k).getD j 0 = if o ≤ j ∧ j < o + k then 0 else xs.getD j 0
  | 0, o, xs, j, _ => by rw [wipe, if_neg (by omega)]
  | k + 1, o, xs, j, h => by
    rw [wipe, wipe_getD k (o + 1) (xs.set o 0) j (by rw [List.length_set]; omega)]
    by_cases h1 : o + 1 ≤ j ∧ j < o + 1 + k
    · rw [if_pos h1, if_pos (by omega)]
    · rw [if_neg h1]
      by_cases h2 : o = j
      · subst h2
        rw [if_pos (by omega)]
        simp [List.getD, show o < xs.length by omega]
      · rw [if_neg (by omega)]
        simp [List.getD, List.getElem?_set_ne h2]

theorem Mine.wiped {base e g c n : Nat} : ∀ (k o : Nat) (w : World) (xs : List Int), Mine w base e g n c xs → Mine (w.setCells g o (List.replicate k (.int .i64 0))) base e g n c (wipe xs o k)
  | 0, _, _, _, h => h
  | k + 1, o, w, xs, h => by
    rw [List.replicate_succ, World.setCells, wipe]
    exact Mine.wiped k (o + 1) _ _ (h.stored o 0)
theorem below_wiped {B g : Nat} {a : World} (hB : B ≤ g) : ∀ (vs : List Value) (o : Nat) (w : World), Below B a w → Below B a (w.setCells g o vs)
  | [], _, _, h => h
  | v :: r, o, w, h => by
    rw [World.setCells]
    exact below_wiped hB r (o + 1) _ (h.setCell (by simpa using hB) v)

theorem zero_nil (B : Nat) (A : Option Addr) (n c : Nat) (xs : List Int) (a : Int) (w : World) (h : mayB n = true) (hr : Row w B A n xs) :
    Calls Try.prog 16 #[.slice A n c, .int .i64 a, .int .i64 0] w (Made w n xs) := by
  have hn := (mayB_iff.1 h).2.1
  have hn0 := (mayB_iff.1 h).1
  have H := Lib.hid h
  have HR := Lib.hid hr
  have hcl : ∀ (wx : World) (A : Option Addr) (c : Nat) ty, (Builtin.clear_ #[22] ty #[.slice A 0 c]).run Try.prog wx = .ok (.tuple #[]) wx := fun wx A c ty => by
    cases A <;> simp [Builtin.clear_, run_underlying Try.underlying22]
  clear h hr
  go_enter Try.func16, Try.ntmps16
  go_wp2_with fail
  refine (span_zero _ _ _ _ _ H.out).mono ?_
  rintro e w' ⟨rfl, rfl⟩
  go_wp2_with fail
  refine (clone_ok _ _ _ _ _ _ (by omega) (by omega) HR.out).mono ?_
  rintro e w1 ⟨g, c', rfl, hm, hb⟩
  have HM := Lib.hid hm
  have hcm := hm.2.2.2.2
  have hnc := hm.2.2.2.1
  unfold maxLen at hcm
  clear hm
  go_wp2
  go_ret2
  exact ⟨g, c', rfl, HM.out, hb⟩

theorem zero_ok (B : Nat) (A : Option Addr) (n c : Nat) (xs : List Int) (i m : Nat) (w : World) (h : mayB n = true) (h0 : 0 < m) (h1 : i + m ≤ n) (hr : Row w B A n xs) :
    Calls Try.prog 16 #[.slice A n c, .int .i64 (16 + i), .int .i64 m] w (Made w n (wipe xs i m)) := by
  have hn := (mayB_iff.1 h).2.1
  have hn0 := (mayB_iff.1 h).1
  have EI : (16 : Int) + i - 16 = i := by omega
  have H := Lib.hid h
  have HR := Lib.hid hr
  clear h hr
  have HS : Calls Try.prog 26 #[.slice A n c, .int .i64 (16 + i), .int .i64 m] w fun e w' => e = .returned (.tuple #[.int .i64 i, .int .i64 (i + m), .int .i64 0]) ∧ w = w' := by
    have := span_ok A n c (16 + i) m w H.out (by omega) (by omega) (by omega)
    rw [EI] at this
    exact this
  have HT := Lib.hid HS
  clear EI HS
  go_enter Try.func16, Try.ntmps16
  go_wp2_with fail
  refine (HT.out).mono ?_
  rintro e w' ⟨rfl, rfl⟩
  go_wp2_with fail
  refine (clone_ok _ _ _ _ _ _ (by omega) (by omega) HR.out).mono ?_
  rintro e w1 ⟨g, c', rfl, hm, hb⟩
  have HM := Lib.hid hm
  have hcm := hm.2.2.2.2
  have hnc := hm.2.2.2.1
  have hg := hm.2.1
  unfold maxLen at hcm
  have hcl : ∀ c ty, (Builtin.clear_ #[22] ty #[.slice (some ⟨g, i, none⟩) m c]).run Try.prog w1 = .ok (.tuple #[]) (w1.setCells g i (List.replicate m (.int .i64 0))) :=
    fun c ty => Lib.run_clear_slice w1 22 3 ty (.int .i64 0) Try.underlying22 zero_int rfl rfl g i m c h0 (fun j hj => by rw [HM.out.cell (i + j) (by omega)]; rfl) (fun j hj => HM.out.free _)
  clear hm
  go_wp2
  go_ret2
  exact ⟨g, c', rfl, HM.out.wiped _ _ _ _, below_wiped hg _ _ _ hb⟩
end Go.Proofs.Ytndjocfnepikhaa
