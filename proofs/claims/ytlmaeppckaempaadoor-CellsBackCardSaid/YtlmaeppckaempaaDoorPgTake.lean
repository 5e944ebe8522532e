/-
  Package pages' take, Small, Large and Drop: which error is told, or which pages are returned, in a block of the call's own; all that was there stays.
-/
import Derived.Test.YtlmaeppckaempaaDoorPgFill
namespace Go.Proofs.YtlmaeppckaempaaDoor
open Go.RowKit

def outN (err : Int) (n : Nat) : Nat := if err = 0 then n else 0
theorem PMine.lower {w : World} {base base' e g n c : Nat} {f : Nat → Int × Int} (h : PMine w base e g n c f) (hb : base' ≤ base) : PMine w base' e g n c f := by
  refine ⟨⟨h.1.1, ?_⟩, by have := h.2.1; omega, h.2.2⟩
  rcases h.1.2 with h2 | ⟨g', cap, cur, hv, hb', hr⟩
  · exact .inl h2
  · exact .inr ⟨g', cap, cur, hv, by omega, hr⟩
/-- An error and no pages, or n pages; all that was there is as it was. -/
def TOut (w : World) (err : Int) (n : Nat) (g : Nat → Int × Int) (e : Ending) (w' : World) : Prop :=
  ∃ A c, e = .returned (.tuple #[.slice A (outN err n) c, .int .i64 err]) ∧ PRow w' w'.heap.size A (outN err n) g ∧ outN err n ≤ c ∧ Below w.heap.size w w'
theorem tout_err {w w' : World} {err : Int} {n : Nat} {g : Nat → Int × Int} {e : Ending} {E : Int} (he : e = .returned (.tuple #[.slice none 0 0, .int .i64 E])) (hE : err = E) (h0 : E ≠ 0) (hb : Below w.heap.size w w') : TOut w err n g e w' := by
  subst hE
  have e0 : outN err n = 0 := if_neg h0
  unfold TOut
  rw [e0]
  exact ⟨none, 0, he, PRow.empty _ _ _ _, Nat.le_refl _, hb⟩
theorem tout_ok {w w' : World} {err : Int} {n b c : Nat} {g f : Nat → Int × Int} {e : Ending} (he : e = .returned (.tuple #[.slice (some ⟨b, 0, none⟩) n c, .int .i64 0])) (hE : err = 0)
    (h : PMine w' w.heap.size 34 b n c f) (hg : ∀ i, i < n → g i = f i) (hb : Below w.heap.size w w') : TOut w err n g e w' := by
  subst hE
  have e0 : outN 0 n = n := if_pos rfl
  unfold TOut
  rw [e0]
  exact ⟨_, c, he, h.row.congr hg, h.2.2.2.1, hb⟩

/-- The error of taking m pages from a place on. -/
def takeE (f : Nat → Int × Int) (n : Nat) (at_ m : Int) : Int := if mayB f n = false then 1 else if at_ < 0 ∨ (n : Int) - m < at_ then 3 else if freeB f at_.toNat m.toNat = true then 0 else 4
theorem takeE_may {f : Nat → Int × Int} {n : Nat} {at_ m : Int} (h : mayB f n = false) : takeE f n at_ m = 1 := if_pos h
theorem takeE_none {f : Nat → Int × Int} {n : Nat} {at_ m : Int} (h : mayB f n = true) (ha : at_ < 0 ∨ (n : Int) - m < at_) : takeE f n at_ m = 3 := by
  unfold takeE
  rw [if_neg (by rw [h]; decide), if_pos ha]
theorem takeE_full {f : Nat → Int × Int} {n : Nat} {at_ m : Int} (h : mayB f n = true) (ha : ¬ (at_ < 0 ∨ (n : Int) - m < at_)) (hf : freeB f at_.toNat m.toNat = false) : takeE f n at_ m = 4 := by
  unfold takeE
  rw [if_neg (by rw [h]; decide), if_neg ha, if_neg (by rw [hf]; decide)]
theorem takeE_ok {f : Nat → Int × Int} {n : Nat} {at_ m : Int} (h : mayB f n = true) (ha : ¬ (at_ < 0 ∨ (n : Int) - m < at_)) (hf : freeB f at_.toNat m.toNat = true) : takeE f n at_ m = 0 := by
  unfold takeE
  rw [if_neg (by rw [h]; decide), if_neg ha, if_pos hf]
def smallE (f : Nat → Int × Int) (n : Nat) (at_ c : Int) : Int := if clB c = true then takeE f n at_ 1 else 1
def smallF (f : Nat → Int × Int) (at_ c : Int) : Nat → Int × Int := put f at_.toNat (1, c)
def largeE (f : Nat → Int × Int) (n : Nat) (at_ m : Int) : Int := if runB m = true then takeE f n at_ m else 1
def largeF (f : Nat → Int × Int) (at_ m : Int) : Nat → Int × Int := large f at_.toNat m
def dropE (f : Nat → Int × Int) (n : Nat) (at_ : Int) : Int := if mayB f n = false then 1 else if at_ < 0 ∨ (n : Int) ≤ at_ then 3 else if (f at_.toNat).1 = 1 ∨ (f at_.toNat).1 = 2 then 0 else 3
def dropF (f : Nat → Int × Int) (at_ : Int) : Nat → Int × Int := drop f at_.toNat

/-- m pages from a on, the first of them p. -/
def took (f : Nat → Int × Int) (a m : Nat) (p : Int × Int) : Nat → Int × Int := put (fillF f a m (3, 0)) a p
theorem took_small (f : Nat → Int × Int) (a : Nat) (c : Int) (i : Nat) : put f a (1, c) i = took f a 1 (1, c) i := by
  unfold took put fillF
  by_cases h : i = a
  · rw [if_pos h, if_pos h]
  · rw [if_neg h, if_neg h, if_neg (by omega)]
theorem took_large (f : Nat → Int × Int) (a m i : Nat) : large f a m i = took f a m (2, m) i := by
  unfold large took put fillF
  by_cases h : i = a
  · rw [if_pos h, if_pos h]
  · rw [if_neg h, if_neg h]
    by_cases h2 : a < i ∧ (i : Int) < a + m
    · rw [if_pos h2, if_pos (by omega)]
    · rw [if_neg h2, if_neg (by omega)]

theorem count_free (B : Nat) (A : Option Addr) (m c : Nat) (f : Nat → Int × Int) (a : Nat) (w : World) (hm : m ≤ 1000) (h : freeB f a m = true) (hr : PRow w B A m (fun i => f (a + i))) (hB : B ≤ w.heap.size) :
    Calls Tryd.prog 25 #[.slice A m c, .int .i64 0] w fun e w' => e = .returned (.int .i64 m) ∧ Below w.heap.size w w' := by
  have := cnt_all (f := fun j => f (a + j)) (kind := 0) (k := m) ((freeB_iff f a m).1 h)
  rw [← this]
  exact count_any B A m c _ 0 w hm hr hB
def Lesser (w : World) (m : Nat) (e : Ending) (w' : World) : Prop := ∃ x : Int, e = .returned (.int .i64 x) ∧ x < m ∧ Below w.heap.size w w'
theorem count_less (B : Nat) (A : Option Addr) (m c : Nat) (f : Nat → Int × Int) (a : Nat) (w : World) (hm : m ≤ 1000) (h : freeB f a m = false) (hr : PRow w B A m (fun i => f (a + i))) (hB : B ≤ w.heap.size) :
    Calls Tryd.prog 25 #[.slice A m c, .int .i64 0] w (Lesser w m) := by
  have := cnt_lt (f := fun j => f (a + j)) (kind := 0) (freeB_ex h)
  exact (count_any B A m c _ 0 w hm hr hB).mono fun e w' ⟨he, hb⟩ => ⟨_, he, this, hb⟩

set_option maxHeartbeats 1000000 in
theorem take_any (B : Nat) (A : Option Addr) (n c : Nat) (f : Nat → Int × Int) (at_ : Int) (m : Nat) (p : Int × Int) (w : World) (hn : n ≤ 1000) (hnc : n ≤ c) (hm1 : 1 ≤ m) (hm4 : m ≤ 4)
    (hr : PRow w B A n f) (hB : B ≤ w.heap.size) :
    Calls Tryd.prog 37 #[.slice A n c, .int .i64 at_, .int .i64 m, .agg #[.int .i64 p.1, .int .i64 p.2]] w (TOut w (takeE f n at_ m) n (took f at_.toNat m p)) := by
  obtain ⟨p0, p1⟩ := p
  have HR := Lib.hid hr
  clear hr
  have HR1 := Lib.hid (HR.out.alloc (.cells #[.int .i64 p0, .int .i64 p1] 34) hB)
  have hB1 : B ≤ (w.alloc (.cells #[.int .i64 p0, .int .i64 p1] 34)).heap.size := by simp; omega
  have HB0 : Hid (Below w.heap.size w (w.alloc (.cells #[.int .i64 p0, .int .i64 p1] 34))) := Lib.hid ((Below.refl _ _).alloc (Nat.le_refl _) _)
  cases hM : mayB f n
  · have HE := Lib.hid (takeE_may (f := f) (n := n) (at_ := at_) (m := m) hM)
    have HM := Lib.hid hM
    clear hM
    go_enter Tryd.func37, Tryd.ntmps37
    go_wp2_with fail
    refine (may_no B _ _ _ _ _ HM.out hn HR1.out hB1).mono ?_
    rintro e w1 ⟨rfl, hb1⟩
    go_wp2
    go_ret2
    exact tout_err rfl HE.out (by decide) (below_pair (Below.refl _ _) hb1)
  have HM := Lib.hid hM
  obtain ⟨n1, n64, -, -⟩ := (mayB_iff f n).1 hM
  by_cases hat : at_ < 0 ∨ (n : Int) - m < at_
  · have HE := Lib.hid (takeE_none hM hat)
    clear hM
    by_cases h0 : at_ < 0
    · have d0 : decide (at_ < 0) = true := by simpa using h0
      clear hat
      go_enter Tryd.func37, Tryd.ntmps37
      go_wp2_with fail
      refine (may_yes B _ _ _ _ _ HM.out HR1.out hB1).mono ?_
      rintro e w1 ⟨rfl, hb1⟩
      go_wp2
      go_ret2
      exact tout_err rfl HE.out (by decide) (below_pair (Below.refl _ _) hb1)
    · have d0 : decide (at_ < 0) = false := by simpa using h0
      have h1 : (n : Int) - m < at_ := by omega
      have d1 : decide ((n : Int) - m < at_) = true := by simpa using h1
      clear hat
      go_enter Tryd.func37, Tryd.ntmps37
      go_wp2_with fail
      refine (may_yes B _ _ _ _ _ HM.out HR1.out hB1).mono ?_
      rintro e w1 ⟨rfl, hb1⟩
      go_wp2
      go_ret2
      exact tout_err rfl HE.out (by decide) (below_pair (Below.refl _ _) hb1)
  obtain ⟨a, rfl⟩ : ∃ a : Nat, at_ = a := ⟨at_.toNat, by omega⟩
  have ham : a + m ≤ n := by omega
  obtain ⟨b, off, rfl, hbB, -⟩ := HR.out (by omega)
  cases hf : freeB f a m
  · have HE := Lib.hid (takeE_full hM hat (by simpa using hf))
    have HF := Lib.hid hf
    clear hM hf hat
    go_enter Tryd.func37, Tryd.ntmps37
    go_wp2_with fail
    refine (may_yes B _ _ _ _ _ HM.out HR1.out hB1).mono ?_
    rintro e w1 ⟨rfl, hb1⟩
    have HB1 := Lib.hid hb1
    have HR2 := Lib.hid ((HR1.out.over hb1 hB1).part (k := a) (m := m) ham)
    have hz1 := hb1.size
    have HBall := Lib.hid (below_pair (Below.refl w.heap.size w) hb1)
    clear hb1
    go_wp2_with fail
    rw [show a + m - a = m by omega]
    refine (count_less B _ _ _ _ _ _ (by omega) HF.out HR2.out (by omega)).mono ?_
    rintro e w2 ⟨x, rfl, hx, hb2⟩
    have dx : decide (x < m) = true := by simpa using hx
    go_wp2
    go_ret2
    exact tout_err rfl HE.out (by decide) (HBall.out.trans (hb2.mono (by have := HBall.out.size; omega)))
  · have HE := Lib.hid (takeE_ok hM hat (by simpa using hf))
    have HF := Lib.hid hf
    clear hM hf hat
    go_enter Tryd.func37, Tryd.ntmps37
    go_wp2_with fail
    refine (may_yes B _ _ _ _ _ HM.out HR1.out hB1).mono ?_
    rintro e w1 ⟨rfl, hb1⟩
    have HR2 := Lib.hid (HR1.out.over hb1 hB1)
    have HR3 := Lib.hid (HR2.out.part (k := a) (m := m) ham)
    have hz1 := hb1.size
    obtain ⟨k0, k1, hs1⟩ := pair_kept hb1
    have HB1 := Lib.hid (below_pair (Below.refl w.heap.size w) hb1)
    clear hb1
    go_wp2_with fail
    rw [show a + m - a = m by omega]
    refine (count_free B _ _ _ _ _ _ (by omega) HF.out HR3.out (by omega)).mono ?_
    rintro e w2 ⟨rfl, hb2⟩
    have k0' := (hb2.cell (p := ⟨w.heap.size, 0, none⟩) hs1).trans k0
    have k1' := (hb2.cell (p := ⟨w.heap.size, 1, none⟩) hs1).trans k1
    have hs2 : w.heap.size < w2.heap.size := by have := hb2.size; omega
    have HR4 := Lib.hid (HR2.out.over hb2 (by omega))
    have HB2 := Lib.hid (HB1.out.trans (hb2.mono (by have := HB1.out.size; omega)))
    clear hb2 k0 k1
    have d0 : decide ((m : Int) < m) = false := by simp
    go_wp2_with fail
    refine (pclone_ok B _ _ _ _ _ (by omega) hn HR4.out).mono ?_
    rintro e w3 ⟨g, c', rfl, hm3, hb3⟩
    have k0 := (hb3.cell (p := ⟨w.heap.size, 0, none⟩) hs2).trans k0'
    have k1 := (hb3.cell (p := ⟨w.heap.size, 1, none⟩) hs2).trans k1'
    have hs3 : w.heap.size < w3.heap.size := by have := hb3.size; omega
    have hg3 := hm3.2.1
    have hg3' := hm3.2.2.1
    have hc3 := hm3.2.2.2.1
    have HM3 := Lib.hid hm3
    have HB3 := Lib.hid (HB2.out.trans (hb3.mono (by omega)))
    clear hb3 hm3 k0' k1'
    have hs23 : w2.heap.size ≤ w3.heap.size := by omega
    go_wp2_with fail
    rw [show a + m - a = m by omega]
    refine (fill_any w2.heap.size g n c' _ a m f (3, 0) w3 hn ham hs23 HM3.out).mono ?_
    rintro e w4 ⟨rfl, hm4', hb4⟩
    have k0' := (hb4.cell (p := ⟨w.heap.size, 0, none⟩) hs2).trans k0
    have k1' := (hb4.cell (p := ⟨w.heap.size, 1, none⟩) hs2).trans k1
    have hs4 : w.heap.size < w4.heap.size := by have := hb4.size; omega
    have f0 := hm4'.free (a * 2)
    have f1 := hm4'.free (a * 2 + 1)
    obtain ⟨d0', d1'⟩ := hm4'.cells a (by omega)
    have hg4 := hm4'.2.2.1
    have HM4 := Lib.hid (hm4'.stored a (p0, p1))
    have HB4 := Lib.hid (HB3.out.trans (hb4.mono (by omega)))
    clear hb4 hm4' k0 k1
    go_wp2
    go_ret2
    exact tout_ok rfl HE.out (HM4.out.lower (by omega)) (fun i _ => rfl) ((HB4.out.setCell (by simpa using (show w.heap.size ≤ g by omega)) _).setCell (by simpa using (show w.heap.size ≤ g by omega)) _)
end Go.Proofs.YtlmaeppckaempaaDoor
