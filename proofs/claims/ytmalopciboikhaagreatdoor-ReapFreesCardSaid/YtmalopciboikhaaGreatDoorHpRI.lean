/-
  Merged texts: PgTake, PgDrop, RpRoom, AlOwn, FrHeap, RpCopied, RpPl, RpEach.
-/
import Derived.Test.YtmalopciboikhaaGreatDoorHpRH
import Derived.Test.YtmalopciboikhaaGreatDoorHpRA
import Derived.Test.YtmalopciboikhaaGreatDoorHpRF
import Derived.Test.YtmalopciboikhaaGreatDoorHpRG
import Derived.Deep.RegionHeld3
import Derived.Deep.Cut
import Derived.Deep.CutRange
section
namespace Go.Proofs.YtmalopciboikhaaGreatDoor.Cl
open Go.Proofs.YtmalopciboikhaaGreatDoor
set_option maxRecDepth 100000
open Go.RowKit

def outN (err : Int) (n : Nat) : Nat := if err = 0 then n else 0
theorem PMine.lower {w : World} {base base' e g n c : Nat} {f : Nat → Int × Int} (h : PMine w base e g n c f) (hb : base' ≤ base) : PMine w base' e g n c f := by
  refine ⟨⟨h.1.1, ?_⟩, by have := h.2.1; omega, h.2.2⟩
  rcases h.1.2 with h2 | ⟨g', cap, cur, hv, hb', hr⟩
  · exact .inl h2
  · exact .inr ⟨g', cap, cur, hv, by omega, hr⟩
/-- An error and no pages, or n pages; all that was there is as it was. -/
def TOut (w : World) (err : Int) (n : Nat) (g : Nat → Int × Int) (e : Ending) (w' : World) : Prop :=
  ∃ A c, e = .returned (.tuple #[.slice A (outN err n) c, .int .i64 err]) ∧ PRow w' w'.heap.size A (outN err n) g ∧ outN err n ≤ c ∧ Below w.heap.size w w'
theorem tout_err {w w' : World} {err : Int} {n : Nat} {g : Nat → Int × Int} {e : Ending} {E : Int} (he : e = .returned (.tuple #[.slice none 0 0, .int .i64 E])) (hE : err = E) (h0 : E ≠ 0) (hb : Below w.heap.size w w') : TOut w err n g e w' := by
  subst hE
  have e0 : outN err n = 0 := if_neg h0
  unfold TOut
  rw [e0]
  exact ⟨none, 0, he, PRow.empty _ _ _ _, Nat.le_refl _, hb⟩
theorem tout_ok {w w' : World} {err : Int} {n b c : Nat} {g f : Nat → Int × Int} {e : Ending} (he : e = .returned (.tuple #[.slice (some ⟨b, 0, none⟩) n c, .int .i64 0])) (hE : err = 0)
    (h : PMine w' w.heap.size 76 b n c f) (hg : ∀ i, i < n → g i = f i) (hb : Below w.heap.size w w') : TOut w err n g e w' := by
  subst hE
  have e0 : outN 0 n = n := if_pos rfl
  unfold TOut
  rw [e0]
  exact ⟨_, c, he, h.row.congr hg, h.2.2.2.1, hb⟩

/-- The error of taking m pages from a place on. -/
def takeE (f : Nat → Int × Int) (n : Nat) (at_ m : Int) : Int := if mayB f n = false then 1 else if at_ < 0 ∨ (n : Int) - m < at_ then 3 else if freeB f at_.toNat m.toNat = true then 0 else 4
theorem takeE_may {f : Nat → Int × Int} {n : Nat} {at_ m : Int} (h : mayB f n = false) : takeE f n at_ m = 1 := if_pos h
theorem takeE_none {f : Nat → Int × Int} {n : Nat} {at_ m : Int} (h : mayB f n = true) (ha : at_ < 0 ∨ (n : Int) - m < at_) : takeE f n at_ m = 3 := by
  unfold takeE
  rw [if_neg (by rw [h]; decide), if_pos ha]
theorem takeE_full {f : Nat → Int × Int} {n : Nat} {at_ m : Int} (h : mayB f n = true) (ha : ¬ (at_ < 0 ∨ (n : Int) - m < at_)) (hf : freeB f at_.toNat m.toNat = false) : takeE f n at_ m = 4 := by
  unfold takeE
  rw [if_neg (by rw [h]; decide), if_neg ha, if_neg (by rw [hf]; decide)]
theorem takeE_ok {f : Nat → Int × Int} {n : Nat} {at_ m : Int} (h : mayB f n = true) (ha : ¬ (at_ < 0 ∨ (n : Int) - m < at_)) (hf : freeB f at_.toNat m.toNat = true) : takeE f n at_ m = 0 := by
  unfold takeE
  rw [if_neg (by rw [h]; decide), if_neg ha, if_pos hf]
def smallE (f : Nat → Int × Int) (n : Nat) (at_ c : Int) : Int := if clB c = true then takeE f n at_ 1 else 1
def smallF (f : Nat → Int × Int) (at_ c : Int) : Nat → Int × Int := put f at_.toNat (1, c)
def largeE (f : Nat → Int × Int) (n : Nat) (at_ m : Int) : Int := if runB m = true then takeE f n at_ m else 1
def largeF (f : Nat → Int × Int) (at_ m : Int) : Nat → Int × Int := large f at_.toNat m
def dropE (f : Nat → Int × Int) (n : Nat) (at_ : Int) : Int := if mayB f n = false then 1 else if at_ < 0 ∨ (n : Int) ≤ at_ then 3 else if (f at_.toNat).1 = 1 ∨ (f at_.toNat).1 = 2 then 0 else 3
def dropF (f : Nat → Int × Int) (at_ : Int) : Nat → Int × Int := drop f at_.toNat

/-- m pages from a on, the first of them p. -/
def took (f : Nat → Int × Int) (a m : Nat) (p : Int × Int) : Nat → Int × Int := put (fillF f a m (3, 0)) a p
theorem took_small (f : Nat → Int × Int) (a : Nat) (c : Int) (i : Nat) : put f a (1, c) i = took f a 1 (1, c) i := by
  unfold took put fillF
  by_cases h : i = a
  · rw [if_pos h, if_pos h]
  · rw [if_neg h, if_neg h, if_neg (by omega)]
theorem took_large (f : Nat → Int × Int) (a m i : Nat) : large f a m i = took f a m (2, m) i := by
  unfold large took put fillF
  by_cases h : i = a
  · rw [if_pos h, if_pos h]
  · rw [if_neg h, if_neg h]
    by_cases h2 : a < i ∧ (i : Int) < a + m
    · rw [if_pos h2, if_pos (by omega)]
    · rw [if_neg h2, if_neg (by omega)]

theorem count_free (B : Nat) (A : Option Addr) (m c : Nat) (f : Nat → Int × Int) (a : Nat) (w : World) (hm : m ≤ 1000) (h : freeB f a m = true) (hr : PRow w B A m (fun i => f (a + i))) (hB : B ≤ w.heap.size) :
    Calls Tryz.prog 169 #[.slice A m c, .int .i64 0] w fun e w' => e = .returned (.int .i64 m) ∧ Below w.heap.size w w' := by
  have := cnt_all (f := fun j => f (a + j)) (kind := 0) (k := m) ((freeB_iff f a m).1 h)
  rw [← this]
  exact count_any B A m c _ 0 w hm hr hB
def Lesser (w : World) (m : Nat) (e : Ending) (w' : World) : Prop := ∃ x : Int, e = .returned (.int .i64 x) ∧ x < m ∧ Below w.heap.size w w'
theorem count_less (B : Nat) (A : Option Addr) (m c : Nat) (f : Nat → Int × Int) (a : Nat) (w : World) (hm : m ≤ 1000) (h : freeB f a m = false) (hr : PRow w B A m (fun i => f (a + i))) (hB : B ≤ w.heap.size) :
    Calls Tryz.prog 169 #[.slice A m c, .int .i64 0] w (Lesser w m) := by
  have := cnt_lt (f := fun j => f (a + j)) (kind := 0) (freeB_ex h)
  exact (count_any B A m c _ 0 w hm hr hB).mono fun e w' ⟨he, hb⟩ => ⟨_, he, this, hb⟩

set_option maxHeartbeats 1000000 in
theorem take_any (B : Nat) (A : Option Addr) (n c : Nat) (f : Nat → Int × Int) (at_ : Int) (m : Nat) (p : Int × Int) (w : World) (hn : n ≤ 1000) (hnc : n ≤ c) (hm1 : 1 ≤ m) (hm4 : m ≤ 4)
    (hr : PRow w B A n f) (hB : B ≤ w.heap.size) :
    Calls Tryz.prog 158 #[.slice A n c, .int .i64 at_, .int .i64 m, .agg #[.int .i64 p.1, .int .i64 p.2]] w (TOut w (takeE f n at_ m) n (took f at_.toNat m p)) := by
  obtain ⟨p0, p1⟩ := p
  have HR := Lib.hid hr
  clear hr
  have HR1 := Lib.hid (HR.out.alloc (.cells #[.int .i64 p0, .int .i64 p1] 76) hB)
  have hB1 : B ≤ (w.alloc (.cells #[.int .i64 p0, .int .i64 p1] 76)).heap.size := by simp; omega
  have HB0 : Hid (Below w.heap.size w (w.alloc (.cells #[.int .i64 p0, .int .i64 p1] 76))) := Lib.hid ((Below.refl _ _).alloc (Nat.le_refl _) _)
  cases hM : mayB f n
  · have HE := Lib.hid (takeE_may (f := f) (n := n) (at_ := at_) (m := m) hM)
    have HM := Lib.hid hM
    clear hM
    go_enter Tryz.func158, Tryz.ntmps158
    go_wp2_with fail
    refine (may_no B _ _ _ _ _ HM.out hn HR1.out hB1).mono ?_
    rintro e w1 ⟨rfl, hb1⟩
    go_wp2
    go_ret2
    exact tout_err rfl HE.out (by decide) (below_pair (Below.refl _ _) hb1)
  have HM := Lib.hid hM
  obtain ⟨n1, n64, -, -⟩ := (mayB_iff f n).1 hM
  by_cases hat : at_ < 0 ∨ (n : Int) - m < at_
  · have HE := Lib.hid (takeE_none hM hat)
    clear hM
    by_cases h0 : at_ < 0
    · have d0 : decide (at_ < 0) = true := by simpa using h0
      clear hat
      go_enter Tryz.func158, Tryz.ntmps158
      go_wp2_with fail
      refine (may_yes B _ _ _ _ _ HM.out HR1.out hB1).mono ?_
      rintro e w1 ⟨rfl, hb1⟩
      go_wp2
      go_ret2
      exact tout_err rfl HE.out (by decide) (below_pair (Below.refl _ _) hb1)
    · have d0 : decide (at_ < 0) = false := by simpa using h0
      have h1 : (n : Int) - m < at_ := by omega
      have d1 : decide ((n : Int) - m < at_) = true := by simpa using h1
      clear hat
      go_enter Tryz.func158, Tryz.ntmps158
      go_wp2_with fail
      refine (may_yes B _ _ _ _ _ HM.out HR1.out hB1).mono ?_
      rintro e w1 ⟨rfl, hb1⟩
      go_wp2
      go_ret2
      exact tout_err rfl HE.out (by decide) (below_pair (Below.refl _ _) hb1)
  obtain ⟨a, rfl⟩ : ∃ a : Nat, at_ = a := ⟨at_.toNat, by omega⟩
  have ham : a + m ≤ n := by omega
  obtain ⟨b, off, rfl, hbB, -⟩ := HR.out (by omega)
  cases hf : freeB f a m
  · have HE := Lib.hid (takeE_full hM hat (by simpa using hf))
    have HF := Lib.hid hf
    clear hM hf hat
    go_enter Tryz.func158, Tryz.ntmps158
    go_wp2_with fail
    refine (may_yes B _ _ _ _ _ HM.out HR1.out hB1).mono ?_
    rintro e w1 ⟨rfl, hb1⟩
    have HB1 := Lib.hid hb1
    have HR2 := Lib.hid ((HR1.out.over hb1 hB1).part (k := a) (m := m) ham)
    have hz1 := hb1.size
    have HBall := Lib.hid (below_pair (Below.refl w.heap.size w) hb1)
    clear hb1
    go_wp2_with fail
    rw [show a + m - a = m by omega]
    refine (count_less B _ _ _ _ _ _ (by omega) HF.out HR2.out (by omega)).mono ?_
    rintro e w2 ⟨x, rfl, hx, hb2⟩
    have dx : decide (x < m) = true := by simpa using hx
    go_wp2
    go_ret2
    exact tout_err rfl HE.out (by decide) (HBall.out.trans (hb2.mono (by have := HBall.out.size; omega)))
  · have HE := Lib.hid (takeE_ok hM hat (by simpa using hf))
    have HF := Lib.hid hf
    clear hM hf hat
    go_enter Tryz.func158, Tryz.ntmps158
    go_wp2_with fail
    refine (may_yes B _ _ _ _ _ HM.out HR1.out hB1).mono ?_
    rintro e w1 ⟨rfl, hb1⟩
    have HR2 := Lib.hid (HR1.out.over hb1 hB1)
    have HR3 := Lib.hid (HR2.out.part (k := a) (m := m) ham)
    have hz1 := hb1.size
    obtain ⟨k0, k1, hs1⟩ := pair_kept hb1
    have HB1 := Lib.hid (below_pair (Below.refl w.heap.size w) hb1)
    clear hb1
    go_wp2_with fail
    rw [show a + m - a = m by omega]
    refine (count_free B _ _ _ _ _ _ (by omega) HF.out HR3.out (by omega)).mono ?_
    rintro e w2 ⟨rfl, hb2⟩
    have k0' := (hb2.cell (p := ⟨w.heap.size, 0, none⟩) hs1).trans k0
    have k1' := (hb2.cell (p := ⟨w.heap.size, 1, none⟩) hs1).trans k1
    have hs2 : w.heap.size < w2.heap.size := by have := hb2.size; omega
    have HR4 := Lib.hid (HR2.out.over hb2 (by omega))
    have HB2 := Lib.hid (HB1.out.trans (hb2.mono (by have := HB1.out.size; omega)))
    clear hb2 k0 k1
    have d0 : decide ((m : Int) < m) = false := by simp
    go_wp2_with fail
    refine (pclone_ok B _ _ _ _ _ (by omega) hn HR4.out).mono ?_
    rintro e w3 ⟨g, c', rfl, hm3, hb3⟩
    have k0 := (hb3.cell (p := ⟨w.heap.size, 0, none⟩) hs2).trans k0'
    have k1 := (hb3.cell (p := ⟨w.heap.size, 1, none⟩) hs2).trans k1'
    have hs3 : w.heap.size < w3.heap.size := by have := hb3.size; omega
    have hg3 := hm3.2.1
    have hg3' := hm3.2.2.1
    have hc3 := hm3.2.2.2.1
    have HM3 := Lib.hid hm3
    have HB3 := Lib.hid (HB2.out.trans (hb3.mono (by omega)))
    clear hb3 hm3 k0' k1'
    have hs23 : w2.heap.size ≤ w3.heap.size := by omega
    go_wp2_with fail
    rw [show a + m - a = m by omega]
    refine (fill_any w2.heap.size g n c' _ a m f (3, 0) w3 hn ham hs23 HM3.out).mono ?_
    rintro e w4 ⟨rfl, hm4', hb4⟩
    have k0' := (hb4.cell (p := ⟨w.heap.size, 0, none⟩) hs2).trans k0
    have k1' := (hb4.cell (p := ⟨w.heap.size, 1, none⟩) hs2).trans k1
    have hs4 : w.heap.size < w4.heap.size := by have := hb4.size; omega
    have f0 := hm4'.free (a * 2)
    have f1 := hm4'.free (a * 2 + 1)
    obtain ⟨d0', d1'⟩ := hm4'.cells a (by omega)
    have hg4 := hm4'.2.2.1
    have HM4 := Lib.hid (hm4'.stored a (p0, p1))
    have HB4 := Lib.hid (HB3.out.trans (hb4.mono (by omega)))
    clear hb4 hm4' k0 k1
    go_wp2
    go_ret2
    exact tout_ok rfl HE.out (HM4.out.lower (by omega)) (fun i _ => rfl) ((HB4.out.setCell (by simpa using (show w.heap.size ≤ g by omega)) _).setCell (by simpa using (show w.heap.size ≤ g by omega)) _)
end Go.Proofs.YtmalopciboikhaaGreatDoor.Cl
end
section
namespace Go.Proofs.YtmalopciboikhaaGreatDoor.Cl
open Go.Proofs.YtmalopciboikhaaGreatDoor
set_option maxRecDepth 100000
open Go.RowKit

theorem TOut.as {w w' : World} {E E' : Int} {n : Nat} {g g' : Nat → Int × Int} {e : Ending} (h : TOut w E n g e w') (he : E' = E) (hg : ∀ i, g' i = g i) : TOut w E' n g' e w' := by
  subst he
  obtain ⟨A, c, h1, h2, h3, h4⟩ := h
  exact ⟨A, c, h1, h2.congr (fun i _ => hg i), h3, h4⟩

theorem small_any (B : Nat) (A : Option Addr) (n c : Nat) (f : Nat → Int × Int) (at_ cl : Int) (w : World) (hn : n ≤ 1000) (hnc : n ≤ c) (hr : PRow w B A n f) (hB : B ≤ w.heap.size) :
    Calls Tryz.prog 170 #[.slice A n c, .int .i64 at_, .int .i64 cl] w (TOut w (smallE f n at_ cl) n (smallF f at_ cl)) := by
  have HR := Lib.hid hr
  clear hr
  cases hc : clB cl
  · have HE := Lib.hid (show smallE f n at_ cl = 1 from if_neg (by rw [hc]; decide))
    have HC := Lib.hid hc
    clear hc
    go_enter Tryz.func170, Tryz.ntmps170
    go_wp2_with fail
    refine (isClass_no _ _ HC.out).mono ?_
    rintro e w1 ⟨rfl, rfl⟩
    go_wp2
    go_ret2
    exact tout_err rfl HE.out (by decide) (Below.refl _ _)
  · have HE := Lib.hid (show smallE f n at_ cl = takeE f n at_ (1 : Nat) from if_pos hc)
    have HC := Lib.hid hc
    clear hc
    go_enter Tryz.func170, Tryz.ntmps170
    go_wp2_with fail
    refine (isClass_yes _ _ HC.out).mono ?_
    rintro e w1 ⟨rfl, rfl⟩
    go_wp2_with fail
    refine (take_any B _ _ _ f at_ 1 (1, cl) _ hn hnc (by decide) (by decide) HR.out hB).mono ?_
    rintro e w1 ⟨A', c', rfl, hrow, hle, hb⟩
    have HRow := Lib.hid hrow
    clear hrow
    go_wp2
    go_ret2
    exact TOut.as ⟨A', c', rfl, HRow.out, hle, hb⟩ HE.out (fun i => took_small f _ cl i)
theorem large_any (B : Nat) (A : Option Addr) (n c : Nat) (f : Nat → Int × Int) (at_ m : Int) (w : World) (hn : n ≤ 1000) (hnc : n ≤ c) (hr : PRow w B A n f) (hB : B ≤ w.heap.size) :
    Calls Tryz.prog 134 #[.slice A n c, .int .i64 at_, .int .i64 m] w (TOut w (largeE f n at_ m) n (largeF f at_ m)) := by
  have HR := Lib.hid hr
  clear hr
  cases hc : runB m
  · have HE := Lib.hid (show largeE f n at_ m = 1 from if_neg (by rw [hc]; decide))
    have HC := Lib.hid hc
    clear hc
    go_enter Tryz.func134, Tryz.ntmps134
    go_wp2_with fail
    refine (isRun_no _ _ HC.out).mono ?_
    rintro e w1 ⟨rfl, rfl⟩
    go_wp2
    go_ret2
    exact tout_err rfl HE.out (by decide) (Below.refl _ _)
  · have hm := (runB_iff m).1 hc
    obtain ⟨k, rfl⟩ : ∃ k : Nat, m = k := ⟨m.toNat, by omega⟩
    have HE := Lib.hid (show largeE f n at_ k = takeE f n at_ k from if_pos hc)
    have HC := Lib.hid hc
    clear hc
    go_enter Tryz.func134, Tryz.ntmps134
    go_wp2_with fail
    refine (isRun_yes _ _ HC.out).mono ?_
    rintro e w1 ⟨rfl, rfl⟩
    go_wp2_with fail
    refine (take_any B _ _ _ f at_ k (2, k) _ hn hnc (by omega) (by omega) HR.out hB).mono ?_
    rintro e w1 ⟨A', c', rfl, hrow, hle, hb⟩
    have HRow := Lib.hid hrow
    clear hrow
    go_wp2
    go_ret2
    exact TOut.as ⟨A', c', rfl, HRow.out, hle, hb⟩ HE.out (fun i => took_large f _ k i)

theorem dropE_may {f : Nat → Int × Int} {n : Nat} {at_ : Int} (h : mayB f n = false) : dropE f n at_ = 1 := if_pos h
theorem dropE_none {f : Nat → Int × Int} {n : Nat} {at_ : Int} (h : mayB f n = true) (ha : at_ < 0 ∨ (n : Int) ≤ at_) : dropE f n at_ = 3 := by
  unfold dropE
  rw [if_neg (by rw [h]; decide), if_pos ha]
theorem dropE_kind {f : Nat → Int × Int} {n a : Nat} (h : mayB f n = true) (ha : a < n) (hk : (f a).1 = 0 ∨ (f a).1 = 3) : dropE f n a = 3 := by
  unfold dropE
  rw [if_neg (by rw [h]; decide), if_neg (by omega), if_neg (by simp; omega)]
theorem dropE_ok {f : Nat → Int × Int} {n a : Nat} (h : mayB f n = true) (ha : a < n) (hk : (f a).1 = 1 ∨ (f a).1 = 2) : dropE f n a = 0 := by
  unfold dropE
  rw [if_neg (by rw [h]; decide), if_neg (by omega), if_pos (by simpa using hk)]
theorem kinds {f : Nat → Int × Int} {n a : Nat} (h : mayB f n = true) (ha : a < n) : (f a).1 = 0 ∨ (f a).1 = 1 ∨ (f a).1 = 2 ∨ (f a).1 = 3 := by
  have := (pmB_iff _).1 ((okB_iff f a).1 (((mayB_iff f n).1 h).2.2.1 a ha)).1
  omega
theorem drop_fill {f : Nat → Int × Int} {a m : Nat} (h : wide f a = m) (i : Nat) : drop f a i = fillF f a m (0, 0) i := by
  unfold drop fillF
  rw [h]
  by_cases h2 : a ≤ i ∧ (i : Int) < a + m
  · rw [if_pos h2, if_pos (by omega)]
  · rw [if_neg h2, if_neg (by omega)]

set_option maxHeartbeats 1000000 in
/-- What Drop does behind the switch: a small page (m = 1), or a large object's m pages. -/
theorem drop_core (B : Nat) (A : Option Addr) (n c : Nat) (f : Nat → Int × Int) (a : Nat) (w : World) (hM : mayB f n = true) (ha : a < n) (hk : (f a).1 = 1 ∨ (f a).1 = 2) (hr : PRow w B A n f) (hB : B ≤ w.heap.size) :
    Calls Tryz.prog 110 #[.slice A n c, .int .i64 a] w (TOut w (dropE f n a) n (dropF f a)) := by
  have HE := Lib.hid (dropE_ok hM ha hk)
  obtain ⟨w1', w4', hfit, -, -⟩ := wide_facts hM ha hk
  obtain ⟨m, hm⟩ : ∃ m : Nat, wide f a = m := ⟨(wide f a).toNat, by omega⟩
  have HW := Lib.hid hm
  rw [hm] at w1' w4' hfit
  have ham : a + m ≤ n := by omega
  have hm1 : 1 ≤ m := by omega
  obtain ⟨n1, n64, -, -⟩ := (mayB_iff f n).1 hM
  have hn : n ≤ 1000 := by omega
  have HM := Lib.hid hM
  have HR := Lib.hid hr
  obtain ⟨b, off, rfl, hbB, -⟩ := hr (by omega)
  clear hM hr w1' w4' hfit
  rcases hk with hk | hk
  · have em : m = 1 := by
      have := HW.out
      unfold wide at this
      rw [hk] at this
      simp at this
      omega
    subst em
    have e0 : ((f a).1 == 0) = false := by rw [hk]; decide
    have e3 : ((f a).1 == 3) = false := by rw [hk]; decide
    have e2 : ((f a).1 == 2) = false := by rw [hk]; decide
    clear hk hm
    go_enter Tryz.func110, Tryz.ntmps110
    go_wp2_with fail
    refine (may_yes B _ _ _ _ _ HM.out HR.out hB).mono ?_
    rintro e w1 ⟨rfl, hb1⟩
    have HR1 := Lib.hid (HR.out.over hb1 hB)
    obtain ⟨_, _, ea, hb', hc'⟩ := HR1.out (by omega)
    simp at ea
    obtain ⟨rfl, rfl⟩ := ea
    obtain ⟨p0, p1⟩ := hc' a ha
    have hz1 := hb1.size
    have HB1 := Lib.hid hb1
    clear hb1 hc'
    go_wp2_with fail
    refine (pclone_ok B _ _ _ _ _ (by omega) hn HR1.out).mono ?_
    rintro e w3 ⟨g, c', rfl, hm3, hb3⟩
    have hg3 := hm3.2.1
    have hg3' := hm3.2.2.1
    have hc3 := hm3.2.2.2.1
    have hs3 := hb3.size
    have HM3 := Lib.hid hm3
    have HB3 := Lib.hid (HB1.out.trans (hb3.mono (by omega)))
    clear hb3 hm3
    go_wp2_with fail
    refine (fill_any w1.heap.size g n c' _ a 1 f (0, 0) w3 hn ham hs3 HM3.out).mono ?_
    rintro e w4 ⟨rfl, hm4', hb4⟩
    have HM4 := Lib.hid hm4'
    have HB4 := Lib.hid (HB3.out.trans (hb4.mono (by omega)))
    clear hb4 hm4'
    go_wp2
    go_ret2
    exact tout_ok rfl HE.out (HM4.out.lower (by omega)) (fun i _ => drop_fill HW.out i) HB4.out
  · have em : (f a).2 = m := by
      have := HW.out
      unfold wide at this
      rw [if_pos hk] at this
      exact this
    have e0 : ((f a).1 == 0) = false := by rw [hk]; decide
    have e3 : ((f a).1 == 3) = false := by rw [hk]; decide
    have e2 : ((f a).1 == 2) = true := by rw [hk]; decide
    have EM := Lib.hid em
    clear hk hm em
    go_enter Tryz.func110, Tryz.ntmps110
    go_wp2_with fail
    refine (may_yes B _ _ _ _ _ HM.out HR.out hB).mono ?_
    rintro e w1 ⟨rfl, hb1⟩
    have HR1 := Lib.hid (HR.out.over hb1 hB)
    obtain ⟨_, _, ea, hb', hc'⟩ := HR1.out (by omega)
    simp at ea
    obtain ⟨rfl, rfl⟩ := ea
    obtain ⟨p0, p1⟩ := hc' a ha
    rw [EM.out] at p1
    have hz1 := hb1.size
    have HB1 := Lib.hid hb1
    clear hb1 hc'
    go_wp2_with fail
    refine (pclone_ok B _ _ _ _ _ (by omega) hn HR1.out).mono ?_
    rintro e w3 ⟨g, c', rfl, hm3, hb3⟩
    have hg3 := hm3.2.1
    have hg3' := hm3.2.2.1
    have hc3 := hm3.2.2.2.1
    have hs3 := hb3.size
    have HM3 := Lib.hid hm3
    have HB3 := Lib.hid (HB1.out.trans (hb3.mono (by omega)))
    clear hb3 hm3
    go_wp2_with fail
    rw [show a + m - a = m by omega]
    refine (fill_any w1.heap.size g n c' _ a m f (0, 0) w3 hn ham hs3 HM3.out).mono ?_
    rintro e w4 ⟨rfl, hm4', hb4⟩
    have HM4 := Lib.hid hm4'
    have HB4 := Lib.hid (HB3.out.trans (hb4.mono (by omega)))
    clear hb4 hm4'
    go_wp2
    go_ret2
    exact tout_ok rfl HE.out (HM4.out.lower (by omega)) (fun i _ => drop_fill HW.out i) HB4.out

theorem drop_any (B : Nat) (A : Option Addr) (n c : Nat) (f : Nat → Int × Int) (at_ : Int) (w : World) (hn : n ≤ 1000) (hr : PRow w B A n f) (hB : B ≤ w.heap.size) :
    Calls Tryz.prog 110 #[.slice A n c, .int .i64 at_] w (TOut w (dropE f n at_) n (dropF f at_)) := by
  cases hM : mayB f n
  · have HE := Lib.hid (dropE_may (at_ := at_) hM)
    have HM := Lib.hid hM
    have HR := Lib.hid hr
    clear hM hr
    go_enter Tryz.func110, Tryz.ntmps110
    go_wp2_with fail
    refine (may_no B _ _ _ _ _ HM.out hn HR.out hB).mono ?_
    rintro e w1 ⟨rfl, hb1⟩
    go_wp2
    go_ret2
    exact tout_err rfl HE.out (by decide) hb1
  by_cases hat : at_ < 0 ∨ (n : Int) ≤ at_
  · have HE := Lib.hid (dropE_none hM hat)
    have HM := Lib.hid hM
    have HR := Lib.hid hr
    clear hM hr
    by_cases h0 : at_ < 0
    · have d0 : decide (at_ < 0) = true := by simpa using h0
      clear hat
      go_enter Tryz.func110, Tryz.ntmps110
      go_wp2_with fail
      refine (may_yes B _ _ _ _ _ HM.out HR.out hB).mono ?_
      rintro e w1 ⟨rfl, hb1⟩
      go_wp2
      go_ret2
      exact tout_err rfl HE.out (by decide) hb1
    · have d0 : decide (at_ < 0) = false := by simpa using h0
      have h1 : (n : Int) ≤ at_ := by omega
      have d1 : decide ((n : Int) ≤ at_) = true := by simpa using h1
      clear hat
      go_enter Tryz.func110, Tryz.ntmps110
      go_wp2_with fail
      refine (may_yes B _ _ _ _ _ HM.out HR.out hB).mono ?_
      rintro e w1 ⟨rfl, hb1⟩
      go_wp2
      go_ret2
      exact tout_err rfl HE.out (by decide) hb1
  obtain ⟨a, rfl⟩ : ∃ a : Nat, at_ = a := ⟨at_.toNat, by omega⟩
  have ha : a < n := by omega
  rcases (show ((f a).1 = 0 ∨ (f a).1 = 3) ∨ ((f a).1 = 1 ∨ (f a).1 = 2) by have := kinds hM ha; omega) with hk | hk
  · have HE := Lib.hid (dropE_kind hM ha hk)
    have HM := Lib.hid hM
    have HR := Lib.hid hr
    obtain ⟨b, off, rfl, hbB, -⟩ := hr (by omega)
    clear hM hr hat
    rcases hk with hk | hk
    · have e0 : ((f a).1 == 0) = true := by simpa using hk
      clear hk
      go_enter Tryz.func110, Tryz.ntmps110
      go_wp2_with fail
      refine (may_yes B _ _ _ _ _ HM.out HR.out hB).mono ?_
      rintro e w1 ⟨rfl, hb1⟩
      obtain ⟨_, _, ea, hb', hc'⟩ := (HR.out.over hb1 hB) (by omega)
      simp at ea
      obtain ⟨rfl, rfl⟩ := ea
      obtain ⟨p0, p1⟩ := hc' a ha
      have HB1 := Lib.hid hb1
      clear hb1 hc'
      go_wp2
      go_ret2
      exact tout_err rfl HE.out (by decide) HB1.out
    · have e0 : ((f a).1 == 0) = false := by rw [hk]; decide
      have e3 : ((f a).1 == 3) = true := by simpa using hk
      clear hk
      go_enter Tryz.func110, Tryz.ntmps110
      go_wp2_with fail
      refine (may_yes B _ _ _ _ _ HM.out HR.out hB).mono ?_
      rintro e w1 ⟨rfl, hb1⟩
      obtain ⟨_, _, ea, hb', hc'⟩ := (HR.out.over hb1 hB) (by omega)
      simp at ea
      obtain ⟨rfl, rfl⟩ := ea
      obtain ⟨p0, p1⟩ := hc' a ha
      have HB1 := Lib.hid hb1
      clear hb1 hc'
      go_wp2
      go_ret2
      exact tout_err rfl HE.out (by decide) HB1.out
  · exact drop_core B A n c f a w hM ha hk hr hB
end Go.Proofs.YtmalopciboikhaaGreatDoor.Cl
end
section
namespace Go.Proofs.YtmalopciboikhaaGreatDoor
open Go.RowKit
set_option maxRecDepth 100000

theorem res_end {w W : World} {rb : Nat} {s t t0 : Hs} {d : Hd_} (hb : Below w.heap.size w W) (hp : Hp W W.heap.size t d) (hr : Rm W rb t0) (hi : w.heap.size ≤ rb) (hl : t.w.n = s.w.n ∧ t.p.n = s.p.n ∧ t.c.n = s.c.n) : RoOut w s d (.returned (.agg #[.slice t.w.a t.w.n t.w.c, .slice t.p.a t.p.n t.p.c, .slice (t.u 0).a (t.u 0).n (t.u 0).c, .slice (t.u 1).a (t.u 1).n (t.u 1).c, .slice (t.u 2).a (t.u 2).n (t.u 2).c, .slice t.c.a t.c.n t.c.c])) (put6 W rb (.slice t.w.a t.w.n t.w.c) (.slice t.p.a t.p.n t.p.c) (.slice (t.u 0).a (t.u 0).n (t.u 0).c) (.slice (t.u 1).a (t.u 1).n (t.u 1).c) (.slice (t.u 2).a (t.u 2).n (t.u 2).c) (.slice t.c.a t.c.n t.c.c)) :=
  ⟨t, rfl, hp_turn hr.sl hp (fun _ hi => put6_other _ _ _ _ _ _ _ _ hi) (put6_size _ _ _ _ _ _ _ _).symm, hl, below_put6 hb hi _ _ _ _ _ _⟩
theorem res_rdrop {W : World} {b : Nat} {tm : Array Value} {v0 v1 v2 v3 v4 v5 : Value} (ht : tm[4]? = some (.pointer (some ⟨b, 0, none⟩))) (k0 : W.cell? ⟨b, 0, none⟩ = some v0) (k1 : W.cell? ⟨b, 1, none⟩ = some v1) (k2 : W.cell? ⟨b, 2, none⟩ = some v2) (k3 : W.cell? ⟨b, 3, none⟩ = some v3) (k4 : W.cell? ⟨b, 4, none⟩ = some v4) (k5 : W.cell? ⟨b, 5, none⟩ = some v5) :
    (results Tryz.f63 tm).run Tryz.prog W = .ok (.agg #[v0, v1, v2, v3, v4, v5]) W := by
  simp [results, Tryz.results63, go_sem, ht, k0, k1, k2, k3, k4, k5]
theorem res_giveb {W : World} {b : Nat} {tm : Array Value} {v0 v1 v2 v3 v4 v5 : Value} (ht : tm[4]? = some (.pointer (some ⟨b, 0, none⟩))) (k0 : W.cell? ⟨b, 0, none⟩ = some v0) (k1 : W.cell? ⟨b, 1, none⟩ = some v1) (k2 : W.cell? ⟨b, 2, none⟩ = some v2) (k3 : W.cell? ⟨b, 3, none⟩ = some v3) (k4 : W.cell? ⟨b, 4, none⟩ = some v4) (k5 : W.cell? ⟨b, 5, none⟩ = some v5) :
    (results Tryz.f65 tm).run Tryz.prog W = .ok (.agg #[v0, v1, v2, v3, v4, v5]) W := by
  simp [results, Tryz.results65, go_sem, ht, k0, k1, k2, k3, k4, k5]
theorem tout_zero {w w' : World} {n : Nat} {g : Nat → Int × Int} {e : Ending} (h : Cl.TOut w 0 n g e w') : ∃ A c, e = .returned (.tuple #[.slice A n c, .int .i64 0]) ∧ Cl.PRow w' w'.heap.size A n g ∧ n ≤ c ∧ Below w.heap.size w w' := by
  obtain ⟨A, c, h1, h2, h3, h4⟩ := h
  have e0 : Cl.outN 0 n = n := if_pos rfl
  rw [e0] at h1 h2 h3
  exact ⟨A, c, h1, h2, h3, h4⟩
/-- Both boxes of such a call. -/
theorem two_rooms {w W : World} {s : Hs} {d : Hd_} {t1 t2 : TypeId} (hp : Hp w w.heap.size s d) (hW : W = (w.alloc (.cells #[.slice s.w.a s.w.n s.w.c, .slice s.p.a s.p.n s.p.c, .slice (s.u 0).a (s.u 0).n (s.u 0).c, .slice (s.u 1).a (s.u 1).n (s.u 1).c, .slice (s.u 2).a (s.u 2).n (s.u 2).c, .slice s.c.a s.c.n s.c.c] t1)).alloc (.cells #[.slice none 0 0, .slice none 0 0, .slice none 0 0, .slice none 0 0, .slice none 0 0, .slice none 0 0] t2)) : Ro w W w.heap.size s d ∧ Rm W (w.heap.size + 1) noHs := by
  obtain ⟨W1, h1⟩ : ∃ W1, W1 = w.alloc (.cells #[.slice s.w.a s.w.n s.w.c, .slice s.p.a s.p.n s.p.c, .slice (s.u 0).a (s.u 0).n (s.u 0).c, .slice (s.u 1).a (s.u 1).n (s.u 1).c, .slice (s.u 2).a (s.u 2).n (s.u 2).c, .slice s.c.a s.c.n s.c.c] t1) := ⟨_, rfl⟩
  rw [← h1] at hW
  have z1 : W1.heap.size = w.heap.size + 1 := by rw [h1]; simp
  have r1 : Ro w W1 w.heap.size s d := by rw [h1]; exact ro_start hp
  have b2 : Below W1.heap.size W1 W := by rw [hW]; exact (Below.refl _ _).alloc (Nat.le_refl _) _
  have r2 := Rm.new W1 noHs t2
  refine ⟨r1.next b2, ?_⟩
  rw [hW, ← z1]
  exact r2
section
variable (s : Hs) (d : Hd_) (p : Nat) (w : World)
set_option maxHeartbeats 2000000 in
theorem rdrop9_any (hp : Hp w w.heap.size s d) (hpn : s.p.n ≤ 1000) (hE : Cl.dropE d.f s.p.n (p : Int) = 0) : Calls Tryz.prog 63 #[(.agg #[.slice s.w.a s.w.n s.w.c, .slice s.p.a s.p.n s.p.c, .slice (s.u 0).a (s.u 0).n (s.u 0).c, .slice (s.u 1).a (s.u 1).n (s.u 1).c, .slice (s.u 2).a (s.u 2).n (s.u 2).c, .slice s.c.a s.c.n s.c.c]), .int .i64 (p : Int)] w (RoOut w s ⟨d.ws, Cl.drop d.f p, d.F, d.cs⟩) := by
  have HD : Hid (∀ W, Below w.heap.size w W → Calls Tryz.prog 110 #[.slice s.p.a s.p.n s.p.c, .int .i64 (p : Int)] W fun e w' => ∃ A c, e = .returned (.tuple #[.slice A s.p.n c, .int .i64 0]) ∧ Cl.PRow w' w'.heap.size A s.p.n (Cl.drop d.f p) ∧ s.p.n ≤ c ∧ Below W.heap.size W w') := Lib.hid (fun W hb => by
    have := Cl.drop_any w.heap.size s.p.a s.p.n s.p.c d.f (p : Int) W hpn (hp.pages.below hb) hb.size
    rw [hE] at this
    exact this.mono fun _ _ h => tout_zero h)
  have HP := Lib.hid hp
  clear hp hpn hE
  go_enter Tryz.func63, Tryz.ntmps63
  go_wp2_with fail
  obtain ⟨W0, hW0⟩ : ∃ W0, W0 = (w.alloc (.cells #[.slice s.w.a s.w.n s.w.c, .slice s.p.a s.p.n s.p.c, .slice (s.u 0).a (s.u 0).n (s.u 0).c, .slice (s.u 1).a (s.u 1).n (s.u 1).c, .slice (s.u 2).a (s.u 2).n (s.u 2).c, .slice s.c.a s.c.n s.c.c] 79)).alloc (.cells #[.slice none 0 0, .slice none 0 0, .slice none 0 0, .slice none 0 0, .slice none 0 0, .slice none 0 0] 79) := ⟨_, rfl⟩
  have R0 := two_rooms HP.out hW0
  rw [← hW0]
  have R1 := Lib.hid R0.1
  have R2 := Lib.hid R0.2
  clear hW0 R0
  refine (HD.out W0 R1.out.bel).mono ?_
  rintro e9 w1 ⟨A, c, rfl, hr1, hc1, hb1⟩
  have R3 := Lib.hid (R1.out.next hb1)
  have R4 := Lib.hid (R2.out.next hb1)
  have P3 := Lib.hid (R3.out.pages ⟨A, s.p.n, c⟩ (Cl.drop d.f p) hr1)
  have R5 : Hid (Rm (w1.setCell ⟨w.heap.size, 1, none⟩ (.slice A s.p.n c)) (w.heap.size + 1) noHs) := Lib.hid (R4.out.same (set_others _ (by omega)) (Nat.le_of_eq set_size.symm))
  clear hr1 hc1 hb1 R1 R2
  have q0 := (R3.out.rm.box.box).c0
  have q1 := (R3.out.rm.box.box).c1
  have q2 := (R3.out.rm.box.box).c2
  have q3 := (R3.out.rm.box.box).c3
  have q4 := (R3.out.rm.box.box).c4
  have q5 := (R3.out.rm.box.box).c5
  have ql := (R3.out.rm.box.box).lt
  have y0 := (R3.out.rm.box).free 0
  have y1 := (R3.out.rm.box).free 1
  have y2 := (R3.out.rm.box).free 2
  have y3 := (R3.out.rm.box).free 3
  have y4 := (R3.out.rm.box).free 4
  have y5 := (R3.out.rm.box).free 5
  have x0 := (R4.out.box.box).c0
  have x1 := (R4.out.box.box).c1
  have x2 := (R4.out.box.box).c2
  have x3 := (R4.out.box.box).c3
  have x4 := (R4.out.box.box).c4
  have x5 := (R4.out.box.box).c5
  have xl := (R4.out.box.box).lt
  have z0 := (R4.out.box).free 0
  have z1 := (R4.out.box).free 1
  have z2 := (R4.out.box).free 2
  have z3 := (R4.out.box).free 3
  have z4 := (R4.out.box).free 4
  have z5 := (R4.out.box).free 5
  dsimp only [noHs, Ls.noSl] at x0 x1 x2 x3 x4 x5
  go_wp2
  refine bodyPost_ret (v := (.agg #[.slice (⟨s.w, ⟨A, s.p.n, c⟩, s.u, s.c⟩ : Hs).w.a (⟨s.w, ⟨A, s.p.n, c⟩, s.u, s.c⟩ : Hs).w.n (⟨s.w, ⟨A, s.p.n, c⟩, s.u, s.c⟩ : Hs).w.c, .slice (⟨s.w, ⟨A, s.p.n, c⟩, s.u, s.c⟩ : Hs).p.a (⟨s.w, ⟨A, s.p.n, c⟩, s.u, s.c⟩ : Hs).p.n (⟨s.w, ⟨A, s.p.n, c⟩, s.u, s.c⟩ : Hs).p.c, .slice ((⟨s.w, ⟨A, s.p.n, c⟩, s.u, s.c⟩ : Hs).u 0).a ((⟨s.w, ⟨A, s.p.n, c⟩, s.u, s.c⟩ : Hs).u 0).n ((⟨s.w, ⟨A, s.p.n, c⟩, s.u, s.c⟩ : Hs).u 0).c, .slice ((⟨s.w, ⟨A, s.p.n, c⟩, s.u, s.c⟩ : Hs).u 1).a ((⟨s.w, ⟨A, s.p.n, c⟩, s.u, s.c⟩ : Hs).u 1).n ((⟨s.w, ⟨A, s.p.n, c⟩, s.u, s.c⟩ : Hs).u 1).c, .slice ((⟨s.w, ⟨A, s.p.n, c⟩, s.u, s.c⟩ : Hs).u 2).a ((⟨s.w, ⟨A, s.p.n, c⟩, s.u, s.c⟩ : Hs).u 2).n ((⟨s.w, ⟨A, s.p.n, c⟩, s.u, s.c⟩ : Hs).u 2).c, .slice (⟨s.w, ⟨A, s.p.n, c⟩, s.u, s.c⟩ : Hs).c.a (⟨s.w, ⟨A, s.p.n, c⟩, s.u, s.c⟩ : Hs).c.n (⟨s.w, ⟨A, s.p.n, c⟩, s.u, s.c⟩ : Hs).c.c])) ?_ rfl (res_end (t := ⟨s.w, ⟨A, s.p.n, c⟩, s.u, s.c⟩) P3.out.bel P3.out.hp R5.out (by omega) ⟨rfl, rfl, rfl⟩)
  obtain ⟨k0, k1, k2, k3, k4, k5⟩ := put6_at R5.out.box (.slice s.w.a s.w.n s.w.c) (.slice A s.p.n c) (.slice (s.u 0).a (s.u 0).n (s.u 0).c) (.slice (s.u 1).a (s.u 1).n (s.u 1).c) (.slice (s.u 2).a (s.u 2).n (s.u 2).c) (.slice s.c.a s.c.n s.c.c)
  exact res_rdrop rfl k0 k1 k2 k3 k4 k5
/-- What giveBack asks. -/
theorem back_no {d : Hd_} {p : Nat} (h : ¬ (d.f p).1 = 1) : backD d p = d := by
  unfold backD givenB
  rw [decide_eq_false h]
  rfl
theorem back_less {d : Hd_} {p : Nat} (h : ((onFree d p).length : Int) < Cl.perPage (d.f p).2) : backD d p = d := by
  unfold backD givenB
  rw [decide_eq_true h]
  simp
theorem back_yes {d : Hd_} {p : Nat} (h1 : (d.f p).1 = 1) (h : ¬ ((onFree d p).length : Int) < Cl.perPage (d.f p).2) : backD d p = gaveD d p := by
  unfold backD givenB
  rw [decide_eq_true h1, decide_eq_false h]
  rfl
theorem drop_fine {f : Nat → Int × Int} {n p : Nat} (hm : Cl.mayB f n = true) (hp : p < n) (hk : (f p).1 = 1 ∨ (f p).1 = 2) : Cl.dropE f n (p : Int) = 0 := Cl.dropE_ok hm hp hk
set_option maxHeartbeats 2000000 in
theorem giveback_other (hp : Hp w w.heap.size s d) (hpn : p < s.p.n) (hk : ¬ (d.f p).1 = 1) : Calls Tryz.prog 65 #[(.agg #[.slice s.w.a s.w.n s.w.c, .slice s.p.a s.p.n s.p.c, .slice (s.u 0).a (s.u 0).n (s.u 0).c, .slice (s.u 1).a (s.u 1).n (s.u 1).c, .slice (s.u 2).a (s.u 2).n (s.u 2).c, .slice s.c.a s.c.n s.c.c]), .int .i64 (p : Int)] w (RoOut w s d) := by
  obtain ⟨b, off, e, hb, hc⟩ := hp.pages (show 0 < s.p.n by omega)
  obtain ⟨c0, c1⟩ := hc p hpn
  have HP := Lib.hid hp
  obtain ⟨⟨aw, nw, cw⟩, ⟨ap, np, cp⟩, su, ⟨ac, nc, cc⟩⟩ := s
  dsimp only at e hpn
  subst e
  have d1 : ((d.f p).1 != 1) = true := by simp [hk]
  obtain ⟨pk, hpk⟩ : ∃ pk, pk = (d.f p).1 := ⟨_, rfl⟩
  obtain ⟨pa, hpa⟩ : ∃ pa, pa = (d.f p).2 := ⟨_, rfl⟩
  rw [← hpk] at c0 d1
  rw [← hpa] at c1
  have i0 : (0 : Int) ≤ (p : Int) := by omega
  have i1 : (p : Int) < np := by omega
  have C0 := Lib.hid c0
  have C1 := Lib.hid c1
  have HB := Lib.hid hb
  clear hp hk hc hpk hpa c0 c1 hb hpn
  go_enter Tryz.func65, Tryz.ntmps65
  go_upto_region 1 with fail
  obtain ⟨W0, hW0⟩ : ∃ W0, W0 = (w.alloc (.cells #[.slice (⟨⟨aw, nw, cw⟩, ⟨some ⟨b, off, none⟩, np, cp⟩, su, ⟨ac, nc, cc⟩⟩ : Hs).w.a (⟨⟨aw, nw, cw⟩, ⟨some ⟨b, off, none⟩, np, cp⟩, su, ⟨ac, nc, cc⟩⟩ : Hs).w.n (⟨⟨aw, nw, cw⟩, ⟨some ⟨b, off, none⟩, np, cp⟩, su, ⟨ac, nc, cc⟩⟩ : Hs).w.c, .slice (⟨⟨aw, nw, cw⟩, ⟨some ⟨b, off, none⟩, np, cp⟩, su, ⟨ac, nc, cc⟩⟩ : Hs).p.a (⟨⟨aw, nw, cw⟩, ⟨some ⟨b, off, none⟩, np, cp⟩, su, ⟨ac, nc, cc⟩⟩ : Hs).p.n (⟨⟨aw, nw, cw⟩, ⟨some ⟨b, off, none⟩, np, cp⟩, su, ⟨ac, nc, cc⟩⟩ : Hs).p.c, .slice ((⟨⟨aw, nw, cw⟩, ⟨some ⟨b, off, none⟩, np, cp⟩, su, ⟨ac, nc, cc⟩⟩ : Hs).u 0).a ((⟨⟨aw, nw, cw⟩, ⟨some ⟨b, off, none⟩, np, cp⟩, su, ⟨ac, nc, cc⟩⟩ : Hs).u 0).n ((⟨⟨aw, nw, cw⟩, ⟨some ⟨b, off, none⟩, np, cp⟩, su, ⟨ac, nc, cc⟩⟩ : Hs).u 0).c, .slice ((⟨⟨aw, nw, cw⟩, ⟨some ⟨b, off, none⟩, np, cp⟩, su, ⟨ac, nc, cc⟩⟩ : Hs).u 1).a ((⟨⟨aw, nw, cw⟩, ⟨some ⟨b, off, none⟩, np, cp⟩, su, ⟨ac, nc, cc⟩⟩ : Hs).u 1).n ((⟨⟨aw, nw, cw⟩, ⟨some ⟨b, off, none⟩, np, cp⟩, su, ⟨ac, nc, cc⟩⟩ : Hs).u 1).c, .slice ((⟨⟨aw, nw, cw⟩, ⟨some ⟨b, off, none⟩, np, cp⟩, su, ⟨ac, nc, cc⟩⟩ : Hs).u 2).a ((⟨⟨aw, nw, cw⟩, ⟨some ⟨b, off, none⟩, np, cp⟩, su, ⟨ac, nc, cc⟩⟩ : Hs).u 2).n ((⟨⟨aw, nw, cw⟩, ⟨some ⟨b, off, none⟩, np, cp⟩, su, ⟨ac, nc, cc⟩⟩ : Hs).u 2).c, .slice (⟨⟨aw, nw, cw⟩, ⟨some ⟨b, off, none⟩, np, cp⟩, su, ⟨ac, nc, cc⟩⟩ : Hs).c.a (⟨⟨aw, nw, cw⟩, ⟨some ⟨b, off, none⟩, np, cp⟩, su, ⟨ac, nc, cc⟩⟩ : Hs).c.n (⟨⟨aw, nw, cw⟩, ⟨some ⟨b, off, none⟩, np, cp⟩, su, ⟨ac, nc, cc⟩⟩ : Hs).c.c] 79)).alloc (.cells #[.slice none 0 0, .slice none 0 0, .slice none 0 0, .slice none 0 0, .slice none 0 0, .slice none 0 0] 79) := ⟨_, rfl⟩
  have R0 := two_rooms HP.out hW0
  dsimp only at hW0
  rw [← hW0]
  have R1 := Lib.hid R0.1
  have R2 := Lib.hid R0.2
  clear hW0 R0
  have q0 := (R1.out.rm.box.box).c0
  have q1 := (R1.out.rm.box.box).c1
  have q2 := (R1.out.rm.box.box).c2
  have q3 := (R1.out.rm.box.box).c3
  have q4 := (R1.out.rm.box.box).c4
  have q5 := (R1.out.rm.box.box).c5
  have ql := (R1.out.rm.box.box).lt
  have x0 := (R2.out.box.box).c0
  have x1 := (R2.out.box.box).c1
  have x2 := (R2.out.box.box).c2
  have x3 := (R2.out.box.box).c3
  have x4 := (R2.out.box.box).c4
  have x5 := (R2.out.box.box).c5
  have xl := (R2.out.box.box).lt
  have z0 := (R2.out.box).free 0
  have z1 := (R2.out.box).free 1
  have z2 := (R2.out.box).free 2
  have z3 := (R2.out.box).free 3
  have z4 := (R2.out.box).free 4
  have z5 := (R2.out.box).free 5
  dsimp only [noHs, Ls.noSl] at x0 x1 x2 x3 x4 x5 q0 q1 q2 q3 q4 q5
  have c0 := (R1.out.bel.cell (p := ⟨b, off + p * 2, none⟩) HB.out).trans C0.out
  have c1 := (R1.out.bel.cell (p := ⟨b, off + p * 2 + 1, none⟩) HB.out).trans C1.out
  have cl : b < W0.heap.size := Nat.lt_of_lt_of_le HB.out R1.out.bel.size
  go_upto_region 2 with fail
  obtain ⟨W1, hW1⟩ : ∃ W1, W1 = W0.alloc (.cells #[.int .i64 pk, .int .i64 pa] 76) := ⟨_, rfl⟩
  have b2 : Below W0.heap.size W0 W1 := by rw [hW1]; exact (Below.refl _ _).alloc (Nat.le_refl _) _
  have p0 : W1.cell? ⟨W0.heap.size, 0, none⟩ = some (.int .i64 pk) := by rw [hW1]; simp [go_sem]
  have pl : W0.heap.size < W1.heap.size := by rw [hW1]; simp
  rw [← hW1]
  have R3 := Lib.hid (R1.out.next b2)
  have R4 := Lib.hid (R2.out.next b2)
  clear b2 hW1 c0 c1 cl z0 z1 z2 z3 z4 z5
  clear q0 q1 q2 q3 q4 q5 ql
  clear x0 x1 x2 x3 x4 x5 xl
  have q0 := (R3.out.rm.box.box).c0
  have q1 := (R3.out.rm.box.box).c1
  have q2 := (R3.out.rm.box.box).c2
  have q3 := (R3.out.rm.box.box).c3
  have q4 := (R3.out.rm.box.box).c4
  have q5 := (R3.out.rm.box.box).c5
  have ql := (R3.out.rm.box.box).lt
  have x0 := (R4.out.box.box).c0
  have x1 := (R4.out.box.box).c1
  have x2 := (R4.out.box.box).c2
  have x3 := (R4.out.box.box).c3
  have x4 := (R4.out.box.box).c4
  have x5 := (R4.out.box.box).c5
  have xl := (R4.out.box.box).lt
  have z0 := (R4.out.box).free 0
  have z1 := (R4.out.box).free 1
  have z2 := (R4.out.box).free 2
  have z3 := (R4.out.box).free 3
  have z4 := (R4.out.box).free 4
  have z5 := (R4.out.box).free 5
  dsimp only [noHs, Ls.noSl] at x0 x1 x2 x3 x4 x5 q0 q1 q2 q3 q4 q5
  go_wp2
  refine bodyPost_ret (v := (.agg #[.slice (⟨⟨aw, nw, cw⟩, ⟨some ⟨b, off, none⟩, np, cp⟩, su, ⟨ac, nc, cc⟩⟩ : Hs).w.a (⟨⟨aw, nw, cw⟩, ⟨some ⟨b, off, none⟩, np, cp⟩, su, ⟨ac, nc, cc⟩⟩ : Hs).w.n (⟨⟨aw, nw, cw⟩, ⟨some ⟨b, off, none⟩, np, cp⟩, su, ⟨ac, nc, cc⟩⟩ : Hs).w.c, .slice (⟨⟨aw, nw, cw⟩, ⟨some ⟨b, off, none⟩, np, cp⟩, su, ⟨ac, nc, cc⟩⟩ : Hs).p.a (⟨⟨aw, nw, cw⟩, ⟨some ⟨b, off, none⟩, np, cp⟩, su, ⟨ac, nc, cc⟩⟩ : Hs).p.n (⟨⟨aw, nw, cw⟩, ⟨some ⟨b, off, none⟩, np, cp⟩, su, ⟨ac, nc, cc⟩⟩ : Hs).p.c, .slice ((⟨⟨aw, nw, cw⟩, ⟨some ⟨b, off, none⟩, np, cp⟩, su, ⟨ac, nc, cc⟩⟩ : Hs).u 0).a ((⟨⟨aw, nw, cw⟩, ⟨some ⟨b, off, none⟩, np, cp⟩, su, ⟨ac, nc, cc⟩⟩ : Hs).u 0).n ((⟨⟨aw, nw, cw⟩, ⟨some ⟨b, off, none⟩, np, cp⟩, su, ⟨ac, nc, cc⟩⟩ : Hs).u 0).c, .slice ((⟨⟨aw, nw, cw⟩, ⟨some ⟨b, off, none⟩, np, cp⟩, su, ⟨ac, nc, cc⟩⟩ : Hs).u 1).a ((⟨⟨aw, nw, cw⟩, ⟨some ⟨b, off, none⟩, np, cp⟩, su, ⟨ac, nc, cc⟩⟩ : Hs).u 1).n ((⟨⟨aw, nw, cw⟩, ⟨some ⟨b, off, none⟩, np, cp⟩, su, ⟨ac, nc, cc⟩⟩ : Hs).u 1).c, .slice ((⟨⟨aw, nw, cw⟩, ⟨some ⟨b, off, none⟩, np, cp⟩, su, ⟨ac, nc, cc⟩⟩ : Hs).u 2).a ((⟨⟨aw, nw, cw⟩, ⟨some ⟨b, off, none⟩, np, cp⟩, su, ⟨ac, nc, cc⟩⟩ : Hs).u 2).n ((⟨⟨aw, nw, cw⟩, ⟨some ⟨b, off, none⟩, np, cp⟩, su, ⟨ac, nc, cc⟩⟩ : Hs).u 2).c, .slice (⟨⟨aw, nw, cw⟩, ⟨some ⟨b, off, none⟩, np, cp⟩, su, ⟨ac, nc, cc⟩⟩ : Hs).c.a (⟨⟨aw, nw, cw⟩, ⟨some ⟨b, off, none⟩, np, cp⟩, su, ⟨ac, nc, cc⟩⟩ : Hs).c.n (⟨⟨aw, nw, cw⟩, ⟨some ⟨b, off, none⟩, np, cp⟩, su, ⟨ac, nc, cc⟩⟩ : Hs).c.c])) ?_ rfl (res_end (t := ⟨⟨aw, nw, cw⟩, ⟨some ⟨b, off, none⟩, np, cp⟩, su, ⟨ac, nc, cc⟩⟩) R3.out.bel R3.out.hp R4.out (by omega) ⟨rfl, rfl, rfl⟩)
  obtain ⟨k0, k1, k2, k3, k4, k5⟩ := put6_at R4.out.box (.slice aw nw cw) (.slice (some ⟨b, off, none⟩) np cp) (.slice (su 0).a (su 0).n (su 0).c) (.slice (su 1).a (su 1).n (su 1).c) (.slice (su 2).a (su 2).n (su 2).c) (.slice ac nc cc)
  exact res_giveb rfl k0 k1 k2 k3 k4 k5
set_option maxHeartbeats 4000000 in
theorem giveback_small (k : Nat) (hk : k < 3) (hkind : d.f p = (1, (k : Int))) (hp : Hp w w.heap.size s d) (hpn : p < s.p.n) (hf : Fit s) (hm : Cl.mayB d.f s.p.n = true) (hz : Cl.Sz w) (hu : ∀ j, j < 3 → (s.u j).n ≤ 2000000) : Calls Tryz.prog 65 #[(.agg #[.slice s.w.a s.w.n s.w.c, .slice s.p.a s.p.n s.p.c, .slice (s.u 0).a (s.u 0).n (s.u 0).c, .slice (s.u 1).a (s.u 1).n (s.u 1).c, .slice (s.u 2).a (s.u 2).n (s.u 2).c, .slice s.c.a s.c.n s.c.c]), .int .i64 (p : Int)] w (RoOut w s (backD d p)) := by
  obtain ⟨b, off, e, hb, hc⟩ := hp.pages (show 0 < s.p.n by omega)
  obtain ⟨c0, c1⟩ := hc p hpn
  have h64 := hf.p
  have hwp := hf.wp
  have eo : onFree d p = Ls.inOf (16 + 16 * (p : Int)) (32 + 16 * (p : Int)) (d.F k) := by unfold onFree; rw [hkind]; rfl
  have HA : Hid (∀ w1, Calls Tryz.prog 113 #[.slice s.w.a s.w.n s.w.c, .int .i64 (p : Int)] w1 fun e w' => e = .returned (.tuple #[.int .i64 (16 + 16 * (p : Int)), .int .i64 0]) ∧ w1 = w') := Lib.hid (fun w1 => by
    have := Ar.at_ok s.w.a s.w.n s.w.c (p : Int) w1 hf.w (by omega) (by omega)
    rwa [show 16 + (p : Int) * 16 = 16 + 16 * (p : Int) by omega] at this)
  have HPT : Hid (∀ W, Below w.heap.size w W → Calls Tryz.prog 114 #[(.agg #[.slice (s.u 0).a (s.u 0).n (s.u 0).c, .slice (s.u 1).a (s.u 1).n (s.u 1).c, .slice (s.u 2).a (s.u 2).n (s.u 2).c]), .int .i64 (k : Int), .int .i64 (16 + 16 * (p : Int)), .int .i64 (16 + 16 * (p : Int) + 16)] W (Ls.PartOut W (Ls.upd d.F k (Ls.outOf (16 + 16 * (p : Int)) (32 + 16 * (p : Int)) (d.F k))) (onFree d p) 0)) := Lib.hid (fun W hb => by
    have := Ls.part_ok w.heap.size s.u d.F k hk (16 + 16 * (p : Int)) (32 + 16 * (p : Int)) W (fun j hj => ⟨(hp.free j hj).1.below hb, (hp.free j hj).2⟩) hb.size hu
    rw [← eo] at this
    rwa [show 32 + 16 * (p : Int) = 16 + 16 * (p : Int) + 16 by omega] at this ⊢)
  obtain ⟨m, hmm⟩ : ∃ m, m = Cl.perPage (k : Int) := ⟨_, rfl⟩
  have HC : Hid (∀ W, Below w.heap.size w W → Calls Tryz.prog 115 #[.int .i64 (k : Int)] W fun e w' => e = .returned (.int .i64 m) ∧ W = w') := Lib.hid (fun W hb => by rw [hmm]; exact Cl.cells_of _ W (hz.over hb hz.pos))
  have HDR : Hid (∀ (W : World) (t : Hs) (F : Nat → List Int), Hp W W.heap.size t ⟨d.ws, d.f, F, d.cs⟩ → t.p.n = s.p.n → Calls Tryz.prog 63 #[(.agg #[.slice t.w.a t.w.n t.w.c, .slice t.p.a t.p.n t.p.c, .slice (t.u 0).a (t.u 0).n (t.u 0).c, .slice (t.u 1).a (t.u 1).n (t.u 1).c, .slice (t.u 2).a (t.u 2).n (t.u 2).c, .slice t.c.a t.c.n t.c.c]), .int .i64 (p : Int)] W (RoOut W t ⟨d.ws, Cl.drop d.f p, F, d.cs⟩)) := Lib.hid (fun W t F h1 h2 => rdrop9_any t ⟨d.ws, d.f, F, d.cs⟩ p W h1 (by omega) (by rw [h2]; exact drop_fine hm hpn (.inl (by rw [hkind]))))
  have HE1 : Hid (((onFree d p).length : Int) < m → backD d p = d) := Lib.hid (fun h => back_less (by rw [hkind]; rw [← hmm]; exact h))
  have HE2 : Hid (m ≤ ((onFree d p).length : Int) → backD d p = ⟨d.ws, Cl.drop d.f p, Ls.upd d.F k (Ls.outOf (16 + 16 * (p : Int)) (32 + 16 * (p : Int)) (d.F k)), d.cs⟩) := Lib.hid (fun h => by
    rw [back_yes (by rw [hkind]) (by rw [hkind]; rw [← hmm]; exact Int.not_lt.2 h)]
    unfold gaveD
    rw [hkind]
    rfl)
  have HP := Lib.hid hp
  obtain ⟨⟨aw, nw, cw⟩, ⟨ap, np, cp⟩, su, ⟨ac, nc, cc⟩⟩ := s
  dsimp only at e hpn h64 hwp
  subst e
  rw [hkind] at c0 c1
  have i0 : (0 : Int) ≤ (p : Int) := by omega
  have i1 : (p : Int) < np := by omega
  have i2 : (p : Int) ≤ 64 := by omega
  have C0 := Lib.hid c0
  have C1 := Lib.hid c1
  have HB := Lib.hid hb
  clear hp hc c0 c1 hb hpn hf hm hz hu eo hwp h64 hmm hkind
  dsimp only at HA HPT HDR
  go_enter Tryz.func65, Tryz.ntmps65
  go_upto_region 1 with fail
  obtain ⟨W0, hW0⟩ : ∃ W0, W0 = (w.alloc (.cells #[.slice (⟨⟨aw, nw, cw⟩, ⟨some ⟨b, off, none⟩, np, cp⟩, su, ⟨ac, nc, cc⟩⟩ : Hs).w.a (⟨⟨aw, nw, cw⟩, ⟨some ⟨b, off, none⟩, np, cp⟩, su, ⟨ac, nc, cc⟩⟩ : Hs).w.n (⟨⟨aw, nw, cw⟩, ⟨some ⟨b, off, none⟩, np, cp⟩, su, ⟨ac, nc, cc⟩⟩ : Hs).w.c, .slice (⟨⟨aw, nw, cw⟩, ⟨some ⟨b, off, none⟩, np, cp⟩, su, ⟨ac, nc, cc⟩⟩ : Hs).p.a (⟨⟨aw, nw, cw⟩, ⟨some ⟨b, off, none⟩, np, cp⟩, su, ⟨ac, nc, cc⟩⟩ : Hs).p.n (⟨⟨aw, nw, cw⟩, ⟨some ⟨b, off, none⟩, np, cp⟩, su, ⟨ac, nc, cc⟩⟩ : Hs).p.c, .slice ((⟨⟨aw, nw, cw⟩, ⟨some ⟨b, off, none⟩, np, cp⟩, su, ⟨ac, nc, cc⟩⟩ : Hs).u 0).a ((⟨⟨aw, nw, cw⟩, ⟨some ⟨b, off, none⟩, np, cp⟩, su, ⟨ac, nc, cc⟩⟩ : Hs).u 0).n ((⟨⟨aw, nw, cw⟩, ⟨some ⟨b, off, none⟩, np, cp⟩, su, ⟨ac, nc, cc⟩⟩ : Hs).u 0).c, .slice ((⟨⟨aw, nw, cw⟩, ⟨some ⟨b, off, none⟩, np, cp⟩, su, ⟨ac, nc, cc⟩⟩ : Hs).u 1).a ((⟨⟨aw, nw, cw⟩, ⟨some ⟨b, off, none⟩, np, cp⟩, su, ⟨ac, nc, cc⟩⟩ : Hs).u 1).n ((⟨⟨aw, nw, cw⟩, ⟨some ⟨b, off, none⟩, np, cp⟩, su, ⟨ac, nc, cc⟩⟩ : Hs).u 1).c, .slice ((⟨⟨aw, nw, cw⟩, ⟨some ⟨b, off, none⟩, np, cp⟩, su, ⟨ac, nc, cc⟩⟩ : Hs).u 2).a ((⟨⟨aw, nw, cw⟩, ⟨some ⟨b, off, none⟩, np, cp⟩, su, ⟨ac, nc, cc⟩⟩ : Hs).u 2).n ((⟨⟨aw, nw, cw⟩, ⟨some ⟨b, off, none⟩, np, cp⟩, su, ⟨ac, nc, cc⟩⟩ : Hs).u 2).c, .slice (⟨⟨aw, nw, cw⟩, ⟨some ⟨b, off, none⟩, np, cp⟩, su, ⟨ac, nc, cc⟩⟩ : Hs).c.a (⟨⟨aw, nw, cw⟩, ⟨some ⟨b, off, none⟩, np, cp⟩, su, ⟨ac, nc, cc⟩⟩ : Hs).c.n (⟨⟨aw, nw, cw⟩, ⟨some ⟨b, off, none⟩, np, cp⟩, su, ⟨ac, nc, cc⟩⟩ : Hs).c.c] 79)).alloc (.cells #[.slice none 0 0, .slice none 0 0, .slice none 0 0, .slice none 0 0, .slice none 0 0, .slice none 0 0] 79) := ⟨_, rfl⟩
  have R0 := two_rooms HP.out hW0
  dsimp only at hW0
  rw [← hW0]
  have R1 := Lib.hid R0.1
  have R2 := Lib.hid R0.2
  clear hW0 R0
  have q0 := (R1.out.rm.box.box).c0
  have q1 := (R1.out.rm.box.box).c1
  have q2 := (R1.out.rm.box.box).c2
  have q3 := (R1.out.rm.box.box).c3
  have q4 := (R1.out.rm.box.box).c4
  have q5 := (R1.out.rm.box.box).c5
  have ql := (R1.out.rm.box.box).lt
  dsimp only at q0 q1 q2 q3 q4 q5
  have c0 := (R1.out.bel.cell (p := ⟨b, off + p * 2, none⟩) HB.out).trans C0.out
  have c1 := (R1.out.bel.cell (p := ⟨b, off + p * 2 + 1, none⟩) HB.out).trans C1.out
  have cl : b < W0.heap.size := Nat.lt_of_lt_of_le HB.out R1.out.bel.size
  go_wp2_with fail
  obtain ⟨W1, hW1⟩ : ∃ W1, W1 = W0.alloc (.cells #[.int .i64 1, .int .i64 (k : Int)] 76) := ⟨_, rfl⟩
  have b2 : Below W0.heap.size W0 W1 := by rw [hW1]; exact (Below.refl _ _).alloc (Nat.le_refl _) _
  have p0 : W1.cell? ⟨W0.heap.size, 0, none⟩ = some (.int .i64 1) := by rw [hW1]; simp [go_sem]
  have p1 : W1.cell? ⟨W0.heap.size, 1, none⟩ = some (.int .i64 (k : Int)) := by rw [hW1]; simp [go_sem]
  have pl : W0.heap.size < W1.heap.size := by rw [hW1]; simp
  rw [← hW1]
  clear hW1 c0 c1 cl
  clear q0 q1 q2 q3 q4 q5 ql
  have R3 := Lib.hid (R1.out.next b2)
  have R4 := Lib.hid (R2.out.next b2)
  clear b2 R1 R2
  refine (HA.out W1).mono ?_
  rintro e9 w2 ⟨rfl, rfl⟩
  have q0 := (R3.out.rm.box.box).c0
  have q1 := (R3.out.rm.box.box).c1
  have q2 := (R3.out.rm.box.box).c2
  have q3 := (R3.out.rm.box.box).c3
  have q4 := (R3.out.rm.box.box).c4
  have q5 := (R3.out.rm.box.box).c5
  have ql := (R3.out.rm.box.box).lt
  dsimp only at q0 q1 q2 q3 q4 q5
  go_wp2_with fail
  refine (HPT.out W1 R3.out.bel).mono ?_
  rintro e9 w3 ⟨u, v, rfl, hl3, hrow, hb3⟩
  have R5 := R3.out.next hb3
  have R6 := R4.out.next hb3
  have p2 := (hb3.cell (p := ⟨W0.heap.size, 1, none⟩) pl).trans p1
  have pl2 : W0.heap.size < w3.heap.size := Nat.lt_of_lt_of_le pl hb3.size
  have hvn : ((onFree d p).length : Int) = v.n := by rw [hrow.1.1]
  rw [hvn] at HE1 HE2
  have U3 := Lib.hid hl3
  clear hl3 hrow hb3 p0 p1 pl hvn R3 R4
  clear q0 q1 q2 q3 q4 q5 ql
  obtain ⟨W4, hW4⟩ : ∃ W4, W4 = w3.alloc (.cells #[.slice (u 0).a (u 0).n (u 0).c, .slice (u 1).a (u 1).n (u 1).c, .slice (u 2).a (u 2).n (u 2).c] 25) := ⟨_, rfl⟩
  have b4 : Below w3.heap.size w3 W4 := by rw [hW4]; exact (Below.refl _ _).alloc (Nat.le_refl _) _
  have B4 : Ls.Box3 W4 w3.heap.size u := by rw [hW4]; exact Ls.Box3.new w3 u _
  have R7 := Lib.hid (R5.next b4)
  have R8 := Lib.hid (R6.next b4)
  have U4 := Lib.hid (Ls.L3.next U3.out b4)
  have p3 := (b4.cell (p := ⟨W0.heap.size, 1, none⟩) pl2).trans p2
  have pl3 : W0.heap.size < W4.heap.size := Nat.lt_of_lt_of_le pl2 b4.size
  have u0 := B4.cell 0 (by decide)
  have u1 := B4.cell 1 (by decide)
  have u2 := B4.cell 2 (by decide)
  have ul := B4.lt
  go_wp2_with fail
  rw [← hW4]
  clear hW4 b4 B4 p2 pl2 R5 R6 U3
  refine (HC.out W4 R7.out.bel).mono ?_
  rintro e9 w5 ⟨rfl, rfl⟩
  clear p3 pl3
  have q0 := (R7.out.rm.box.box).c0
  have q1 := (R7.out.rm.box.box).c1
  have q2 := (R7.out.rm.box.box).c2
  have q3 := (R7.out.rm.box.box).c3
  have q4 := (R7.out.rm.box.box).c4
  have q5 := (R7.out.rm.box.box).c5
  have ql := (R7.out.rm.box.box).lt
  have y0 := (R7.out.rm.box).free 0
  have y1 := (R7.out.rm.box).free 1
  have y2 := (R7.out.rm.box).free 2
  have y3 := (R7.out.rm.box).free 3
  have y4 := (R7.out.rm.box).free 4
  have y5 := (R7.out.rm.box).free 5
  have x0 := (R8.out.box.box).c0
  have x1 := (R8.out.box.box).c1
  have x2 := (R8.out.box.box).c2
  have x3 := (R8.out.box.box).c3
  have x4 := (R8.out.box.box).c4
  have x5 := (R8.out.box.box).c5
  have xl := (R8.out.box.box).lt
  have z0 := (R8.out.box).free 0
  have z1 := (R8.out.box).free 1
  have z2 := (R8.out.box).free 2
  have z3 := (R8.out.box).free 3
  have z4 := (R8.out.box).free 4
  have z5 := (R8.out.box).free 5
  dsimp only [noHs, Ls.noSl] at x0 x1 x2 x3 x4 x5 q0 q1 q2 q3 q4 q5
  by_cases hlt : (v.n : Int) < m
  · have d1 : decide ((v.n : Int) < m) = true := by simpa using hlt
    have E := Lib.hid (HE1.out hlt)
    clear hlt HE1 HE2 u0 u1 u2 ul
    go_wp2
    refine bodyPost_ret (v := (.agg #[.slice (⟨⟨aw, nw, cw⟩, ⟨some ⟨b, off, none⟩, np, cp⟩, su, ⟨ac, nc, cc⟩⟩ : Hs).w.a (⟨⟨aw, nw, cw⟩, ⟨some ⟨b, off, none⟩, np, cp⟩, su, ⟨ac, nc, cc⟩⟩ : Hs).w.n (⟨⟨aw, nw, cw⟩, ⟨some ⟨b, off, none⟩, np, cp⟩, su, ⟨ac, nc, cc⟩⟩ : Hs).w.c, .slice (⟨⟨aw, nw, cw⟩, ⟨some ⟨b, off, none⟩, np, cp⟩, su, ⟨ac, nc, cc⟩⟩ : Hs).p.a (⟨⟨aw, nw, cw⟩, ⟨some ⟨b, off, none⟩, np, cp⟩, su, ⟨ac, nc, cc⟩⟩ : Hs).p.n (⟨⟨aw, nw, cw⟩, ⟨some ⟨b, off, none⟩, np, cp⟩, su, ⟨ac, nc, cc⟩⟩ : Hs).p.c, .slice ((⟨⟨aw, nw, cw⟩, ⟨some ⟨b, off, none⟩, np, cp⟩, su, ⟨ac, nc, cc⟩⟩ : Hs).u 0).a ((⟨⟨aw, nw, cw⟩, ⟨some ⟨b, off, none⟩, np, cp⟩, su, ⟨ac, nc, cc⟩⟩ : Hs).u 0).n ((⟨⟨aw, nw, cw⟩, ⟨some ⟨b, off, none⟩, np, cp⟩, su, ⟨ac, nc, cc⟩⟩ : Hs).u 0).c, .slice ((⟨⟨aw, nw, cw⟩, ⟨some ⟨b, off, none⟩, np, cp⟩, su, ⟨ac, nc, cc⟩⟩ : Hs).u 1).a ((⟨⟨aw, nw, cw⟩, ⟨some ⟨b, off, none⟩, np, cp⟩, su, ⟨ac, nc, cc⟩⟩ : Hs).u 1).n ((⟨⟨aw, nw, cw⟩, ⟨some ⟨b, off, none⟩, np, cp⟩, su, ⟨ac, nc, cc⟩⟩ : Hs).u 1).c, .slice ((⟨⟨aw, nw, cw⟩, ⟨some ⟨b, off, none⟩, np, cp⟩, su, ⟨ac, nc, cc⟩⟩ : Hs).u 2).a ((⟨⟨aw, nw, cw⟩, ⟨some ⟨b, off, none⟩, np, cp⟩, su, ⟨ac, nc, cc⟩⟩ : Hs).u 2).n ((⟨⟨aw, nw, cw⟩, ⟨some ⟨b, off, none⟩, np, cp⟩, su, ⟨ac, nc, cc⟩⟩ : Hs).u 2).c, .slice (⟨⟨aw, nw, cw⟩, ⟨some ⟨b, off, none⟩, np, cp⟩, su, ⟨ac, nc, cc⟩⟩ : Hs).c.a (⟨⟨aw, nw, cw⟩, ⟨some ⟨b, off, none⟩, np, cp⟩, su, ⟨ac, nc, cc⟩⟩ : Hs).c.n (⟨⟨aw, nw, cw⟩, ⟨some ⟨b, off, none⟩, np, cp⟩, su, ⟨ac, nc, cc⟩⟩ : Hs).c.c])) ?_ rfl ((congrArg (fun D => RoOut w _ D _ _) E.out).mpr (res_end (t := ⟨⟨aw, nw, cw⟩, ⟨some ⟨b, off, none⟩, np, cp⟩, su, ⟨ac, nc, cc⟩⟩) R7.out.bel R7.out.hp R8.out (by omega) ⟨rfl, rfl, rfl⟩))
    obtain ⟨k0, k1, k2, k3, k4, k5⟩ := put6_at R8.out.box (.slice aw nw cw) (.slice (some ⟨b, off, none⟩) np cp) (.slice (su 0).a (su 0).n (su 0).c) (.slice (su 1).a (su 1).n (su 1).c) (.slice (su 2).a (su 2).n (su 2).c) (.slice ac nc cc)
    exact res_giveb rfl k0 k1 k2 k3 k4 k5
  · have d1 : decide ((v.n : Int) < m) = false := by simpa using hlt
    have E := Lib.hid (HE2.out (Int.not_lt.1 hlt))
    have R9 := Lib.hid (R7.out.free3 u _ U4.out)
    have RX : Hid (Rm (((W4.setCell ⟨w.heap.size, 2, none⟩ (.slice (u 0).a (u 0).n (u 0).c)).setCell ⟨w.heap.size, 3, none⟩ (.slice (u 1).a (u 1).n (u 1).c)).setCell ⟨w.heap.size, 4, none⟩ (.slice (u 2).a (u 2).n (u 2).c)) (w.heap.size + 1) noHs) := Lib.hid (R8.out.same (set3_others _ (by omega)) (by simp))
    clear hlt HE1 HE2 x0 x1 x2 x3 x4 x5 xl z0 z1 z2 z3 z4 z5
    go_wp2_with fail
    refine (HDR.out _ ⟨⟨aw, nw, cw⟩, ⟨some ⟨b, off, none⟩, np, cp⟩, u, ⟨ac, nc, cc⟩⟩ _ R9.out.hp rfl).mono ?_
    rintro e9 w7 ⟨t7, rfl, hp7, hl7, hb7⟩
    have RY := Lib.hid (RX.out.next hb7)
    have T7 := Lib.hid (And.intro hp7 hl7)
    have BY := Lib.hid (R9.out.bel.trans (hb7.mono R9.out.bel.size))
    clear hp7 hl7 hb7 u0 u1 u2 ul y0 y1 y2 y3 y4 y5
    clear q0 q1 q2 q3 q4 q5 ql
    have x0 := (RY.out.box.box).c0
    have x1 := (RY.out.box.box).c1
    have x2 := (RY.out.box.box).c2
    have x3 := (RY.out.box.box).c3
    have x4 := (RY.out.box.box).c4
    have x5 := (RY.out.box.box).c5
    have xl := (RY.out.box.box).lt
    have z0 := (RY.out.box).free 0
    have z1 := (RY.out.box).free 1
    have z2 := (RY.out.box).free 2
    have z3 := (RY.out.box).free 3
    have z4 := (RY.out.box).free 4
    have z5 := (RY.out.box).free 5
    dsimp only [noHs, Ls.noSl] at x0 x1 x2 x3 x4 x5
    go_wp2
    refine bodyPost_ret (v := (.agg #[.slice t7.w.a t7.w.n t7.w.c, .slice t7.p.a t7.p.n t7.p.c, .slice (t7.u 0).a (t7.u 0).n (t7.u 0).c, .slice (t7.u 1).a (t7.u 1).n (t7.u 1).c, .slice (t7.u 2).a (t7.u 2).n (t7.u 2).c, .slice t7.c.a t7.c.n t7.c.c])) ?_ rfl ((congrArg (fun D => RoOut w _ D _ _) E.out).mpr (res_end (t := t7) BY.out T7.out.1 RY.out (by omega) T7.out.2))
    obtain ⟨k0, k1, k2, k3, k4, k5⟩ := put6_at RY.out.box (.slice t7.w.a t7.w.n t7.w.c) (.slice t7.p.a t7.p.n t7.p.c) (.slice (t7.u 0).a (t7.u 0).n (t7.u 0).c) (.slice (t7.u 1).a (t7.u 1).n (t7.u 1).c) (.slice (t7.u 2).a (t7.u 2).n (t7.u 2).c) (.slice t7.c.a t7.c.n t7.c.c)
    exact res_giveb rfl k0 k1 k2 k3 k4 k5
theorem giveback_any (hp : Hp w w.heap.size s d) (hpn : p < s.p.n) (hf : Fit s) (hm : Cl.mayB d.f s.p.n = true) (hz : Cl.Sz w) (hu : ∀ j, j < 3 → (s.u j).n ≤ 2000000) : Calls Tryz.prog 65 #[(.agg #[.slice s.w.a s.w.n s.w.c, .slice s.p.a s.p.n s.p.c, .slice (s.u 0).a (s.u 0).n (s.u 0).c, .slice (s.u 1).a (s.u 1).n (s.u 1).c, .slice (s.u 2).a (s.u 2).n (s.u 2).c, .slice s.c.a s.c.n s.c.c]), .int .i64 (p : Int)] w (RoOut w s (backD d p)) := by
  by_cases h1 : (d.f p).1 = 1
  · obtain ⟨hk, e⟩ := small_kind hm hpn h1
    exact giveback_small s d p w _ hk e hp hpn hf hm hz hu
  · rw [back_no h1]
    exact giveback_other s d p w hp hpn h1
end
end Go.Proofs.YtmalopciboikhaaGreatDoor
end
section
namespace Go.Proofs.YtmalopciboikhaaGreatDoor.Ls
open Go.Proofs.YtmalopciboikhaaGreatDoor
open Go.RowKit
set_option maxRecDepth 100000

structure AOwn (w wr : World) (f : Nat → List Int) (k : Nat) (v : Nat → Sl) : Prop where
  box : Box3 wr w.heap.size v
  res : Box3 wr (w.heap.size + 1) noSl
  own : OwnTo wr (w.heap.size + 2) k v f
  bel : Below w.heap.size w wr
theorem AOwn.size {w wr : World} {v : Nat → Sl} {f : Nat → List Int} {k : Nat} (h : AOwn w wr f k v) : w.heap.size + 2 ≤ wr.heap.size := by have := h.res.lt; omega
theorem AOwn.step {w wr w1 w2 : World} {v : Nat → Sl} {f : Nat → List Int} {k : Nat} (h : AOwn w wr f k v) (hk : k < 3) (s : Sl)
    (ho : w1.ownsRow wr.heap.size 3 1 (.slice s.a s.n s.c) s.n ((f k).map (Value.int .i64))) (b1 : Below wr.heap.size wr w1) (e2 : w2 = w1.setCell ⟨w.heap.size, k, none⟩ (.slice s.a s.n s.c)) : AOwn w w2 f (k + 1) (upd v k s) := by
  have hs := h.size
  subst e2
  refine ⟨(h.box.next b1).set hk s, (h.res.next b1).other (by simp) _, ?_, (h.bel.trans (b1.mono h.bel.size)).setCell (p := ⟨w.heap.size, k, none⟩) (by simp) _⟩
  refine h.own.step hs s (World.ownsRow.same ho (fun g hg' _ => Below.heap_setCell _ _ _ _ ?_)) (fun j hj hlt => (Below.heap_setCell _ _ _ _ (by show ¬ j = w.heap.size; omega)).trans (b1.block j hlt))
  have := (ho.lt g hg').1
  show ¬ g = w.heap.size
  omega
theorem aown_any (B : Nat) (u : Nat → Sl) (f : Nat → List Int) (w : World) (h : L3 w B u f) (hB : B ≤ w.heap.size) (hn : ∀ j, j < 3 → (u j).n ≤ 2000000) :
    Calls Tryz.prog 43 #[(.agg #[.slice (u 0).a (u 0).n (u 0).c, .slice (u 1).a (u 1).n (u 1).c, .slice (u 2).a (u 2).n (u 2).c])] w (COut w f) := by
  have C4 := Lib.hid (fun j (hj : j < 3) W (hb : Below w.heap.size w W) => iclone_any B (u j).a (u j).n (u j).c (f j) W (hn j hj) (Nat.le_trans hB hb.size) ((h j hj).1.over hb hB))
  clear h hn
  go_enter Tryz.func43, Tryz.ntmps43
  go_wp2
  go_loopw [6] (fun i wr => ∃ (k : Nat) (v : Nat → Sl), k ≤ 3 ∧ i = .int .i64 k ∧ Hid (AOwn w wr f k v)) (fun i _ => 3 - (intOf i).toNat)
  case atStart =>
    refine ⟨0, u, by omega, rfl, Lib.hid ⟨(Box3.new w u 25).alloc _, ?_, OwnTo.start _ _ _ _, ((Below.refl _ _).alloc (Nat.le_refl _) _).alloc (by simp) _⟩⟩
    have := Box3.new (w.alloc (.cells #[.slice (u 0).a (u 0).n (u 0).c, .slice (u 1).a (u 1).n (u 1).c, .slice (u 2).a (u 2).n (u 2).c] 25)) noSl 25
    rw [World.size_alloc] at this
    exact this
  case round =>
    obtain ⟨k, v, hk, rfl, HC⟩ := hrel
    by_cases hlt : k < 3
    · have hix := index_of u k hlt
      go_wp2_with fail
      refine (C4.out k hlt _ HC.out.bel).mono ?_
      rintro e w1 ⟨s, rfl, ho, hb1⟩
      have hB1 := HC.out.box.next hb1
      have hc1 := hB1.cell k hlt
      have hf1 := hB1.free k
      have hl1 := hB1.lt
      have S1 := Lib.hid (HC.out.step hlt s ho hb1 rfl)
      clear ho hb1 hB1
      go_wp2
      go_roundw
      case rel => exact ⟨k + 1, _, by omega, by go_num, S1⟩
      case measure => simp [intOf]; omega
    · obtain rfl : k = 3 := by omega
      have r0 := HC.out.box.cell 0 (by decide)
      have r1 := HC.out.box.cell 1 (by decide)
      have r2 := HC.out.box.cell 2 (by decide)
      have rl := HC.out.box.lt
      have x0 := HC.out.res.cell 0 (by decide)
      have x1 := HC.out.res.cell 1 (by decide)
      have x2 := HC.out.res.cell 2 (by decide)
      have y0 := HC.out.res.free 0
      have y1 := HC.out.res.free 1
      have y2 := HC.out.res.free 2
      have xl := HC.out.res.lt
      go_wp2
      refine bodyPost_ret (v := (.agg #[.slice (v 0).a (v 0).n (v 0).c, .slice (v 1).a (v 1).n (v 1).c, .slice (v 2).a (v 2).n (v 2).c])) ?_ rfl ⟨v, rfl, (HC.out.own.own3.put (b := w.heap.size + 1) (fun j x hj hx => by have := (HC.out.own.own3.block j hj hx).1; omega) v).less (by omega), below_put3 HC.out.bel (by omega) v⟩
      simp [results, Tryz.results43, go_sem, x0, x1, x2]
end Go.Proofs.YtmalopciboikhaaGreatDoor.Ls
end
section
namespace Go.Proofs.YtmalopciboikhaaGreatDoor
open Go.RowKit
set_option maxRecDepth 100000

/-- A slice is not in that block. -/
def Out (g : Nat) (v : Ls.Sl) : Prop := 0 < v.n → ∀ x, v.a = some x → ¬ x.block = g
/-- A copy was returned; its cards are in a block of their own. -/
def FreshOut (w : World) (s : Hs) (d : Hd_) (e : Ending) (w' : World) : Prop :=
  ∃ t : Hs, e = .returned (.agg #[.slice t.w.a t.w.n t.w.c, .slice t.p.a t.p.n t.p.c, .slice (t.u 0).a (t.u 0).n (t.u 0).c, .slice (t.u 1).a (t.u 1).n (t.u 1).c, .slice (t.u 2).a (t.u 2).n (t.u 2).c, .slice t.c.a t.c.n t.c.c]) ∧ Hp w' w'.heap.size t d ∧ Lens s t ∧ News w.heap.size t ∧ t.p.n ≤ t.p.c ∧ Below w.heap.size w w' ∧
    ∃ g c, t.c = ⟨some ⟨g, 0, none⟩, s.c.n, c⟩ ∧ (∀ i, w'.frozen? ⟨g, i, none⟩ = false) ∧ w.heap.size + 2 ≤ g ∧ g < w'.heap.size ∧ Out g t.w ∧ Out g t.p ∧ ∀ j, j < 3 → Out g (t.u j)
/-- The boxes of the argument and of the result. -/
structure Fr (w W : World) (s : Hs) : Prop where
  bel : Below w.heap.size w W
  box : HBox W w.heap.size s
  res : ∀ j, j < 6 → ∃ v, W.cell? ⟨w.heap.size + 1, j, none⟩ = some v
  free : ∀ j, W.frozen? ⟨w.heap.size + 1, j, none⟩ = false
  lt : w.heap.size + 1 < W.heap.size
section
variable {w W W' : World} {s : Hs} {d : Hd_}
theorem Fr.next (h : Fr w W s) (hb : Below W.heap.size W W') : Fr w W' s :=
  ⟨h.bel.trans (hb.mono h.bel.size), h.box.next hb, fun j hj => by obtain ⟨v, e⟩ := h.res j hj; exact ⟨v, (hb.cell (p := ⟨w.heap.size + 1, j, none⟩) h.lt).trans e⟩, fun j => (hb.frozen (p := ⟨w.heap.size + 1, j, none⟩) h.lt).trans (h.free j), Nat.lt_of_lt_of_le h.lt hb.size⟩
theorem fr_start {t1 t2 : TypeId} (hW : W = (w.alloc (.cells #[.slice s.w.a s.w.n s.w.c, .slice s.p.a s.p.n s.p.c, .slice (s.u 0).a (s.u 0).n (s.u 0).c, .slice (s.u 1).a (s.u 1).n (s.u 1).c, .slice (s.u 2).a (s.u 2).n (s.u 2).c, .slice s.c.a s.c.n s.c.c] t1)).alloc (.cells #[.slice none 0 0, .slice none 0 0, .slice none 0 0, .slice none 0 0, .slice none 0 0, .slice none 0 0] t2)) : Fr w W s := by
  have b1 := HBox.new w s t1
  have b2 : Below (w.alloc (.cells #[.slice s.w.a s.w.n s.w.c, .slice s.p.a s.p.n s.p.c, .slice (s.u 0).a (s.u 0).n (s.u 0).c, .slice (s.u 1).a (s.u 1).n (s.u 1).c, .slice (s.u 2).a (s.u 2).n (s.u 2).c, .slice s.c.a s.c.n s.c.c] t1)).heap.size (w.alloc (.cells #[.slice s.w.a s.w.n s.w.c, .slice s.p.a s.p.n s.p.c, .slice (s.u 0).a (s.u 0).n (s.u 0).c, .slice (s.u 1).a (s.u 1).n (s.u 1).c, .slice (s.u 2).a (s.u 2).n (s.u 2).c, .slice s.c.a s.c.n s.c.c] t1)) W := by rw [hW]; exact (Below.refl _ _).alloc (Nat.le_refl _) _
  refine ⟨by rw [hW]; exact ((Below.refl _ _).alloc (Nat.le_refl _) _).alloc (by simp) _, b1.next b2, fun j hj => ?_, fun j => by rw [hW]; simp [go_sem], by rw [hW]; simp⟩
  match j, hj with
  | 0, _ => exact ⟨_, by rw [hW]; simp [go_sem]; rfl⟩
  | 1, _ => exact ⟨_, by rw [hW]; simp [go_sem]; rfl⟩
  | 2, _ => exact ⟨_, by rw [hW]; simp [go_sem]; rfl⟩
  | 3, _ => exact ⟨_, by rw [hW]; simp [go_sem]; rfl⟩
  | 4, _ => exact ⟨_, by rw [hW]; simp [go_sem]; rfl⟩
  | 5, _ => exact ⟨_, by rw [hW]; simp [go_sem]; rfl⟩
theorem fr_keep (h : Fr w W s ∧ True) (hb : Below W.heap.size W W') : (Fr w W' s ∧ True) ∧ w.heap.size < W'.heap.size ∧ W'.cell? ⟨w.heap.size, 0, none⟩ = some (.slice s.w.a s.w.n s.w.c) ∧ W'.cell? ⟨w.heap.size, 1, none⟩ = some (.slice s.p.a s.p.n s.p.c) ∧ W'.cell? ⟨w.heap.size, 2, none⟩ = some (.slice (s.u 0).a (s.u 0).n (s.u 0).c) ∧ W'.cell? ⟨w.heap.size, 3, none⟩ = some (.slice (s.u 1).a (s.u 1).n (s.u 1).c) ∧ W'.cell? ⟨w.heap.size, 4, none⟩ = some (.slice (s.u 2).a (s.u 2).n (s.u 2).c) ∧ W'.cell? ⟨w.heap.size, 5, none⟩ = some (.slice s.c.a s.c.n s.c.c) := by
  have g := h.1.next hb
  exact ⟨⟨g, trivial⟩, g.box.lt, g.box.c0, g.box.c1, g.box.c2, g.box.c3, g.box.c4, g.box.c5⟩
theorem Fr.put (h : Fr w W s) (v0 v1 v2 v3 v4 v5 : Value) : Fr w (put6 W (w.heap.size + 1) v0 v1 v2 v3 v4 v5) s := by
  have hz := put6_size W (w.heap.size + 1) v0 v1 v2 v3 v4 v5
  obtain ⟨x0, h0⟩ := h.res 0 (by decide)
  obtain ⟨x1, h1⟩ := h.res 1 (by decide)
  obtain ⟨x2, h2⟩ := h.res 2 (by decide)
  obtain ⟨x3, h3⟩ := h.res 3 (by decide)
  obtain ⟨x4, h4⟩ := h.res 4 (by decide)
  obtain ⟨x5, h5⟩ := h.res 5 (by decide)
  refine ⟨below_put6 h.bel (by omega) _ _ _ _ _ _, h.box.same (put6_other _ _ _ _ _ _ _ _ (by omega)) (by rw [hz]; exact Nat.le_refl _), fun j hj => ?_, fun j => ?_, by rw [hz]; exact h.lt⟩
  · match j, hj with
    | 0, _ => exact ⟨v0, by simp [put6, go_sem, h0]⟩
    | 1, _ => exact ⟨v1, by simp [put6, go_sem, h1]⟩
    | 2, _ => exact ⟨v2, by simp [put6, go_sem, h2]⟩
    | 3, _ => exact ⟨v3, by simp [put6, go_sem, h3]⟩
    | 4, _ => exact ⟨v4, by simp [put6, go_sem, h4]⟩
    | 5, _ => exact ⟨v5, by simp [put6, go_sem, h5]⟩
  · unfold put6
    simp only [World.frozen?_setCell]
    exact h.free j
theorem fr_put (h : Fr w W s ∧ True) (v0 v1 v2 v3 v4 v5 : Value) : (Fr w ((((((W.setCell ⟨w.heap.size + 1, 0, none⟩ v0).setCell ⟨w.heap.size + 1, 1, none⟩ v1).setCell ⟨w.heap.size + 1, 2, none⟩ v2).setCell ⟨w.heap.size + 1, 3, none⟩ v3).setCell ⟨w.heap.size + 1, 4, none⟩ v4).setCell ⟨w.heap.size + 1, 5, none⟩ v5) s ∧ True) ∧ w.heap.size < ((((((W.setCell ⟨w.heap.size + 1, 0, none⟩ v0).setCell ⟨w.heap.size + 1, 1, none⟩ v1).setCell ⟨w.heap.size + 1, 2, none⟩ v2).setCell ⟨w.heap.size + 1, 3, none⟩ v3).setCell ⟨w.heap.size + 1, 4, none⟩ v4).setCell ⟨w.heap.size + 1, 5, none⟩ v5).heap.size ∧ ((((((W.setCell ⟨w.heap.size + 1, 0, none⟩ v0).setCell ⟨w.heap.size + 1, 1, none⟩ v1).setCell ⟨w.heap.size + 1, 2, none⟩ v2).setCell ⟨w.heap.size + 1, 3, none⟩ v3).setCell ⟨w.heap.size + 1, 4, none⟩ v4).setCell ⟨w.heap.size + 1, 5, none⟩ v5).cell? ⟨w.heap.size, 0, none⟩ = some (.slice s.w.a s.w.n s.w.c) ∧ ((((((W.setCell ⟨w.heap.size + 1, 0, none⟩ v0).setCell ⟨w.heap.size + 1, 1, none⟩ v1).setCell ⟨w.heap.size + 1, 2, none⟩ v2).setCell ⟨w.heap.size + 1, 3, none⟩ v3).setCell ⟨w.heap.size + 1, 4, none⟩ v4).setCell ⟨w.heap.size + 1, 5, none⟩ v5).cell? ⟨w.heap.size, 1, none⟩ = some (.slice s.p.a s.p.n s.p.c) ∧ ((((((W.setCell ⟨w.heap.size + 1, 0, none⟩ v0).setCell ⟨w.heap.size + 1, 1, none⟩ v1).setCell ⟨w.heap.size + 1, 2, none⟩ v2).setCell ⟨w.heap.size + 1, 3, none⟩ v3).setCell ⟨w.heap.size + 1, 4, none⟩ v4).setCell ⟨w.heap.size + 1, 5, none⟩ v5).cell? ⟨w.heap.size, 2, none⟩ = some (.slice (s.u 0).a (s.u 0).n (s.u 0).c) ∧ ((((((W.setCell ⟨w.heap.size + 1, 0, none⟩ v0).setCell ⟨w.heap.size + 1, 1, none⟩ v1).setCell ⟨w.heap.size + 1, 2, none⟩ v2).setCell ⟨w.heap.size + 1, 3, none⟩ v3).setCell ⟨w.heap.size + 1, 4, none⟩ v4).setCell ⟨w.heap.size + 1, 5, none⟩ v5).cell? ⟨w.heap.size, 3, none⟩ = some (.slice (s.u 1).a (s.u 1).n (s.u 1).c) ∧ ((((((W.setCell ⟨w.heap.size + 1, 0, none⟩ v0).setCell ⟨w.heap.size + 1, 1, none⟩ v1).setCell ⟨w.heap.size + 1, 2, none⟩ v2).setCell ⟨w.heap.size + 1, 3, none⟩ v3).setCell ⟨w.heap.size + 1, 4, none⟩ v4).setCell ⟨w.heap.size + 1, 5, none⟩ v5).cell? ⟨w.heap.size, 4, none⟩ = some (.slice (s.u 2).a (s.u 2).n (s.u 2).c) ∧ ((((((W.setCell ⟨w.heap.size + 1, 0, none⟩ v0).setCell ⟨w.heap.size + 1, 1, none⟩ v1).setCell ⟨w.heap.size + 1, 2, none⟩ v2).setCell ⟨w.heap.size + 1, 3, none⟩ v3).setCell ⟨w.heap.size + 1, 4, none⟩ v4).setCell ⟨w.heap.size + 1, 5, none⟩ v5).cell? ⟨w.heap.size, 5, none⟩ = some (.slice s.c.a s.c.n s.c.c) := by
  have g := h.1.put v0 v1 v2 v3 v4 v5
  exact ⟨⟨g, trivial⟩, g.box.lt, g.box.c0, g.box.c1, g.box.c2, g.box.c3, g.box.c4, g.box.c5⟩
/-- What has been copied so far, slice by slice. -/
def RowN (w W : World) (v : Ls.Sl) (xs : List Int) : Prop := Row W W.heap.size v.a v.n xs ∧ v.n ≤ v.c ∧ v.c ≤ maxLen ∧ New (w.heap.size + 2) v
theorem RowN.next {v : Ls.Sl} {xs : List Int} (h : RowN w W v xs) (hb : Below W.heap.size W W') : RowN w W' v xs := ⟨(h.1.below hb).more hb.size, h.2⟩
theorem rown_of {v : Ls.Sl} {xs : List Int} (h : Fr w W s) (ho : W'.ownsRow W.heap.size 3 1 (.slice v.a v.n v.c) v.n (xs.map (Value.int .i64))) : RowN w W' v xs := by
  have hl := h.lt
  obtain ⟨h1, h2, h3, _, _⟩ := own_off ho (b := w.heap.size) (by omega)
  refine ⟨h1, h2, h3, fun _ x hx => ?_⟩
  have := (ho.lt x.block (by rw [Ls.ownBlock_slice, hx]; rfl)).1
  omega
def PgN (w W : World) (g n c : Nat) (f : Nat → Int × Int) : Prop := Cl.PRow W W.heap.size (some ⟨g, 0, none⟩) n f ∧ w.heap.size + 2 ≤ g ∧ n ≤ c
theorem PgN.next {g n c : Nat} {f : Nat → Int × Int} (h : PgN w W g n c f) (hb : Below W.heap.size W W') : PgN w W' g n c f := ⟨prow_more (h.1.below hb) hb.size, h.2⟩
theorem pgn_of {g n c : Nat} {f : Nat → Int × Int} {ty : TypeId} (h : Fr w W s) (hm : Cl.PMine W' W.heap.size ty g n c f) : PgN w W' g n c f := by
  have hl := h.lt
  exact ⟨hm.row, by have := hm.2.1; omega, hm.2.2.2.1⟩
def LsN (w W : World) (v : Nat → Ls.Sl) (F : Nat → List Int) : Prop := Ls.L3 W W.heap.size v F ∧ ∀ j, j < 3 → New (w.heap.size + 2) (v j)
theorem LsN.next {v : Nat → Ls.Sl} {F : Nat → List Int} (h : LsN w W v F) (hb : Below W.heap.size W W') : LsN w W' v F := ⟨h.1.next hb, h.2⟩
theorem lsn_of {v : Nat → Ls.Sl} {F : Nat → List Int} (h : Fr w W s) (ho : Ls.Own3 W' W.heap.size v F) : LsN w W' v F := by
  have hl := h.lt
  exact ⟨ho.l3, fun j hj _ x hx => by have := (ho.block j hj hx).1; omega⟩
theorem row_out {n g : Nat} {v : Ls.Sl} {xs : List Int} (h : Row W n v.a v.n xs) (hg : n ≤ g) : Out g v := fun h0 x hx => by
  obtain ⟨b', off, e, hlt, _⟩ := h.2 h0
  rw [hx] at e
  cases e
  show ¬ b' = g
  omega
theorem fresh_end {V : World} {v : Ls.Sl} {vu : Nat → Ls.Sl} {g6 c6 g8 c8 : Nat} (v0 v1 v2 v3 v4 v5 : Value) (hl : Hid (Lens s s ∧ s.w.n = d.ws.length ∧ ∀ j, j < 3 → (s.u j).n = (d.F j).length)) (hF : Fr w W s) (hV : Fr w V s) (hr' : RowN w V v d.ws) (hp' : PgN w V g6 s.p.n c6 d.f) (hu' : LsN w V vu d.F) (hb : Below V.heap.size V W) (hc : ∀ i, i < s.c.n → W.cell? ⟨g8, i, none⟩ = some (.bool (d.cs i))) (hz : ∀ i, W.frozen? ⟨g8, i, none⟩ = false) (hg8 : V.heap.size ≤ g8 ∧ g8 < W.heap.size) :
    FreshOut w s d (.returned (.agg #[.slice (⟨v, ⟨some ⟨g6, 0, none⟩, s.p.n, c6⟩, vu, ⟨some ⟨g8, 0, none⟩, s.c.n, c8⟩⟩ : Hs).w.a (⟨v, ⟨some ⟨g6, 0, none⟩, s.p.n, c6⟩, vu, ⟨some ⟨g8, 0, none⟩, s.c.n, c8⟩⟩ : Hs).w.n (⟨v, ⟨some ⟨g6, 0, none⟩, s.p.n, c6⟩, vu, ⟨some ⟨g8, 0, none⟩, s.c.n, c8⟩⟩ : Hs).w.c, .slice (⟨v, ⟨some ⟨g6, 0, none⟩, s.p.n, c6⟩, vu, ⟨some ⟨g8, 0, none⟩, s.c.n, c8⟩⟩ : Hs).p.a (⟨v, ⟨some ⟨g6, 0, none⟩, s.p.n, c6⟩, vu, ⟨some ⟨g8, 0, none⟩, s.c.n, c8⟩⟩ : Hs).p.n (⟨v, ⟨some ⟨g6, 0, none⟩, s.p.n, c6⟩, vu, ⟨some ⟨g8, 0, none⟩, s.c.n, c8⟩⟩ : Hs).p.c, .slice ((⟨v, ⟨some ⟨g6, 0, none⟩, s.p.n, c6⟩, vu, ⟨some ⟨g8, 0, none⟩, s.c.n, c8⟩⟩ : Hs).u 0).a ((⟨v, ⟨some ⟨g6, 0, none⟩, s.p.n, c6⟩, vu, ⟨some ⟨g8, 0, none⟩, s.c.n, c8⟩⟩ : Hs).u 0).n ((⟨v, ⟨some ⟨g6, 0, none⟩, s.p.n, c6⟩, vu, ⟨some ⟨g8, 0, none⟩, s.c.n, c8⟩⟩ : Hs).u 0).c, .slice ((⟨v, ⟨some ⟨g6, 0, none⟩, s.p.n, c6⟩, vu, ⟨some ⟨g8, 0, none⟩, s.c.n, c8⟩⟩ : Hs).u 1).a ((⟨v, ⟨some ⟨g6, 0, none⟩, s.p.n, c6⟩, vu, ⟨some ⟨g8, 0, none⟩, s.c.n, c8⟩⟩ : Hs).u 1).n ((⟨v, ⟨some ⟨g6, 0, none⟩, s.p.n, c6⟩, vu, ⟨some ⟨g8, 0, none⟩, s.c.n, c8⟩⟩ : Hs).u 1).c, .slice ((⟨v, ⟨some ⟨g6, 0, none⟩, s.p.n, c6⟩, vu, ⟨some ⟨g8, 0, none⟩, s.c.n, c8⟩⟩ : Hs).u 2).a ((⟨v, ⟨some ⟨g6, 0, none⟩, s.p.n, c6⟩, vu, ⟨some ⟨g8, 0, none⟩, s.c.n, c8⟩⟩ : Hs).u 2).n ((⟨v, ⟨some ⟨g6, 0, none⟩, s.p.n, c6⟩, vu, ⟨some ⟨g8, 0, none⟩, s.c.n, c8⟩⟩ : Hs).u 2).c, .slice (⟨v, ⟨some ⟨g6, 0, none⟩, s.p.n, c6⟩, vu, ⟨some ⟨g8, 0, none⟩, s.c.n, c8⟩⟩ : Hs).c.a (⟨v, ⟨some ⟨g6, 0, none⟩, s.p.n, c6⟩, vu, ⟨some ⟨g8, 0, none⟩, s.c.n, c8⟩⟩ : Hs).c.n (⟨v, ⟨some ⟨g6, 0, none⟩, s.p.n, c6⟩, vu, ⟨some ⟨g8, 0, none⟩, s.c.n, c8⟩⟩ : Hs).c.c])) (put6 W (w.heap.size + 1) v0 v1 v2 v3 v4 v5) := by
  have hr := hr'.next hb
  have hp := hp'.next hb
  have hu := hu'.next hb
  have hg2 : w.heap.size + 2 ≤ g8 := by have := hV.lt; omega
  have hn : News (w.heap.size + 2) ⟨v, ⟨some ⟨g6, 0, none⟩, s.p.n, c6⟩, vu, ⟨some ⟨g8, 0, none⟩, s.c.n, c8⟩⟩ := ⟨hr.2.2.2, fun _ x hx => by cases hx; exact hp.2.1, hu.2, fun _ x hx => by cases hx; exact hg2⟩
  have hW : Hp W W.heap.size ⟨v, ⟨some ⟨g6, 0, none⟩, s.p.n, c6⟩, vu, ⟨some ⟨g8, 0, none⟩, s.c.n, c8⟩⟩ d := ⟨hr.1, hp.1, hu.1, fun _ => ⟨g8, 0, rfl, hg8.2, fun i hi => by rw [Nat.zero_add]; exact hc i hi⟩⟩
  refine ⟨⟨v, ⟨some ⟨g6, 0, none⟩, s.p.n, c6⟩, vu, ⟨some ⟨g8, 0, none⟩, s.c.n, c8⟩⟩, rfl, hn.kept hW (fun k h1 _ => put6_other _ _ _ _ _ _ _ _ (by omega)) (by rw [put6_size]; exact Nat.le_refl _), ⟨?_, rfl, fun j hj => ?_, rfl⟩, ?_, hp.2.2, below_put6 hF.bel (by omega) _ _ _ _ _ _, g8, c8, rfl, fun i => (World.frozen?_of_block (a := ⟨g8, i, none⟩) (put6_other _ _ _ _ _ _ _ _ (show ¬ g8 = w.heap.size + 1 by omega))).trans (hz i), hg2, by rw [put6_size]; exact hg8.2, row_out hr'.1 hg8.1, ?_, fun j hj => row_out (hu'.1 j hj).1 hg8.1⟩
  · have h1 := hr.1.1
    have h2 := hl.out.2.1
    show v.n = _
    omega
  · have h1 := hu.1.len j hj
    have h2 := hl.out.2.2 j hj
    show (vu j).n = _
    omega
  · exact ⟨fun h0 x hx => by have := hn.w h0 x hx; omega, fun h0 x hx => by have := hn.p h0 x hx; omega, fun j hj h0 x hx => by have := hn.u j hj h0 x hx; omega, fun h0 x hx => by have := hn.c h0 x hx; omega⟩
  · intro h0 x hx
    obtain ⟨b', off, e, hlt, _⟩ := hp'.1 h0
    dsimp only at hx
    rw [hx] at e
    cases e
    show ¬ b' = g8
    omega
end
theorem res_fresh {W : World} {b : Nat} {tm : Array Value} {v0 v1 v2 v3 v4 v5 : Value} (ht : tm[2]? = some (.pointer (some ⟨b, 0, none⟩))) (k0 : W.cell? ⟨b, 0, none⟩ = some v0) (k1 : W.cell? ⟨b, 1, none⟩ = some v1) (k2 : W.cell? ⟨b, 2, none⟩ = some v2) (k3 : W.cell? ⟨b, 3, none⟩ = some v3) (k4 : W.cell? ⟨b, 4, none⟩ = some v4) (k5 : W.cell? ⟨b, 5, none⟩ = some v5) :
    (results Tryz.f42 tm).run Tryz.prog W = .ok (.agg #[v0, v1, v2, v3, v4, v5]) W := by
  simp [results, Tryz.results42, go_sem, ht, k0, k1, k2, k3, k4, k5]
theorem put6_ex {w W : World} {s : Hs} (h : Fr w W s) (v0 v1 v2 v3 v4 v5 : Value) :
    (put6 W (w.heap.size + 1) v0 v1 v2 v3 v4 v5).cell? ⟨w.heap.size + 1, 0, none⟩ = some v0 ∧ (put6 W (w.heap.size + 1) v0 v1 v2 v3 v4 v5).cell? ⟨w.heap.size + 1, 1, none⟩ = some v1 ∧ (put6 W (w.heap.size + 1) v0 v1 v2 v3 v4 v5).cell? ⟨w.heap.size + 1, 2, none⟩ = some v2 ∧
    (put6 W (w.heap.size + 1) v0 v1 v2 v3 v4 v5).cell? ⟨w.heap.size + 1, 3, none⟩ = some v3 ∧ (put6 W (w.heap.size + 1) v0 v1 v2 v3 v4 v5).cell? ⟨w.heap.size + 1, 4, none⟩ = some v4 ∧ (put6 W (w.heap.size + 1) v0 v1 v2 v3 v4 v5).cell? ⟨w.heap.size + 1, 5, none⟩ = some v5 := by
  obtain ⟨x0, h0⟩ := h.res 0 (by decide)
  obtain ⟨x1, h1⟩ := h.res 1 (by decide)
  obtain ⟨x2, h2⟩ := h.res 2 (by decide)
  obtain ⟨x3, h3⟩ := h.res 3 (by decide)
  obtain ⟨x4, h4⟩ := h.res 4 (by decide)
  obtain ⟨x5, h5⟩ := h.res 5 (by decide)
  exact ⟨by simp [put6, go_sem, h0], by simp [put6, go_sem, h1], by simp [put6, go_sem, h2], by simp [put6, go_sem, h3], by simp [put6, go_sem, h4], by simp [put6, go_sem, h5]⟩
set_option maxHeartbeats 4000000 in
theorem fresh_any (s : Hs) (d : Hd_) (w : World) (hp : Hp w w.heap.size s d) (hf : Fine s d) (hfb : firstB s d = true) : Calls Tryz.prog 42 #[(.agg #[.slice s.w.a s.w.n s.w.c, .slice s.p.a s.p.n s.p.c, .slice (s.u 0).a (s.u 0).n (s.u 0).c, .slice (s.u 1).a (s.u 1).n (s.u 1).c, .slice (s.u 2).a (s.u 2).n (s.u 2).c, .slice s.c.a s.c.n s.c.c])] w (FreshOut w s d) := by
  have hpos : 0 < s.p.n ∧ 0 < s.c.n := by
    unfold firstB at hfb
    simp only [Bool.and_eq_true, decide_eq_true_eq] at hfb
    have := ((Cl.mayB_iff _ _).1 hfb.2.1).1
    omega
  have hun : ∀ j, j < 3 → (s.u j).n ≤ 2000000 := fun j hj => by
    have h1 := hf.len
    rw [show (Ls.upTo d.F 3).length = (d.F 0).length + (d.F 1).length + (d.F 2).length by simp [Ls.upTo, List.range_succ]; omega] at h1
    have h2 := hp.free.len j hj
    rcases (show j = 0 ∨ j = 1 ∨ j = 2 by omega) with rfl | rfl | rfl <;> omega
  have C1 := Lib.hid (fun W (h : Below w.heap.size w W) => iclone_any w.heap.size s.w.a s.w.n s.w.c d.ws W (by have := hf.wn; omega) h.size (hp.words.below h))
  have C2 := Lib.hid (fun W (h : Below w.heap.size w W) => Cl.pclone_ok w.heap.size s.p.a s.p.n s.p.c d.f W hpos.1 (by have := hf.pn; omega) (hp.pages.below h))
  have C3 := Lib.hid (fun W (h : Below w.heap.size w W) => Ls.aown_any w.heap.size s.u d.F W (hp.free.below h) h.size hun)
  have C4 := Lib.hid (fun W (h : Below w.heap.size w W) => bclone_ok w.heap.size s.c.a s.c.n s.c.c d.cs W hpos.2 (by have := hf.cn; omega) (hp.cards.below h))
  have HL : Hid (Lens s s ∧ s.w.n = d.ws.length ∧ ∀ j, j < 3 → (s.u j).n = (d.F j).length) := Lib.hid ⟨⟨rfl, rfl, fun _ _ => rfl, rfl⟩, hp.words.1.symm, hp.free.len⟩
  clear hp hf hfb hpos hun
  go_enter Tryz.func42, Tryz.ntmps42
  go_wp2_with fail
  obtain ⟨W0, hW0⟩ : ∃ W0, W0 = (w.alloc (.cells #[.slice s.w.a s.w.n s.w.c, .slice s.p.a s.p.n s.p.c, .slice (s.u 0).a (s.u 0).n (s.u 0).c, .slice (s.u 1).a (s.u 1).n (s.u 1).c, .slice (s.u 2).a (s.u 2).n (s.u 2).c, .slice s.c.a s.c.n s.c.c] 28)).alloc (.cells #[.slice none 0 0, .slice none 0 0, .slice none 0 0, .slice none 0 0, .slice none 0 0, .slice none 0 0] 28) := ⟨_, rfl⟩
  have K0 := Lib.hid (And.intro (fr_start hW0) True.intro)
  rw [← hW0]
  clear hW0
  go_region_held3 (fun W => (Fr w W s ∧ True) ∧ w.heap.size < W.heap.size ∧ W.cell? ⟨w.heap.size, 0, none⟩ = some (.slice s.w.a s.w.n s.w.c) ∧ W.cell? ⟨w.heap.size, 1, none⟩ = some (.slice s.p.a s.p.n s.p.c) ∧ W.cell? ⟨w.heap.size, 2, none⟩ = some (.slice (s.u 0).a (s.u 0).n (s.u 0).c) ∧ W.cell? ⟨w.heap.size, 3, none⟩ = some (.slice (s.u 1).a (s.u 1).n (s.u 1).c) ∧ W.cell? ⟨w.heap.size, 4, none⟩ = some (.slice (s.u 2).a (s.u 2).n (s.u 2).c) ∧ W.cell? ⟨w.heap.size, 5, none⟩ = some (.slice s.c.a s.c.n s.c.c)) (first
    | with_reducible exact fr_put (‹(Fr w _ s ∧ _) ∧ _›).1 _ _ _ _ _ _
    | with_reducible exact fr_keep (‹(Fr w _ s ∧ _) ∧ _›).1 ‹Below _ _ _›
    | with_reducible exact fr_keep K0.out (Below.refl _ _)
    | exact fr_keep K0.out (below_drawn' (Below.refl _ _) 1)) (first
    | ((go_at_call 89; refine (C1.out _ (‹(Fr w _ s ∧ _) ∧ _›).1.1.bel).mono ?_; rintro e w5 ⟨v5, rfl, ho5, hb5⟩; have R5 := Lib.hid (rown_of (‹(Fr w _ s ∧ _) ∧ _›).1.1 ho5); clear ho5))
    | ((go_at_call 90; refine (C2.out _ (‹(Fr w _ s ∧ _) ∧ _›).1.1.bel).mono ?_; rintro e w6 ⟨g6, c6, rfl, hm6, hb6⟩; have R6 := Lib.hid (And.intro (R5.out.next hb6) (pgn_of (‹(Fr w _ s ∧ _) ∧ _›).1.1 hm6)); clear hm6))
    | ((go_at_call 43; refine (C3.out _ (‹(Fr w _ s ∧ _) ∧ _›).1.1.bel).mono ?_; rintro e w7 ⟨v7, rfl, ho7, hb7⟩; have R7 := Lib.hid (And.intro (R6.out.1.next hb7) (And.intro (R6.out.2.next hb7) (lsn_of (‹(Fr w _ s ∧ _) ∧ _›).1.1 ho7))); clear ho7))
    | ((go_at_call 91; refine (C4.out _ (‹(Fr w _ s ∧ _) ∧ _›).1.1.bel).mono ?_; rintro e w8 ⟨g8, c8, rfl, hm8, hz8, hg8, hl8, hb8⟩; have F8 := Lib.hid ((‹(Fr w _ s ∧ _) ∧ _›).1.1.next hb8); have F7 := Lib.hid (‹(Fr w w7 s ∧ _) ∧ _›).1.1; have R8 := Lib.hid (And.intro R7.out (And.intro hb8 (And.intro hm8 (And.intro hz8 (And.intro hg8 hl8))))); obtain ⟨x0, h0⟩ := F8.out.res 0 (by decide); obtain ⟨x1, h1⟩ := F8.out.res 1 (by decide); obtain ⟨x2, h2⟩ := F8.out.res 2 (by decide); obtain ⟨x3, h3⟩ := F8.out.res 3 (by decide); obtain ⟨x4, h4⟩ := F8.out.res 4 (by decide); obtain ⟨x5, h5⟩ := F8.out.res 5 (by decide); have y0 := F8.out.free 0; have y1 := F8.out.free 1; have y2 := F8.out.free 2; have y3 := F8.out.free 3; have y4 := F8.out.free 4; have y5 := F8.out.free 5; have yl := F8.out.lt; clear hm8 hz8 hg8 hl8)))
  go_wp2
  refine bodyPost_ret (v := (.agg #[.slice (⟨v5, ⟨some ⟨g6, 0, none⟩, s.p.n, c6⟩, v7, ⟨some ⟨g8, 0, none⟩, s.c.n, c8⟩⟩ : Hs).w.a (⟨v5, ⟨some ⟨g6, 0, none⟩, s.p.n, c6⟩, v7, ⟨some ⟨g8, 0, none⟩, s.c.n, c8⟩⟩ : Hs).w.n (⟨v5, ⟨some ⟨g6, 0, none⟩, s.p.n, c6⟩, v7, ⟨some ⟨g8, 0, none⟩, s.c.n, c8⟩⟩ : Hs).w.c, .slice (⟨v5, ⟨some ⟨g6, 0, none⟩, s.p.n, c6⟩, v7, ⟨some ⟨g8, 0, none⟩, s.c.n, c8⟩⟩ : Hs).p.a (⟨v5, ⟨some ⟨g6, 0, none⟩, s.p.n, c6⟩, v7, ⟨some ⟨g8, 0, none⟩, s.c.n, c8⟩⟩ : Hs).p.n (⟨v5, ⟨some ⟨g6, 0, none⟩, s.p.n, c6⟩, v7, ⟨some ⟨g8, 0, none⟩, s.c.n, c8⟩⟩ : Hs).p.c, .slice ((⟨v5, ⟨some ⟨g6, 0, none⟩, s.p.n, c6⟩, v7, ⟨some ⟨g8, 0, none⟩, s.c.n, c8⟩⟩ : Hs).u 0).a ((⟨v5, ⟨some ⟨g6, 0, none⟩, s.p.n, c6⟩, v7, ⟨some ⟨g8, 0, none⟩, s.c.n, c8⟩⟩ : Hs).u 0).n ((⟨v5, ⟨some ⟨g6, 0, none⟩, s.p.n, c6⟩, v7, ⟨some ⟨g8, 0, none⟩, s.c.n, c8⟩⟩ : Hs).u 0).c, .slice ((⟨v5, ⟨some ⟨g6, 0, none⟩, s.p.n, c6⟩, v7, ⟨some ⟨g8, 0, none⟩, s.c.n, c8⟩⟩ : Hs).u 1).a ((⟨v5, ⟨some ⟨g6, 0, none⟩, s.p.n, c6⟩, v7, ⟨some ⟨g8, 0, none⟩, s.c.n, c8⟩⟩ : Hs).u 1).n ((⟨v5, ⟨some ⟨g6, 0, none⟩, s.p.n, c6⟩, v7, ⟨some ⟨g8, 0, none⟩, s.c.n, c8⟩⟩ : Hs).u 1).c, .slice ((⟨v5, ⟨some ⟨g6, 0, none⟩, s.p.n, c6⟩, v7, ⟨some ⟨g8, 0, none⟩, s.c.n, c8⟩⟩ : Hs).u 2).a ((⟨v5, ⟨some ⟨g6, 0, none⟩, s.p.n, c6⟩, v7, ⟨some ⟨g8, 0, none⟩, s.c.n, c8⟩⟩ : Hs).u 2).n ((⟨v5, ⟨some ⟨g6, 0, none⟩, s.p.n, c6⟩, v7, ⟨some ⟨g8, 0, none⟩, s.c.n, c8⟩⟩ : Hs).u 2).c, .slice (⟨v5, ⟨some ⟨g6, 0, none⟩, s.p.n, c6⟩, v7, ⟨some ⟨g8, 0, none⟩, s.c.n, c8⟩⟩ : Hs).c.a (⟨v5, ⟨some ⟨g6, 0, none⟩, s.p.n, c6⟩, v7, ⟨some ⟨g8, 0, none⟩, s.c.n, c8⟩⟩ : Hs).c.n (⟨v5, ⟨some ⟨g6, 0, none⟩, s.p.n, c6⟩, v7, ⟨some ⟨g8, 0, none⟩, s.c.n, c8⟩⟩ : Hs).c.c])) ?_ rfl (fresh_end _ _ _ _ _ _ HL F8.out F7.out R8.out.1.1 R8.out.1.2.1 R8.out.1.2.2 R8.out.2.1 R8.out.2.2.1 R8.out.2.2.2.1 R8.out.2.2.2.2)
  obtain ⟨k0, k1, k2, k3, k4, k5⟩ := put6_ex F8.out (.slice v5.a v5.n v5.c) (.slice (some ⟨g6, 0, none⟩) s.p.n c6) (.slice (v7 0).a (v7 0).n (v7 0).c) (.slice (v7 1).a (v7 1).n (v7 1).c) (.slice (v7 2).a (v7 2).n (v7 2).c) (.slice (some ⟨g8, 0, none⟩) s.c.n c8)
  exact res_fresh rfl k0 k1 k2 k3 k4 k5
end Go.Proofs.YtmalopciboikhaaGreatDoor
end
section
namespace Go.Proofs.YtmalopciboikhaaGreatDoor
open Go.RowKit
set_option maxRecDepth 100000

/-- The box that a call holds its heap in, and its result's. -/
structure Rr (w W : World) (t : Hs) (d : Hd_) : Prop where
  ro : Ro w W w.heap.size t d
  rm : Rm W (w.heap.size + 1) noHs
section
variable {w W W' : World} {t : Hs} {d : Hd_}
theorem Rr.next (h : Rr w W t d) (hb : Below W.heap.size W W') : Rr w W' t d := ⟨h.ro.next hb, h.rm.next hb⟩
theorem Rr.drew (h : Rr w W t d) : Rr w W.drew t d := h.next (below_drawn' (Below.refl _ _) 1)
theorem Rr.words (h : Rr w W t d) (v : Ls.Sl) (ws : List Int) (hr : Row W W.heap.size v.a v.n ws) : Rr w (W.setCell ⟨w.heap.size, 0, none⟩ (.slice v.a v.n v.c)) ⟨v, t.p, t.u, t.c⟩ ⟨ws, d.f, d.F, d.cs⟩ := ⟨h.ro.words v ws hr, h.rm.same (set_others _ (by omega)) (Nat.le_of_eq set_size.symm)⟩
theorem Rr.pages (h : Rr w W t d) (v : Ls.Sl) (f : Nat → Int × Int) (hr : Cl.PRow W W.heap.size v.a v.n f) : Rr w (W.setCell ⟨w.heap.size, 1, none⟩ (.slice v.a v.n v.c)) ⟨t.w, v, t.u, t.c⟩ ⟨d.ws, f, d.F, d.cs⟩ := ⟨h.ro.pages v f hr, h.rm.same (set_others _ (by omega)) (Nat.le_of_eq set_size.symm)⟩
theorem Rr.cards (h : Rr w W t d) (v : Ls.Sl) (cs : Nat → Bool) (hr : BRow W W.heap.size v.a v.n cs) : Rr w (W.setCell ⟨w.heap.size, 5, none⟩ (.slice v.a v.n v.c)) ⟨t.w, t.p, t.u, v⟩ ⟨d.ws, d.f, d.F, cs⟩ := ⟨h.ro.cards v cs hr, h.rm.same (set_others _ (by omega)) (Nat.le_of_eq set_size.symm)⟩
theorem Rr.free3 (h : Rr w W t d) (v : Nat → Ls.Sl) (F : Nat → List Int) (hl : Ls.L3 W W.heap.size v F) : Rr w (((W.setCell ⟨w.heap.size, 2, none⟩ (.slice (v 0).a (v 0).n (v 0).c)).setCell ⟨w.heap.size, 3, none⟩ (.slice (v 1).a (v 1).n (v 1).c)).setCell ⟨w.heap.size, 4, none⟩ (.slice (v 2).a (v 2).n (v 2).c)) ⟨t.w, t.p, v, t.c⟩ ⟨d.ws, d.f, F, d.cs⟩ := ⟨h.ro.free3 v F hl, h.rm.same (set3_others _ (by omega)) (by simp)⟩
theorem rr_start {s : Hs} {t1 t2 : TypeId} (hp : Hp w w.heap.size s d) (hW : W = (w.alloc (.cells #[.slice s.w.a s.w.n s.w.c, .slice s.p.a s.p.n s.p.c, .slice (s.u 0).a (s.u 0).n (s.u 0).c, .slice (s.u 1).a (s.u 1).n (s.u 1).c, .slice (s.u 2).a (s.u 2).n (s.u 2).c, .slice s.c.a s.c.n s.c.c] t1)).alloc (.cells #[.slice none 0 0, .slice none 0 0, .slice none 0 0, .slice none 0 0, .slice none 0 0, .slice none 0 0] t2)) : Rr w W s d := ⟨(two_rooms hp hW).1, (two_rooms hp hW).2⟩
theorem row_next {n : Nat} {a : Option Addr} {xs : List Int} (h : Row W W.heap.size a n xs) (hb : Below W.heap.size W W') : Row W' W'.heap.size a n xs := (h.below hb).more hb.size
theorem prow_set {b k : Nat} {v : Value} {n : Nat} {a : Option Addr} {f : Nat → Int × Int} (hS : Slices W b) (h : Cl.PRow W W.heap.size a n f) : Cl.PRow (W.setCell ⟨b, k, none⟩ v) (W.setCell ⟨b, k, none⟩ v).heap.size a n f := fun hn => by
  obtain ⟨b', off, e, hlt, hc⟩ := h hn
  rw [set_size]
  refine ⟨b', off, e, hlt, fun i hi => ?_⟩
  have hb' := set_others (W := W) (b := b) (k := k) (v := v) b' (hS.prow h hn _ e)
  exact ⟨(World.cell?_of_block (a := ⟨b', off + i * 2, none⟩) hb').trans (hc i hi).1, (World.cell?_of_block (a := ⟨b', off + i * 2 + 1, none⟩) hb').trans (hc i hi).2⟩
theorem brow_set {b k : Nat} {v : Value} {n : Nat} {a : Option Addr} {f : Nat → Bool} (hS : Slices W b) (h : BRow W W.heap.size a n f) : BRow (W.setCell ⟨b, k, none⟩ v) (W.setCell ⟨b, k, none⟩ v).heap.size a n f := fun hn => by
  obtain ⟨b', off, e, hlt, hc⟩ := h hn
  rw [set_size]
  exact ⟨b', off, e, hlt, fun i hi => (World.cell?_of_block (a := ⟨b', off + i, none⟩) (set_others (W := W) (b := b) (k := k) (v := v) b' (hS.brow h hn _ e))).trans (hc i hi)⟩
/-- Words, pages and cards are stored at once. -/
theorem Rr.three (h : Rr w W t d) (vw vp vc : Ls.Sl) (hw : Row W W.heap.size vw.a vw.n d.ws) (hp : Cl.PRow W W.heap.size vp.a vp.n d.f) (hc : BRow W W.heap.size vc.a vc.n d.cs) :
    Rr w (((W.setCell ⟨w.heap.size, 0, none⟩ (.slice vw.a vw.n vw.c)).setCell ⟨w.heap.size, 1, none⟩ (.slice vp.a vp.n vp.c)).setCell ⟨w.heap.size, 5, none⟩ (.slice vc.a vc.n vc.c)) ⟨vw, vp, t.u, vc⟩ d := by
  have h1 := h.words vw d.ws hw
  have h2 := h1.pages vp d.f (prow_set h.ro.rm.sl hp)
  exact h2.cards vc d.cs (brow_set h1.ro.rm.sl (brow_set h.ro.rm.sl hc))
end
theorem rcopied_any (s : Hs) (d : Hd_) (w : World) (hp : Hp w w.heap.size s d) (hf : Fine s d) (hfb : firstB s d = true) : Calls Tryz.prog 42 #[(.agg #[.slice s.w.a s.w.n s.w.c, .slice s.p.a s.p.n s.p.c, .slice (s.u 0).a (s.u 0).n (s.u 0).c, .slice (s.u 1).a (s.u 1).n (s.u 1).c, .slice (s.u 2).a (s.u 2).n (s.u 2).c, .slice s.c.a s.c.n s.c.c])] w (RoOut w s d) :=
  (fresh_any s d w hp hf hfb).mono fun _ _ ⟨t, h1, h2, h3, _, _, h6, _⟩ => ⟨t, h1, h2, ⟨h3.1, h3.2.1, h3.2.2.2⟩, h6⟩
end Go.Proofs.YtmalopciboikhaaGreatDoor
end
section
namespace Go.Proofs.YtmalopciboikhaaGreatDoor
open Go.RowKit
set_option maxRecDepth 100000

def behind (F : Nat → Nat → List Int) : Nat → Nat → List Int := fun i => F (i + 1)
theorem allOf_ahead0 (g : Nat → List Int) (R : Nat → Nat → List Int) (m : Nat) : Ls.allOf (ahead g (ahead Ls.noLists R)) (1 + (1 + m)) = Ls.allOf (ahead g R) (1 + m) := by
  rw [ahead_all, ahead_all, ahead_all]
  simp [Ls.upTo, Ls.noLists]
theorem freeAll_ahead0 (d : Hd_) (n : Nat) (R : Nat → Nat → List Int) (m : Nat) : freeAll d n (1 + (1 + m)) (ahead d.F (ahead Ls.noLists R)) = freeAll d n (1 + m) (ahead d.F R) := by
  rw [Bool.eq_iff_iff]
  unfold freeAll
  simp only [List.all_eq_true, List.mem_range]
  constructor
  · intro h k hk j hj
    cases k with
    | zero => exact h 0 (by omega) j hj
    | succ k => exact h (k + 2) (by omega) j hj
  · intro h k hk j hj x hx
    match k, hk, hx with
    | 0, _, hx => exact h 0 (by omega) j hj x hx
    | 1, _, hx => cases hx
    | k + 2, hk, hx => exact h (k + 1) (by omega) j hj x hx
theorem may_nil (s : Hs) (d : Hd_) (m : Nat) (R : Nat → Nat → List Int) : mayH s d (1 + m) (ahead Ls.noLists R) = mayH s d m R := by
  unfold mayH
  rw [allOf_ahead0, freeAll_ahead0]
theorem may0_iff {s : Hs} {d : Hd_} {m : Nat} {R : Nat → Nat → List Int} : mayH s d m R = true ↔ firstB s d = true ∧ Okay s.p.n d Ls.noLists m R := by rw [← may_nil, okay_iff]
theorem head_is {s : Hs} {d : Hd_} {a : Int} (h : headE s d a = 0) : mayB0 s d = true ∧ ¬ Cl.bg d.f s.p.n a = 0 ∧ ¬ wd d a = 0 := by
  unfold headE at h
  split at h
  · omega
  · next h1 =>
    split at h
    · omega
    · next h2 => exact ⟨by simpa using h1, fun e => h2 (.inl e), fun e => h2 (.inr e)⟩
section
variable {s t : Hs} {d : Hd_} {a : Int} {m : Nat} {F : Nat → Nat → List Int}
theorem words_fit (hws : d.ws.length = s.w.n) (hm : mayB0 s d = true) : d.ws.length = 16 * s.p.n := by rw [hws, (fit_first (mayH_all hm).1).wp]
theorem freed_is (hws : d.ws.length = s.w.n) (h : headE s d a = 0) : Freed s.p.n d a (freedD d s.p.n a) := by
  obtain ⟨h0, h1, h2⟩ := head_is h
  exact freed (may0_iff.1 h0).2 h1 h2 (words_fit hws h0)
theorem freed_may (hws : d.ws.length = s.w.n) (h : headE s d a = 0) (hl : Same3 s t) (hm : mayH s d m F = true) : mayH t (freedD d s.p.n a) m F = true := by
  have T := freed_is hws h
  obtain ⟨h1, h2⟩ := may0_iff.1 hm
  have h3 := T.okay _ _ _ h2
  exact may0_iff.2 ⟨firstB_of h1 h3.may hl.1 hl.2.1 hl.2.2, by rw [hl.2.1]; exact h3⟩
theorem freed_may0 (hws : d.ws.length = s.w.n) (h : headE s d a = 0) (hl : Same3 s t) : mayB0 t (freedD d s.p.n a) = true := freed_may hws h hl (head_is h).1
end
/-- How pages change behind flushTo: each by itself. -/
def giv (d : Hd_) (m : Nat) (j : Nat) (x : Int) : Bool := decide ((x / 16 - 1).toNat < m ∧ 16 ≤ x) && (givenB d (x / 16 - 1).toNat && decide ((d.f (x / 16 - 1).toNat).2.toNat = j))
theorem giv_range {d : Hd_} {m j p : Nat} {x : Int} (hx : 16 + 16 * (p : Int) ≤ x ∧ x < 32 + 16 * (p : Int)) (hp : m ≤ p) : giv d m j x = false := by
  unfold giv
  rw [decide_eq_false (by omega)]
  rfl
structure Flushed (d : Hd_) (m : Nat) (d' : Hd_) : Prop where
  f : ∀ p, d'.f p = if p < m ∧ givenB d p = true then (0, 0) else d.f p
  F : ∀ j, d'.F j = (d.F j).filter fun x => !giv d m j x
theorem filter_in {d : Hd_} {m p k : Nat} (hp : m ≤ p) (xs : List Int) : Ls.inOf (16 + 16 * (p : Int)) (32 + 16 * (p : Int)) (xs.filter fun x => !giv d m k x) = Ls.inOf (16 + 16 * (p : Int)) (32 + 16 * (p : Int)) xs := by
  unfold Ls.inOf
  rw [List.filter_filter]
  refine List.filter_congr fun x _ => ?_
  cases h : Ls.isIn (16 + 16 * (p : Int)) (32 + 16 * (p : Int)) x
  · rfl
  · rw [giv_range (isIn_iff.1 h) hp]
    rfl
theorem Flushed.given {d d' : Hd_} {m p : Nat} (h : Flushed d m d') (hp : m ≤ p) : d'.f p = d.f p ∧ onFree d' p = onFree d p ∧ givenB d' p = givenB d p := by
  have e1 : d'.f p = d.f p := by rw [h.f, if_neg (by omega)]
  have e2 : onFree d' p = onFree d p := by unfold onFree; rw [e1, h.F, filter_in hp]
  exact ⟨e1, e2, by unfold givenB; rw [e1, e2]⟩
theorem giv_succ (d : Hd_) (m j : Nat) (x : Int) : giv d (m + 1) j x = (giv d m j x || (Ls.isIn (16 + 16 * (m : Int)) (32 + 16 * (m : Int)) x && (givenB d m && decide ((d.f m).2.toNat = j)))) := by
  by_cases hx : 16 ≤ x
  · by_cases e : (x / 16 - 1).toNat = m
    · have h1 : Ls.isIn (16 + 16 * (m : Int)) (32 + 16 * (m : Int)) x = true := isIn_iff.2 ((page_range hx).1 e)
      rw [giv_range ((page_range hx).1 e) (Nat.le_refl _), h1]
      unfold giv
      rw [e, decide_eq_true (by omega)]
      simp
    · have h1 : Ls.isIn (16 + 16 * (m : Int)) (32 + 16 * (m : Int)) x = false := by rw [Bool.eq_false_iff, ne_eq, isIn_iff]; exact fun hc => e ((page_range hx).2 hc)
      rw [h1]
      unfold giv
      by_cases h2 : (x / 16 - 1).toNat < m
      · rw [decide_eq_true (show (x / 16 - 1).toNat < m + 1 ∧ 16 ≤ x by omega), decide_eq_true (show (x / 16 - 1).toNat < m ∧ 16 ≤ x by omega)]
        simp
      · rw [decide_eq_false (show ¬ ((x / 16 - 1).toNat < m + 1 ∧ 16 ≤ x) by omega), decide_eq_false (show ¬ ((x / 16 - 1).toNat < m ∧ 16 ≤ x) by omega)]
        simp
  · have h1 : Ls.isIn (16 + 16 * (m : Int)) (32 + 16 * (m : Int)) x = false := by rw [Bool.eq_false_iff, ne_eq, isIn_iff]; omega
    rw [h1]
    unfold giv
    rw [decide_eq_false (show ¬ ((x / 16 - 1).toNat < m + 1 ∧ 16 ≤ x) by omega), decide_eq_false (show ¬ ((x / 16 - 1).toNat < m ∧ 16 ≤ x) by omega)]
    simp
theorem flushed (d : Hd_) : ∀ m, Flushed d m (flushTo d m)
  | 0 => ⟨fun p => by rw [if_neg (by omega)]; rfl, fun j => by
      show d.F j = _
      refine (List.filter_eq_self.2 fun x _ => ?_).symm
      unfold giv
      rw [decide_eq_false (by omega)]
      rfl⟩
  | m + 1 => by
    have h := flushed d m
    obtain ⟨e1, e2, e3⟩ := h.given (Nat.le_refl m)
    show Flushed d (m + 1) (backD (flushTo d m) m)
    unfold backD
    rw [e3]
    split
    · next hg =>
      have hk := (given_parts hg).1
      have hk' : ((flushTo d m).f m).1 = 1 := by rw [e1]; exact hk
      refine ⟨fun p => ?_, fun j => ?_⟩
      · by_cases e : p = m
        · subst e
          rw [if_pos ⟨by omega, hg⟩]
          exact drop_self hk'
        · rw [show (gaveD (flushTo d m) m).f p = (flushTo d m).f p from drop_one hk' e, h.f]
          by_cases hc : p < m ∧ givenB d p = true
          · rw [if_pos hc, if_pos ⟨by omega, hc.2⟩]
          · rw [if_neg hc, if_neg fun hc2 => hc ⟨by omega, hc2.2⟩]
      · show Ls.upd (flushTo d m).F _ _ j = _
        rw [e1]
        by_cases ej : j = (d.f m).2.toNat
        · subst ej
          rw [Ls.upd_same, h.F]
          unfold Ls.outOf
          rw [List.filter_filter]
          refine List.filter_congr fun x _ => ?_
          rw [giv_succ, hg]
          simp [Bool.and_comm]
        · rw [Ls.upd_other _ _ ej, h.F]
          refine List.filter_congr fun x _ => ?_
          rw [giv_succ, hg, decide_eq_false (fun e => ej e.symm)]
          simp
    · next hg =>
      refine ⟨fun p => ?_, fun j => ?_⟩
      · rw [h.f]
        by_cases e : p = m
        · subst e
          rw [if_neg (by omega), if_neg fun hc => hg hc.2]
        · by_cases hc : p < m ∧ givenB d p = true
          · rw [if_pos hc, if_pos ⟨by omega, hc.2⟩]
          · rw [if_neg hc, if_neg fun hc2 => hc ⟨by omega, hc2.2⟩]
      · rw [h.F]
        refine List.filter_congr fun x _ => ?_
        rw [giv_succ, Bool.eq_false_iff.2 hg]
        simp
end Go.Proofs.YtmalopciboikhaaGreatDoor
end
section
namespace Go.Proofs.YtmalopciboikhaaGreatDoor
open Go.RowKit
set_option maxRecDepth 100000

theorem back_may {d : Hd_} {n p : Nat} (hm : Cl.mayB d.f n = true) (hp : p < n) : Cl.mayB (backD d p).f n = true := by
  unfold backD
  split
  · next hg => exact gave_may hm hp hg
  · exact hm
theorem flush_mayB {d : Hd_} {n : Nat} (hm : Cl.mayB d.f n = true) : ∀ k, k ≤ n → Cl.mayB (flushTo d k).f n = true
  | 0, _ => hm
  | k + 1, hk => back_may (flush_mayB hm k (by omega)) (by omega)
theorem flush_len (d : Hd_) (k j : Nat) : ((flushTo d k).F j).length ≤ (d.F j).length := by
  rw [(flushed d k).F]
  exact List.length_filter_le _ _
theorem res_each {W : World} {b : Nat} {tm : Array Value} {v0 v1 v2 v3 v4 v5 : Value} (ht : tm[4]? = some (.pointer (some ⟨b, 0, none⟩))) (k0 : W.cell? ⟨b, 0, none⟩ = some v0) (k1 : W.cell? ⟨b, 1, none⟩ = some v1) (k2 : W.cell? ⟨b, 2, none⟩ = some v2) (k3 : W.cell? ⟨b, 3, none⟩ = some v3) (k4 : W.cell? ⟨b, 4, none⟩ = some v4) (k5 : W.cell? ⟨b, 5, none⟩ = some v5) :
    (results Tryz.f69 tm).run Tryz.prog W = .ok (.agg #[v0, v1, v2, v3, v4, v5]) W := by
  simp [results, Tryz.results69, go_sem, ht, k0, k1, k2, k3, k4, k5]
/-- What stands at the head of the loop. -/
structure EaAt (w wr : World) (s : Hs) (d : Hd_) (k : Nat) (t : Hs) : Prop where
  rr : Rr w wr t (flushTo d k)
  ln : t.w.n = s.w.n ∧ t.p.n = s.p.n ∧ t.c.n = s.c.n
set_option maxHeartbeats 2000000 in
theorem each_any (s : Hs) (d : Hd_) (w : World) (hp : Hp w w.heap.size s d) (hf : Fit s) (hm : Cl.mayB d.f s.p.n = true) (hz : Cl.Sz w) (hu : ∀ j, j < 3 → (s.u j).n ≤ 2000000) :
    Calls Tryz.prog 69 #[(.agg #[.slice s.w.a s.w.n s.w.c, .slice s.p.a s.p.n s.p.c, .slice (s.u 0).a (s.u 0).n (s.u 0).c, .slice (s.u 1).a (s.u 1).n (s.u 1).c, .slice (s.u 2).a (s.u 2).n (s.u 2).c, .slice s.c.a s.c.n s.c.c]), .func (.func 65) #[] #[]] w (RoOut w s (flushTo d s.p.n)) := by
  have h64 := hf.p
  have HG : Hid (∀ W t k, k < s.p.n → EaAt w W s d k t → Calls Tryz.prog 65 #[(.agg #[.slice t.w.a t.w.n t.w.c, .slice t.p.a t.p.n t.p.c, .slice (t.u 0).a (t.u 0).n (t.u 0).c, .slice (t.u 1).a (t.u 1).n (t.u 1).c, .slice (t.u 2).a (t.u 2).n (t.u 2).c, .slice t.c.a t.c.n t.c.c]), .int .i64 (k : Int)] W (RoOut W t (flushTo d (k + 1)))) := Lib.hid (fun W t k hk h => by
    have hF : Fit t := ⟨by rw [h.ln.1]; exact hf.w, by rw [h.ln.1, h.ln.2.1]; exact hf.wp, by rw [h.ln.2.1]; exact hf.p⟩
    refine giveback_any t (flushTo d k) k W h.rr.ro.hp (by rw [h.ln.2.1]; exact hk) hF (by rw [h.ln.2.1]; exact flush_mayB hm k (by omega)) (hz.over h.rr.ro.bel hz.pos) fun j hj => ?_
    have h1 := h.rr.ro.hp.free.len j hj
    have h2 := flush_len d k j
    have h3 := hp.free.len j hj
    have h4 := hu j hj
    omega)
  have HP := Lib.hid hp
  obtain ⟨n, hn⟩ : ∃ n, n = s.p.n := ⟨_, rfl⟩
  have HN := Lib.hid hn
  clear hp hf hm hz hu
  go_enter Tryz.func69, Tryz.ntmps69
  go_upto_region 1 with fail
  obtain ⟨W0, hW0⟩ : ∃ W0, W0 = (w.alloc (.cells #[.slice s.w.a s.w.n s.w.c, .slice s.p.a s.p.n s.p.c, .slice (s.u 0).a (s.u 0).n (s.u 0).c, .slice (s.u 1).a (s.u 1).n (s.u 1).c, .slice (s.u 2).a (s.u 2).n (s.u 2).c, .slice s.c.a s.c.n s.c.c] 79)).alloc (.cells #[.slice none 0 0, .slice none 0 0, .slice none 0 0, .slice none 0 0, .slice none 0 0, .slice none 0 0] 79) := ⟨_, rfl⟩
  have K0 := Lib.hid (rr_start HP.out hW0)
  rw [← hW0]
  clear hW0
  have q0 := (K0.out.ro.rm.box.box).c0
  have q1 := (K0.out.ro.rm.box.box).c1
  have q2 := (K0.out.ro.rm.box.box).c2
  have q3 := (K0.out.ro.rm.box.box).c3
  have q4 := (K0.out.ro.rm.box.box).c4
  have q5 := (K0.out.ro.rm.box.box).c5
  have ql := (K0.out.ro.rm.box.box).lt
  go_wp2
  rw [← hn] at h64 ⊢
  clear q0 q1 q2 q3 q4 q5 ql
  go_loopw [9] (fun i wr => ∃ (k : Nat) (t : Hs), k ≤ n ∧ i = .int .i64 k ∧ Hid (EaAt w wr s d k t)) (fun i _ => n - (intOf i).toNat)
  case atStart => exact ⟨0, s, Nat.zero_le _, rfl, Lib.hid ⟨K0.out, rfl, rfl, rfl⟩⟩
  case round =>
    obtain ⟨k, t, hk, rfl, HE⟩ := hrel
    have q0 := (HE.out.rr.ro.rm.box.box).c0
    have q1 := (HE.out.rr.ro.rm.box.box).c1
    have q2 := (HE.out.rr.ro.rm.box.box).c2
    have q3 := (HE.out.rr.ro.rm.box.box).c3
    have q4 := (HE.out.rr.ro.rm.box.box).c4
    have q5 := (HE.out.rr.ro.rm.box.box).c5
    have ql := (HE.out.rr.ro.rm.box.box).lt
    have y0 := (HE.out.rr.ro.rm.box).free 0
    have y1 := (HE.out.rr.ro.rm.box).free 1
    have y2 := (HE.out.rr.ro.rm.box).free 2
    have y3 := (HE.out.rr.ro.rm.box).free 3
    have y4 := (HE.out.rr.ro.rm.box).free 4
    have y5 := (HE.out.rr.ro.rm.box).free 5
    by_cases hlt : k < n
    · have d1 : decide ((k : Int) < n) = true := by simp; omega
      have HG1 := Lib.hid (HG.out wr t k (by rw [← HN.out]; exact hlt) HE.out)
      clear hn
      go_wp2_with fail
      refine HG1.out.mono ?_
      rintro e9 w7 ⟨t7, rfl, hp7, hl7, hb7⟩
      have K7 := HE.out.rr.next hb7
      have HX := Lib.hid (show EaAt w (put6 w7 w.heap.size (.slice t7.w.a t7.w.n t7.w.c) (.slice t7.p.a t7.p.n t7.p.c) (.slice (t7.u 0).a (t7.u 0).n (t7.u 0).c) (.slice (t7.u 1).a (t7.u 1).n (t7.u 1).c) (.slice (t7.u 2).a (t7.u 2).n (t7.u 2).c) (.slice t7.c.a t7.c.n t7.c.c)) s d (k + 1) t7 from ⟨⟨K7.ro.put hp7, K7.rm.same (put6_other _ _ _ _ _ _ _ _ (by omega)) (Nat.le_of_eq (put6_size _ _ _ _ _ _ _ _).symm)⟩, hl7.1.trans HE.out.ln.1, hl7.2.1.trans HE.out.ln.2.1, hl7.2.2.trans HE.out.ln.2.2⟩)
      have R7 := Lib.hid K7
      clear q0 q1 q2 q3 q4 q5 ql
      clear y0 y1 y2 y3 y4 y5
      clear hp7 hl7 hb7 K7
      have q0 := (R7.out.ro.rm.box.box).c0
      have q1 := (R7.out.ro.rm.box.box).c1
      have q2 := (R7.out.ro.rm.box.box).c2
      have q3 := (R7.out.ro.rm.box.box).c3
      have q4 := (R7.out.ro.rm.box.box).c4
      have q5 := (R7.out.ro.rm.box.box).c5
      have ql := (R7.out.ro.rm.box.box).lt
      have y0 := (R7.out.ro.rm.box).free 0
      have y1 := (R7.out.ro.rm.box).free 1
      have y2 := (R7.out.ro.rm.box).free 2
      have y3 := (R7.out.ro.rm.box).free 3
      have y4 := (R7.out.ro.rm.box).free 4
      have y5 := (R7.out.ro.rm.box).free 5
      go_wp2
      go_roundw
      case rel => exact ⟨k + 1, t7, by omega, by go_num, HX⟩
      case measure => simp [intOf]; omega
    · have d1 : decide ((k : Int) < n) = false := by simp; omega
      obtain rfl : k = n := by omega
      clear y0 y1 y2 y3 y4 y5
      have x0 := (HE.out.rr.rm.box.box).c0
      have x1 := (HE.out.rr.rm.box.box).c1
      have x2 := (HE.out.rr.rm.box.box).c2
      have x3 := (HE.out.rr.rm.box.box).c3
      have x4 := (HE.out.rr.rm.box.box).c4
      have x5 := (HE.out.rr.rm.box.box).c5
      have xl := (HE.out.rr.rm.box.box).lt
      have z0 := (HE.out.rr.rm.box).free 0
      have z1 := (HE.out.rr.rm.box).free 1
      have z2 := (HE.out.rr.rm.box).free 2
      have z3 := (HE.out.rr.rm.box).free 3
      have z4 := (HE.out.rr.rm.box).free 4
      have z5 := (HE.out.rr.rm.box).free 5
      dsimp only [noHs, Ls.noSl] at x0 x1 x2 x3 x4 x5
      go_wp2
      have hend := res_end (s := s) (t := t) HE.out.rr.ro.bel HE.out.rr.ro.hp HE.out.rr.rm (by omega) HE.out.ln
      rw [HN.out] at hend
      refine bodyPost_ret (v := (.agg #[.slice t.w.a t.w.n t.w.c, .slice t.p.a t.p.n t.p.c, .slice (t.u 0).a (t.u 0).n (t.u 0).c, .slice (t.u 1).a (t.u 1).n (t.u 1).c, .slice (t.u 2).a (t.u 2).n (t.u 2).c, .slice t.c.a t.c.n t.c.c])) ?_ rfl hend
      obtain ⟨k0, k1, k2, k3, k4, k5⟩ := put6_at HE.out.rr.rm.box (.slice t.w.a t.w.n t.w.c) (.slice t.p.a t.p.n t.p.c) (.slice (t.u 0).a (t.u 0).n (t.u 0).c) (.slice (t.u 1).a (t.u 1).n (t.u 1).c) (.slice (t.u 2).a (t.u 2).n (t.u 2).c) (.slice t.c.a t.c.n t.c.c)
      exact res_each rfl k0 k1 k2 k3 k4 k5
end Go.Proofs.YtmalopciboikhaaGreatDoor
end
