/-
  Merged texts: PgTake, AlSto, AlBase, PgDrop, AlSplit, AlLarge.
-/
import Derived.Test.YtdmclfolooiccaaGreatDoorHpAJ
import Derived.Test.YtdmclfolooiccaaGreatDoorHpAK
import Derived.Test.YtdmclfolooiccaaGreatDoorHpAM
import Derived.Test.YtdmclfolooiccaaGreatDoorHpAL
section
namespace Go.Proofs.YtdmclfolooiccaaGreatDoor.Cl
open Go.Proofs.YtdmclfolooiccaaGreatDoor
set_option maxRecDepth 100000
open Go.RowKit

def outN (err : Int) (n : Nat) : Nat := if err = 0 then n else 0
theorem PMine.lower {w : World} {base base' e g n c : Nat} {f : Nat → Int × Int} (h : PMine w base e g n c f) (hb : base' ≤ base) : PMine w base' e g n c f := by
  refine ⟨⟨h.1.1, ?_⟩, by have := h.2.1; omega, h.2.2⟩
  rcases h.1.2 with h2 | ⟨g', cap, cur, hv, hb', hr⟩
  · exact .inl h2
  · exact .inr ⟨g', cap, cur, hv, by omega, hr⟩
/-- An error and no pages, or n pages; all that was there is as it was. -/
def TOut (w : World) (err : Int) (n : Nat) (g : Nat → Int × Int) (e : Ending) (w' : World) : Prop :=
  ∃ A c, e = .returned (.tuple #[.slice A (outN err n) c, .int .i64 err]) ∧ PRow w' w'.heap.size A (outN err n) g ∧ outN err n ≤ c ∧ Below w.heap.size w w'
theorem tout_err {w w' : World} {err : Int} {n : Nat} {g : Nat → Int × Int} {e : Ending} {E : Int} (he : e = .returned (.tuple #[.slice none 0 0, .int .i64 E])) (hE : err = E) (h0 : E ≠ 0) (hb : Below w.heap.size w w') : TOut w err n g e w' := by
  subst hE
  have e0 : outN err n = 0 := if_neg h0
  unfold TOut
  rw [e0]
  exact ⟨none, 0, he, PRow.empty _ _ _ _, Nat.le_refl _, hb⟩
theorem tout_ok {w w' : World} {err : Int} {n b c : Nat} {g f : Nat → Int × Int} {e : Ending} (he : e = .returned (.tuple #[.slice (some ⟨b, 0, none⟩) n c, .int .i64 0])) (hE : err = 0)
    (h : PMine w' w.heap.size 74 b n c f) (hg : ∀ i, i < n → g i = f i) (hb : Below w.heap.size w w') : TOut w err n g e w' := by
  subst hE
  have e0 : outN 0 n = n := if_pos rfl
  unfold TOut
  rw [e0]
  exact ⟨_, c, he, h.row.congr hg, h.2.2.2.1, hb⟩

/-- The error of taking m pages from a place on. -/
def takeE (f : Nat → Int × Int) (n : Nat) (at_ m : Int) : Int := if mayB f n = false then 1 else if at_ < 0 ∨ (n : Int) - m < at_ then 3 else if freeB f at_.toNat m.toNat = true then 0 else 4
theorem takeE_may {f : Nat → Int × Int} {n : Nat} {at_ m : Int} (h : mayB f n = false) : takeE f n at_ m = 1 := if_pos h
theorem takeE_none {f : Nat → Int × Int} {n : Nat} {at_ m : Int} (h : mayB f n = true) (ha : at_ < 0 ∨ (n : Int) - m < at_) : takeE f n at_ m = 3 := by
  unfold takeE
  rw [if_neg (by rw [h]; decide), if_pos ha]
theorem takeE_full {f : Nat → Int × Int} {n : Nat} {at_ m : Int} (h : mayB f n = true) (ha : ¬ (at_ < 0 ∨ (n : Int) - m < at_)) (hf : freeB f at_.toNat m.toNat = false) : takeE f n at_ m = 4 := by
  unfold takeE
  rw [if_neg (by rw [h]; decide), if_neg ha, if_neg (by rw [hf]; decide)]
theorem takeE_ok {f : Nat → Int × Int} {n : Nat} {at_ m : Int} (h : mayB f n = true) (ha : ¬ (at_ < 0 ∨ (n : Int) - m < at_)) (hf : freeB f at_.toNat m.toNat = true) : takeE f n at_ m = 0 := by
  unfold takeE
  rw [if_neg (by rw [h]; decide), if_neg ha, if_pos hf]
def smallE (f : Nat → Int × Int) (n : Nat) (at_ c : Int) : Int := if clB c = true then takeE f n at_ 1 else 1
def smallF (f : Nat → Int × Int) (at_ c : Int) : Nat → Int × Int := put f at_.toNat (1, c)
def largeE (f : Nat → Int × Int) (n : Nat) (at_ m : Int) : Int := if runB m = true then takeE f n at_ m else 1
def largeF (f : Nat → Int × Int) (at_ m : Int) : Nat → Int × Int := large f at_.toNat m
/-- m pages from a on, the first of them p. -/
def took (f : Nat → Int × Int) (a m : Nat) (p : Int × Int) : Nat → Int × Int := put (fillF f a m (3, 0)) a p
theorem took_small (f : Nat → Int × Int) (a : Nat) (c : Int) (i : Nat) : put f a (1, c) i = took f a 1 (1, c) i := by
  unfold took put fillF
  by_cases h : i = a
  · rw [if_pos h, if_pos h]
  · rw [if_neg h, if_neg h, if_neg (by omega)]
theorem took_large (f : Nat → Int × Int) (a m i : Nat) : large f a m i = took f a m (2, m) i := by
  unfold large took put fillF
  by_cases h : i = a
  · rw [if_pos h, if_pos h]
  · rw [if_neg h, if_neg h]
    by_cases h2 : a < i ∧ (i : Int) < a + m
    · rw [if_pos h2, if_pos (by omega)]
    · rw [if_neg h2, if_neg (by omega)]

theorem count_free (B : Nat) (A : Option Addr) (m c : Nat) (f : Nat → Int × Int) (a : Nat) (w : World) (hm : m ≤ 1000) (h : freeB f a m = true) (hr : PRow w B A m (fun i => f (a + i))) (hB : B ≤ w.heap.size) :
    Calls Tryz.prog 126 #[.slice A m c, .int .i64 0] w fun e w' => e = .returned (.int .i64 m) ∧ Below w.heap.size w w' := by
  have := cnt_all (f := fun j => f (a + j)) (kind := 0) (k := m) ((freeB_iff f a m).1 h)
  rw [← this]
  exact count_any B A m c _ 0 w hm hr hB
def Lesser (w : World) (m : Nat) (e : Ending) (w' : World) : Prop := ∃ x : Int, e = .returned (.int .i64 x) ∧ x < m ∧ Below w.heap.size w w'
theorem count_less (B : Nat) (A : Option Addr) (m c : Nat) (f : Nat → Int × Int) (a : Nat) (w : World) (hm : m ≤ 1000) (h : freeB f a m = false) (hr : PRow w B A m (fun i => f (a + i))) (hB : B ≤ w.heap.size) :
    Calls Tryz.prog 126 #[.slice A m c, .int .i64 0] w (Lesser w m) := by
  have := cnt_lt (f := fun j => f (a + j)) (kind := 0) (freeB_ex h)
  exact (count_any B A m c _ 0 w hm hr hB).mono fun e w' ⟨he, hb⟩ => ⟨_, he, this, hb⟩

set_option maxHeartbeats 1000000 in
theorem take_any (B : Nat) (A : Option Addr) (n c : Nat) (f : Nat → Int × Int) (at_ : Int) (m : Nat) (p : Int × Int) (w : World) (hn : n ≤ 1000) (hnc : n ≤ c) (hm1 : 1 ≤ m) (hm4 : m ≤ 4)
    (hr : PRow w B A n f) (hB : B ≤ w.heap.size) :
    Calls Tryz.prog 112 #[.slice A n c, .int .i64 at_, .int .i64 m, .agg #[.int .i64 p.1, .int .i64 p.2]] w (TOut w (takeE f n at_ m) n (took f at_.toNat m p)) := by
  obtain ⟨p0, p1⟩ := p
  have HR := Lib.hid hr
  clear hr
  have HR1 := Lib.hid (HR.out.alloc (.cells #[.int .i64 p0, .int .i64 p1] 74) hB)
  have hB1 : B ≤ (w.alloc (.cells #[.int .i64 p0, .int .i64 p1] 74)).heap.size := by simp; omega
  have HB0 : Hid (Below w.heap.size w (w.alloc (.cells #[.int .i64 p0, .int .i64 p1] 74))) := Lib.hid ((Below.refl _ _).alloc (Nat.le_refl _) _)
  cases hM : mayB f n
  · have HE := Lib.hid (takeE_may (f := f) (n := n) (at_ := at_) (m := m) hM)
    have HM := Lib.hid hM
    clear hM
    go_enter Tryz.func112, Tryz.ntmps112
    go_wp2_with fail
    refine (may_no B _ _ _ _ _ HM.out hn HR1.out hB1).mono ?_
    rintro e w1 ⟨rfl, hb1⟩
    go_wp2
    go_ret2
    exact tout_err rfl HE.out (by decide) (below_pair (Below.refl _ _) hb1)
  have HM := Lib.hid hM
  obtain ⟨n1, n64, -, -⟩ := (mayB_iff f n).1 hM
  by_cases hat : at_ < 0 ∨ (n : Int) - m < at_
  · have HE := Lib.hid (takeE_none hM hat)
    clear hM
    by_cases h0 : at_ < 0
    · have d0 : decide (at_ < 0) = true := by simpa using h0
      clear hat
      go_enter Tryz.func112, Tryz.ntmps112
      go_wp2_with fail
      refine (may_yes B _ _ _ _ _ HM.out HR1.out hB1).mono ?_
      rintro e w1 ⟨rfl, hb1⟩
      go_wp2
      go_ret2
      exact tout_err rfl HE.out (by decide) (below_pair (Below.refl _ _) hb1)
    · have d0 : decide (at_ < 0) = false := by simpa using h0
      have h1 : (n : Int) - m < at_ := by omega
      have d1 : decide ((n : Int) - m < at_) = true := by simpa using h1
      clear hat
      go_enter Tryz.func112, Tryz.ntmps112
      go_wp2_with fail
      refine (may_yes B _ _ _ _ _ HM.out HR1.out hB1).mono ?_
      rintro e w1 ⟨rfl, hb1⟩
      go_wp2
      go_ret2
      exact tout_err rfl HE.out (by decide) (below_pair (Below.refl _ _) hb1)
  obtain ⟨a, rfl⟩ : ∃ a : Nat, at_ = a := ⟨at_.toNat, by omega⟩
  have ham : a + m ≤ n := by omega
  obtain ⟨b, off, rfl, hbB, -⟩ := HR.out (by omega)
  cases hf : freeB f a m
  · have HE := Lib.hid (takeE_full hM hat (by simpa using hf))
    have HF := Lib.hid hf
    clear hM hf hat
    go_enter Tryz.func112, Tryz.ntmps112
    go_wp2_with fail
    refine (may_yes B _ _ _ _ _ HM.out HR1.out hB1).mono ?_
    rintro e w1 ⟨rfl, hb1⟩
    have HB1 := Lib.hid hb1
    have HR2 := Lib.hid ((HR1.out.over hb1 hB1).part (k := a) (m := m) ham)
    have hz1 := hb1.size
    have HBall := Lib.hid (below_pair (Below.refl w.heap.size w) hb1)
    clear hb1
    go_wp2_with fail
    rw [show a + m - a = m by omega]
    refine (count_less B _ _ _ _ _ _ (by omega) HF.out HR2.out (by omega)).mono ?_
    rintro e w2 ⟨x, rfl, hx, hb2⟩
    have dx : decide (x < m) = true := by simpa using hx
    go_wp2
    go_ret2
    exact tout_err rfl HE.out (by decide) (HBall.out.trans (hb2.mono (by have := HBall.out.size; omega)))
  · have HE := Lib.hid (takeE_ok hM hat (by simpa using hf))
    have HF := Lib.hid hf
    clear hM hf hat
    go_enter Tryz.func112, Tryz.ntmps112
    go_wp2_with fail
    refine (may_yes B _ _ _ _ _ HM.out HR1.out hB1).mono ?_
    rintro e w1 ⟨rfl, hb1⟩
    have HR2 := Lib.hid (HR1.out.over hb1 hB1)
    have HR3 := Lib.hid (HR2.out.part (k := a) (m := m) ham)
    have hz1 := hb1.size
    obtain ⟨k0, k1, hs1⟩ := pair_kept hb1
    have HB1 := Lib.hid (below_pair (Below.refl w.heap.size w) hb1)
    clear hb1
    go_wp2_with fail
    rw [show a + m - a = m by omega]
    refine (count_free B _ _ _ _ _ _ (by omega) HF.out HR3.out (by omega)).mono ?_
    rintro e w2 ⟨rfl, hb2⟩
    have k0' := (hb2.cell (p := ⟨w.heap.size, 0, none⟩) hs1).trans k0
    have k1' := (hb2.cell (p := ⟨w.heap.size, 1, none⟩) hs1).trans k1
    have hs2 : w.heap.size < w2.heap.size := by have := hb2.size; omega
    have HR4 := Lib.hid (HR2.out.over hb2 (by omega))
    have HB2 := Lib.hid (HB1.out.trans (hb2.mono (by have := HB1.out.size; omega)))
    clear hb2 k0 k1
    have d0 : decide ((m : Int) < m) = false := by simp
    go_wp2_with fail
    refine (pclone_ok B _ _ _ _ _ (by omega) hn HR4.out).mono ?_
    rintro e w3 ⟨g, c', rfl, hm3, hb3⟩
    have k0 := (hb3.cell (p := ⟨w.heap.size, 0, none⟩) hs2).trans k0'
    have k1 := (hb3.cell (p := ⟨w.heap.size, 1, none⟩) hs2).trans k1'
    have hs3 : w.heap.size < w3.heap.size := by have := hb3.size; omega
    have hg3 := hm3.2.1
    have hg3' := hm3.2.2.1
    have hc3 := hm3.2.2.2.1
    have HM3 := Lib.hid hm3
    have HB3 := Lib.hid (HB2.out.trans (hb3.mono (by omega)))
    clear hb3 hm3 k0' k1'
    have hs23 : w2.heap.size ≤ w3.heap.size := by omega
    go_wp2_with fail
    rw [show a + m - a = m by omega]
    refine (fill_any w2.heap.size g n c' _ a m f (3, 0) w3 hn ham hs23 HM3.out).mono ?_
    rintro e w4 ⟨rfl, hm4', hb4⟩
    have k0' := (hb4.cell (p := ⟨w.heap.size, 0, none⟩) hs2).trans k0
    have k1' := (hb4.cell (p := ⟨w.heap.size, 1, none⟩) hs2).trans k1
    have hs4 : w.heap.size < w4.heap.size := by have := hb4.size; omega
    have f0 := hm4'.free (a * 2)
    have f1 := hm4'.free (a * 2 + 1)
    obtain ⟨d0', d1'⟩ := hm4'.cells a (by omega)
    have hg4 := hm4'.2.2.1
    have HM4 := Lib.hid (hm4'.stored a (p0, p1))
    have HB4 := Lib.hid (HB3.out.trans (hb4.mono (by omega)))
    clear hb4 hm4' k0 k1
    go_wp2
    go_ret2
    exact tout_ok rfl HE.out (HM4.out.lower (by omega)) (fun i _ => rfl) ((HB4.out.setCell (by simpa using (show w.heap.size ≤ g by omega)) _).setCell (by simpa using (show w.heap.size ≤ g by omega)) _)
end Go.Proofs.YtdmclfolooiccaaGreatDoor.Cl
end
section
namespace Go.Proofs.YtdmclfolooiccaaGreatDoor
open Go.RowKit
set_option maxRecDepth 100000

/-- The box of what room is taken from. -/
structure Box9 (W : World) (b : Nat) (t : Hs) (u : Nat → Ls.Sl) : Prop where
  box : HBox W b t
  k6 : W.cell? ⟨b, 6, none⟩ = some (.slice (u 0).a (u 0).n (u 0).c)
  k7 : W.cell? ⟨b, 7, none⟩ = some (.slice (u 1).a (u 1).n (u 1).c)
  k8 : W.cell? ⟨b, 8, none⟩ = some (.slice (u 2).a (u 2).n (u 2).c)
  free : ∀ j, W.frozen? ⟨b, j, none⟩ = false
  sl : Slices W b
theorem Box9.same {W W' : World} {b : Nat} {t : Hs} {u : Nat → Ls.Sl} (h : Box9 W b t u) (hs : W'.heap[b]? = W.heap[b]?) (hl : W.heap.size ≤ W'.heap.size) : Box9 W' b t u :=
  ⟨hbox_same h.box hs hl, (World.cell?_of_block (a := ⟨b, 6, none⟩) hs).trans h.k6, (World.cell?_of_block (a := ⟨b, 7, none⟩) hs).trans h.k7, (World.cell?_of_block (a := ⟨b, 8, none⟩) hs).trans h.k8, fun j => (World.frozen?_of_block (a := ⟨b, j, none⟩) hs).trans (h.free j), h.sl.same hs⟩
theorem Box9.next {W W' : World} {b : Nat} {t : Hs} {u : Nat → Ls.Sl} (h : Box9 W b t u) (hb : Below W.heap.size W W') : Box9 W' b t u := h.same (hb.block b h.box.lt) hb.size
/-- One cell is turned. -/
theorem Box9.set {W : World} {b : Nat} {t t' : Hs} {u u' : Nat → Ls.Sl} (h : Box9 W b t u) (k : Nat) (a : Option Addr) (n c : Nat)
    (e0 : Value.slice t'.w.a t'.w.n t'.w.c = if 0 = k then .slice a n c else .slice t.w.a t.w.n t.w.c) (e1 : Value.slice t'.p.a t'.p.n t'.p.c = if 1 = k then .slice a n c else .slice t.p.a t.p.n t.p.c)
    (e2 : Value.slice (t'.u 0).a (t'.u 0).n (t'.u 0).c = if 2 = k then .slice a n c else .slice (t.u 0).a (t.u 0).n (t.u 0).c) (e3 : Value.slice (t'.u 1).a (t'.u 1).n (t'.u 1).c = if 3 = k then .slice a n c else .slice (t.u 1).a (t.u 1).n (t.u 1).c)
    (e4 : Value.slice (t'.u 2).a (t'.u 2).n (t'.u 2).c = if 4 = k then .slice a n c else .slice (t.u 2).a (t.u 2).n (t.u 2).c) (e5 : Value.slice t'.c.a t'.c.n t'.c.c = if 5 = k then .slice a n c else .slice t.c.a t.c.n t.c.c)
    (e6 : Value.slice (u' 0).a (u' 0).n (u' 0).c = if 6 = k then .slice a n c else .slice (u 0).a (u 0).n (u 0).c) (e7 : Value.slice (u' 1).a (u' 1).n (u' 1).c = if 7 = k then .slice a n c else .slice (u 1).a (u 1).n (u 1).c)
    (e8 : Value.slice (u' 2).a (u' 2).n (u' 2).c = if 8 = k then .slice a n c else .slice (u 2).a (u 2).n (u 2).c) : Box9 (W.setCell ⟨b, k, none⟩ (.slice a n c)) b t' u' :=
  ⟨⟨cell_set h.box.c0 e0, cell_set h.box.c1 e1, cell_set h.box.c2 e2, cell_set h.box.c3 e3, cell_set h.box.c4 e4, cell_set h.box.c5 e5, by simpa [World.setCell] using h.box.lt⟩, cell_set h.k6 e6, cell_set h.k7 e7, cell_set h.k8 e8, frozen_set h.free, h.sl.set⟩
def tri3 (a b c : Ls.Sl) : Nat → Ls.Sl := fun | 0 => a | 1 => b | _ => c
/-- Three slices are stored at once. -/
theorem Box9.free3 {W : World} {b : Nat} {t : Hs} {u : Nat → Ls.Sl} (h : Box9 W b t u) (v : Nat → Ls.Sl) : Box9 (((W.setCell ⟨b, 2, none⟩ (.slice (v 0).a (v 0).n (v 0).c)).setCell ⟨b, 3, none⟩ (.slice (v 1).a (v 1).n (v 1).c)).setCell ⟨b, 4, none⟩ (.slice (v 2).a (v 2).n (v 2).c)) b ⟨t.w, t.p, v, t.c⟩ u := by
  have h1 := h.set (t' := ⟨t.w, t.p, tri3 (v 0) (t.u 1) (t.u 2), t.c⟩) (u' := u) 2 (v 0).a (v 0).n (v 0).c rfl rfl rfl rfl rfl rfl rfl rfl rfl
  have h2 := h1.set (t' := ⟨t.w, t.p, tri3 (v 0) (v 1) (t.u 2), t.c⟩) (u' := u) 3 (v 1).a (v 1).n (v 1).c rfl rfl rfl rfl rfl rfl rfl rfl rfl
  exact h2.set (t' := ⟨t.w, t.p, v, t.c⟩) (u' := u) 4 (v 2).a (v 2).n (v 2).c rfl rfl rfl rfl rfl rfl rfl rfl rfl
theorem Box9.cache3 {W : World} {b : Nat} {t : Hs} {u : Nat → Ls.Sl} (h : Box9 W b t u) (v : Nat → Ls.Sl) : Box9 (((W.setCell ⟨b, 6, none⟩ (.slice (v 0).a (v 0).n (v 0).c)).setCell ⟨b, 7, none⟩ (.slice (v 1).a (v 1).n (v 1).c)).setCell ⟨b, 8, none⟩ (.slice (v 2).a (v 2).n (v 2).c)) b t v := by
  have h1 := h.set (t' := t) (u' := tri3 (v 0) (u 1) (u 2)) 6 (v 0).a (v 0).n (v 0).c rfl rfl rfl rfl rfl rfl rfl rfl rfl
  have h2 := h1.set (t' := t) (u' := tri3 (v 0) (v 1) (u 2)) 7 (v 1).a (v 1).n (v 1).c rfl rfl rfl rfl rfl rfl rfl rfl rfl
  exact h2.set (t' := t) (u' := v) 8 (v 2).a (v 2).n (v 2).c rfl rfl rfl rfl rfl rfl rfl rfl rfl
/-- What room is taken from. -/
structure Sto (W : World) (b : Nat) (t : Hs) (u : Nat → Ls.Sl) (d : Hd_) (G : Nat → List Int) : Prop where
  b9 : Box9 W b t u
  hp : Hp W W.heap.size t d
  l3 : Ls.L3 W W.heap.size u G
  pc : t.p.n ≤ t.p.c
theorem Sto.next {W W' : World} {b : Nat} {t : Hs} {u : Nat → Ls.Sl} {d : Hd_} {G : Nat → List Int} (h : Sto W b t u d G) (hb : Below W.heap.size W W') : Sto W' b t u d G := ⟨h.b9.next hb, h.hp.next hb, h.l3.next hb, h.pc⟩
/-- The box is turned, to what lies there already. -/
theorem Sto.turn {W W' : World} {b : Nat} {t t' : Hs} {u u' : Nat → Ls.Sl} {d d' : Hd_} {G G' : Nat → List Int} (h : Sto W b t u d G) (hb : Box9 W' b t' u') (hs : ∀ i, ¬ i = b → W'.heap[i]? = W.heap[i]?) (hl : W.heap.size = W'.heap.size)
    (hp : Hp W W.heap.size t' d') (l3 : Ls.L3 W W.heap.size u' G') (pc : t'.p.n ≤ t'.p.c) : Sto W' b t' u' d' G' :=
  ⟨hb, hp_turn h.b9.sl hp hs hl, l3_turn h.b9.sl l3 hs hl, pc⟩
end Go.Proofs.YtdmclfolooiccaaGreatDoor
end
section
namespace Go.Proofs.YtdmclfolooiccaaGreatDoor
open Go.RowKit
set_option maxRecDepth 100000

/-- How many words, pages and cards there are stays. -/
def Same3 (t t' : Hs) : Prop := t'.w.n = t.w.n ∧ t'.p.n = t.p.n ∧ t'.c.n = t.c.n
/-- What room is taken from may be, as far as sizes go. -/
structure Fit (t : Hs) : Prop where
  w : Ar.mayB t.w.n = true
  wp : t.w.n = 16 * t.p.n
  p : t.p.n ≤ 64
theorem fit_first {s : Hs} {d : Hd_} (h : firstB s d = true) : Fit s := by
  unfold firstB wordsB at h
  simp only [Bool.and_eq_true, decide_eq_true_eq] at h
  have := ((Cl.mayB_iff _ _).1 h.2.1)
  exact ⟨Ar.mayB_iff.2 h.1, h.2.2.1, this.2.1⟩
/-- A cell's room, page and words are as they were. -/
structure Same4 (n : Nat) (d d' : Hd_) (y : Int) : Prop where
  bg : Cl.bg d'.f n y = Cl.bg d.f n y
  pg : pgAt d' y = pgAt d y
  wd : ∀ z, y ≤ z → z < y + Cl.bg d.f n y → wd d' z = wd d z
theorem Same4.trans {n : Nat} {d d' d2 : Hd_} {y : Int} (h : Same4 n d d' y) (k : Same4 n d' d2 y) : Same4 n d d2 y := ⟨k.bg.trans h.bg, k.pg.trans h.pg, fun z h1 h2 => (k.wd z h1 (by rw [h.bg]; exact h2)).trans (h.wd z h1 h2)⟩
theorem Same4.refl (n : Nat) (d : Hd_) (y : Int) : Same4 n d d y := ⟨rfl, rfl, fun _ _ _ => rfl⟩
/-- A word lies in one cell. -/
theorem word_one {n : Nat} {f : Nat → Int × Int} {x y z : Int} (hx : ¬ Cl.bg f n x = 0) (hy : ¬ Cl.bg f n y = 0) (h1 : x ≤ z ∧ z < x + Cl.bg f n x) (h2 : y ≤ z ∧ z < y + Cl.bg f n y) : x = y :=
  cov_one (a := z) (mem_allS.2 hx) (mem_allS.2 hy) (by unfold cov; simp only [Bool.and_eq_true, decide_eq_true_eq]; exact h1) (by unfold cov; simp only [Bool.and_eq_true, decide_eq_true_eq]; exact h2)
theorem firstB_of {s t : Hs} {d d' : Hd_} (h : firstB s d = true) (hm : Cl.mayB d'.f s.p.n = true) (h1 : t.w.n = s.w.n) (h2 : t.p.n = s.p.n) (h3 : t.c.n = s.c.n) : firstB t d' = true := by
  unfold firstB at h ⊢
  simp only [Bool.and_eq_true, decide_eq_true_eq] at h ⊢
  rw [h1, h2, h3]
  exact ⟨h.1, hm, h.2.2⟩
/-- What is handed to Take is not too great. -/
structure FineT (s : Hs) (d : Hd_) (u : Nat → Ls.Sl) (G : Nat → List Int) : Prop where
  fine : Fine s d
  lu : ∀ j, j < 3 → (s.u j).n ≤ 1000000
  lg : ∀ j, j < 3 → (u j).n ≤ 1000000
  all : (Ls.allOf (ahead d.F (fun _ => G)) (1 + 1)).length ≤ 2000000
end Go.Proofs.YtdmclfolooiccaaGreatDoor
end
section
namespace Go.Proofs.YtdmclfolooiccaaGreatDoor.Cl
open Go.Proofs.YtdmclfolooiccaaGreatDoor
set_option maxRecDepth 100000
open Go.RowKit

theorem TOut.as {w w' : World} {E E' : Int} {n : Nat} {g g' : Nat → Int × Int} {e : Ending} (h : TOut w E n g e w') (he : E' = E) (hg : ∀ i, g' i = g i) : TOut w E' n g' e w' := by
  subst he
  obtain ⟨A, c, h1, h2, h3, h4⟩ := h
  exact ⟨A, c, h1, h2.congr (fun i _ => hg i), h3, h4⟩

theorem small_any (B : Nat) (A : Option Addr) (n c : Nat) (f : Nat → Int × Int) (at_ cl : Int) (w : World) (hn : n ≤ 1000) (hnc : n ≤ c) (hr : PRow w B A n f) (hB : B ≤ w.heap.size) :
    Calls Tryz.prog 128 #[.slice A n c, .int .i64 at_, .int .i64 cl] w (TOut w (smallE f n at_ cl) n (smallF f at_ cl)) := by
  have HR := Lib.hid hr
  clear hr
  cases hc : clB cl
  · have HE := Lib.hid (show smallE f n at_ cl = 1 from if_neg (by rw [hc]; decide))
    have HC := Lib.hid hc
    clear hc
    go_enter Tryz.func128, Tryz.ntmps128
    go_wp2_with fail
    refine (isClass_no _ _ HC.out).mono ?_
    rintro e w1 ⟨rfl, rfl⟩
    go_wp2
    go_ret2
    exact tout_err rfl HE.out (by decide) (Below.refl _ _)
  · have HE := Lib.hid (show smallE f n at_ cl = takeE f n at_ (1 : Nat) from if_pos hc)
    have HC := Lib.hid hc
    clear hc
    go_enter Tryz.func128, Tryz.ntmps128
    go_wp2_with fail
    refine (isClass_yes _ _ HC.out).mono ?_
    rintro e w1 ⟨rfl, rfl⟩
    go_wp2_with fail
    refine (take_any B _ _ _ f at_ 1 (1, cl) _ hn hnc (by decide) (by decide) HR.out hB).mono ?_
    rintro e w1 ⟨A', c', rfl, hrow, hle, hb⟩
    have HRow := Lib.hid hrow
    clear hrow
    go_wp2
    go_ret2
    exact TOut.as ⟨A', c', rfl, HRow.out, hle, hb⟩ HE.out (fun i => took_small f _ cl i)
theorem large_any (B : Nat) (A : Option Addr) (n c : Nat) (f : Nat → Int × Int) (at_ m : Int) (w : World) (hn : n ≤ 1000) (hnc : n ≤ c) (hr : PRow w B A n f) (hB : B ≤ w.heap.size) :
    Calls Tryz.prog 84 #[.slice A n c, .int .i64 at_, .int .i64 m] w (TOut w (largeE f n at_ m) n (largeF f at_ m)) := by
  have HR := Lib.hid hr
  clear hr
  cases hc : runB m
  · have HE := Lib.hid (show largeE f n at_ m = 1 from if_neg (by rw [hc]; decide))
    have HC := Lib.hid hc
    clear hc
    go_enter Tryz.func84, Tryz.ntmps84
    go_wp2_with fail
    refine (isRun_no _ _ HC.out).mono ?_
    rintro e w1 ⟨rfl, rfl⟩
    go_wp2
    go_ret2
    exact tout_err rfl HE.out (by decide) (Below.refl _ _)
  · have hm := (runB_iff m).1 hc
    obtain ⟨k, rfl⟩ : ∃ k : Nat, m = k := ⟨m.toNat, by omega⟩
    have HE := Lib.hid (show largeE f n at_ k = takeE f n at_ k from if_pos hc)
    have HC := Lib.hid hc
    clear hc
    go_enter Tryz.func84, Tryz.ntmps84
    go_wp2_with fail
    refine (isRun_yes _ _ HC.out).mono ?_
    rintro e w1 ⟨rfl, rfl⟩
    go_wp2_with fail
    refine (take_any B _ _ _ f at_ k (2, k) _ hn hnc (by omega) (by omega) HR.out hB).mono ?_
    rintro e w1 ⟨A', c', rfl, hrow, hle, hb⟩
    have HRow := Lib.hid hrow
    clear hrow
    go_wp2
    go_ret2
    exact TOut.as ⟨A', c', rfl, HRow.out, hle, hb⟩ HE.out (fun i => took_large f _ k i)

end Go.Proofs.YtdmclfolooiccaaGreatDoor.Cl
end
section
namespace Go.Proofs.YtdmclfolooiccaaGreatDoor
open Go.RowKit
set_option maxRecDepth 100000

/-- The library's Reverse of a list of the walk's own. -/
theorem reverse_own (w : World) (base : Nat) (a : Option Addr) (c : Nat) (xs : List Int) (own : w.ownsRow base 3 1 (.slice a xs.length c) xs.length (xs.map (Value.int .i64))) (hlen : xs.length ≤ 4000000) :
    Calls Tryz.prog 130 #[.slice a xs.length c] w fun e w' => e = .returned (.tuple #[]) ∧ w'.ownsRow base 3 1 (.slice a xs.length c) xs.length (xs.reverse.map (Value.int .i64)) ∧ w.grownBy w' (Value.slice a xs.length c).ownBlock := by
  by_cases h0 : xs.length = 0
  · obtain rfl := List.eq_nil_of_length_eq_zero h0
    refine (Tryz.slices_Reverse_int_empty a c w).mono ?_
    rintro e w' ⟨rfl, rfl⟩
    exact ⟨rfl, by simpa using own, ⟨rfl, rfl, rfl, Nat.le_refl _, fun _ _ _ => rfl⟩⟩
  · obtain ⟨_, h1⟩ := own
    rcases h1 with ⟨_, h2⟩ | ⟨g, cap, cur, h2, hbase, hh, hc1, hc2, hsz, htk⟩
    · exact absurd h2 h0
    · simp only [Value.slice.injEq, true_and] at h2
      obtain ⟨rfl, rfl⟩ := h2
      rw [Nat.mul_one] at htk
      have hH := holds_of_blockI (ss := xs) hh htk
      refine (Tryz.slices_Reverse_int g 0 c xs w hH (by omega)).mono ?_
      rintro e w' ⟨rfl, q, rfl⟩
      have eg : ∀ W : World, Sort.grow W #[] = W := fun W => by simp [Sort.grow]
      have h3 := ownsRow_sortedI (w := w) (base := base) (n := q) (os := #[]) (ss := xs) (ts := xs.reverse) (by simp) hbase hh hc1 hc2 hsz
      have h4 := grownBy_sortedI (w := w) (n := q) (os := #[]) (g := g) xs.reverse.toArray
      rw [eg] at h3 h4
      exact ⟨rfl, h3, h4⟩
theorem reverse_own' (w : World) (base : Nat) (a : Option Addr) (c n : Nat) (xs : List Int) (hn : n = xs.length) (own : w.ownsRow base 3 1 (.slice a xs.length c) xs.length (xs.map (Value.int .i64))) (hlen : xs.length ≤ 4000000) :
    Calls Tryz.prog 130 #[.slice a n c] w fun e w' => e = .returned (.tuple #[]) ∧ w'.ownsRow base 3 1 (.slice a n c) n (xs.reverse.map (Value.int .i64)) ∧ w.grownBy w' (Value.slice a xs.length c).ownBlock := by
  subst hn
  exact reverse_own w base a c xs own hlen
theorem small_done {w w' : World} {f : Nat → Int × Int} {n p k : Nat} {e : Ending} (hm : Cl.mayB f n = true) (hp : p < n) (h0 : (f p).1 = 0) (hk : k < 3) (h : Cl.TOut w (Cl.smallE f n (p : Int) (k : Int)) n (Cl.smallF f (p : Int) (k : Int)) e w') :
    ∃ A c, e = .returned (.tuple #[.slice A n c, .int .i64 0]) ∧ Cl.PRow w' w'.heap.size A n (Cl.put f p (1, (k : Int))) ∧ n ≤ c ∧ Below w.heap.size w w' := by
  have hE : Cl.smallE f n (p : Int) (k : Int) = 0 := by
    unfold Cl.smallE
    rw [if_pos ((Cl.clB_iff _).2 ⟨by omega, by omega⟩)]
    refine Cl.takeE_ok hm (by omega) ((Cl.freeB_iff _ _ _).2 fun j hj => ?_)
    have : j = 0 := by have : (1 : Int).toNat = 1 := rfl; omega
    subst this
    simpa using h0
  rw [hE] at h
  obtain ⟨A, c, h1, h2, h3, h4⟩ := h
  have e0 : Cl.outN 0 n = n := if_pos rfl
  rw [e0] at h1 h2 h3
  exact ⟨A, c, h1, h2, h3, h4⟩
/-- None of the slices lies in a block. -/
structure Offs (g : Nat) (t : Hs) (v : Nat → Ls.Sl) : Prop where
  w : 0 < t.w.n → ∀ x, t.w.a = some x → ¬ x.block = g
  p : 0 < t.p.n → ∀ x, t.p.a = some x → ¬ x.block = g
  u : ∀ j, j < 3 → 0 < (t.u j).n → ∀ x, (t.u j).a = some x → ¬ x.block = g
  c : 0 < t.c.n → ∀ x, t.c.a = some x → ¬ x.block = g
  k : ∀ j, j < 3 → 0 < (v j).n → ∀ x, (v j).a = some x → ¬ x.block = g
theorem row_lt {w : World} {B n : Nat} {a : Option Addr} {xs : List Int} (h : Row w B a n xs) (hn : 0 < n) {x : Addr} (hx : a = some x) : x.block < B := by
  obtain ⟨b, off, e, hlt, _⟩ := h.2 hn
  rw [hx] at e
  cases e
  exact hlt
theorem Sto.offs {w : World} {b g : Nat} {t : Hs} {u : Nat → Ls.Sl} {d : Hd_} {G : Nat → List Int} (h : Sto w b t u d G) (hg : w.heap.size ≤ g) : Offs g t u := by
  refine ⟨fun hn x hx => by have := row_lt h.hp.words hn hx; omega, fun hn x hx => ?_, fun j hj hn x hx => by have := row_lt (h.hp.free j hj).1 hn hx; omega, fun hn x hx => ?_, fun j hj hn x hx => by have := row_lt (h.l3 j hj).1 hn hx; omega⟩
  · obtain ⟨b', off, e, hlt, _⟩ := h.hp.pages hn
    rw [hx] at e
    cases e
    show ¬ b' = g
    omega
  · obtain ⟨b', off, e, hlt, _⟩ := h.hp.cards hn
    rw [hx] at e
    cases e
    show ¬ b' = g
    omega
theorem Sto.other {w w' : World} {b g : Nat} {t : Hs} {u : Nat → Ls.Sl} {d : Hd_} {G : Nat → List Int} (h : Sto w b t u d G) (ho : Offs g t u) (hb : ¬ b = g) (hs : ∀ i, i < w.heap.size → ¬ i = g → w'.heap[i]? = w.heap[i]?) (hl : w.heap.size ≤ w'.heap.size) : Sto w' b t u d G := by
  have hr : ∀ {a : Option Addr} {n : Nat} {xs : List Int}, Row w w.heap.size a n xs → (0 < n → ∀ x, a = some x → ¬ x.block = g) → Row w' w'.heap.size a n xs := fun h0 h1 => (row_same h0 fun hn x hx => hs _ (row_lt h0 hn hx) (h1 hn x hx)).more hl
  refine ⟨h.b9.same (hs b h.b9.box.lt hb) hl, ⟨hr h.hp.words ho.w, fun hn => ?_, fun j hj => ⟨hr (h.hp.free j hj).1 (ho.u j hj), (h.hp.free j hj).2⟩, fun hn => ?_⟩, fun j hj => ⟨hr (h.l3 j hj).1 (ho.k j hj), (h.l3 j hj).2⟩, h.pc⟩
  · obtain ⟨b', off, e, hlt, hc⟩ := h.hp.pages hn
    have hb' := hs b' hlt (ho.p hn _ e)
    exact ⟨b', off, e, by omega, fun i hi => ⟨(World.cell?_of_block (a := ⟨b', off + i * 2, none⟩) hb').trans (hc i hi).1, (World.cell?_of_block (a := ⟨b', off + i * 2 + 1, none⟩) hb').trans (hc i hi).2⟩⟩
  · obtain ⟨b', off, e, hlt, hc⟩ := h.hp.cards hn
    exact ⟨b', off, e, by omega, fun i hi => (World.cell?_of_block (a := ⟨b', off + i, none⟩) (hs b' hlt (ho.c hn _ e))).trans (hc i hi)⟩
/-- While the first words of a page's cells are put. -/
structure SpAt (b : Nat) (w wr : World) (t : Hs) (u : Nat → Ls.Sl) (d : Hd_) (G : Nat → List Int) (on : List Int) (base : Nat) (a : Option Addr) (c j : Nat) : Prop where
  sto : ∃ t', Sto wr b t' u ⟨zeroAt d.ws (on.take j), d.f, d.F, d.cs⟩ G ∧ Same3 t t' ∧ t'.u = t.u ∧ ∀ q, (Value.slice a on.length c).ownBlock = some q → Offs q t' u
  own : wr.ownsRow base 3 1 (.slice a on.length c) on.length (on.map (Value.int .i64))
  bel : Below b w wr
theorem SpAt.step {b : Nat} {w wr w1 : World} {t t' : Hs} {u : Nat → Ls.Sl} {d : Hd_} {G : Nat → List Int} {on : List Int} {base : Nat} {a : Option Addr} {c j : Nat} {y : Int} {g cw : Nat} (h : SpAt b w wr t u d G on base a c j) (hs : Sto wr b t' u ⟨zeroAt d.ws (on.take j), d.f, d.F, d.cs⟩ G) (h3 : Same3 t t') (hu : t'.u = t.u) (hoff : ∀ q, (Value.slice a on.length c).ownBlock = some q → Offs q t' u) (hj : j < on.length) (hy : on.getD j 0 = y) (hbase : b < base)
    (hm : Mine w1 wr.heap.size 3 g t'.w.n cw ((zeroAt d.ws (on.take j)).set (y - 16).toNat 0)) (hb : Below wr.heap.size wr w1) : SpAt b w (w1.setCell ⟨b, 0, none⟩ (.slice (some ⟨g, 0, none⟩) t'.w.n cw)) t u d G on base a c (j + 1) := by
  have e : on.take (j + 1) = on.take j ++ [y] := by rw [Ls.take_next rfl hj, hy]
  have S1 := hs.next hb
  refine ⟨⟨⟨⟨some ⟨g, 0, none⟩, t'.w.n, cw⟩, t'.p, t'.u, t'.c⟩, ?_, h3, hu, fun q hq => ⟨fun _ x hx => ?_, (hoff q hq).p, (hoff q hq).u, (hoff q hq).c, (hoff q hq).k⟩⟩, ?_, ?_⟩
  · rw [e, zeroAt_snoc]
    exact S1.turn (S1.b9.set 0 _ _ _ rfl rfl rfl rfl rfl rfl rfl rfl rfl) set_others set_size.symm ⟨hm.row, S1.hp.pages, S1.hp.free, S1.hp.cards⟩ S1.l3 S1.pc
  · have h1 := (h.own.lt q hq).2
    have h2 := hm.2.1
    cases hx
    show ¬ g = q
    omega
  · refine Ls.World.ownsRow.same h.own fun q hq hlt => (set_others q ?_).trans (hb.block q hlt)
    have := (h.own.lt q hq).1
    omega
  · have := hs.b9.box.lt
    exact (h.bel.trans (hb.mono (by omega))).setCell (p := ⟨b, 0, none⟩) (Nat.le_refl _) _
/-- Behind the reversal. -/
theorem SpAt.turned {b : Nat} {w wr w5 : World} {t t' : Hs} {u : Nat → Ls.Sl} {d : Hd_} {G : Nat → List Int} {on : List Int} {base : Nat} {a : Option Addr} {c j : Nat} (h : SpAt b w wr t u d G on base a c j) (hs : Sto wr b t' u ⟨zeroAt d.ws (on.take j), d.f, d.F, d.cs⟩ G) (hoff : ∀ q, (Value.slice a on.length c).ownBlock = some q → Offs q t' u) (hbase : b < base)
    (hg : wr.grownBy w5 (Value.slice a on.length c).ownBlock) : Sto w5 b t' u ⟨zeroAt d.ws (on.take j), d.f, d.F, d.cs⟩ G ∧ Below b w w5 := by
  have h1 : Below b wr w5 := (Below.refl _ _).grown hg (by have := hs.b9.box.lt; omega) (fun q hq => by have := (h.own.lt q hq).1; omega)
  refine ⟨?_, h.bel.trans h1⟩
  cases hq : (Value.slice a on.length c).ownBlock with
  | none => exact hs.next ((Below.refl _ _).grown hg (Nat.le_refl _) (fun q hq' => by rw [hq] at hq'; cases hq'))
  | some q =>
    have := (h.own.lt q hq).1
    exact hs.other (hoff q hq) (by omega) (fun i hi hne => hg.block i hi (by rw [hq]; simpa using hne)) hg.size
section
variable (b : Nat) (t : Hs) (u : Nat → Ls.Sl) (d : Hd_) (G : Nat → List Int) (k : Nat) (w : World)
theorem split_none (hs : Sto w b t u d G) (hf : Fit t) (h : Cl.findO d.f t.p.n 1 = none) : Calls Tryz.prog 113 #[.pointer (some ⟨b, 0, none⟩), .int .i64 k] w fun e w' => e = .returned (.bool false) ∧ Below w.heap.size w w' := by
  have HS := Lib.hid hs
  have hp := hf.p
  have hpc := hs.pc
  have q1 := hs.b9.box.c1
  have ql := hs.b9.box.lt
  have h1 : Cl.findV d.f t.p.n 1 = 0 := by unfold Cl.findV; rw [h]
  have h2 : Cl.findS d.f t.p.n 1 = false := by unfold Cl.findS; rw [h]; rfl
  clear hs h hf
  go_enter Tryz.func113, Tryz.ntmps113
  go_wp2_with fail
  refine (Cl.pfind_any w.heap.size _ _ _ d.f 1 w (by omega) hpc HS.out.hp.pages (Nat.le_refl _)).mono ?_
  rw [h1, h2]
  rintro e w1 ⟨rfl, hb1⟩
  go_wp2
  go_ret
  exact ⟨rfl, hb1⟩
set_option maxHeartbeats 2000000 in
theorem split_some (p : Nat) (hs : Sto w b t u d G) (hz : Cl.Sz w) (h0 : 0 < b) (hf : Fit t) (hk : k < 3) (hun : ∀ j, j < 3 → (t.u j).n ≤ 2000000) (h : Cl.findO d.f t.p.n 1 = some p) :
    Calls Tryz.prog 113 #[.pointer (some ⟨b, 0, none⟩), .int .i64 k] w fun e w' => e = .returned (.bool true) ∧ (∃ t', Sto w' b t' u (splitD d t.p.n k p) G ∧ Same3 t t') ∧ Below b w w' := by
  have HS := Lib.hid hs
  have HZ := Lib.hid hz
  have hp := hf.p
  have hpc := hs.pc
  have q1 := hs.b9.box.c1
  have ql := hs.b9.box.lt
  have h1 : Cl.findV d.f t.p.n 1 = p := by unfold Cl.findV; rw [h]
  have h2 : Cl.findS d.f t.p.n 1 = true := by unfold Cl.findS; rw [h]; rfl
  obtain ⟨hm, hpn, hp0⟩ := find_one h
  clear hs hz
  go_enter Tryz.func113, Tryz.ntmps113
  go_wp2_with fail
  refine (Cl.pfind_any w.heap.size _ _ _ d.f 1 w (by omega) hpc HS.out.hp.pages (Nat.le_refl _)).mono ?_
  rw [h1, h2]
  rintro e w1 ⟨rfl, hb1⟩
  have S1 := Lib.hid (HS.out.next hb1)
  have q1 := S1.out.b9.box.c1
  have ql := S1.out.b9.box.lt
  go_wp2_with fail
  refine (Cl.small_any w1.heap.size _ _ _ d.f p k w1 (by omega) hpc S1.out.hp.pages (Nat.le_refl _)).mono ?_
  rintro e w2 hout
  obtain ⟨A, c, rfl, hr2, hc2, hb2⟩ := small_done hm hpn hp0 hk hout
  have S2 := S1.out.next hb2
  obtain ⟨f, hf'⟩ : ∃ f, f = Cl.put d.f p (1, (k : Int)) := ⟨_, rfl⟩
  rw [← hf'] at hr2
  have S3 := Lib.hid (S2.turn (t' := ⟨t.w, ⟨A, t.p.n, c⟩, t.u, t.c⟩) (d' := ⟨d.ws, f, d.F, d.cs⟩) (S2.b9.set 1 A t.p.n c rfl rfl rfl rfl rfl rfl rfl rfl rfl) set_others set_size.symm ⟨S2.hp.words, hr2, S2.hp.free, S2.hp.cards⟩ S2.l3 hc2)
  have B2 := Lib.hid (((hb1.mono (show b ≤ w.heap.size by omega)).trans (hb2.mono (show b ≤ w1.heap.size by omega))).setCell (p := ⟨b, 1, none⟩) (Nat.le_refl _) (.slice A t.p.n c))
  have r1 := S2.b9.box.c1
  have rl := S2.b9.box.lt
  have f1 := S2.b9.free 1
  clear hout hr2 hb1 hb2 S2 S1 q1 ql
  go_wp2_with fail
  obtain ⟨w3, hw3⟩ : ∃ w3, w3 = w2.setCell ⟨b, 1, none⟩ (.slice A t.p.n c) := ⟨_, rfl⟩
  rw [← hw3] at S3 B2 ⊢
  clear hw3 r1 rl f1
  have Z3 := HZ.out.over B2.out h0
  have z3 := B2.out.size
  have e3 : b < w3.heap.size := S3.out.b9.box.lt
  refine (Cl.on_own w3.heap.size A t.p.n c f p w3 (by omega) Z3 S3.out.hp.pages (Nat.le_refl _)).mono ?_
  rintro e w4 ⟨a4, c4, rfl, ho4, hb4⟩
  obtain ⟨on, hon⟩ : ∃ on, on = Cl.onS f t.p.n p := ⟨_, rfl⟩
  rw [← hon] at ho4 ⊢
  have hlen : on.length ≤ 8 := by rw [hon]; exact on_short _ _ _
  have hw16 := hf.wp
  have HIN : Hid (∀ y ∈ on, 16 ≤ y ∧ y < 16 + (t.w.n : Int)) := Lib.hid fun y hy => by
    rw [hon] at hy
    have := bg_page (mem_on.1 hy).1
    omega
  have HMB := Lib.hid hf.w
  obtain ⟨m, hmm⟩ : ∃ m, m = on.length := ⟨_, rfl⟩
  have L0 : Hid (SpAt b w w4 t u ⟨d.ws, f, d.F, d.cs⟩ G on w3.heap.size a4 c4 0) := Lib.hid ⟨⟨_, S3.out.next hb4, ⟨rfl, rfl, rfl⟩, rfl, fun q hq => S3.out.offs (ho4.lt q hq).1⟩, ho4, B2.out.trans (hb4.mono (by omega))⟩
  have HON := Lib.hid hon
  have HM := Lib.hid hmm
  have HF' := Lib.hid hf'
  rw [← hmm] at hlen ⊢
  clear ho4 hb4 hon hf' hmm Z3 q1 ql S3 B2 HS hpc hc2 hm hpn hp0 h1 h2 hf hw16 z3
  go_wp2
  go_loopw [45] (fun i wr => ∃ j : Nat, j ≤ m ∧ i = .int .i64 j ∧ Hid (SpAt b w wr t u ⟨d.ws, f, d.F, d.cs⟩ G on w3.heap.size a4 c4 j)) (fun i _ => m - (intOf i).toNat)
  case atStart => exact ⟨0, Nat.zero_le _, rfl, L0⟩
  case round =>
    obtain ⟨j, hj, rfl, HJ⟩ := hrel
    clear L0
    by_cases hlt : j < m
    · have dq : decide ((j : Int) < m) = true := by simp; omega
      have ik0 : (0 : Int) ≤ j := by omega
      have ik1 : (j : Int) < m := by omega
      obtain ⟨t', hs, h3, hu, hoff⟩ := HJ.out.sto
      have HS := Lib.hid hs
      have H3 := Lib.hid h3
      have HU := Lib.hid hu
      have HO := Lib.hid hoff
      have hjl : j < on.length := by have := HM.out; omega
      obtain ⟨y, hy⟩ : ∃ y, on.getD j 0 = y := ⟨_, rfl⟩
      have hyin : y ∈ on := by rw [← hy]; exact getD_mem hjl
      have hyr := HIN.out y hyin
      have HY := Lib.hid hy
      obtain ⟨a9, c9, e9, hrow, _, _⟩ := Ls.owns_row HJ.out.own
      simp only [Value.slice.injEq, true_and] at e9
      obtain ⟨rfl, rfl⟩ := e9
      obtain ⟨bb, off, ea, hbl, hc⟩ := hrow.2 (by omega)
      have c1 := hc j hjl
      rw [hy] at c1
      have q0 := HS.out.b9.box.c0
      have ql := HS.out.b9.box.lt
      subst ea
      clear hs h3 hu hoff hrow hc hy hyin hjl
      go_wp2_with fail
      refine (Ar.put_ok wr.heap.size t'.w.a t'.w.n t'.w.c (zeroAt d.ws (on.take j)) y 0 wr (by rw [H3.out.1]; exact HMB.out) hyr.1 (by have := H3.out.1; omega) HS.out.hp.words).mono ?_
      rintro e w5 ⟨g, cw, rfl, hm5, hb5⟩
      have SB := HS.out.b9.next hb5
      have r0 := SB.box.c0
      have rl := SB.box.lt
      have f0 := SB.free 0
      have S5 := Lib.hid (HJ.out.step HS.out H3.out HU.out HO.out (by have := HM.out; omega) HY.out e3 hm5 hb5)
      clear hm5 hb5 SB c1 q0 ql
      go_wp2
      go_roundw
      case rel => exact ⟨j + 1, by omega, by go_num, S5⟩
      case measure => simp [intOf]; omega
    · have dq : decide ((j : Int) < m) = false := by simp; omega
      obtain rfl : j = m := by omega
      clear hj hlt
      obtain ⟨t', hs, h3, hu, hoff⟩ := HJ.out.sto
      have HS := Lib.hid hs
      have H3 := Lib.hid h3
      have HU := Lib.hid hu
      have HO := Lib.hid hoff
      clear hs h3 hu hoff
      go_wp2_with fail
      refine (reverse_own' wr w3.heap.size a4 c4 j on HM.out HJ.out.own (by have := HM.out; omega)).mono ?_
      rintro e w5 ⟨rfl, ho5, hg5⟩
      have T5 := HJ.out.turned HS.out HO.out e3 hg5
      have S5 := Lib.hid T5.1
      have B5 := Lib.hid T5.2
      have O5 := Lib.hid ho5
      have q2 := S5.out.b9.box.c2
      have q3 := S5.out.b9.box.c3
      have q4 := S5.out.b9.box.c4
      have ql := S5.out.b9.box.lt
      clear T5 ho5 hg5
      go_wp2_with fail
      obtain ⟨a9, c9, e9, hrow, _, _⟩ := Ls.owns_row O5.out
      simp only [Value.slice.injEq, true_and] at e9
      obtain ⟨rfl, rfl⟩ := e9
      refine (Ls.push_ok w5.heap.size t'.u d.F k hk a4 j c4 on.reverse w5 S5.out.hp.free (Nat.le_refl _) (fun j hj => by rw [HU.out]; exact hun j hj) hrow (by omega)).mono ?_
      rintro e w6 ⟨v6, rfl, hl6, hb6⟩
      have S6 := S5.out.next hb6
      have hsz5 := B5.out.size
      have r2 := S6.b9.box.c2
      have r3 := S6.b9.box.c3
      have r4 := S6.b9.box.c4
      have rl := S6.b9.box.lt
      have f2 := S6.b9.free 2
      have f3 := S6.b9.free 3
      have f4 := S6.b9.free 4
      have L6 := Lib.hid hl6
      have B6 := Lib.hid (B5.out.trans (hb6.mono (show b ≤ w5.heap.size by omega)))
      have S7 := Lib.hid S6
      clear hl6 hb6 S6 q2 q3 q4 ql hrow
      go_wp2
      go_ret
      refine ⟨rfl, ⟨⟨t'.w, t'.p, v6, t'.c⟩, ?_, H3.out⟩, ((B6.out.setCell (p := ⟨b, 2, none⟩) (Nat.le_refl _) _).setCell (p := ⟨b, 3, none⟩) (Nat.le_refl _) _).setCell (p := ⟨b, 4, none⟩) (Nat.le_refl _) _⟩
      have e9 : splitD d t.p.n k p = ⟨zeroAt d.ws (on.take j), f, Ls.upd d.F k (d.F k ++ on.reverse), d.cs⟩ := by
        unfold splitD
        rw [HM.out, List.take_length, HON.out, HF'.out]
      rw [e9]
      exact S7.out.turn (S7.out.b9.free3 v6) set3_others (by rw [set_size, set_size, set_size]) ⟨S7.out.hp.words, S7.out.hp.pages, L6.out, S7.out.hp.cards⟩ S7.out.l3 S7.out.pc
end
end Go.Proofs.YtdmclfolooiccaaGreatDoor
end
section
namespace Go.Proofs.YtdmclfolooiccaaGreatDoor
open Go.RowKit
set_option maxRecDepth 100000

/-- A cell was taken. -/
def PoppedL (b : Nat) (w : World) (t : Hs) (u : Nat → Ls.Sl) (d' : Hd_) (G' : Nat → List Int) (a : Int) (e : Ending) (w' : World) : Prop :=
  e = .returned (.tuple #[.int .i64 a, .int .i64 0]) ∧ (∃ t', Sto w' b t' u d' G' ∧ Same3 t t') ∧ Below b w w'
theorem large_done {w w' : World} {f : Nat → Int × Int} {n p : Nat} {m : Int} {e : Ending} (hm : Cl.mayB f n = true) (h1 : 1 ≤ m) (h4 : m ≤ 4) (hp : (p : Int) + m ≤ n) (hf : Cl.freeB f p m.toNat = true) (h : Cl.TOut w (Cl.largeE f n (p : Int) m) n (Cl.largeF f (p : Int) m) e w') :
    ∃ A c, e = .returned (.tuple #[.slice A n c, .int .i64 0]) ∧ Cl.PRow w' w'.heap.size A n (Cl.large f p m) ∧ n ≤ c ∧ Below w.heap.size w w' := by
  have hE : Cl.largeE f n (p : Int) m = 0 := by
    unfold Cl.largeE
    rw [if_pos ((Cl.runB_iff _).2 ⟨h1, h4⟩)]
    exact Cl.takeE_ok hm (by omega) (by rw [Int.toNat_natCast]; exact hf)
  rw [hE] at h
  obtain ⟨A, c, h1, h2, h3, h4⟩ := h
  have e0 : Cl.outN 0 n = n := if_pos rfl
  rw [e0] at h1 h2 h3
  exact ⟨A, c, h1, h2, h3, h4⟩
section
variable (b : Nat) (t : Hs) (u : Nat → Ls.Sl) (d : Hd_) (G : Nat → List Int) (w : World) (N m : Int)
theorem large_no (hs : Sto w b t u d G) (hz : Cl.Sz w) (hf : Fit t) (hN : Cl.runErr N = 0) (hm : Cl.runOf N = m) (h : Cl.findO d.f t.p.n m = none) : Calls Tryz.prog 54 #[.pointer (some ⟨b, 0, none⟩), .int .i64 N] w fun e w' => e = .returned (.tuple #[.int .i64 0, .int .i64 4]) ∧ Below w.heap.size w w' := by
  have HC := Cl.run_of N w hz
  rw [hN, hm] at HC
  have HR := Lib.hid HC
  have HS := Lib.hid hs
  have hp := hf.p
  have hpc := hs.pc
  have q1 := hs.b9.box.c1
  have ql := hs.b9.box.lt
  have h1 : Cl.findV d.f t.p.n m = 0 := by unfold Cl.findV; rw [h]
  have h2 : Cl.findS d.f t.p.n m = false := by unfold Cl.findS; rw [h]; rfl
  have HF := Lib.hid (Cl.pfind_any w.heap.size t.p.a t.p.n t.p.c d.f m w (by omega) hpc HS.out.hp.pages (Nat.le_refl _))
  rw [h1, h2] at HF
  clear hs h hf HC hz hm hN h1 h2
  go_enter Tryz.func54, Tryz.ntmps54
  go_wp2_with fail
  refine HR.out.mono ?_
  rintro e w0 ⟨rfl, rfl⟩
  go_wp2_with fail
  refine HF.out.mono ?_
  rintro e w1 ⟨rfl, hb1⟩
  go_wp2
  go_ret2
  exact ⟨rfl, hb1⟩
theorem large_yes (p : Nat) (hs : Sto w b t u d G) (hz : Cl.Sz w) (hf : Fit t) (hN : Cl.runErr N = 0) (hm : Cl.runOf N = m) (h : Cl.findO d.f t.p.n m = some p) : Calls Tryz.prog 54 #[.pointer (some ⟨b, 0, none⟩), .int .i64 N] w (PoppedL b w t u (largeD d p m) G (16 + 16 * (p : Int))) := by
  obtain ⟨g1, g2, g3, g4, g5⟩ := find_run h
  have HC := Cl.run_of N w hz
  rw [hN, hm] at HC
  have HR := Lib.hid HC
  have HS := Lib.hid hs
  have hp := hf.p
  have hpc := hs.pc
  have q1 := hs.b9.box.c1
  have ql := hs.b9.box.lt
  have h1 : Cl.findV d.f t.p.n m = p := by unfold Cl.findV; rw [h]
  have h2 : Cl.findS d.f t.p.n m = true := by unfold Cl.findS; rw [h]; rfl
  have HF := Lib.hid (Cl.pfind_any w.heap.size t.p.a t.p.n t.p.c d.f m w (by omega) hpc HS.out.hp.pages (Nat.le_refl _))
  rw [h1, h2] at HF
  have HD := Lib.hid (fun (w1 : World) (hS1 : Sto w1 b t u d G) => (Cl.large_any w1.heap.size t.p.a t.p.n t.p.c d.f p m w1 (by omega) hpc hS1.hp.pages (Nat.le_refl _)).mono fun _ _ ho => large_done g1 g2 g3 g4 g5 ho)
  have hwp := hf.wp
  have HA : Hid (∀ w1, Calls Tryz.prog 85 #[.slice t.w.a t.w.n t.w.c, .int .i64 (p : Int)] w1 fun e w' => e = .returned (.tuple #[.int .i64 (16 + 16 * (p : Int)), .int .i64 0]) ∧ w1 = w') := Lib.hid (fun w1 => by
    have := Ar.at_ok t.w.a t.w.n t.w.c (p : Int) w1 hf.w (by omega) (by omega)
    rwa [show 16 + (p : Int) * 16 = 16 + 16 * (p : Int) by omega] at this)
  clear hs h hf HC hz hm hN h1 h2 hwp g1 g2 g3 g4 g5
  go_enter Tryz.func54, Tryz.ntmps54
  go_wp2_with fail
  refine HR.out.mono ?_
  rintro e w0 ⟨rfl, rfl⟩
  go_wp2_with fail
  refine HF.out.mono ?_
  rintro e w1 ⟨rfl, hb1⟩
  have S1 := Lib.hid (HS.out.next hb1)
  have q1 := S1.out.b9.box.c1
  have ql := S1.out.b9.box.lt
  go_wp2_with fail
  refine (HD.out w1 S1.out).mono ?_
  rintro e w2 ⟨A, c, rfl, hr2, hc2, hb2⟩
  have S2 := S1.out.next hb2
  obtain ⟨f, hf'⟩ : ∃ f, f = Cl.large d.f p m := ⟨_, rfl⟩
  rw [← hf'] at hr2
  have S3 := Lib.hid (S2.turn (t' := ⟨t.w, ⟨A, t.p.n, c⟩, t.u, t.c⟩) (d' := ⟨d.ws, f, d.F, d.cs⟩) (S2.b9.set 1 A t.p.n c rfl rfl rfl rfl rfl rfl rfl rfl rfl) set_others set_size.symm ⟨S2.hp.words, hr2, S2.hp.free, S2.hp.cards⟩ S2.l3 hc2)
  have B2 := Lib.hid (((hb1.mono (show b ≤ w.heap.size from Nat.le_of_lt HS.out.b9.box.lt)).trans (hb2.mono (show b ≤ w1.heap.size from Nat.le_of_lt S1.out.b9.box.lt))).setCell (p := ⟨b, 1, none⟩) (Nat.le_refl _) (.slice A t.p.n c))
  have r0 := S2.b9.box.c0
  have r1 := S2.b9.box.c1
  have rl := S2.b9.box.lt
  have f1 := S2.b9.free 1
  have HF' := Lib.hid hf'
  clear hr2 hb1 hb2 S2 S1 q1 ql hf'
  go_wp2_with fail
  refine (HA.out _).mono ?_
  rintro e w3 ⟨rfl, rfl⟩
  go_wp2
  go_ret2
  refine ⟨rfl, ⟨⟨t.w, ⟨A, t.p.n, c⟩, t.u, t.c⟩, ?_, rfl, rfl, rfl⟩, B2.out⟩
  have := S3.out
  rw [HF'.out] at this
  exact this
end
end Go.Proofs.YtdmclfolooiccaaGreatDoor
end
