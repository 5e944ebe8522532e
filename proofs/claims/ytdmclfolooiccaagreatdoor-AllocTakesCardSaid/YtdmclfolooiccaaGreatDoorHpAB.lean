/-
  Merged texts: LsPop, LsPart, LsInv, LsRes, LsSep.
-/
import Derived.Test.YtdmclfolooiccaaGreatDoorHpAA
import Derived.OrdersIn
import Derived.RangeFuncNested
import Derived.RangeFuncBound
import Derived.RangeFuncCalls
import Derived.RangeFuncLeaves
import Derived.Below
section
namespace Go.Proofs.YtdmclfolooiccaaGreatDoor.Ls
open Go.Proofs.YtdmclfolooiccaaGreatDoor
set_option maxRecDepth 100000
open Go.RowKit

def PopOut (w : World) (g : Nat → List Int) (a er : Int) (e : Ending) (w' : World) : Prop := ∃ u, e = .returned (.tuple #[(.agg #[.slice (u 0).a (u 0).n (u 0).c, .slice (u 1).a (u 1).n (u 1).c, .slice (u 2).a (u 2).n (u 2).c]), .int .i64 a, .int .i64 er]) ∧ L3 w' w'.heap.size u g ∧ Below w.heap.size w w'

theorem _root_.Go.Proofs.YtdmclfolooiccaaGreatDoor.Row.take {w : World} {B n m : Nat} {a : Option Addr} {xs : List Int} (h : Row w B a n xs) (hm : m ≤ n) : Row w B a m (xs.take m) :=
  ⟨by have := h.1; simp; omega, fun h0 => by
    obtain ⟨b, off, e, hb, hc⟩ := h.2 (by omega)
    refine ⟨b, off, e, hb, fun i hi => ?_⟩
    rw [hc i (by omega)]
    simp [List.getD, hi]⟩
theorem L3.cut {w : World} {B k m : Nat} {u : Nat → Sl} {f : Nat → List Int} (h : L3 w B u f) (hk : k < 3) (hm : m ≤ (u k).n) : L3 w B (upd u k ⟨(u k).a, m, (u k).c⟩) (upd f k ((f k).take m)) :=
  h.set k _ _ ((h k hk).1.take hm) (Nat.le_trans hm (h k hk).2.1) (h k hk).2.2
/-- Behind a cut of a class's slice, and the whole value's store into the result's box. -/
theorem cut_end {w w1 : World} {v : Nat → Sl} {f : Nat → List Int} {k m : Nat} (ho : Own3 w1 (w.heap.size + 2) v f) (hb : Below w.heap.size w w1) (X : Box3 w1 (w.heap.size + 1) noSl) (hk : k < 3) (hm : m ≤ (v k).n) {a : Option Addr} (ha : (v k).a = a) (o : Obj) (z : Nat → Sl) :
    L3 ((put3 w1 (w.heap.size + 1) z).alloc o) ((put3 w1 (w.heap.size + 1) z).alloc o).heap.size (upd v k ⟨a, m, (v k).c⟩) (upd f k ((f k).take m)) ∧ Below w.heap.size w ((put3 w1 (w.heap.size + 1) z).alloc o) := by
  have hX := X.lt
  subst ha
  have O1 := ho.put (b := w.heap.size + 1) (fun j y hj hy => by have := (ho.block j hj hy).1; omega) z
  refine ⟨(O1.alloc o).l3.cut hk hm, (below_put3 hb (by omega) z).alloc ?_ o⟩
  rw [put3_size]
  exact hb.size

theorem pop_ok0 (B : Nat) (u : Nat → Sl) (f : Nat → List Int) (m : Nat) (w : World) (h : L3 w B u f) (hB : B ≤ w.heap.size) (hn : ∀ j, j < 3 → (u j).n ≤ 2000000) (hm : (u 0).n = m + 1) :
    Calls Tryz.prog 87 #[(.agg #[.slice (u 0).a (u 0).n (u 0).c, .slice (u 1).a (u 1).n (u 1).c, .slice (u 2).a (u 2).n (u 2).c]), .int .i64 0] w (PopOut w (upd f 0 ((f 0).take m)) ((f 0).getD m 0) 0) := by
  have HL := Lib.hid h
  have HN := Lib.hid hn
  have hm2 : m ≤ 2000000 := by have := hn 0 (by decide); omega
  have hd : ((((u 0).n : Nat) : Int) == 0) = false := by simp; omega
  have HM := Lib.hid hm
  clear h hn hm
  go_enter Tryz.func87, Tryz.ntmps87
  go_wp2_with (go_at_call 115; refine (class_yes _ _ (by decide) (by decide)).mono ?_; rintro e w' ⟨rfl, rfl⟩)
  have b0 := two_below w (.cells #[.slice (u 0).a (u 0).n (u 0).c, .slice (u 1).a (u 1).n (u 1).c, .slice (u 2).a (u 2).n (u 2).c] 25) (.cells #[.slice none 0 0, .slice none 0 0, .slice none 0 0] 25)
  refine (copied_any B u f _ (HL.out.over b0 hB) (by simp; omega) HN.out).mono ?_
  rintro e w1 ⟨v, rfl, ho0, hb0⟩
  obtain ⟨X1, ho, hb⟩ := two_on ho0 hb0
  have OH := Lib.hid ho
  have BH := Lib.hid hb
  have hvn : (v 0).n = m + 1 := by
    have h1 := ho.l3.len 0 (by decide)
    have h2 := HL.out.len 0 (by decide)
    have h3 := HM.out
    omega
  have hc0 := (ho.l3 0 (by decide)).2
  have hcap : m + 1 ≤ (v 0).c := by omega
  have hcm := hc0.2
  unfold maxLen at hcm
  obtain ⟨b, off, hA, hlt, hcell⟩ := (ho.l3 0 (by decide)).1.2 (by omega)
  have hcl := hcell m (by omega)
  have hbl : b < w1.heap.size := hlt
  have E := Lib.hid (cut_end ho hb X1.out (k := 0) (m := m) (by decide) (by omega) hA)
  have x0 := X1.out.cell 0 (by decide)
  have x1 := X1.out.cell 1 (by decide)
  have x2 := X1.out.cell 2 (by decide)
  have y0 := X1.out.free 0
  have y1 := X1.out.free 1
  have y2 := X1.out.free 2
  have xl := X1.out.lt
  clear ho hb b0 hc0 hcell hlt ho0 hb0
  go_wp2
  refine bodyPost_ret (v := .tuple #[(.agg #[.slice (upd v 0 ⟨some ⟨b, off, none⟩, m, (v 0).c⟩ 0).a (upd v 0 ⟨some ⟨b, off, none⟩, m, (v 0).c⟩ 0).n (upd v 0 ⟨some ⟨b, off, none⟩, m, (v 0).c⟩ 0).c, .slice (upd v 0 ⟨some ⟨b, off, none⟩, m, (v 0).c⟩ 1).a (upd v 0 ⟨some ⟨b, off, none⟩, m, (v 0).c⟩ 1).n (upd v 0 ⟨some ⟨b, off, none⟩, m, (v 0).c⟩ 1).c, .slice (upd v 0 ⟨some ⟨b, off, none⟩, m, (v 0).c⟩ 2).a (upd v 0 ⟨some ⟨b, off, none⟩, m, (v 0).c⟩ 2).n (upd v 0 ⟨some ⟨b, off, none⟩, m, (v 0).c⟩ 2).c]), .int .i64 ((f 0).getD m 0), .int .i64 0]) ?_ rfl ?_
  rotate_left
  · exact ⟨_, rfl, E.out _ (upd v 0 ⟨some ⟨b, off, none⟩, m, (v 0).c⟩)⟩
  have R := (X1.out.put (upd v 0 ⟨some ⟨b, off, none⟩, m, (v 0).c⟩)).alloc (.cells #[.slice (upd v 0 ⟨some ⟨b, off, none⟩, m, (v 0).c⟩ 0).a (upd v 0 ⟨some ⟨b, off, none⟩, m, (v 0).c⟩ 0).n (upd v 0 ⟨some ⟨b, off, none⟩, m, (v 0).c⟩ 0).c, .slice (upd v 0 ⟨some ⟨b, off, none⟩, m, (v 0).c⟩ 1).a (upd v 0 ⟨some ⟨b, off, none⟩, m, (v 0).c⟩ 1).n (upd v 0 ⟨some ⟨b, off, none⟩, m, (v 0).c⟩ 1).c, .slice (upd v 0 ⟨some ⟨b, off, none⟩, m, (v 0).c⟩ 2).a (upd v 0 ⟨some ⟨b, off, none⟩, m, (v 0).c⟩ 2).n (upd v 0 ⟨some ⟨b, off, none⟩, m, (v 0).c⟩ 2).c] 25)
  have r0 := R.cell 0 (by decide)
  have r1 := R.cell 1 (by decide)
  have r2 := R.cell 2 (by decide)
  simp +decide only [put3, upd, reduceIte] at r0 r1 r2
  simp [results, Tryz.results87, go_sem, upd, r0, r1, r2]
theorem pop_ok1 (B : Nat) (u : Nat → Sl) (f : Nat → List Int) (m : Nat) (w : World) (h : L3 w B u f) (hB : B ≤ w.heap.size) (hn : ∀ j, j < 3 → (u j).n ≤ 2000000) (hm : (u 1).n = m + 1) :
    Calls Tryz.prog 87 #[(.agg #[.slice (u 0).a (u 0).n (u 0).c, .slice (u 1).a (u 1).n (u 1).c, .slice (u 2).a (u 2).n (u 2).c]), .int .i64 1] w (PopOut w (upd f 1 ((f 1).take m)) ((f 1).getD m 0) 0) := by
  have HL := Lib.hid h
  have HN := Lib.hid hn
  have hm2 : m ≤ 2000000 := by have := hn 1 (by decide); omega
  have hd : ((((u 1).n : Nat) : Int) == 0) = false := by simp; omega
  have HM := Lib.hid hm
  clear h hn hm
  go_enter Tryz.func87, Tryz.ntmps87
  go_wp2_with (go_at_call 115; refine (class_yes _ _ (by decide) (by decide)).mono ?_; rintro e w' ⟨rfl, rfl⟩)
  have b0 := two_below w (.cells #[.slice (u 0).a (u 0).n (u 0).c, .slice (u 1).a (u 1).n (u 1).c, .slice (u 2).a (u 2).n (u 2).c] 25) (.cells #[.slice none 0 0, .slice none 0 0, .slice none 0 0] 25)
  refine (copied_any B u f _ (HL.out.over b0 hB) (by simp; omega) HN.out).mono ?_
  rintro e w1 ⟨v, rfl, ho0, hb0⟩
  obtain ⟨X1, ho, hb⟩ := two_on ho0 hb0
  have OH := Lib.hid ho
  have BH := Lib.hid hb
  have hvn : (v 1).n = m + 1 := by
    have h1 := ho.l3.len 1 (by decide)
    have h2 := HL.out.len 1 (by decide)
    have h3 := HM.out
    omega
  have hc0 := (ho.l3 1 (by decide)).2
  have hcap : m + 1 ≤ (v 1).c := by omega
  have hcm := hc0.2
  unfold maxLen at hcm
  obtain ⟨b, off, hA, hlt, hcell⟩ := (ho.l3 1 (by decide)).1.2 (by omega)
  have hcl := hcell m (by omega)
  have hbl : b < w1.heap.size := hlt
  have E := Lib.hid (cut_end ho hb X1.out (k := 1) (m := m) (by decide) (by omega) hA)
  have x0 := X1.out.cell 0 (by decide)
  have x1 := X1.out.cell 1 (by decide)
  have x2 := X1.out.cell 2 (by decide)
  have y0 := X1.out.free 0
  have y1 := X1.out.free 1
  have y2 := X1.out.free 2
  have xl := X1.out.lt
  clear ho hb b0 hc0 hcell hlt ho0 hb0
  go_wp2
  refine bodyPost_ret (v := .tuple #[(.agg #[.slice (upd v 1 ⟨some ⟨b, off, none⟩, m, (v 1).c⟩ 0).a (upd v 1 ⟨some ⟨b, off, none⟩, m, (v 1).c⟩ 0).n (upd v 1 ⟨some ⟨b, off, none⟩, m, (v 1).c⟩ 0).c, .slice (upd v 1 ⟨some ⟨b, off, none⟩, m, (v 1).c⟩ 1).a (upd v 1 ⟨some ⟨b, off, none⟩, m, (v 1).c⟩ 1).n (upd v 1 ⟨some ⟨b, off, none⟩, m, (v 1).c⟩ 1).c, .slice (upd v 1 ⟨some ⟨b, off, none⟩, m, (v 1).c⟩ 2).a (upd v 1 ⟨some ⟨b, off, none⟩, m, (v 1).c⟩ 2).n (upd v 1 ⟨some ⟨b, off, none⟩, m, (v 1).c⟩ 2).c]), .int .i64 ((f 1).getD m 0), .int .i64 0]) ?_ rfl ?_
  rotate_left
  · exact ⟨_, rfl, E.out _ (upd v 1 ⟨some ⟨b, off, none⟩, m, (v 1).c⟩)⟩
  have R := (X1.out.put (upd v 1 ⟨some ⟨b, off, none⟩, m, (v 1).c⟩)).alloc (.cells #[.slice (upd v 1 ⟨some ⟨b, off, none⟩, m, (v 1).c⟩ 0).a (upd v 1 ⟨some ⟨b, off, none⟩, m, (v 1).c⟩ 0).n (upd v 1 ⟨some ⟨b, off, none⟩, m, (v 1).c⟩ 0).c, .slice (upd v 1 ⟨some ⟨b, off, none⟩, m, (v 1).c⟩ 1).a (upd v 1 ⟨some ⟨b, off, none⟩, m, (v 1).c⟩ 1).n (upd v 1 ⟨some ⟨b, off, none⟩, m, (v 1).c⟩ 1).c, .slice (upd v 1 ⟨some ⟨b, off, none⟩, m, (v 1).c⟩ 2).a (upd v 1 ⟨some ⟨b, off, none⟩, m, (v 1).c⟩ 2).n (upd v 1 ⟨some ⟨b, off, none⟩, m, (v 1).c⟩ 2).c] 25)
  have r0 := R.cell 0 (by decide)
  have r1 := R.cell 1 (by decide)
  have r2 := R.cell 2 (by decide)
  simp +decide only [put3, upd, reduceIte] at r0 r1 r2
  simp [results, Tryz.results87, go_sem, upd, r0, r1, r2]
theorem pop_ok2 (B : Nat) (u : Nat → Sl) (f : Nat → List Int) (m : Nat) (w : World) (h : L3 w B u f) (hB : B ≤ w.heap.size) (hn : ∀ j, j < 3 → (u j).n ≤ 2000000) (hm : (u 2).n = m + 1) :
    Calls Tryz.prog 87 #[(.agg #[.slice (u 0).a (u 0).n (u 0).c, .slice (u 1).a (u 1).n (u 1).c, .slice (u 2).a (u 2).n (u 2).c]), .int .i64 2] w (PopOut w (upd f 2 ((f 2).take m)) ((f 2).getD m 0) 0) := by
  have HL := Lib.hid h
  have HN := Lib.hid hn
  have hm2 : m ≤ 2000000 := by have := hn 2 (by decide); omega
  have hd : ((((u 2).n : Nat) : Int) == 0) = false := by simp; omega
  have HM := Lib.hid hm
  clear h hn hm
  go_enter Tryz.func87, Tryz.ntmps87
  go_wp2_with (go_at_call 115; refine (class_yes _ _ (by decide) (by decide)).mono ?_; rintro e w' ⟨rfl, rfl⟩)
  have b0 := two_below w (.cells #[.slice (u 0).a (u 0).n (u 0).c, .slice (u 1).a (u 1).n (u 1).c, .slice (u 2).a (u 2).n (u 2).c] 25) (.cells #[.slice none 0 0, .slice none 0 0, .slice none 0 0] 25)
  refine (copied_any B u f _ (HL.out.over b0 hB) (by simp; omega) HN.out).mono ?_
  rintro e w1 ⟨v, rfl, ho0, hb0⟩
  obtain ⟨X1, ho, hb⟩ := two_on ho0 hb0
  have OH := Lib.hid ho
  have BH := Lib.hid hb
  have hvn : (v 2).n = m + 1 := by
    have h1 := ho.l3.len 2 (by decide)
    have h2 := HL.out.len 2 (by decide)
    have h3 := HM.out
    omega
  have hc0 := (ho.l3 2 (by decide)).2
  have hcap : m + 1 ≤ (v 2).c := by omega
  have hcm := hc0.2
  unfold maxLen at hcm
  obtain ⟨b, off, hA, hlt, hcell⟩ := (ho.l3 2 (by decide)).1.2 (by omega)
  have hcl := hcell m (by omega)
  have hbl : b < w1.heap.size := hlt
  have E := Lib.hid (cut_end ho hb X1.out (k := 2) (m := m) (by decide) (by omega) hA)
  have x0 := X1.out.cell 0 (by decide)
  have x1 := X1.out.cell 1 (by decide)
  have x2 := X1.out.cell 2 (by decide)
  have y0 := X1.out.free 0
  have y1 := X1.out.free 1
  have y2 := X1.out.free 2
  have xl := X1.out.lt
  clear ho hb b0 hc0 hcell hlt ho0 hb0
  go_wp2
  refine bodyPost_ret (v := .tuple #[(.agg #[.slice (upd v 2 ⟨some ⟨b, off, none⟩, m, (v 2).c⟩ 0).a (upd v 2 ⟨some ⟨b, off, none⟩, m, (v 2).c⟩ 0).n (upd v 2 ⟨some ⟨b, off, none⟩, m, (v 2).c⟩ 0).c, .slice (upd v 2 ⟨some ⟨b, off, none⟩, m, (v 2).c⟩ 1).a (upd v 2 ⟨some ⟨b, off, none⟩, m, (v 2).c⟩ 1).n (upd v 2 ⟨some ⟨b, off, none⟩, m, (v 2).c⟩ 1).c, .slice (upd v 2 ⟨some ⟨b, off, none⟩, m, (v 2).c⟩ 2).a (upd v 2 ⟨some ⟨b, off, none⟩, m, (v 2).c⟩ 2).n (upd v 2 ⟨some ⟨b, off, none⟩, m, (v 2).c⟩ 2).c]), .int .i64 ((f 2).getD m 0), .int .i64 0]) ?_ rfl ?_
  rotate_left
  · exact ⟨_, rfl, E.out _ (upd v 2 ⟨some ⟨b, off, none⟩, m, (v 2).c⟩)⟩
  have R := (X1.out.put (upd v 2 ⟨some ⟨b, off, none⟩, m, (v 2).c⟩)).alloc (.cells #[.slice (upd v 2 ⟨some ⟨b, off, none⟩, m, (v 2).c⟩ 0).a (upd v 2 ⟨some ⟨b, off, none⟩, m, (v 2).c⟩ 0).n (upd v 2 ⟨some ⟨b, off, none⟩, m, (v 2).c⟩ 0).c, .slice (upd v 2 ⟨some ⟨b, off, none⟩, m, (v 2).c⟩ 1).a (upd v 2 ⟨some ⟨b, off, none⟩, m, (v 2).c⟩ 1).n (upd v 2 ⟨some ⟨b, off, none⟩, m, (v 2).c⟩ 1).c, .slice (upd v 2 ⟨some ⟨b, off, none⟩, m, (v 2).c⟩ 2).a (upd v 2 ⟨some ⟨b, off, none⟩, m, (v 2).c⟩ 2).n (upd v 2 ⟨some ⟨b, off, none⟩, m, (v 2).c⟩ 2).c] 25)
  have r0 := R.cell 0 (by decide)
  have r1 := R.cell 1 (by decide)
  have r2 := R.cell 2 (by decide)
  simp +decide only [put3, upd, reduceIte] at r0 r1 r2
  simp [results, Tryz.results87, go_sem, upd, r0, r1, r2]
theorem pop_ok (B : Nat) (u : Nat → Sl) (f : Nat → List Int) (k : Nat) (hk : k < 3) (m : Nat) (w : World) (h : L3 w B u f) (hB : B ≤ w.heap.size) (hn : ∀ j, j < 3 → (u j).n ≤ 2000000) (hm : (u k).n = m + 1) :
    Calls Tryz.prog 87 #[(.agg #[.slice (u 0).a (u 0).n (u 0).c, .slice (u 1).a (u 1).n (u 1).c, .slice (u 2).a (u 2).n (u 2).c]), .int .i64 k] w (PopOut w (upd f k ((f k).take m)) ((f k).getD m 0) 0) := by
  rcases (show k = 0 ∨ k = 1 ∨ k = 2 by omega) with rfl | rfl | rfl
  · exact pop_ok0 B u f m w h hB hn hm
  · exact pop_ok1 B u f m w h hB hn hm
  · exact pop_ok2 B u f m w h hB hn hm
end Go.Proofs.YtdmclfolooiccaaGreatDoor.Ls
end
section
namespace Go.Proofs.YtdmclfolooiccaaGreatDoor.Ls
open Go.Proofs.YtdmclfolooiccaaGreatDoor
set_option maxRecDepth 100000
open Go.RowKit

def PartOut (w : World) (g : Nat → List Int) (ys : List Int) (er : Int) (e : Ending) (w' : World) : Prop :=
  ∃ u s, e = .returned (.tuple #[(.agg #[.slice (u 0).a (u 0).n (u 0).c, .slice (u 1).a (u 1).n (u 1).c, .slice (u 2).a (u 2).n (u 2).c]), .slice (s : Sl).a s.n s.c, .int .i64 er]) ∧ L3 w' w'.heap.size u g ∧ (Row w' w'.heap.size s.a s.n ys ∧ s.n ≤ s.c ∧ s.c ≤ maxLen) ∧ Below w.heap.size w w'
def isIn (low high a : Int) : Bool := decide (low ≤ a ∧ a < high)
def inOf (low high : Int) (xs : List Int) : List Int := xs.filter (isIn low high)
def outOf (low high : Int) (xs : List Int) : List Int := xs.filter (fun a => !isIn low high a)

theorem take_next {xs : List Int} {k n : Nat} (hl : xs.length = n) (hk : k < n) : xs.take (k + 1) = xs.take k ++ [xs.getD k 0] := by
  rw [List.take_add_one]
  simp [List.getD, List.getElem?_eq_getElem (show k < xs.length by omega)]

/-- While a slice's numbers are parted: two slices of the walk's own, apart, in memory from base on. -/
structure Parting (V wr : World) (base : Nat) (s p : Sl) (ys zs : List Int) : Prop where
  stay : wr.ownsRow base 3 1 (.slice s.a s.n s.c) s.n (ys.map (Value.int .i64))
  part : wr.ownsRow base 3 1 (.slice p.a p.n p.c) p.n (zs.map (Value.int .i64))
  apart : ∀ x y, s.a = some x → p.a = some y → ¬ x.block = y.block
  bel : Below base V wr
section
variable {V wr w2 : World} {base : Nat} {s p t : Sl} {ys zs : List Int} {o : Obj}
theorem Parting.size (h : Parting V wr base s p ys zs) (hV : base ≤ V.heap.size) : base ≤ wr.heap.size := Nat.le_trans hV h.bel.size
theorem Parting.below_cat {v : Value} {xs : List Int} (h : Parting V wr base s p ys zs) (hV : base ≤ V.heap.size) (hc : Catted (wr.alloc o) base v t xs w2) (ho : ∀ q, v.ownBlock = some q → base ≤ q) : Below base V w2 :=
  ((h.bel.alloc (h.size hV) o).grown hc.grown (by simp; have := h.size hV; omega) ho)
theorem Parting.yes {xs : List Int} (h : Parting V wr base s p ys zs) (hV : base ≤ V.heap.size) (hc : Catted (wr.alloc o) base (.slice p.a p.n p.c) t xs w2) : Parting V w2 base s t ys xs := by
  refine ⟨World.ownsRow.same h.stay (fun g hg hlt => ?_), hc.own, fun x y hx hy => ?_, h.below_cat hV hc (fun q hq => (h.part.lt q hq).1)⟩
  · refine (hc.grown.block g (by simp; omega) ?_).trans (Below.heap_alloc wr o g hlt)
    rw [ownBlock_slice] at hg ⊢
    cases hs : s.a with
    | none => rw [hs] at hg; cases hg
    | some x =>
      rw [hs] at hg
      cases hp : p.a with
      | none => simp
      | some y =>
        have := h.apart x y hs hp
        simp at hg
        subst hg
        simpa using this
  · have hl := own_block h.stay hx
    rcases hc.lies y hy with e | e
    · rw [ownBlock_slice] at e
      cases hp : p.a with
      | none => rw [hp] at e; cases e
      | some z =>
        rw [hp] at e
        simp at e
        rw [← e]
        exact h.apart x z hx hp
    · simp at e
      omega
theorem Parting.swap (h : Parting V wr base s p ys zs) : Parting V wr base p s zs ys := ⟨h.part, h.stay, fun x y hx hy e => h.apart y x hy hx e.symm, h.bel⟩
theorem Parting.no {xs : List Int} (h : Parting V wr base s p ys zs) (hV : base ≤ V.heap.size) (hc : Catted (wr.alloc o) base (.slice s.a s.n s.c) t xs w2) : Parting V w2 base t p xs zs := (h.swap.yes hV hc).swap
end
theorem row_lit1 (w : World) (a : Int) : Row (w.alloc (.cells #[.int .i64 a] 3)) (w.heap.size + 1) (some ⟨w.heap.size, 0, none⟩) 1 [a] := by
  refine ⟨rfl, fun _ => ⟨_, _, rfl, by omega, fun i hi => ?_⟩⟩
  match i, hi with
  | 0, _ => simp [go_sem]

/-- What stands at the head of Part's loop, k numbers on. -/
def PartAt (w1 wr : World) (v : Nat → Sl) (xs : List Int) (low high : Int) (k : Nat) (s p : Sl) : Prop :=
  Parting (w1.alloc (.cells #[.slice (v 0).a (v 0).n (v 0).c, .slice (v 1).a (v 1).n (v 1).c, .slice (v 2).a (v 2).n (v 2).c] 25)) wr (w1.heap.size + 1) s p (outOf low high (xs.take k)) (inOf low high (xs.take k))
section
variable {w w1 wr : World} {v : Nat → Sl} {f : Nat → List Int} {xs : List Int} {low high a : Int} {k n : Nat} {s p : Sl}
theorem PartAt.start : PartAt w1 (w1.alloc (.cells #[.slice (v 0).a (v 0).n (v 0).c, .slice (v 1).a (v 1).n (v 1).c, .slice (v 2).a (v 2).n (v 2).c] 25)) v xs low high 0 ⟨none, 0, 0⟩ ⟨none, 0, 0⟩ :=
  ⟨World.ownsRow_nil _ _ _ _, World.ownsRow_nil _ _ _ _, fun x y hx => by simp at hx, Below.refl _ _⟩
theorem PartAt.yes {w2 : World} {t : Sl} {o : Obj} (h : PartAt w1 wr v xs low high k s p) (hl : xs.length = n) (hk : k < n) (ha : a = xs.getD k 0) (hi : isIn low high a = true)
    (hc : Catted (wr.alloc o) (w1.heap.size + 1) (.slice p.a p.n p.c) t (inOf low high (xs.take k) ++ [a]) w2) : PartAt w1 w2 v xs low high (k + 1) s t := by
  have := Parting.yes h (by simp) hc
  unfold PartAt
  rw [take_next hl hk, ← ha]
  have e1 : outOf low high (xs.take k ++ [a]) = outOf low high (xs.take k) := by simp [outOf, hi]
  have e2 : inOf low high (xs.take k ++ [a]) = inOf low high (xs.take k) ++ [a] := by simp [inOf, hi]
  rw [e1, e2]
  exact this
theorem PartAt.no {w2 : World} {t : Sl} {o : Obj} (h : PartAt w1 wr v xs low high k s p) (hl : xs.length = n) (hk : k < n) (ha : a = xs.getD k 0) (hi : isIn low high a = false)
    (hc : Catted (wr.alloc o) (w1.heap.size + 1) (.slice s.a s.n s.c) t (outOf low high (xs.take k) ++ [a]) w2) : PartAt w1 w2 v xs low high (k + 1) t p := by
  have := Parting.no h (by simp) hc
  unfold PartAt
  rw [take_next hl hk, ← ha]
  have e1 : outOf low high (xs.take k ++ [a]) = outOf low high (xs.take k) ++ [a] := by simp [outOf, hi]
  have e2 : inOf low high (xs.take k ++ [a]) = inOf low high (xs.take k) := by simp [inOf, hi]
  rw [e1, e2]
  exact this
theorem PartAt.box (h : PartAt w1 wr v xs low high k s p) : Box3 wr w1.heap.size v := (Box3.new w1 v 25).below h.bel (by omega)
theorem PartAt.res (h : PartAt w1 wr v xs low high k s p) {b : Nat} {z : Nat → Sl} (X : Box3 w1 b z) : Box3 wr b z := (X.alloc _).below h.bel (by have := X.lt; omega)
theorem PartAt.row (h : PartAt w1 wr v xs low high k s p) {B m : Nat} {A : Option Addr} {ys : List Int} (hr : Row w1 B A m ys) (hB : B ≤ w1.heap.size) : Row wr B A m ys := (hr.alloc _ hB).over h.bel (by omega)
theorem PartAt.done (h : PartAt w1 wr v xs low high k s p) (ho : Own3 w1 (w.heap.size + 2) v f) (hb : Below w.heap.size w w1) (X : Box3 w1 (w.heap.size + 1) noSl) {j : Nat} (x : Value) (z : Nat → Sl) :
    (let W := put3 (wr.setCell ⟨w1.heap.size, j, none⟩ x) (w.heap.size + 1) z
     L3 W W.heap.size (upd v j s) (upd f j (outOf low high (xs.take k))) ∧ (Row W W.heap.size p.a p.n (inOf low high (xs.take k)) ∧ p.n ≤ p.c ∧ p.c ≤ maxLen) ∧ Below w.heap.size w W) := by
  intro W
  have hX := X.lt
  have hV : wr.heap.size = W.heap.size := by show _ = (put3 _ _ _).heap.size; rw [put3_size]; simp [World.setCell]
  have keep : ∀ b, ¬ b = w1.heap.size → ¬ b = w.heap.size + 1 → W.heap[b]? = wr.heap[b]? := fun b h1 h2 => (put3_other _ _ h2).trans (Below.heap_setCell _ _ _ _ h1)
  have O1 : Own3 wr (w.heap.size + 2) v f := (ho.alloc (.cells #[.slice (v 0).a (v 0).n (v 0).c, .slice (v 1).a (v 1).n (v 1).c, .slice (v 2).a (v 2).n (v 2).c] 25)).same (fun j y hj hy => h.bel.block _ (by have := (ho.block j hj hy).2; omega))
  have O2 : Own3 W (w.heap.size + 2) v f := O1.same (fun j y hj hy => keep _ (by have := (ho.block j hj hy).2; omega) (by have := (ho.block j hj hy).1; omega))
  have S2 : W.ownsRow (w1.heap.size + 1) 3 1 (.slice s.a s.n s.c) s.n ((outOf low high (xs.take k)).map (Value.int .i64)) := World.ownsRow.same h.stay (fun g hg hlt => keep g (by have := (h.stay.lt g hg).1; omega) (by have := (h.stay.lt g hg).1; omega))
  have P2 : W.ownsRow (w1.heap.size + 1) 3 1 (.slice p.a p.n p.c) p.n ((inOf low high (xs.take k)).map (Value.int .i64)) := World.ownsRow.same h.part (fun g hg hlt => keep g (by have := (h.part.lt g hg).1; omega) (by have := (h.part.lt g hg).1; omega))
  obtain ⟨a1, c1, e1, r1, l1, m1⟩ := owns_row S2
  obtain ⟨a2, c2, e2, r2, l2, m2⟩ := owns_row P2
  simp only [Value.slice.injEq, true_and] at e1 e2
  obtain ⟨rfl, rfl⟩ := e1
  obtain ⟨rfl, rfl⟩ := e2
  refine ⟨O2.l3.set j s _ r1 l1 m1, ⟨r2, l2, m2⟩, below_put3 (((hb.alloc hb.size _).trans (h.bel.mono ?_)).setCell (p := ⟨w1.heap.size, j, none⟩) hb.size _) (by omega) _⟩
  have := hb.size
  omega
end

end Go.Proofs.YtdmclfolooiccaaGreatDoor.Ls
end
section
namespace Go.Proofs.YtdmclfolooiccaaGreatDoor.Ls
open Go.Proofs.YtdmclfolooiccaaGreatDoor
set_option maxRecDepth 100000
open Go.RowKit

def todo : Nat → (Nat → Bool) → Nat
  | 0, _ => 0
  | n + 1, l => todo n l + (if l n then 0 else 1)
theorem todo_upd {l : Nat → Bool} {i : Nat} (h : l i = false) : ∀ n, i < n → todo n (upd l i true) + 1 = todo n l
  | 0, hi => absurd hi (by omega)
  | n + 1, hi => by
    by_cases e : i = n
    · subst e
      have same : ∀ m, m ≤ i → todo m (upd l i true) = todo m l := by
        intro m
        induction m with
        | zero => intro _; rfl
        | succ m ih =>
          intro hm
          simp only [todo]
          rw [ih (by omega), upd_other _ _ (by omega)]
      simp only [todo]
      rw [same i (Nat.le_refl _), upd_same, h]
      simp
    · have := todo_upd h n (by omega)
      simp only [todo]
      rw [upd_other _ _ (by omega)]
      omega
theorem todo_none {l : Nat → Bool} : ∀ n, todo n l = 0 → ∀ i, i < n → l i = true
  | 0, _, i, hi => absurd hi (by omega)
  | n + 1, h, i, hi => by
    simp only [todo] at h
    cases hl : l n
    · rw [hl] at h
      simp at h
    · by_cases e : i = n
      · rw [e]; exact hl
      · exact todo_none n (by omega) i (by omega)
theorem todo_le (l : Nat → Bool) : ∀ n, todo n l ≤ n
  | 0 => Nat.le_refl _
  | n + 1 => by
    have := todo_le l n
    simp only [todo]
    split <;> omega

section
variable {F : Fence} {n : Nat} {P : Program} {ops : Array Oper} {Q : Exit → Act → World → Prop} {md : Region.Mode}
theorem wpAnyIn_inv (Inv : (Nat → Bool) → Act → World → Prop) (hdag : ∀ (i : Nat) (o : Oper), ops[i]? = some o → ∀ e ∈ o.after, e.on < i)
    (hstep : ∀ (i : Nat) (o : Oper) (l : Nat → Bool) (a : Act) (w : World), ops[i]? = some o → Inv l a w → l i = false → (∀ e ∈ o.after, Region.binds md e = true → l e.on = true) → ∀ K : Act → World → Prop, (∀ a' w', Inv (upd l i true) a' w' → K a' w') → wpOpIn F n P ops Q i K a w)
    (hdone : ∀ (l : Nat → Bool) (a : Act) (w : World), Inv l a w → (∀ i, i < ops.size → l i = true) → Q .normal a w) :
    ∀ (fuel : Nat) (listed : Array Bool) (l : Nat → Bool) (a : Act) (w : World), listed.size = ops.size → (∀ j, j < ops.size → listed.getD j true = l j) → todo ops.size l ≤ fuel → Inv l a w → wpAnyIn F n P md ops Q fuel listed a w := by
  intro fuel
  induction fuel with
  | zero =>
    intro listed l a w hs hl ht hi
    have hall := todo_none ops.size (Nat.le_zero.1 ht)
    refine ⟨List.eq_nil_iff_forall_not_mem.2 fun j hj => ?_, hdone l a w hi hall⟩
    obtain ⟨h1, o, ho, _⟩ := mem_ready.1 hj
    have hlt : j < ops.size := (Array.getElem?_eq_some_iff.1 ho).1
    rw [hl j hlt, hall j hlt] at h1
    cases h1
  | succ fuel ih =>
    intro listed l a w hs hl ht hi
    refine ⟨fun hr => hdone l a w hi ?_, fun i hri => ?_⟩
    · intro i
      induction i using Nat.strongRecOn with
      | ind i ihi =>
        intro hlt
        cases hli : l i with
        | true => rfl
        | false =>
          have ho : ops[i]? = some ops[i] := Array.getElem?_eq_getElem hlt
          have : i ∈ Region.ready md ops listed := mem_ready.2 ⟨by rw [hl i hlt]; exact hli, _, ho, fun e he _ => by
            have hlo := hdag i _ ho e he
            have h1 := ihi e.on hlo (by omega)
            rw [← hl e.on (by omega)] at h1
            rw [Array.getD_eq_getD_getElem?] at h1 ⊢
            rw [Array.getElem?_eq_getElem (by omega)] at h1 ⊢
            exact h1⟩
          rw [hr] at this
          cases this
    · obtain ⟨h1, o, ho, ha⟩ := mem_ready.1 hri
      have hlt : i < ops.size := (Array.getElem?_eq_some_iff.1 ho).1
      rw [hl i hlt] at h1
      refine hstep i o l a w ho hi h1 (fun e he hb => ?_) _ (fun a' w' hi' => ih _ (upd l i true) a' w' (by simpa using hs) (fun j hj => ?_) ?_ hi')
      · have h2 := ha e he hb
        have hlo := hdag i o ho e he
        rw [← hl e.on (by omega)]
        rw [Array.getD_eq_getD_getElem?] at h2 ⊢
        rw [Array.getElem?_eq_getElem (by omega)] at h2 ⊢
        exact h2
      · by_cases e : j = i
        · subst e
          rw [upd_same, Array.getD_eq_getD_getElem?, Array.getElem?_setIfInBounds_self_of_lt (by omega)]
          rfl
        · rw [upd_other _ _ e, Array.getD_eq_getD_getElem?, Array.getElem?_setIfInBounds_ne (fun h => e h.symm), ← Array.getD_eq_getD_getElem?]
          exact hl j hj
      · have := todo_upd h1 ops.size hlt
        omega
theorem wpIn_region_inv {id : Nat} {a : Act} {w : World} (hm : P.follows .mixedOrders = true) (Inv : (Nat → Bool) → Act → World → Prop) (hdag : ∀ (i : Nat) (o : Oper), ops[i]? = some o → ∀ e ∈ o.after, e.on < i)
    (hstart : Inv (fun _ => false) a w.drew)
    (hstep : ∀ (i : Nat) (o : Oper) (l : Nat → Bool) (a : Act) (w : World), ops[i]? = some o → Inv l a w → l i = false → (∀ e ∈ o.after, Region.binds .any e = true → l e.on = true) → ∀ K : Act → World → Prop, (∀ a' w', Inv (upd l i true) a' w' → K a' w') → wpOpIn F n P ops Q i K a w)
    (hdone : ∀ (l : Nat → Bool) (a : Act) (w : World), Inv l a w → (∀ i, i < ops.size → l i = true) → Q .normal a w) : (Code.region id ops true).wpIn F n P Q a w :=
  wpIn_region_any hm (wpAnyIn_inv Inv hdag hstep hdone ops.size _ (fun _ => false) a w.drew (by simp) (fun j hj => by
    rw [Array.getD_eq_getD_getElem?, Array.getElem?_replicate, if_pos hj]
    rfl) (todo_le _ _) hstart)
/-- .. the invariant told of the frame at the region's head. -/
theorem wpIn_region_from {id : Nat} {a : Act} {w : World} (hm : P.follows .mixedOrders = true) (Inv : Act → (Nat → Bool) → Act → World → Prop) (hdag : ∀ (i : Nat) (o : Oper), ops[i]? = some o → ∀ e ∈ o.after, e.on < i)
    (hstart : Inv a (fun _ => false) a w.drew)
    (hstep : ∀ (i : Nat) (o : Oper) (l : Nat → Bool) (a' : Act) (w : World), ops[i]? = some o → Inv a l a' w → l i = false → (∀ e ∈ o.after, Region.binds .any e = true → l e.on = true) → ∀ K : Act → World → Prop, (∀ a'' w', Inv a (upd l i true) a'' w' → K a'' w') → wpOpIn F n P ops Q i K a' w)
    (hdone : ∀ (l : Nat → Bool) (a' : Act) (w : World), Inv a l a' w → (∀ i, i < ops.size → l i = true) → Q .normal a' w) : (Code.region id ops true).wpIn F n P Q a w :=
  wpIn_region_inv hm (Inv a) hdag hstart hstep hdone
theorem wpOpIn_of {i : Nat} {o : Oper} {a : Act} {w : World} {K : Act → World → Prop} (ho : ops[i]? = some o)
    (h : if Region.wanted o (yielded ops a.tmps) then o.wpIn F n P a w K Q else (∀ f, o.about P w a.eval = some f → F.fn f) ∧ K (a.put o.dst undef) w) : wpOpIn F n P ops Q i K a w := by
  unfold wpOpIn
  rw [ho]
  exact h
/-- The edges of a region's operations lead back. -/
def backward (ops : Array Oper) : Bool := (List.range ops.size).all fun i => ((ops[i]?).map fun o => o.after.all fun e => decide (e.on < i)).getD true
theorem dag_of (h : backward ops = true) : ∀ (i : Nat) (o : Oper), ops[i]? = some o → ∀ e ∈ o.after, e.on < i := by
  intro i o ho e he
  have hi : i < ops.size := (Array.getElem?_eq_some_iff.1 ho).1
  have := List.all_eq_true.1 h i (List.mem_range.2 hi)
  rw [ho] at this
  simp only [Option.map_some, Option.getD_some] at this
  have := Array.all_eq_true_iff_forall_mem.1 this e he
  simpa using this
end
end Go.Proofs.YtdmclfolooiccaaGreatDoor.Ls
end
section
namespace Go.Proofs.YtdmclfolooiccaaGreatDoor.Ls
open Go.Proofs.YtdmclfolooiccaaGreatDoor
set_option maxRecDepth 100000
open Go.RowKit

structure Thing where
  blk : Nat → Prop
  ok : World → Prop
  stab : ∀ w w' : World, ok w → w.heap.size ≤ w'.heap.size → (∀ b, blk b → w'.heap[b]? = w.heap[b]?) → ok w'
def tOwn (base : Nat) (U : Nat → Sl) (f : Nat → List Int) : Thing :=
  ⟨fun b => ∃ j x, j < 3 ∧ (U j).a = some x ∧ x.block = b, fun w => Own3 w base U f, fun _ _ h _ hs => h.same (fun j x hj hx => hs _ ⟨j, x, hj, hx, rfl⟩)⟩
def tBox (d : Nat) (z : Nat → Sl) : Thing := ⟨fun b => b = d, fun w => Box3 w d z, fun _ _ h hl hs => h.same (hs d rfl) hl⟩

structure Res (base : Nat) (W w : World) (R : Nat → Option Thing) : Prop where
  bel : Below base W w
  ok : ∀ r t, R r = some t → t.ok w ∧ ∀ b, t.blk b → base ≤ b ∧ b < w.heap.size
  apart : ∀ r s t t', R r = some t → R s = some t' → ¬ r = s → ∀ b, t.blk b → ¬ t'.blk b
section
variable {base : Nat} {W w w' : World} {R : Nat → Option Thing}
theorem Res.none_ (W : World) (base : Nat) : Res base W W (fun _ => none) := ⟨Below.refl _ _, (fun _ _ h => by cases h), (fun _ _ _ _ h => by cases h)⟩
theorem Res.next (h : Res base W w R) (hw : base ≤ w.heap.size) (hb : Below w.heap.size w w') : Res base W w' R :=
  ⟨h.bel.trans (hb.mono hw), fun r t hr => ⟨t.stab w w' (h.ok r t hr).1 hb.size (fun b hbk => hb.block b ((h.ok r t hr).2 b hbk).2), fun b hbk => ⟨((h.ok r t hr).2 b hbk).1, Nat.lt_of_lt_of_le ((h.ok r t hr).2 b hbk).2 hb.size⟩⟩, h.apart⟩
theorem Res.drewN (h : Res base W w R) (k : Nat) : Res base W (w.drewN k) R :=
  ⟨below_drawn h.bel k, fun r t hr => ⟨t.stab w _ (h.ok r t hr).1 (Nat.le_refl _) (fun _ _ => rfl), (h.ok r t hr).2⟩, h.apart⟩
/-- One more thing, in new memory. -/
theorem Res.add (h : Res base W w R) (hw : base ≤ w.heap.size) (hb : Below w.heap.size w w') (r : Nat) (t : Thing) (ht : t.ok w') (hn : ∀ b, t.blk b → w.heap.size ≤ b ∧ b < w'.heap.size) : Res base W w' (upd R r (some t)) := by
  have h' := h.next hw hb
  refine ⟨h'.bel, fun s t' hs => ?_, fun s s' t1 t2 h1 h2 hne b hb1 hb2 => ?_⟩
  · by_cases e : s = r
    · subst e
      rw [upd_same] at hs
      cases hs
      exact ⟨ht, fun b hbk => ⟨Nat.le_trans hw (hn b hbk).1, (hn b hbk).2⟩⟩
    · rw [upd_other _ _ e] at hs
      exact h'.ok s t' hs
  · by_cases e : s = r
    · subst e
      rw [upd_same] at h1
      cases h1
      rw [upd_other _ _ (fun e => hne e.symm)] at h2
      have := (hn b hb1).1
      have := ((h.ok s' t2 h2).2 b hb2).2
      omega
    · rw [upd_other _ _ e] at h1
      by_cases e' : s' = r
      · subst e'
        rw [upd_same] at h2
        cases h2
        have := (hn b hb2).1
        have := ((h.ok s t1 h1).2 b hb1).2
        omega
      · rw [upd_other _ _ e'] at h2
        exact h.apart s s' t1 t2 h1 h2 hne b hb1 hb2
/-- One thing is turned: where it lay, or in new memory; all else is as it was. -/
theorem Res.change (h : Res base W w R) (hw : base ≤ w.heap.size) {r : Nat} {t : Thing} (hr : R r = some t) (h1 : w'.os = w.os) (h2 : w'.tape = w.tape) (h3 : w'.output = w.output) (h4 : w.heap.size ≤ w'.heap.size)
    (hs : ∀ b, b < w.heap.size → ¬ t.blk b → w'.heap[b]? = w.heap[b]?) (t' : Thing) (ht : t'.ok w') (hn : ∀ b, t'.blk b → (t.blk b ∨ w.heap.size ≤ b) ∧ b < w'.heap.size) : Res base W w' (upd R r (some t')) := by
  have old := h.ok r t hr
  refine ⟨h.bel.trans ⟨h1, h2, h3, h4, fun b hb => hs b (by omega) (fun hbk => by have := (old.2 b hbk).1; omega)⟩, fun s t1 h1 => ?_, fun s s' t1 t2 h1 h2 hne b hb1 hb2 => ?_⟩
  · by_cases e : s = r
    · subst e
      rw [upd_same] at h1
      cases h1
      refine ⟨ht, fun b hbk => ⟨?_, (hn b hbk).2⟩⟩
      rcases (hn b hbk).1 with hb | hb
      · exact (old.2 b hb).1
      · exact Nat.le_trans hw hb
    · rw [upd_other _ _ e] at h1
      have o1 := h.ok s t1 h1
      exact ⟨t1.stab w w' o1.1 h4 (fun b hbk => hs b (o1.2 b hbk).2 (h.apart s r t1 t h1 hr e b hbk)), fun b hbk => ⟨(o1.2 b hbk).1, Nat.lt_of_lt_of_le (o1.2 b hbk).2 h4⟩⟩
  · by_cases e : s = r
    · subst e
      rw [upd_same] at h1
      cases h1
      rw [upd_other _ _ (fun e => hne e.symm)] at h2
      rcases (hn b hb1).1 with hb | hb
      · exact h.apart s s' t t2 hr h2 hne b hb hb2
      · have := ((h.ok s' t2 h2).2 b hb2).2
        omega
    · rw [upd_other _ _ e] at h1
      by_cases e' : s' = r
      · subst e'
        rw [upd_same] at h2
        cases h2
        rcases (hn b hb2).1 with hb | hb
        · exact h.apart s s' t1 t h1 hr hne b hb1 hb
        · have := ((h.ok s t1 h1).2 b hb1).2
          omega
      · rw [upd_other _ _ e'] at h2
        exact h.apart s s' t1 t2 h1 h2 hne b hb1 hb2
theorem Res.own {r : Nat} {b0 : Nat} {U : Nat → Sl} {f : Nat → List Int} (h : Res base W w R) (hr : R r = some (tOwn b0 U f)) : Own3 w b0 U f := (h.ok r _ hr).1
theorem Res.box {r : Nat} {d : Nat} {z : Nat → Sl} (h : Res base W w R) (hr : R r = some (tBox d z)) : Box3 w d z := (h.ok r _ hr).1
/-- New lists of one's own. -/
theorem Res.copied {U : Nat → Sl} {f : Nat → List Int} (h : Res base W w R) (hw : base ≤ w.heap.size) (ho : Own3 w' w.heap.size U f) (hb : Below w.heap.size w w') (r : Nat) : Res base W w' (upd R r (some (tOwn base U f))) :=
  h.add hw hb r _ (ho.less hw) (by rintro b ⟨j, x, hj, hx, rfl⟩; exact ho.block j hj hx)
/-- A new box. -/
theorem Res.boxed (h : Res base W w R) (hw : base ≤ w.heap.size) (z : Nat → Sl) (r : Nat) : Res base W (w.alloc (.cells #[.slice (z 0).a (z 0).n (z 0).c, .slice (z 1).a (z 1).n (z 1).c, .slice (z 2).a (z 2).n (z 2).c] 25)) (upd R r (some (tBox w.heap.size z))) :=
  h.add hw ((Below.refl _ _).alloc (Nat.le_refl _) _) r _ (Box3.new w z 25) (fun b e => by cases e; simp)
/-- A whole value is stored into a box. -/
theorem Res.put {r d : Nat} {z : Nat → Sl} (h : Res base W w R) (hw : base ≤ w.heap.size) (hr : R r = some (tBox d z)) (z' : Nat → Sl) : Res base W (put3 w d z') (upd R r (some (tBox d z'))) :=
  h.change (w' := put3 w d z') hw hr rfl rfl rfl (by rw [put3_size]; exact Nat.le_refl _) (fun b _ (hb : ¬ b = d) => put3_other w z' hb) (tBox d z') ((h.box hr).put z') (fun b (e : b = d) => ⟨.inl e, by rw [put3_size, e]; exact (h.box hr).lt⟩)
/-- One slice is stored into a box. -/
theorem Res.set {r d k : Nat} {z : Nat → Sl} (h : Res base W w R) (hw : base ≤ w.heap.size) (hr : R r = some (tBox d z)) (hk : k < 3) (s : Sl) : Res base W (w.setCell ⟨d, k, none⟩ (.slice s.a s.n s.c)) (upd R r (some (tBox d (upd z k s)))) :=
  h.change (w' := w.setCell ⟨d, k, none⟩ (.slice s.a s.n s.c)) hw hr rfl rfl rfl (by simp [World.setCell]) (fun b _ (hb : ¬ b = d) => Below.heap_setCell _ _ _ _ hb) (tBox d (upd z k s)) ((h.box hr).set hk s) (fun b (e : b = d) => ⟨.inl e, by have := (h.box hr).lt; simpa [World.setCell, e] using this⟩)
/-- One of three slices is appended to. -/
theorem Res.catted {r k b0 : Nat} {U : Nat → Sl} {f : Nat → List Int} {s : Sl} {xs : List Int} {o : Obj} (h : Res base W w R) (hw : base ≤ w.heap.size) (hr : R r = some (tOwn base U f)) (hk : k < 3)
    (hc : Catted (w.alloc o) b0 (.slice (U k).a (U k).n (U k).c) s xs w') (ho : w'.ownsRow base 3 1 (.slice s.a s.n s.c) s.n (xs.map (Value.int .i64))) : Res base W w' (upd R r (some (tOwn base (upd U k s) (upd f k xs)))) := by
  have O := h.own hr
  have hs : (w.alloc o).heap.size = w.heap.size + 1 := by simp
  refine h.change hw hr (hc.grown.os.trans rfl) (hc.grown.tape.trans rfl) (hc.grown.output.trans rfl) (by have := hc.grown.size; omega) (fun b hb hbk => ?_) _ ((O.alloc o).appended hk s ho hc.grown hc.lies) (fun b ⟨j, x, hj, hx, e⟩ => ?_)
  · refine (hc.grown.block b (by omega) (fun e => hbk ?_)).trans (Below.heap_alloc _ _ _ hb)
    rw [ownBlock_slice] at e
    cases hx : (U k).a with
    | none => rw [hx] at e; cases e
    | some x =>
      rw [hx] at e
      simp at e
      exact ⟨k, x, hk, hx, e.symm⟩
  · have hlt := (((O.alloc o).appended hk s ho hc.grown hc.lies).block j hj hx).2
    subst e
    refine ⟨?_, hlt⟩
    by_cases e : j = k
    · subst e
      rw [upd_same] at hx
      rcases hc.lies x hx with e | e
      · left
        rw [ownBlock_slice] at e
        cases hy : (U j).a with
        | none => rw [hy] at e; cases e
        | some y =>
          rw [hy] at e
          simp at e
          exact ⟨j, y, hj, hy, e⟩
      · right
        omega
    · rw [upd_other _ _ e] at hx
      exact .inl ⟨j, x, hj, hx, rfl⟩
end
end Go.Proofs.YtdmclfolooiccaaGreatDoor.Ls
end
section
namespace Go.Proofs.YtdmclfolooiccaaGreatDoor.Ls
open Go.Proofs.YtdmclfolooiccaaGreatDoor
set_option maxRecDepth 100000
open Go.RowKit

/-- The blocks of Z are as they were; the streams too. -/
structure Hold (Z : Nat → Prop) (w w' : World) : Prop where
  os : w'.os = w.os
  tape : w'.tape = w.tape
  output : w'.output = w.output
  size : w.heap.size ≤ w'.heap.size
  block : ∀ k, Z k → k < w.heap.size → w'.heap[k]? = w.heap[k]?
theorem Hold.refl (Z : Nat → Prop) (w : World) : Hold Z w w := ⟨rfl, rfl, rfl, Nat.le_refl _, fun _ _ _ => rfl⟩
theorem Hold.trans {Z : Nat → Prop} {a b c : World} (h : Hold Z a b) (k : Hold Z b c) : Hold Z a c :=
  ⟨k.os.trans h.os, k.tape.trans h.tape, k.output.trans h.output, Nat.le_trans h.size k.size, fun i hi hl => (k.block i hi (Nat.lt_of_lt_of_le hl h.size)).trans (h.block i hi hl)⟩
theorem hold_of_below {Z : Nat → Prop} {w w' : World} (h : Below w.heap.size w w') : Hold Z w w' := ⟨h.os, h.tape, h.output, h.size, fun k _ hl => h.block k hl⟩

section
variable {α : Type}
/-- What is said of M and what has come abides whatever turns blocks of M, and lays new ones. -/
def BidesZ (Z : Nat → Prop) (J : (Nat → Prop) → List α → World → Prop) : Prop :=
  ∀ M M' pre W W', J M pre W → Hold Z W W' → (∀ k, k < W.heap.size → ¬ M k → W'.heap[k]? = W.heap[k]?) → (∀ k, M' k → M k ∨ (W.heap.size ≤ k ∧ k < W'.heap.size)) → J M' pre W'
/-- The blocks of Z, and the blocks of M, are as they were. -/
def KeptZ (Z : Nat → Prop) (M : Nat → Prop) (W W' : World) : Prop := Hold Z W W' ∧ ∀ k, M k → k < W.heap.size → W'.heap[k]? = W.heap[k]?
theorem KeptZ.refl (Z : Nat → Prop) (M : Nat → Prop) (W : World) : KeptZ Z M W W := ⟨Hold.refl _ _, fun _ _ _ => rfl⟩
theorem KeptZ.trans {Z : Nat → Prop} {M : Nat → Prop} {A B C : World} (h : KeptZ Z M A B) (k : KeptZ Z M B C) : KeptZ Z M A C :=
  ⟨h.1.trans k.1, fun i hi hl => (k.2 i hi (Nat.lt_of_lt_of_le hl h.1.size)).trans (h.2 i hi hl)⟩
theorem KeptZ.less {Z : Nat → Prop} {M M' : Nat → Prop} {A B : World} (h : KeptZ Z M A B) (hm : ∀ k, M' k → M k) : KeptZ Z M' A B := ⟨h.1, fun i hi hl => h.2 i (hm i hi) hl⟩

/-- An iterator's value: it hands on the elements of L in their order, till a round says 'no more'. C: the blocks that it reads. -/
def GivesZ (P : Program) (g : Nat) (lb : Array Value) (encs : α → Array Value) (Z : Nat → Prop) (C : Nat → Prop) (L : List α) (w : World) : Prop :=
  ∀ (l : Nat) (J Jx : (Nat → Prop) → List α → World → Prop) (M : Nat → Prop) (W : World), Below w.heap.size w W → (∀ k, C k → M k ∨ Z k) → BidesZ Z J → BidesZ Z Jx →
    (∀ M pre x W1, pre ++ [x] <+: L → J M pre W1 → YieldAt Fence.wide 0 P l (encs x) W1 fun e W' => KeptZ Z M W1 W' ∧
      ((e = .returned (.bool true) ∧ J M (pre ++ [x]) W') ∨ (e = .returned (.bool false) ∧ Jx M (pre ++ [x]) W'))) →
    J M [] W →
    Calls P g (#[.func (.yield l) #[] #[]] ++ lb) W fun e W' => (∃ v, e = .returned v) ∧ ∃ M', J M' L W' ∨ ∃ pre, Jx M' pre W'
theorem GivesZ.later {P : Program} {g : Nat} {lb : Array Value} {encs : α → Array Value} {Z : Nat → Prop} {C : Nat → Prop} {L : List α} {w w' : World}
    (h : GivesZ P g lb encs Z C L w) (hb : Below w.heap.size w w') : GivesZ P g lb encs Z C L w' :=
  fun l J Jx M W hW => h l J Jx M W (hb.trans (hW.mono hb.size))

theorem roundIn_anyZ {P : Program} {n m l : Nat} {f : FuncId} {tmps : Array Value} {assign body : Code} {w : World} {R : Ending → World → Prop}
    (h : RoundIn Fence.wide n P l f tmps assign body w R) : RoundIn Fence.wide m P l f tmps assign body w R := ⟨h.1, fun c cs _ => h.2 c cs (room_wide _)⟩
/-- How a round's body may be left. -/
def EndsZ (Z : Nat → Prop) (M : Nat → Prop) (I : (Nat → Prop) → List α → World → Prop) (Ix : Code → (Nat → Prop) → List α → World → Prop) (xs : List α) (W : World) : Exit → Act → World → Prop
  | .normal, _, W' => KeptZ Z M W W' ∧ I M xs W'
  | .ret, _, W' => KeptZ Z M W W' ∧ Ix .ret M xs W'
  | .exit id, _, W' => KeptZ Z M W W' ∧ Ix (.exit id) M xs W'
  | .goto t, _, W' => KeptZ Z M W W' ∧ Ix (.goto t) M xs W'
  | .panic _, _, _ => False
  | .outgrown, _, _ => False

theorem hold_turned {Z : Nat → Prop} {W : World} {l : Nat} (o : Obj) (h : ¬ Z l) : Hold Z W (W.putObj l o) :=
  ⟨rfl, rfl, rfl, by simp, fun k hk _ => World.putObj_heap_other (by rintro rfl; exact h hk)⟩
theorem kept_turnedZ {Z : Nat → Prop} {M : Nat → Prop} {W : World} {l : Nat} (o : Obj) (h : ¬ Z l) (hM : ¬ M l) : KeptZ Z M W (W.putObj l o) :=
  ⟨hold_turned o h, fun _ hk _ => World.putObj_heap_other (fun e => hM (e ▸ hk))⟩
theorem BidesZ.turned {Z : Nat → Prop} {J : (Nat → Prop) → List α → World → Prop} (h : BidesZ Z J) {M : Nat → Prop} {pre : List α} {W : World} {l : Nat} (o : Obj) (hj : J M pre W) (hn : ¬ Z l) (hM : M l) : J M pre (W.putObj l o) :=
  h M M pre W _ hj (hold_turned o hn) (fun _ _ hk => World.putObj_heap_other (fun e => hk (e ▸ hM))) (fun _ hk => .inl hk)
theorem BidesZ.more {Z : Nat → Prop} {J : (Nat → Prop) → List α → World → Prop} (h : BidesZ Z J) {M M' : Nat → Prop} {pre : List α} {W W' : World} (hj : J M pre W) (hb : Below W.heap.size W W')
    (hM : ∀ k, M' k → M k ∨ (W.heap.size ≤ k ∧ k < W'.heap.size)) : J M' pre W' :=
  h M M' pre W W' hj (hold_of_below hb) (fun k hk _ => hb.block k hk) hM

set_option maxHeartbeats 1000000 in
/-- A loop over an iterator's value, in a function's own frame. -/
theorem range_givesZ {P : Program} {n : Nat} {g : Operand} {ps : Array Tmp} {assign body : Code} {Q : Exit → Act → World → Prop} {a : Act} {w : World}
    {gf : Nat} {lb : Array Value} (hg : a.eval g = .func (.func gf) #[] lb) (eg : ∀ args w, (callFunc gf args).run P w = .ok (.enter gf args) w)
    {encs : α → Array Value} {Z : Nat → Prop} {C : Nat → Prop} {L : List α} (hseq : GivesZ P gf lb encs Z C L w) (hps : ∀ x, (encs x).size = ps.size) (hZ : ∀ k, Z k → k < w.heap.size)
    (M₀ : Nat → Prop) (hC : ∀ k, C k → M₀ k ∨ Z k) (hM₀ : ∀ k, M₀ k → k < w.heap.size)
    (I : (Nat → Prop) → List α → World → Prop) (Ix : Code → (Nat → Prop) → List α → World → Prop) (hI : BidesZ Z I) (hIx : ∀ c, BidesZ Z (Ix c)) (h0 : I M₀ [] w)
    (hround : ∀ (l : Nat) (M : Nat → Prop) (pre : List α) (x : α) (W : World), w.heap.size ≤ l → M l → l < W.heap.size → pre ++ [x] <+: L → I M pre W →
      assign.wpIn (Fence.wide.inRound l) n P (Exit.then (fun a' W' => KeptZ Z M W W' ∧ ∀ o, body.wpIn (Fence.wide.inRound l) n P (EndsZ Z M I Ix (pre ++ [x]) (W'.putObj l o)) a' (W'.putObj l o)) (fun _ _ _ => False))
        { tmps := (ps.zip (encs x)).foldl (fun t (p, v) => t.setIfInBounds p v) a.tmps, defers := [] } W)
    (hdone : ∀ (D : Nat) (M : Nat → Prop) (W : World), w.heap.size ≤ D → D < W.heap.size → M D → I M L W → W.heap[D]? = some (.deferred (some [])) → Q .normal { a with defers := { target := .collected D, args := #[] } :: a.defers } W)
    (hstop : ∀ (D : Nat) (c : Code) (M : Nat → Prop) (pre : List α) (W : World), w.heap.size ≤ D → D < W.heap.size → M D → Ix c M pre W → W.heap[D]? = some (.deferred (some [])) → c.wpIn Fence.wide n P Q { a with defers := { target := .collected D, args := #[] } :: a.defers } W) :
    (Code.rangeFunc g ps assign body).wpIn Fence.wide n P Q a w := by
  refine wpIn_rangeFunc fun fn hfn => ?_
  obtain ⟨rc, hrc⟩ : ∃ rc : LoopState → Option Code → Loop, rc = fun st pe => { state := st, pending := pe, fn, tmps := a.tmps, params := ps, assign, body, defers := w.heap.size } := ⟨_, rfl⟩
  obtain ⟨l, hl⟩ : ∃ l, l = w.heap.size + 1 := ⟨_, rfl⟩
  obtain ⟨D, hD⟩ : ∃ D, D = w.heap.size := ⟨_, rfl⟩
  obtain ⟨V, hV⟩ : ∃ V, V = (w.alloc (.deferred (some []))).alloc (.loop (rc .ready none)) := ⟨_, rfl⟩
  have hVs : V.heap.size = w.heap.size + 2 := by rw [hV]; simp
  have hVl : V.heap[l]? = some (.loop (rc .ready none)) := by
    rw [hV, hl]; have := World.alloc_heap_new (w.alloc (.deferred (some []))) (.loop (rc .ready none)); rwa [World.size_alloc] at this
  have hVD : V.heap[D]? = some (.deferred (some [])) := by
    rw [hV, hD]; exact (Below.heap_alloc _ _ _ (by simp)).trans (World.alloc_heap_new w _)
  have hVw : Below w.heap.size w V := by rw [hV]; exact ((Below.refl _ w).alloc (Nat.le_refl _) _).alloc (by simp) _
  have hDl : D < l := by omega
  have hZl : ¬ Z l := fun h => by have := hZ l h; omega
  -- what the iterator is told of M, and what the body is told
  let U : (Nat → Prop) → Nat → Prop := fun M k => M k ∨ k = D ∨ k = l
  let Book : (Nat → Prop) → Loop → World → Prop := fun M r W => ¬ M D ∧ ¬ M l ∧ l < W.heap.size ∧ W.heap[l]? = some (.loop r) ∧ W.heap[D]? = some (.deferred (some []))
  have book : ∀ {M M' : Nat → Prop} {r : Loop} {W W' : World}, Book M r W → Hold Z W W' → (∀ k, k < W.heap.size → ¬ M k → W'.heap[k]? = W.heap[k]?) → (∀ k, M' k → M k ∨ (W.heap.size ≤ k ∧ k < W'.heap.size)) → Book M' r W' := by
    rintro M M' r W W' ⟨b1, b2, b3, b4, b5⟩ hb hs hm
    refine ⟨fun h => ?_, fun h => ?_, Nat.lt_of_lt_of_le b3 hb.size, (hs l b3 b2).trans b4, (hs D (by omega) b1).trans b5⟩
    · rcases hm D h with h | h
      · exact b1 h
      · omega
    · rcases hm l h with h | h
      · exact b2 h
      · omega
  have up : ∀ {M M' : Nat → Prop} {W W' : World}, (∀ k, M' k → M k ∨ (W.heap.size ≤ k ∧ k < W'.heap.size)) → ∀ k, U M' k → U M k ∨ (W.heap.size ≤ k ∧ k < W'.heap.size) := by
    rintro M M' W W' h k (hk | hk)
    · exact (h k hk).imp .inl id
    · exact .inl (.inr hk)
  have call := hseq l (fun M pre W => I (U M) pre W ∧ Book M (rc .ready none) W) (fun M pre W => ∃ c, Ix c (U M) pre W ∧ Book M (rc .done (some c)) W) M₀ V hVw hC
    (fun M M' pre W W' hj hb hs hm => ⟨hI _ _ pre W W' hj.1 hb (fun k hk hn => hs k hk (fun h => hn (.inl h))) (up hm), book hj.2 hb hs hm⟩)
    (fun M M' pre W W' hj hb hs hm => by
      obtain ⟨c, hc, hk⟩ := hj
      exact ⟨c, hIx c _ _ pre W W' hc hb (fun k hk hn => hs k hk (fun h => hn (.inl h))) (up hm), book hk hb hs hm⟩)
    (by
      rintro M pre x W hpre ⟨hi, b1, b2, b3, b4, b5⟩
      have hy := run_yield (P := P) (args := encs x) b4 (by rw [hrc]; exact hps x)
      rw [hrc] at hy
      refine ⟨fn, _, assign, body, hy, roundIn_anyZ (n := n) (roundIn_of_wpIn hfn (wpIn_mono (hround l (U M) pre x W (by omega) (.inr (.inr rfl)) b3 hpre hi) ?_))⟩
      clear hy
      intro e1 a1 W1 h1
      cases e1 with
      | normal =>
        obtain ⟨hk1, hbody⟩ := h1
        have l1 := (hk1.2 l (.inr (.inr rfl)) b3).trans b4
        have d1 := (hk1.2 D (.inr (.inl rfl)) (by omega)).trans b5
        refine ⟨_, run_beginRound l1 (by rw [hrc]), ?_⟩
        have s1 : l < W1.heap.size := Nat.lt_of_lt_of_le b3 hk1.1.size
        refine wpIn_mono (hbody _) ?_
        have fin : ∀ (jump : Option Code) (W3 : World), KeptZ Z (U M) (W1.putObj l (.loop { rc .ready none with state := .busy })) W3 →
            (Instr.endRound l jump).run P W3 = .ok (.bool jump.isNone) (W3.putObj l (.loop (rc (if jump.isNone then .ready else .done) jump))) ∧
            KeptZ Z M W (W3.putObj l (.loop (rc (if jump.isNone then .ready else .done) jump))) ∧ Book M (rc (if jump.isNone then .ready else .done) jump) (W3.putObj l (.loop (rc (if jump.isNone then .ready else .done) jump))) := by
          intro jump W3 hk3
          have l2 : (W1.putObj l (.loop { rc .ready none with state := .busy })).heap[l]? = some (.loop { rc .ready none with state := .busy }) := World.putObj_heap_same s1
          have l3 := (hk3.2 l (.inr (.inr rfl)) (by simpa using s1)).trans l2
          have d3 := (hk3.2 D (.inr (.inl rfl)) (by simp; omega)).trans ((World.putObj_heap_other (by omega)).trans d1)
          have s3 : l < W3.heap.size := Nat.lt_of_lt_of_le s1 (by have := hk3.1.size; simpa using this)
          have r3 := run_endRound (P := P) jump l3
          rw [hrc] at r3 ⊢
          refine ⟨r3, ?_, b1, b2, by simpa using s3, World.putObj_heap_same s3, (World.putObj_heap_other (by omega)).trans d3⟩
          exact ((hk1.less (fun _ h => .inl h)).trans (kept_turnedZ _ hZl b2)).trans ((hk3.less (fun _ h => .inl h)).trans (kept_turnedZ _ hZl b2))
        rintro e a3 W3 hp
        cases e with
        | normal =>
          obtain ⟨hk3, hi3⟩ := hp
          obtain ⟨hr, hk, hbk⟩ := fin none W3 hk3
          exact ⟨_, _, hr, hk, .inl ⟨rfl, hI.turned _ hi3 hZl (.inr (.inr rfl)), hbk⟩⟩
        | ret =>
          obtain ⟨hk3, hi3⟩ := hp
          obtain ⟨hr, hk, hbk⟩ := fin (some .ret) W3 hk3
          exact ⟨_, _, hr, hk, .inr ⟨rfl, .ret, (hIx _).turned _ hi3 hZl (.inr (.inr rfl)), hbk⟩⟩
        | exit id =>
          obtain ⟨hk3, hi3⟩ := hp
          obtain ⟨hr, hk, hbk⟩ := fin (some (.exit id)) W3 hk3
          exact ⟨_, _, hr, hk, .inr ⟨rfl, .exit id, (hIx _).turned _ hi3 hZl (.inr (.inr rfl)), hbk⟩⟩
        | goto t =>
          obtain ⟨hk3, hi3⟩ := hp
          obtain ⟨hr, hk, hbk⟩ := fin (some (.goto t)) W3 hk3
          exact ⟨_, _, hr, hk, .inr ⟨rfl, .goto t, (hIx _).turned _ hi3 hZl (.inr (.inr rfl)), hbk⟩⟩
        | panic ch => exact hp.elim
        | outgrown => exact hp.elim
      | ret => exact h1.elim
      | exit id => exact h1.elim
      | goto t => exact h1.elim
      | panic ch => exact h1.elim
      | outgrown => exact h1.elim)
    ⟨hI.more h0 hVw (fun k hk => by
        rcases hk with hk | hk | hk
        · exact .inl hk
        · exact .inr (by omega)
        · exact .inr (by omega)),
      fun h => by have := hM₀ D h; omega, fun h => by have := hM₀ l h; omega, by omega, hVl, hVD⟩
  refine ⟨l, [{ target := .collected D, args := #[] }], V, { target := .fn (.func gf) lb, args := #[.func (.yield l) #[] #[]] }, V, gf, #[.func (.yield l) #[] #[]] ++ lb, V, ?_, ?_, ?_, ?_, fun h => by simp [Fence.wide] at h, ?_⟩
  · rw [hV, hD, hl, hrc]; exact run_enterLoop_outer _ _ _ _ _
  · simp only [resolve, hg]
    simp [go_sem]
  · intro f' _; exact trivial
  · simp [invoke, go_sem, eg]
  · refine callsIn_wide.2 (call.mono ?_)
    rintro e W2 ⟨⟨v, rfl⟩, M, (⟨hi, b1, b2, b3, b4, b5⟩ | ⟨pre, c, hi, b1, b2, b3, b4, b5⟩)⟩
    · refine ⟨none, _, by have := run_endLoop (P := P) b4 (by rw [hrc]; simp); rw [hrc] at this; exact this, hdone D (U M) _ (by omega) (by simp; omega) (.inr (.inl rfl)) (hI.turned _ hi hZl (.inr (.inr rfl))) ((World.putObj_heap_other (by omega)).trans b5)⟩
    · refine ⟨some c, _, by have := run_endLoop (P := P) b4 (by rw [hrc]; simp); rw [hrc] at this; exact this, hstop D c (U M) pre _ (by omega) (by simp; omega) (.inr (.inl rfl)) ((hIx c).turned _ hi hZl (.inr (.inr rfl))) ((World.putObj_heap_other (by omega)).trans b5)⟩

/-- At a function's return: the marks of its loops are taken off, each block shut. -/
theorem leave_marksZ {F : Fence} {n : Nat} {P : Program} {fn : Func} {tmps : Array Value} {R : Ending → World → Prop} :
    ∀ (ds : List Nat) (W : World), ds.Nodup → (∀ D ∈ ds, W.heap[D]? = some (.deferred (some []))) →
      (∀ W', W'.os = W.os → W'.tape = W.tape → W'.output = W.output → W'.heap.size = W.heap.size → (∀ k, k ∉ ds → W'.heap[k]? = W.heap[k]?) → LeavesIn F n P fn tmps R [] .returning W') →
      LeavesInM F n P fn tmps R (ds.map fun D => { target := .collected D, args := #[] }) .returning W
  | [], W, _, _, h => h W rfl rfl rfl rfl (fun _ _ => rfl)
  | D :: ds, W, hnd, hd, h => by
    refine ⟨by simp, .inl ⟨D, _, rfl, run_takeDeferred (hd D (by simp)), ?_⟩⟩
    have hn := List.nodup_cons.1 hnd
    refine leave_marksZ ds _ hn.2 (fun E hE => (World.putObj_heap_other (by rintro rfl; exact hn.1 hE)).trans (hd E (by simp [hE]))) (fun W' h1 h2 h3 h4 h5 => ?_)
    refine h W' (h1.trans rfl) (h2.trans rfl) (h3.trans rfl) (h4.trans (by simp)) (fun k hk => ?_)
    simp only [List.mem_cons, not_or] at hk
    exact (h5 k hk.2).trans (World.putObj_heap_other hk.1)
end
end Go.Proofs.YtdmclfolooiccaaGreatDoor.Ls
end
