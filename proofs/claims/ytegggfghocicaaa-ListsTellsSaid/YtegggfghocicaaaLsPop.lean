/-
  Package lists' Pop: lists without the last number of a class, and that number, or the error.
-/
import Derived.Test.YtegggfghocicaaaLsPush
namespace Go.Proofs.Ytegggfghocicaaa
open Go.RowKit

def PopOut (w : World) (g : Nat → List Int) (a er : Int) (e : Ending) (w' : World) : Prop := ∃ u, e = .returned (.tuple #[(.agg #[.slice (u 0).a (u 0).n (u 0).c, .slice (u 1).a (u 1).n (u 1).c, .slice (u 2).a (u 2).n (u 2).c]), .int .i64 a, .int .i64 er]) ∧ L3 w' w'.heap.size u g ∧ Below w.heap.size w w'

theorem Row.take {w : World} {B n m : Nat} {a : Option Addr} {xs : List Int} (h : Row w B a n xs) (hm : m ≤ n) : Row w B a m (xs.take m) :=
  ⟨by have := h.1; simp; omega, fun h0 => by
    obtain ⟨b, off, e, hb, hc⟩ := h.2 (by omega)
    refine ⟨b, off, e, hb, fun i hi => ?_⟩
    rw [hc i (by omega)]
    simp [List.getD, hi]⟩
theorem L3.cut {w : World} {B k m : Nat} {u : Nat → Sl} {f : Nat → List Int} (h : L3 w B u f) (hk : k < 3) (hm : m ≤ (u k).n) : L3 w B (upd u k ⟨(u k).a, m, (u k).c⟩) (upd f k ((f k).take m)) :=
  h.set k _ _ ((h k hk).1.take hm) (Nat.le_trans hm (h k hk).2.1) (h k hk).2.2
/-- Behind a cut of a class's slice, and the whole value's store into the result's box. -/
theorem cut_end {w w1 : World} {v : Nat → Sl} {f : Nat → List Int} {k m : Nat} (ho : Own3 w1 (w.heap.size + 2) v f) (hb : Below w.heap.size w w1) (X : Box3 w1 (w.heap.size + 1) noSl) (hk : k < 3) (hm : m ≤ (v k).n) {a : Option Addr} (ha : (v k).a = a) (o : Obj) (z : Nat → Sl) :
    L3 ((put3 w1 (w.heap.size + 1) z).alloc o) ((put3 w1 (w.heap.size + 1) z).alloc o).heap.size (upd v k ⟨a, m, (v k).c⟩) (upd f k ((f k).take m)) ∧ Below w.heap.size w ((put3 w1 (w.heap.size + 1) z).alloc o) := by
  have hX := X.lt
  subst ha
  have O1 := ho.put (b := w.heap.size + 1) (fun j y hj hy => by have := (ho.block j hj hy).1; omega) z
  refine ⟨(O1.alloc o).l3.cut hk hm, (below_put3 hb (by omega) z).alloc ?_ o⟩
  rw [put3_size]
  exact hb.size

theorem pop_bad (u : Nat → Sl) (k : Int) (w : World) (hk : isCl k = false) :
    Calls Try.prog 14 #[(.agg #[.slice (u 0).a (u 0).n (u 0).c, .slice (u 1).a (u 1).n (u 1).c, .slice (u 2).a (u 2).n (u 2).c]), .int .i64 k] w (PopOut w noLists 0 1) := by
  have HK := Lib.hid hk
  clear hk
  go_enter Try.func14, Try.ntmps14
  go_wp2_with (go_at_call 26; refine (class_no _ _ HK.out).mono ?_; rintro e w' ⟨rfl, rfl⟩)
  refine bodyPost_ret (v := .tuple #[(.agg #[.slice (noSl 0).a (noSl 0).n (noSl 0).c, .slice (noSl 1).a (noSl 1).n (noSl 1).c, .slice (noSl 2).a (noSl 2).n (noSl 2).c]), .int .i64 0, .int .i64 1]) ?_ rfl ⟨noSl, rfl, L3.none_ _ _, ?_⟩
  · simp [results, Try.results14, go_sem, noSl]
  · exact two_below _ _ _
theorem pop_none0 (u : Nat → Sl) (w : World) (h0 : (u 0).n = 0) :
    Calls Try.prog 14 #[(.agg #[.slice (u 0).a (u 0).n (u 0).c, .slice (u 1).a (u 1).n (u 1).c, .slice (u 2).a (u 2).n (u 2).c]), .int .i64 0] w (PopOut w noLists 0 3) := by
  go_enter Try.func14, Try.ntmps14
  go_wp2_with (go_at_call 26; refine (class_yes _ _ (by decide) (by decide)).mono ?_; rintro e w' ⟨rfl, rfl⟩)
  refine bodyPost_ret (v := .tuple #[(.agg #[.slice (noSl 0).a (noSl 0).n (noSl 0).c, .slice (noSl 1).a (noSl 1).n (noSl 1).c, .slice (noSl 2).a (noSl 2).n (noSl 2).c]), .int .i64 0, .int .i64 3]) ?_ rfl ?_
  rotate_left
  · exact ⟨noSl, rfl, L3.none_ _ _, two_below _ _ _⟩
  simp [results, Try.results14, go_sem, noSl]
theorem pop_ok0 (B : Nat) (u : Nat → Sl) (f : Nat → List Int) (m : Nat) (w : World) (h : L3 w B u f) (hB : B ≤ w.heap.size) (hn : ∀ j, j < 3 → (u j).n ≤ 2000000) (hm : (u 0).n = m + 1) :
    Calls Try.prog 14 #[(.agg #[.slice (u 0).a (u 0).n (u 0).c, .slice (u 1).a (u 1).n (u 1).c, .slice (u 2).a (u 2).n (u 2).c]), .int .i64 0] w (PopOut w (upd f 0 ((f 0).take m)) ((f 0).getD m 0) 0) := by
  have HL := Lib.hid h
  have HN := Lib.hid hn
  have hm2 : m ≤ 2000000 := by have := hn 0 (by decide); omega
  have hd : ((((u 0).n : Nat) : Int) == 0) = false := by simp; omega
  have HM := Lib.hid hm
  clear h hn hm
  go_enter Try.func14, Try.ntmps14
  go_wp2_with (go_at_call 26; refine (class_yes _ _ (by decide) (by decide)).mono ?_; rintro e w' ⟨rfl, rfl⟩)
  have b0 := two_below w (.cells #[.slice (u 0).a (u 0).n (u 0).c, .slice (u 1).a (u 1).n (u 1).c, .slice (u 2).a (u 2).n (u 2).c] 24) (.cells #[.slice none 0 0, .slice none 0 0, .slice none 0 0] 24)
  refine (copied_any B u f _ (HL.out.over b0 hB) (by simp; omega) HN.out).mono ?_
  rintro e w1 ⟨v, rfl, ho0, hb0⟩
  obtain ⟨X1, ho, hb⟩ := two_on ho0 hb0
  have OH := Lib.hid ho
  have BH := Lib.hid hb
  have hvn : (v 0).n = m + 1 := by
    have h1 := ho.l3.len 0 (by decide)
    have h2 := HL.out.len 0 (by decide)
    have h3 := HM.out
    omega
  have hc0 := (ho.l3 0 (by decide)).2
  have hcap : m + 1 ≤ (v 0).c := by omega
  have hcm := hc0.2
  unfold maxLen at hcm
  obtain ⟨b, off, hA, hlt, hcell⟩ := (ho.l3 0 (by decide)).1.2 (by omega)
  have hcl := hcell m (by omega)
  have hbl : b < w1.heap.size := hlt
  have E := Lib.hid (cut_end ho hb X1.out (k := 0) (m := m) (by decide) (by omega) hA)
  have x0 := X1.out.cell 0 (by decide)
  have x1 := X1.out.cell 1 (by decide)
  have x2 := X1.out.cell 2 (by decide)
  have y0 := X1.out.free 0
  have y1 := X1.out.free 1
  have y2 := X1.out.free 2
  have xl := X1.out.lt
  clear ho hb b0 hc0 hcell hlt ho0 hb0
  go_wp2
  refine bodyPost_ret (v := .tuple #[(.agg #[.slice (upd v 0 ⟨some ⟨b, off, none⟩, m, (v 0).c⟩ 0).a (upd v 0 ⟨some ⟨b, off, none⟩, m, (v 0).c⟩ 0).n (upd v 0 ⟨some ⟨b, off, none⟩, m, (v 0).c⟩ 0).c, .slice (upd v 0 ⟨some ⟨b, off, none⟩, m, (v 0).c⟩ 1).a (upd v 0 ⟨some ⟨b, off, none⟩, m, (v 0).c⟩ 1).n (upd v 0 ⟨some ⟨b, off, none⟩, m, (v 0).c⟩ 1).c, .slice (upd v 0 ⟨some ⟨b, off, none⟩, m, (v 0).c⟩ 2).a (upd v 0 ⟨some ⟨b, off, none⟩, m, (v 0).c⟩ 2).n (upd v 0 ⟨some ⟨b, off, none⟩, m, (v 0).c⟩ 2).c]), .int .i64 ((f 0).getD m 0), .int .i64 0]) ?_ rfl ?_
  rotate_left
  · exact ⟨_, rfl, E.out _ (upd v 0 ⟨some ⟨b, off, none⟩, m, (v 0).c⟩)⟩
  have R := (X1.out.put (upd v 0 ⟨some ⟨b, off, none⟩, m, (v 0).c⟩)).alloc (.cells #[.slice (upd v 0 ⟨some ⟨b, off, none⟩, m, (v 0).c⟩ 0).a (upd v 0 ⟨some ⟨b, off, none⟩, m, (v 0).c⟩ 0).n (upd v 0 ⟨some ⟨b, off, none⟩, m, (v 0).c⟩ 0).c, .slice (upd v 0 ⟨some ⟨b, off, none⟩, m, (v 0).c⟩ 1).a (upd v 0 ⟨some ⟨b, off, none⟩, m, (v 0).c⟩ 1).n (upd v 0 ⟨some ⟨b, off, none⟩, m, (v 0).c⟩ 1).c, .slice (upd v 0 ⟨some ⟨b, off, none⟩, m, (v 0).c⟩ 2).a (upd v 0 ⟨some ⟨b, off, none⟩, m, (v 0).c⟩ 2).n (upd v 0 ⟨some ⟨b, off, none⟩, m, (v 0).c⟩ 2).c] 24)
  have r0 := R.cell 0 (by decide)
  have r1 := R.cell 1 (by decide)
  have r2 := R.cell 2 (by decide)
  simp +decide only [put3, upd, reduceIte] at r0 r1 r2
  simp [results, Try.results14, go_sem, upd, r0, r1, r2]
theorem pop_none1 (u : Nat → Sl) (w : World) (h0 : (u 1).n = 0) :
    Calls Try.prog 14 #[(.agg #[.slice (u 0).a (u 0).n (u 0).c, .slice (u 1).a (u 1).n (u 1).c, .slice (u 2).a (u 2).n (u 2).c]), .int .i64 1] w (PopOut w noLists 0 3) := by
  go_enter Try.func14, Try.ntmps14
  go_wp2_with (go_at_call 26; refine (class_yes _ _ (by decide) (by decide)).mono ?_; rintro e w' ⟨rfl, rfl⟩)
  refine bodyPost_ret (v := .tuple #[(.agg #[.slice (noSl 0).a (noSl 0).n (noSl 0).c, .slice (noSl 1).a (noSl 1).n (noSl 1).c, .slice (noSl 2).a (noSl 2).n (noSl 2).c]), .int .i64 0, .int .i64 3]) ?_ rfl ?_
  rotate_left
  · exact ⟨noSl, rfl, L3.none_ _ _, two_below _ _ _⟩
  simp [results, Try.results14, go_sem, noSl]
theorem pop_ok1 (B : Nat) (u : Nat → Sl) (f : Nat → List Int) (m : Nat) (w : World) (h : L3 w B u f) (hB : B ≤ w.heap.size) (hn : ∀ j, j < 3 → (u j).n ≤ 2000000) (hm : (u 1).n = m + 1) :
    Calls Try.prog 14 #[(.agg #[.slice (u 0).a (u 0).n (u 0).c, .slice (u 1).a (u 1).n (u 1).c, .slice (u 2).a (u 2).n (u 2).c]), .int .i64 1] w (PopOut w (upd f 1 ((f 1).take m)) ((f 1).getD m 0) 0) := by
  have HL := Lib.hid h
  have HN := Lib.hid hn
  have hm2 : m ≤ 2000000 := by have := hn 1 (by decide); omega
  have hd : ((((u 1).n : Nat) : Int) == 0) = false := by simp; omega
  have HM := Lib.hid hm
  clear h hn hm
  go_enter Try.func14, Try.ntmps14
  go_wp2_with (go_at_call 26; refine (class_yes _ _ (by decide) (by decide)).mono ?_; rintro e w' ⟨rfl, rfl⟩)
  have b0 := two_below w (.cells #[.slice (u 0).a (u 0).n (u 0).c, .slice (u 1).a (u 1).n (u 1).c, .slice (u 2).a (u 2).n (u 2).c] 24) (.cells #[.slice none 0 0, .slice none 0 0, .slice none 0 0] 24)
  refine (copied_any B u f _ (HL.out.over b0 hB) (by simp; omega) HN.out).mono ?_
  rintro e w1 ⟨v, rfl, ho0, hb0⟩
  obtain ⟨X1, ho, hb⟩ := two_on ho0 hb0
  have OH := Lib.hid ho
  have BH := Lib.hid hb
  have hvn : (v 1).n = m + 1 := by
    have h1 := ho.l3.len 1 (by decide)
    have h2 := HL.out.len 1 (by decide)
    have h3 := HM.out
    omega
  have hc0 := (ho.l3 1 (by decide)).2
  have hcap : m + 1 ≤ (v 1).c := by omega
  have hcm := hc0.2
  unfold maxLen at hcm
  obtain ⟨b, off, hA, hlt, hcell⟩ := (ho.l3 1 (by decide)).1.2 (by omega)
  have hcl := hcell m (by omega)
  have hbl : b < w1.heap.size := hlt
  have E := Lib.hid (cut_end ho hb X1.out (k := 1) (m := m) (by decide) (by omega) hA)
  have x0 := X1.out.cell 0 (by decide)
  have x1 := X1.out.cell 1 (by decide)
  have x2 := X1.out.cell 2 (by decide)
  have y0 := X1.out.free 0
  have y1 := X1.out.free 1
  have y2 := X1.out.free 2
  have xl := X1.out.lt
  clear ho hb b0 hc0 hcell hlt ho0 hb0
  go_wp2
  refine bodyPost_ret (v := .tuple #[(.agg #[.slice (upd v 1 ⟨some ⟨b, off, none⟩, m, (v 1).c⟩ 0).a (upd v 1 ⟨some ⟨b, off, none⟩, m, (v 1).c⟩ 0).n (upd v 1 ⟨some ⟨b, off, none⟩, m, (v 1).c⟩ 0).c, .slice (upd v 1 ⟨some ⟨b, off, none⟩, m, (v 1).c⟩ 1).a (upd v 1 ⟨some ⟨b, off, none⟩, m, (v 1).c⟩ 1).n (upd v 1 ⟨some ⟨b, off, none⟩, m, (v 1).c⟩ 1).c, .slice (upd v 1 ⟨some ⟨b, off, none⟩, m, (v 1).c⟩ 2).a (upd v 1 ⟨some ⟨b, off, none⟩, m, (v 1).c⟩ 2).n (upd v 1 ⟨some ⟨b, off, none⟩, m, (v 1).c⟩ 2).c]), .int .i64 ((f 1).getD m 0), .int .i64 0]) ?_ rfl ?_
  rotate_left
  · exact ⟨_, rfl, E.out _ (upd v 1 ⟨some ⟨b, off, none⟩, m, (v 1).c⟩)⟩
  have R := (X1.out.put (upd v 1 ⟨some ⟨b, off, none⟩, m, (v 1).c⟩)).alloc (.cells #[.slice (upd v 1 ⟨some ⟨b, off, none⟩, m, (v 1).c⟩ 0).a (upd v 1 ⟨some ⟨b, off, none⟩, m, (v 1).c⟩ 0).n (upd v 1 ⟨some ⟨b, off, none⟩, m, (v 1).c⟩ 0).c, .slice (upd v 1 ⟨some ⟨b, off, none⟩, m, (v 1).c⟩ 1).a (upd v 1 ⟨some ⟨b, off, none⟩, m, (v 1).c⟩ 1).n (upd v 1 ⟨some ⟨b, off, none⟩, m, (v 1).c⟩ 1).c, .slice (upd v 1 ⟨some ⟨b, off, none⟩, m, (v 1).c⟩ 2).a (upd v 1 ⟨some ⟨b, off, none⟩, m, (v 1).c⟩ 2).n (upd v 1 ⟨some ⟨b, off, none⟩, m, (v 1).c⟩ 2).c] 24)
  have r0 := R.cell 0 (by decide)
  have r1 := R.cell 1 (by decide)
  have r2 := R.cell 2 (by decide)
  simp +decide only [put3, upd, reduceIte] at r0 r1 r2
  simp [results, Try.results14, go_sem, upd, r0, r1, r2]
theorem pop_none2 (u : Nat → Sl) (w : World) (h0 : (u 2).n = 0) :
    Calls Try.prog 14 #[(.agg #[.slice (u 0).a (u 0).n (u 0).c, .slice (u 1).a (u 1).n (u 1).c, .slice (u 2).a (u 2).n (u 2).c]), .int .i64 2] w (PopOut w noLists 0 3) := by
  go_enter Try.func14, Try.ntmps14
  go_wp2_with (go_at_call 26; refine (class_yes _ _ (by decide) (by decide)).mono ?_; rintro e w' ⟨rfl, rfl⟩)
  refine bodyPost_ret (v := .tuple #[(.agg #[.slice (noSl 0).a (noSl 0).n (noSl 0).c, .slice (noSl 1).a (noSl 1).n (noSl 1).c, .slice (noSl 2).a (noSl 2).n (noSl 2).c]), .int .i64 0, .int .i64 3]) ?_ rfl ?_
  rotate_left
  · exact ⟨noSl, rfl, L3.none_ _ _, two_below _ _ _⟩
  simp [results, Try.results14, go_sem, noSl]
theorem pop_ok2 (B : Nat) (u : Nat → Sl) (f : Nat → List Int) (m : Nat) (w : World) (h : L3 w B u f) (hB : B ≤ w.heap.size) (hn : ∀ j, j < 3 → (u j).n ≤ 2000000) (hm : (u 2).n = m + 1) :
    Calls Try.prog 14 #[(.agg #[.slice (u 0).a (u 0).n (u 0).c, .slice (u 1).a (u 1).n (u 1).c, .slice (u 2).a (u 2).n (u 2).c]), .int .i64 2] w (PopOut w (upd f 2 ((f 2).take m)) ((f 2).getD m 0) 0) := by
  have HL := Lib.hid h
  have HN := Lib.hid hn
  have hm2 : m ≤ 2000000 := by have := hn 2 (by decide); omega
  have hd : ((((u 2).n : Nat) : Int) == 0) = false := by simp; omega
  have HM := Lib.hid hm
  clear h hn hm
  go_enter Try.func14, Try.ntmps14
  go_wp2_with (go_at_call 26; refine (class_yes _ _ (by decide) (by decide)).mono ?_; rintro e w' ⟨rfl, rfl⟩)
  have b0 := two_below w (.cells #[.slice (u 0).a (u 0).n (u 0).c, .slice (u 1).a (u 1).n (u 1).c, .slice (u 2).a (u 2).n (u 2).c] 24) (.cells #[.slice none 0 0, .slice none 0 0, .slice none 0 0] 24)
  refine (copied_any B u f _ (HL.out.over b0 hB) (by simp; omega) HN.out).mono ?_
  rintro e w1 ⟨v, rfl, ho0, hb0⟩
  obtain ⟨X1, ho, hb⟩ := two_on ho0 hb0
  have OH := Lib.hid ho
  have BH := Lib.hid hb
  have hvn : (v 2).n = m + 1 := by
    have h1 := ho.l3.len 2 (by decide)
    have h2 := HL.out.len 2 (by decide)
    have h3 := HM.out
    omega
  have hc0 := (ho.l3 2 (by decide)).2
  have hcap : m + 1 ≤ (v 2).c := by omega
  have hcm := hc0.2
  unfold maxLen at hcm
  obtain ⟨b, off, hA, hlt, hcell⟩ := (ho.l3 2 (by decide)).1.2 (by omega)
  have hcl := hcell m (by omega)
  have hbl : b < w1.heap.size := hlt
  have E := Lib.hid (cut_end ho hb X1.out (k := 2) (m := m) (by decide) (by omega) hA)
  have x0 := X1.out.cell 0 (by decide)
  have x1 := X1.out.cell 1 (by decide)
  have x2 := X1.out.cell 2 (by decide)
  have y0 := X1.out.free 0
  have y1 := X1.out.free 1
  have y2 := X1.out.free 2
  have xl := X1.out.lt
  clear ho hb b0 hc0 hcell hlt ho0 hb0
  go_wp2
  refine bodyPost_ret (v := .tuple #[(.agg #[.slice (upd v 2 ⟨some ⟨b, off, none⟩, m, (v 2).c⟩ 0).a (upd v 2 ⟨some ⟨b, off, none⟩, m, (v 2).c⟩ 0).n (upd v 2 ⟨some ⟨b, off, none⟩, m, (v 2).c⟩ 0).c, .slice (upd v 2 ⟨some ⟨b, off, none⟩, m, (v 2).c⟩ 1).a (upd v 2 ⟨some ⟨b, off, none⟩, m, (v 2).c⟩ 1).n (upd v 2 ⟨some ⟨b, off, none⟩, m, (v 2).c⟩ 1).c, .slice (upd v 2 ⟨some ⟨b, off, none⟩, m, (v 2).c⟩ 2).a (upd v 2 ⟨some ⟨b, off, none⟩, m, (v 2).c⟩ 2).n (upd v 2 ⟨some ⟨b, off, none⟩, m, (v 2).c⟩ 2).c]), .int .i64 ((f 2).getD m 0), .int .i64 0]) ?_ rfl ?_
  rotate_left
  · exact ⟨_, rfl, E.out _ (upd v 2 ⟨some ⟨b, off, none⟩, m, (v 2).c⟩)⟩
  have R := (X1.out.put (upd v 2 ⟨some ⟨b, off, none⟩, m, (v 2).c⟩)).alloc (.cells #[.slice (upd v 2 ⟨some ⟨b, off, none⟩, m, (v 2).c⟩ 0).a (upd v 2 ⟨some ⟨b, off, none⟩, m, (v 2).c⟩ 0).n (upd v 2 ⟨some ⟨b, off, none⟩, m, (v 2).c⟩ 0).c, .slice (upd v 2 ⟨some ⟨b, off, none⟩, m, (v 2).c⟩ 1).a (upd v 2 ⟨some ⟨b, off, none⟩, m, (v 2).c⟩ 1).n (upd v 2 ⟨some ⟨b, off, none⟩, m, (v 2).c⟩ 1).c, .slice (upd v 2 ⟨some ⟨b, off, none⟩, m, (v 2).c⟩ 2).a (upd v 2 ⟨some ⟨b, off, none⟩, m, (v 2).c⟩ 2).n (upd v 2 ⟨some ⟨b, off, none⟩, m, (v 2).c⟩ 2).c] 24)
  have r0 := R.cell 0 (by decide)
  have r1 := R.cell 1 (by decide)
  have r2 := R.cell 2 (by decide)
  simp +decide only [put3, upd, reduceIte] at r0 r1 r2
  simp [results, Try.results14, go_sem, upd, r0, r1, r2]
theorem pop_none (u : Nat → Sl) (k : Nat) (hk : k < 3) (w : World) (h0 : (u k).n = 0) : Calls Try.prog 14 #[(.agg #[.slice (u 0).a (u 0).n (u 0).c, .slice (u 1).a (u 1).n (u 1).c, .slice (u 2).a (u 2).n (u 2).c]), .int .i64 k] w (PopOut w noLists 0 3) := by
  rcases (show k = 0 ∨ k = 1 ∨ k = 2 by omega) with rfl | rfl | rfl
  · exact pop_none0 u w h0
  · exact pop_none1 u w h0
  · exact pop_none2 u w h0
theorem pop_ok (B : Nat) (u : Nat → Sl) (f : Nat → List Int) (k : Nat) (hk : k < 3) (m : Nat) (w : World) (h : L3 w B u f) (hB : B ≤ w.heap.size) (hn : ∀ j, j < 3 → (u j).n ≤ 2000000) (hm : (u k).n = m + 1) :
    Calls Try.prog 14 #[(.agg #[.slice (u 0).a (u 0).n (u 0).c, .slice (u 1).a (u 1).n (u 1).c, .slice (u 2).a (u 2).n (u 2).c]), .int .i64 k] w (PopOut w (upd f k ((f k).take m)) ((f k).getD m 0) 0) := by
  rcases (show k = 0 ∨ k = 1 ∨ k = 2 by omega) with rfl | rfl | rfl
  · exact pop_ok0 B u f m w h hB hn hm
  · exact pop_ok1 B u f m w h hB hn hm
  · exact pop_ok2 B u f m w h hB hn hm
end Go.Proofs.Ytegggfghocicaaa
