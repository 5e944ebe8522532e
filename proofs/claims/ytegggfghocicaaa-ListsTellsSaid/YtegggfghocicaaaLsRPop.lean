/-
  The reference's Pop: lists in new memory without the last number of a class, and that number, or the error.
-/
import Derived.Test.YtegggfghocicaaaLsRPush
import Derived.Deep.DrawnRows
namespace Go.Proofs.Ytegggfghocicaaa
open Go.RowKit
attribute [local go_sem ↓] Go.wp_at_zero Go.wp_at_succ

def RPopOut (w : World) (g : Nat → List Int) (a er : Int) (e : Ending) (w' : World) : Prop := ∃ u, e = .returned (.tuple #[(.agg #[.slice (u 0).a (u 0).n (u 0).c, .slice (u 1).a (u 1).n (u 1).c, .slice (u 2).a (u 2).n (u 2).c]), .int .i64 a, .int .i64 er]) ∧ L3 w' w'.heap.size u g ∧ Below w.heap.size w w' ∧ ∀ j x, j < 3 → (u j).a = some x → w.heap.size ≤ x.block

theorem rpop_bad (u : Nat → Sl) (k : Int) (w : World) (hk : isCl k = false) :
    Calls Try.prog 15 #[(.agg #[.slice (u 0).a (u 0).n (u 0).c, .slice (u 1).a (u 1).n (u 1).c, .slice (u 2).a (u 2).n (u 2).c]), .int .i64 k] w (RPopOut w noLists 0 1) := by
  rcases isCl_no hk with h | h
  · have d1 : decide (k < 0) = true := by simp; omega
    clear hk h
    go_enter Try.func15, Try.ntmps15
    go_wp2
    refine bodyPost_ret (v := .tuple #[(.agg #[.slice (noSl 0).a (noSl 0).n (noSl 0).c, .slice (noSl 1).a (noSl 1).n (noSl 1).c, .slice (noSl 2).a (noSl 2).n (noSl 2).c]), .int .i64 0, .int .i64 1]) ?_ rfl ⟨noSl, rfl, L3.none_ _ _, ?_, fun j x _ hx => by cases hx⟩
    · simp [results, Try.results15, go_sem, noSl]
    · exact two_below _ _ _
  · have d1 : decide (k < 0) = false := by simp; omega
    have d2 : decide (2 < k) = true := by simp; omega
    clear hk h
    go_enter Try.func15, Try.ntmps15
    go_wp2
    refine bodyPost_ret (v := .tuple #[(.agg #[.slice (noSl 0).a (noSl 0).n (noSl 0).c, .slice (noSl 1).a (noSl 1).n (noSl 1).c, .slice (noSl 2).a (noSl 2).n (noSl 2).c]), .int .i64 0, .int .i64 1]) ?_ rfl ⟨noSl, rfl, L3.none_ _ _, ?_, fun j x _ hx => by cases hx⟩
    · simp [results, Try.results15, go_sem, noSl]
    · exact two_below _ _ _
/-- Where the cut lists lie. -/
theorem cut_lies {w1 : World} {B C k m c : Nat} {v : Nat → Sl} {f : Nat → List Int} {a : Option Addr} (ho : Own3 w1 B v f) (hB : C ≤ B) (hk : k < 3) (ha : (v k).a = a) : ∀ j x, j < 3 → (upd v k ⟨a, m, c⟩ j).a = some x → C ≤ x.block := by
  intro j x hj hx
  by_cases e : j = k
  · subst e
    rw [upd_same] at hx
    have := (ho.block j hj (ha.trans hx)).1
    omega
  · rw [upd_other _ _ e] at hx
    have := (ho.block j hj hx).1
    omega
theorem old_boxes {w w1 : World} {u : Nat → Sl} (hb : Below ((w.alloc (.cells #[.slice (u 0).a (u 0).n (u 0).c, .slice (u 1).a (u 1).n (u 1).c, .slice (u 2).a (u 2).n (u 2).c] 24)).alloc (.cells #[.slice none 0 0, .slice none 0 0, .slice none 0 0] 24)).heap.size ((w.alloc (.cells #[.slice (u 0).a (u 0).n (u 0).c, .slice (u 1).a (u 1).n (u 1).c, .slice (u 2).a (u 2).n (u 2).c] 24)).alloc (.cells #[.slice none 0 0, .slice none 0 0, .slice none 0 0] 24)) w1) :
    Box3 w1 w.heap.size u ∧ Box3 w1 (w.heap.size + 1) noSl ∧ Below w.heap.size w w1 :=
  ⟨((Box3.new w u 24).alloc _).next hb, (two_boxes w u).next hb, (two_below w _ _).trans (hb.mono (two_below w _ _).size)⟩
theorem rpop_none0 (u : Nat → Sl) (w : World) (h0 : (u 0).n = 0) :
    Calls Try.prog 15 #[(.agg #[.slice (u 0).a (u 0).n (u 0).c, .slice (u 1).a (u 1).n (u 1).c, .slice (u 2).a (u 2).n (u 2).c]), .int .i64 0] w (RPopOut w noLists 0 3) := by
  go_enter Try.func15, Try.ntmps15
  go_wp2
  refine bodyPost_ret (v := .tuple #[(.agg #[.slice (noSl 0).a (noSl 0).n (noSl 0).c, .slice (noSl 1).a (noSl 1).n (noSl 1).c, .slice (noSl 2).a (noSl 2).n (noSl 2).c]), .int .i64 0, .int .i64 3]) ?_ rfl ⟨noSl, rfl, L3.none_ _ _, ?_, fun j x _ hx => by cases hx⟩
  rotate_left
  · exact two_below _ _ _
  simp [results, Try.results15, go_sem, noSl]
set_option maxHeartbeats 1000000 in
theorem rpop_ok0 (B : Nat) (u : Nat → Sl) (f : Nat → List Int) (m : Nat) (w : World) (h : L3 w B u f) (hB : B ≤ w.heap.size) (hn : ∀ j, j < 3 → (u j).n ≤ 2000000) (hm : (u 0).n = m + 1) :
    Calls Try.prog 15 #[(.agg #[.slice (u 0).a (u 0).n (u 0).c, .slice (u 1).a (u 1).n (u 1).c, .slice (u 2).a (u 2).n (u 2).c]), .int .i64 0] w (RPopOut w (upd f 0 ((f 0).take m)) ((f 0).getD m 0) 0) := by
  have HL := Lib.hid h
  have HN := Lib.hid hn
  have hm2 : m ≤ 2000000 := by have := hn 0 (by decide); omega
  have hd : ((((u 0).n : Nat) : Int) == 0) = false := by simp; omega
  have HM := Lib.hid hm
  clear h hn hm
  go_enter Try.func15, Try.ntmps15
  go_wp2_with fail
  have b0 := two_below w (.cells #[.slice (u 0).a (u 0).n (u 0).c, .slice (u 1).a (u 1).n (u 1).c, .slice (u 2).a (u 2).n (u 2).c] 24) (.cells #[.slice none 0 0, .slice none 0 0, .slice none 0 0] 24)
  refine (rown_any B u f _ (HL.out.over b0 hB) (by simp; omega) HN.out).mono ?_
  rintro e w1 ⟨v, rfl, ho, hb⟩
  have hl3 := ho.l3
  obtain ⟨XU, XR, BW⟩ := old_boxes hb
  have hvn : (v 0).n = m + 1 := by
    have h1 := hl3.len 0 (by decide)
    have h2 := HL.out.len 0 (by decide)
    have h3 := HM.out
    omega
  have hcap := (hl3 0 (by decide)).2
  have hcm := hcap.2
  unfold maxLen at hcm
  have hcap : m + 1 ≤ (v 0).c := by omega
  obtain ⟨b, off, hA, _, _⟩ := (hl3 0 (by decide)).1.2 (by omega)
  obtain ⟨b', off', hA', hlt', hcell⟩ := ((HL.out 0 (by decide)).1.over BW hB).2 (by have := HM.out; omega)
  have hq := hcell m (by have := HM.out; omega)
  have hbw : b' < w1.heap.size := by have := XU.lt; omega
  obtain ⟨X1, ho2, hb2⟩ := two_on ho hb
  have HS := Lib.hid (And.intro (cut_end ho2 hb2 X1.out (k := 0) (m := m) (by decide) (by omega) hA) (cut_lies (k := 0) (m := m) (c := (v 0).c) ho2 (C := w.heap.size) (by omega) (by decide) hA))
  have HR := Lib.hid X1.out
  have c0 := XU.cell 0 (by decide)
  have c1 := XU.cell 1 (by decide)
  have c2 := XU.cell 2 (by decide)
  have cl := XU.lt
  have x0 := XR.cell 0 (by decide)
  have x1 := XR.cell 1 (by decide)
  have x2 := XR.cell 2 (by decide)
  have y0 := XR.free 0
  have y1 := XR.free 1
  have y2 := XR.free 2
  have xl := XR.lt
  have hm1 : (((u 0).n : Nat) : Int) - 1 = m := by have := HM.out; omega
  have hm3 : IntKind.i64.wrap (m : Int) = m := by simp [IntKind.wrap, IntKind.signed, IntKind.bits]; omega
  have j0 : (0 : Int) ≤ m := by omega
  have j1 : (m : Int) < (((u 0).n : Nat) : Int) := by omega
  clear hcell hl3 ho hb b0 HM XU XR BW hvn X1 ho2 hb2
  go_wp2
  go_region_with (fail)
  all_goals go_wp2
  all_goals refine bodyPost_ret (v := .tuple #[(.agg #[.slice (upd v 0 ⟨some ⟨b, off, none⟩, m, (v 0).c⟩ 0).a (upd v 0 ⟨some ⟨b, off, none⟩, m, (v 0).c⟩ 0).n (upd v 0 ⟨some ⟨b, off, none⟩, m, (v 0).c⟩ 0).c, .slice (upd v 0 ⟨some ⟨b, off, none⟩, m, (v 0).c⟩ 1).a (upd v 0 ⟨some ⟨b, off, none⟩, m, (v 0).c⟩ 1).n (upd v 0 ⟨some ⟨b, off, none⟩, m, (v 0).c⟩ 1).c, .slice (upd v 0 ⟨some ⟨b, off, none⟩, m, (v 0).c⟩ 2).a (upd v 0 ⟨some ⟨b, off, none⟩, m, (v 0).c⟩ 2).n (upd v 0 ⟨some ⟨b, off, none⟩, m, (v 0).c⟩ 2).c]), .int .i64 ((f 0).getD m 0), .int .i64 0]) ?_ rfl ?_
  all_goals first
    | exact ⟨_, rfl, ((HS.out.1 (.cells #[.slice (upd v 0 ⟨some ⟨b, off, none⟩, m, (v 0).c⟩ 0).a (upd v 0 ⟨some ⟨b, off, none⟩, m, (v 0).c⟩ 0).n (upd v 0 ⟨some ⟨b, off, none⟩, m, (v 0).c⟩ 0).c, .slice (upd v 0 ⟨some ⟨b, off, none⟩, m, (v 0).c⟩ 1).a (upd v 0 ⟨some ⟨b, off, none⟩, m, (v 0).c⟩ 1).n (upd v 0 ⟨some ⟨b, off, none⟩, m, (v 0).c⟩ 1).c, .slice (upd v 0 ⟨some ⟨b, off, none⟩, m, (v 0).c⟩ 2).a (upd v 0 ⟨some ⟨b, off, none⟩, m, (v 0).c⟩ 2).n (upd v 0 ⟨some ⟨b, off, none⟩, m, (v 0).c⟩ 2).c] 24) (upd v 0 ⟨some ⟨b, off, none⟩, m, (v 0).c⟩)).1).drewN 1, below_drawn (HS.out.1 _ (upd v 0 ⟨some ⟨b, off, none⟩, m, (v 0).c⟩)).2 1, HS.out.2⟩
    | (have R := (HR.out.put (upd v 0 ⟨some ⟨b, off, none⟩, m, (v 0).c⟩)).alloc (.cells #[.slice (upd v 0 ⟨some ⟨b, off, none⟩, m, (v 0).c⟩ 0).a (upd v 0 ⟨some ⟨b, off, none⟩, m, (v 0).c⟩ 0).n (upd v 0 ⟨some ⟨b, off, none⟩, m, (v 0).c⟩ 0).c, .slice (upd v 0 ⟨some ⟨b, off, none⟩, m, (v 0).c⟩ 1).a (upd v 0 ⟨some ⟨b, off, none⟩, m, (v 0).c⟩ 1).n (upd v 0 ⟨some ⟨b, off, none⟩, m, (v 0).c⟩ 1).c, .slice (upd v 0 ⟨some ⟨b, off, none⟩, m, (v 0).c⟩ 2).a (upd v 0 ⟨some ⟨b, off, none⟩, m, (v 0).c⟩ 2).n (upd v 0 ⟨some ⟨b, off, none⟩, m, (v 0).c⟩ 2).c] 24)
       have r0 := R.cell 0 (by decide)
       have r1 := R.cell 1 (by decide)
       have r2 := R.cell 2 (by decide)
       simp +decide only [put3, upd, reduceIte] at r0 r1 r2
       simp [results, Try.results15, go_sem, upd, r0, r1, r2])
theorem rpop_none1 (u : Nat → Sl) (w : World) (h0 : (u 1).n = 0) :
    Calls Try.prog 15 #[(.agg #[.slice (u 0).a (u 0).n (u 0).c, .slice (u 1).a (u 1).n (u 1).c, .slice (u 2).a (u 2).n (u 2).c]), .int .i64 1] w (RPopOut w noLists 0 3) := by
  go_enter Try.func15, Try.ntmps15
  go_wp2
  refine bodyPost_ret (v := .tuple #[(.agg #[.slice (noSl 0).a (noSl 0).n (noSl 0).c, .slice (noSl 1).a (noSl 1).n (noSl 1).c, .slice (noSl 2).a (noSl 2).n (noSl 2).c]), .int .i64 0, .int .i64 3]) ?_ rfl ⟨noSl, rfl, L3.none_ _ _, ?_, fun j x _ hx => by cases hx⟩
  rotate_left
  · exact two_below _ _ _
  simp [results, Try.results15, go_sem, noSl]
set_option maxHeartbeats 1000000 in
theorem rpop_ok1 (B : Nat) (u : Nat → Sl) (f : Nat → List Int) (m : Nat) (w : World) (h : L3 w B u f) (hB : B ≤ w.heap.size) (hn : ∀ j, j < 3 → (u j).n ≤ 2000000) (hm : (u 1).n = m + 1) :
    Calls Try.prog 15 #[(.agg #[.slice (u 0).a (u 0).n (u 0).c, .slice (u 1).a (u 1).n (u 1).c, .slice (u 2).a (u 2).n (u 2).c]), .int .i64 1] w (RPopOut w (upd f 1 ((f 1).take m)) ((f 1).getD m 0) 0) := by
  have HL := Lib.hid h
  have HN := Lib.hid hn
  have hm2 : m ≤ 2000000 := by have := hn 1 (by decide); omega
  have hd : ((((u 1).n : Nat) : Int) == 0) = false := by simp; omega
  have HM := Lib.hid hm
  clear h hn hm
  go_enter Try.func15, Try.ntmps15
  go_wp2_with fail
  have b0 := two_below w (.cells #[.slice (u 0).a (u 0).n (u 0).c, .slice (u 1).a (u 1).n (u 1).c, .slice (u 2).a (u 2).n (u 2).c] 24) (.cells #[.slice none 0 0, .slice none 0 0, .slice none 0 0] 24)
  refine (rown_any B u f _ (HL.out.over b0 hB) (by simp; omega) HN.out).mono ?_
  rintro e w1 ⟨v, rfl, ho, hb⟩
  have hl3 := ho.l3
  obtain ⟨XU, XR, BW⟩ := old_boxes hb
  have hvn : (v 1).n = m + 1 := by
    have h1 := hl3.len 1 (by decide)
    have h2 := HL.out.len 1 (by decide)
    have h3 := HM.out
    omega
  have hcap := (hl3 1 (by decide)).2
  have hcm := hcap.2
  unfold maxLen at hcm
  have hcap : m + 1 ≤ (v 1).c := by omega
  obtain ⟨b, off, hA, _, _⟩ := (hl3 1 (by decide)).1.2 (by omega)
  obtain ⟨b', off', hA', hlt', hcell⟩ := ((HL.out 1 (by decide)).1.over BW hB).2 (by have := HM.out; omega)
  have hq := hcell m (by have := HM.out; omega)
  have hbw : b' < w1.heap.size := by have := XU.lt; omega
  obtain ⟨X1, ho2, hb2⟩ := two_on ho hb
  have HS := Lib.hid (And.intro (cut_end ho2 hb2 X1.out (k := 1) (m := m) (by decide) (by omega) hA) (cut_lies (k := 1) (m := m) (c := (v 1).c) ho2 (C := w.heap.size) (by omega) (by decide) hA))
  have HR := Lib.hid X1.out
  have c0 := XU.cell 0 (by decide)
  have c1 := XU.cell 1 (by decide)
  have c2 := XU.cell 2 (by decide)
  have cl := XU.lt
  have x0 := XR.cell 0 (by decide)
  have x1 := XR.cell 1 (by decide)
  have x2 := XR.cell 2 (by decide)
  have y0 := XR.free 0
  have y1 := XR.free 1
  have y2 := XR.free 2
  have xl := XR.lt
  have hm1 : (((u 1).n : Nat) : Int) - 1 = m := by have := HM.out; omega
  have hm3 : IntKind.i64.wrap (m : Int) = m := by simp [IntKind.wrap, IntKind.signed, IntKind.bits]; omega
  have j0 : (0 : Int) ≤ m := by omega
  have j1 : (m : Int) < (((u 1).n : Nat) : Int) := by omega
  clear hcell hl3 ho hb b0 HM XU XR BW hvn X1 ho2 hb2
  go_wp2
  go_region_with (fail)
  all_goals go_wp2
  all_goals refine bodyPost_ret (v := .tuple #[(.agg #[.slice (upd v 1 ⟨some ⟨b, off, none⟩, m, (v 1).c⟩ 0).a (upd v 1 ⟨some ⟨b, off, none⟩, m, (v 1).c⟩ 0).n (upd v 1 ⟨some ⟨b, off, none⟩, m, (v 1).c⟩ 0).c, .slice (upd v 1 ⟨some ⟨b, off, none⟩, m, (v 1).c⟩ 1).a (upd v 1 ⟨some ⟨b, off, none⟩, m, (v 1).c⟩ 1).n (upd v 1 ⟨some ⟨b, off, none⟩, m, (v 1).c⟩ 1).c, .slice (upd v 1 ⟨some ⟨b, off, none⟩, m, (v 1).c⟩ 2).a (upd v 1 ⟨some ⟨b, off, none⟩, m, (v 1).c⟩ 2).n (upd v 1 ⟨some ⟨b, off, none⟩, m, (v 1).c⟩ 2).c]), .int .i64 ((f 1).getD m 0), .int .i64 0]) ?_ rfl ?_
  all_goals first
    | exact ⟨_, rfl, ((HS.out.1 (.cells #[.slice (upd v 1 ⟨some ⟨b, off, none⟩, m, (v 1).c⟩ 0).a (upd v 1 ⟨some ⟨b, off, none⟩, m, (v 1).c⟩ 0).n (upd v 1 ⟨some ⟨b, off, none⟩, m, (v 1).c⟩ 0).c, .slice (upd v 1 ⟨some ⟨b, off, none⟩, m, (v 1).c⟩ 1).a (upd v 1 ⟨some ⟨b, off, none⟩, m, (v 1).c⟩ 1).n (upd v 1 ⟨some ⟨b, off, none⟩, m, (v 1).c⟩ 1).c, .slice (upd v 1 ⟨some ⟨b, off, none⟩, m, (v 1).c⟩ 2).a (upd v 1 ⟨some ⟨b, off, none⟩, m, (v 1).c⟩ 2).n (upd v 1 ⟨some ⟨b, off, none⟩, m, (v 1).c⟩ 2).c] 24) (upd v 1 ⟨some ⟨b, off, none⟩, m, (v 1).c⟩)).1).drewN 1, below_drawn (HS.out.1 _ (upd v 1 ⟨some ⟨b, off, none⟩, m, (v 1).c⟩)).2 1, HS.out.2⟩
    | (have R := (HR.out.put (upd v 1 ⟨some ⟨b, off, none⟩, m, (v 1).c⟩)).alloc (.cells #[.slice (upd v 1 ⟨some ⟨b, off, none⟩, m, (v 1).c⟩ 0).a (upd v 1 ⟨some ⟨b, off, none⟩, m, (v 1).c⟩ 0).n (upd v 1 ⟨some ⟨b, off, none⟩, m, (v 1).c⟩ 0).c, .slice (upd v 1 ⟨some ⟨b, off, none⟩, m, (v 1).c⟩ 1).a (upd v 1 ⟨some ⟨b, off, none⟩, m, (v 1).c⟩ 1).n (upd v 1 ⟨some ⟨b, off, none⟩, m, (v 1).c⟩ 1).c, .slice (upd v 1 ⟨some ⟨b, off, none⟩, m, (v 1).c⟩ 2).a (upd v 1 ⟨some ⟨b, off, none⟩, m, (v 1).c⟩ 2).n (upd v 1 ⟨some ⟨b, off, none⟩, m, (v 1).c⟩ 2).c] 24)
       have r0 := R.cell 0 (by decide)
       have r1 := R.cell 1 (by decide)
       have r2 := R.cell 2 (by decide)
       simp +decide only [put3, upd, reduceIte] at r0 r1 r2
       simp [results, Try.results15, go_sem, upd, r0, r1, r2])
theorem rpop_none2 (u : Nat → Sl) (w : World) (h0 : (u 2).n = 0) :
    Calls Try.prog 15 #[(.agg #[.slice (u 0).a (u 0).n (u 0).c, .slice (u 1).a (u 1).n (u 1).c, .slice (u 2).a (u 2).n (u 2).c]), .int .i64 2] w (RPopOut w noLists 0 3) := by
  go_enter Try.func15, Try.ntmps15
  go_wp2
  refine bodyPost_ret (v := .tuple #[(.agg #[.slice (noSl 0).a (noSl 0).n (noSl 0).c, .slice (noSl 1).a (noSl 1).n (noSl 1).c, .slice (noSl 2).a (noSl 2).n (noSl 2).c]), .int .i64 0, .int .i64 3]) ?_ rfl ⟨noSl, rfl, L3.none_ _ _, ?_, fun j x _ hx => by cases hx⟩
  rotate_left
  · exact two_below _ _ _
  simp [results, Try.results15, go_sem, noSl]
set_option maxHeartbeats 1000000 in
theorem rpop_ok2 (B : Nat) (u : Nat → Sl) (f : Nat → List Int) (m : Nat) (w : World) (h : L3 w B u f) (hB : B ≤ w.heap.size) (hn : ∀ j, j < 3 → (u j).n ≤ 2000000) (hm : (u 2).n = m + 1) :
    Calls Try.prog 15 #[(.agg #[.slice (u 0).a (u 0).n (u 0).c, .slice (u 1).a (u 1).n (u 1).c, .slice (u 2).a (u 2).n (u 2).c]), .int .i64 2] w (RPopOut w (upd f 2 ((f 2).take m)) ((f 2).getD m 0) 0) := by
  have HL := Lib.hid h
  have HN := Lib.hid hn
  have hm2 : m ≤ 2000000 := by have := hn 2 (by decide); omega
  have hd : ((((u 2).n : Nat) : Int) == 0) = false := by simp; omega
  have HM := Lib.hid hm
  clear h hn hm
  go_enter Try.func15, Try.ntmps15
  go_wp2_with fail
  have b0 := two_below w (.cells #[.slice (u 0).a (u 0).n (u 0).c, .slice (u 1).a (u 1).n (u 1).c, .slice (u 2).a (u 2).n (u 2).c] 24) (.cells #[.slice none 0 0, .slice none 0 0, .slice none 0 0] 24)
  refine (rown_any B u f _ (HL.out.over b0 hB) (by simp; omega) HN.out).mono ?_
  rintro e w1 ⟨v, rfl, ho, hb⟩
  have hl3 := ho.l3
  obtain ⟨XU, XR, BW⟩ := old_boxes hb
  have hvn : (v 2).n = m + 1 := by
    have h1 := hl3.len 2 (by decide)
    have h2 := HL.out.len 2 (by decide)
    have h3 := HM.out
    omega
  have hcap := (hl3 2 (by decide)).2
  have hcm := hcap.2
  unfold maxLen at hcm
  have hcap : m + 1 ≤ (v 2).c := by omega
  obtain ⟨b, off, hA, _, _⟩ := (hl3 2 (by decide)).1.2 (by omega)
  obtain ⟨b', off', hA', hlt', hcell⟩ := ((HL.out 2 (by decide)).1.over BW hB).2 (by have := HM.out; omega)
  have hq := hcell m (by have := HM.out; omega)
  have hbw : b' < w1.heap.size := by have := XU.lt; omega
  obtain ⟨X1, ho2, hb2⟩ := two_on ho hb
  have HS := Lib.hid (And.intro (cut_end ho2 hb2 X1.out (k := 2) (m := m) (by decide) (by omega) hA) (cut_lies (k := 2) (m := m) (c := (v 2).c) ho2 (C := w.heap.size) (by omega) (by decide) hA))
  have HR := Lib.hid X1.out
  have c0 := XU.cell 0 (by decide)
  have c1 := XU.cell 1 (by decide)
  have c2 := XU.cell 2 (by decide)
  have cl := XU.lt
  have x0 := XR.cell 0 (by decide)
  have x1 := XR.cell 1 (by decide)
  have x2 := XR.cell 2 (by decide)
  have y0 := XR.free 0
  have y1 := XR.free 1
  have y2 := XR.free 2
  have xl := XR.lt
  have hm1 : (((u 2).n : Nat) : Int) - 1 = m := by have := HM.out; omega
  have hm3 : IntKind.i64.wrap (m : Int) = m := by simp [IntKind.wrap, IntKind.signed, IntKind.bits]; omega
  have j0 : (0 : Int) ≤ m := by omega
  have j1 : (m : Int) < (((u 2).n : Nat) : Int) := by omega
  clear hcell hl3 ho hb b0 HM XU XR BW hvn X1 ho2 hb2
  go_wp2
  go_region_with (fail)
  all_goals go_wp2
  all_goals refine bodyPost_ret (v := .tuple #[(.agg #[.slice (upd v 2 ⟨some ⟨b, off, none⟩, m, (v 2).c⟩ 0).a (upd v 2 ⟨some ⟨b, off, none⟩, m, (v 2).c⟩ 0).n (upd v 2 ⟨some ⟨b, off, none⟩, m, (v 2).c⟩ 0).c, .slice (upd v 2 ⟨some ⟨b, off, none⟩, m, (v 2).c⟩ 1).a (upd v 2 ⟨some ⟨b, off, none⟩, m, (v 2).c⟩ 1).n (upd v 2 ⟨some ⟨b, off, none⟩, m, (v 2).c⟩ 1).c, .slice (upd v 2 ⟨some ⟨b, off, none⟩, m, (v 2).c⟩ 2).a (upd v 2 ⟨some ⟨b, off, none⟩, m, (v 2).c⟩ 2).n (upd v 2 ⟨some ⟨b, off, none⟩, m, (v 2).c⟩ 2).c]), .int .i64 ((f 2).getD m 0), .int .i64 0]) ?_ rfl ?_
  all_goals first
    | exact ⟨_, rfl, ((HS.out.1 (.cells #[.slice (upd v 2 ⟨some ⟨b, off, none⟩, m, (v 2).c⟩ 0).a (upd v 2 ⟨some ⟨b, off, none⟩, m, (v 2).c⟩ 0).n (upd v 2 ⟨some ⟨b, off, none⟩, m, (v 2).c⟩ 0).c, .slice (upd v 2 ⟨some ⟨b, off, none⟩, m, (v 2).c⟩ 1).a (upd v 2 ⟨some ⟨b, off, none⟩, m, (v 2).c⟩ 1).n (upd v 2 ⟨some ⟨b, off, none⟩, m, (v 2).c⟩ 1).c, .slice (upd v 2 ⟨some ⟨b, off, none⟩, m, (v 2).c⟩ 2).a (upd v 2 ⟨some ⟨b, off, none⟩, m, (v 2).c⟩ 2).n (upd v 2 ⟨some ⟨b, off, none⟩, m, (v 2).c⟩ 2).c] 24) (upd v 2 ⟨some ⟨b, off, none⟩, m, (v 2).c⟩)).1).drewN 1, below_drawn (HS.out.1 _ (upd v 2 ⟨some ⟨b, off, none⟩, m, (v 2).c⟩)).2 1, HS.out.2⟩
    | (have R := (HR.out.put (upd v 2 ⟨some ⟨b, off, none⟩, m, (v 2).c⟩)).alloc (.cells #[.slice (upd v 2 ⟨some ⟨b, off, none⟩, m, (v 2).c⟩ 0).a (upd v 2 ⟨some ⟨b, off, none⟩, m, (v 2).c⟩ 0).n (upd v 2 ⟨some ⟨b, off, none⟩, m, (v 2).c⟩ 0).c, .slice (upd v 2 ⟨some ⟨b, off, none⟩, m, (v 2).c⟩ 1).a (upd v 2 ⟨some ⟨b, off, none⟩, m, (v 2).c⟩ 1).n (upd v 2 ⟨some ⟨b, off, none⟩, m, (v 2).c⟩ 1).c, .slice (upd v 2 ⟨some ⟨b, off, none⟩, m, (v 2).c⟩ 2).a (upd v 2 ⟨some ⟨b, off, none⟩, m, (v 2).c⟩ 2).n (upd v 2 ⟨some ⟨b, off, none⟩, m, (v 2).c⟩ 2).c] 24)
       have r0 := R.cell 0 (by decide)
       have r1 := R.cell 1 (by decide)
       have r2 := R.cell 2 (by decide)
       simp +decide only [put3, upd, reduceIte] at r0 r1 r2
       simp [results, Try.results15, go_sem, upd, r0, r1, r2])
theorem rpop_none (u : Nat → Sl) (k : Nat) (hk : k < 3) (w : World) (h0 : (u k).n = 0) : Calls Try.prog 15 #[(.agg #[.slice (u 0).a (u 0).n (u 0).c, .slice (u 1).a (u 1).n (u 1).c, .slice (u 2).a (u 2).n (u 2).c]), .int .i64 k] w (RPopOut w noLists 0 3) := by
  rcases (show k = 0 ∨ k = 1 ∨ k = 2 by omega) with rfl | rfl | rfl
  · exact rpop_none0 u w h0
  · exact rpop_none1 u w h0
  · exact rpop_none2 u w h0
theorem rpop_ok (B : Nat) (u : Nat → Sl) (f : Nat → List Int) (k : Nat) (hk : k < 3) (m : Nat) (w : World) (h : L3 w B u f) (hB : B ≤ w.heap.size) (hn : ∀ j, j < 3 → (u j).n ≤ 2000000) (hm : (u k).n = m + 1) :
    Calls Try.prog 15 #[(.agg #[.slice (u 0).a (u 0).n (u 0).c, .slice (u 1).a (u 1).n (u 1).c, .slice (u 2).a (u 2).n (u 2).c]), .int .i64 k] w (RPopOut w (upd f k ((f k).take m)) ((f k).getD m 0) 0) := by
  rcases (show k = 0 ∨ k = 1 ∨ k = 2 by omega) with rfl | rfl | rfl
  · exact rpop_ok0 B u f m w h hB hn hm
  · exact rpop_ok1 B u f m w h hB hn hm
  · exact rpop_ok2 B u f m w h hB hn hm
end Go.Proofs.Ytegggfghocicaaa
