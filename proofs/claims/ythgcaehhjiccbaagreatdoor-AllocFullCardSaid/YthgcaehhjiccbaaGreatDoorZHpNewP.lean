/-
  Package heap's New.
-/
import Derived.Test.YthgcaehhjiccbaaGreatDoorHpZK
import Derived.Test.YthgcaehhjiccbaaGreatDoorZHpEvery
namespace Go.Proofs.YthgcaehhjiccbaaGreatDoor
open Go.RowKit
set_option maxRecDepth 100000

theorem info_page : (Tryz.prog.info? 61).map (fun i => (i.zero, i.size, i.bytes)) = some (some (.agg #[.int .i64 0, .int .i64 0]), 2, 16) := by kernel_rfl
theorem info_boolT : (Tryz.prog.info? 4).map (fun i => (i.zero, i.size, i.bytes)) = some (some (.bool false), 1, 1) := by kernel_rfl
def zPages (n : Nat) : Obj := .cells (madeCells #[.int .i64 0, .int .i64 0] (n * 2)) 61
def zBools (n : Nat) : Obj := .cells (madeCells #[.bool false] n) 4
theorem make_pages (n : Nat) (h : n ≤ 1000) (w : World) : (Instr.makeSlice 23 (.int .i64 (n : Int)) (.int .i64 (n : Int))).run Tryz.prog w = .ok (.slice (some ⟨w.heap.size, 0, none⟩) n n) (w.alloc (zPages n)) := by
  obtain ⟨i0, hi, hz0, hz1, hz2⟩ := info_parts info_page
  have := run_make (P := Tryz.prog) w 23 61 i0 _ Tryz.underlying23 hi hz0 .i64 .i64 n n (by omega) (Int.le_refl _) (by rw [hz2]; omega) (by omega)
  rw [hz1] at this
  unfold zPages
  simpa [Value.cells] using this
theorem make_bools (n : Nat) (h : n ≤ 1000) (w : World) : (Instr.makeSlice 26 (.int .i64 (n : Int)) (.int .i64 (n : Int))).run Tryz.prog w = .ok (.slice (some ⟨w.heap.size, 0, none⟩) n n) (w.alloc (zBools n)) := by
  obtain ⟨i0, hi, hz0, hz1, hz2⟩ := info_parts info_boolT
  have := run_make (P := Tryz.prog) w 26 4 i0 _ Tryz.underlying26 hi hz0 .i64 .i64 n n (by omega) (Int.le_refl _) (by rw [hz2]; omega) (by omega)
  rw [hz1] at this
  unfold zBools
  simpa [Value.cells] using this
/-- Pages that are free; cards that are clean. -/
theorem pages_made (w : World) (n : Nat) : Cl.PRow (w.alloc (zPages n)) (w.heap.size + 1) (some ⟨w.heap.size, 0, none⟩) n (fun _ => (0, 0)) := fun _ => ⟨w.heap.size, 0, rfl, by omega, fun i hi => by
  have h0 : i * 2 < n * 2 := by omega
  have h1 : i * 2 + 1 < n * 2 := by omega
  constructor
  · simp [zPages, World.cell?_alloc_at _ _ _ _ rfl, madeCells, h0]
  · simp [zPages, World.cell?_alloc_at _ _ _ _ rfl, madeCells, h1]⟩
theorem cards_made (w : World) (n : Nat) : BRow (w.alloc (zBools n)) (w.heap.size + 1) (some ⟨w.heap.size, 0, none⟩) n (fun _ => false) := fun _ => ⟨w.heap.size, 0, rfl, by omega, fun i hi => by
  simp [zBools, World.cell?_alloc_at _ _ _ _ rfl, madeCells, hi, Nat.mod_one]⟩
theorem pages_in (V : World) (o : Obj) (n s : Nat) (hs : V.heap.size = s) : Cl.PRow (((V.alloc (zPages n)).alloc o).drew) (((V.alloc (zPages n)).alloc o).drew).heap.size (some ⟨s, 0, none⟩) n (fun _ => (0, 0)) := by
  subst hs
  exact ((pages_made V n).below ((Below.refl _ _).alloc (by simp) o)).more (by simp [World.drew])
theorem pages_in' (V : World) (o : Obj) (n s : Nat) (hs : V.heap.size = s) : Cl.PRow (((V.alloc o).alloc (zPages n)).drew) (((V.alloc o).alloc (zPages n)).drew).heap.size (some ⟨s + 1, 0, none⟩) n (fun _ => (0, 0)) := by
  subst hs
  have h := pages_made (V.alloc o) n
  rw [World.size_alloc] at h
  exact h.more (by simp [World.drew])
theorem cards_in (V : World) (o : Obj) (n s : Nat) (hs : V.heap.size = s) : BRow (((V.alloc (zBools n)).alloc o).drew) (((V.alloc (zBools n)).alloc o).drew).heap.size (some ⟨s, 0, none⟩) n (fun _ => false) := by
  subst hs
  exact ((cards_made V n).below ((Below.refl _ _).alloc (by simp) o)).more (by simp [World.drew])
theorem cards_in' (V : World) (o : Obj) (n s : Nat) (hs : V.heap.size = s) : BRow (((V.alloc o).alloc (zBools n)).drew) (((V.alloc o).alloc (zBools n)).drew).heap.size (some ⟨s + 1, 0, none⟩) n (fun _ => false) := by
  subst hs
  have h := cards_made (V.alloc o) n
  rw [World.size_alloc] at h
  exact h.more (by simp [World.drew])
def noHs : Hs := ⟨⟨none, 0, 0⟩, ⟨none, 0, 0⟩, Ls.noSl, ⟨none, 0, 0⟩⟩
theorem new_bad (p : Int) (w : World) (h : p < 1 ∨ 64 < p) : Calls Tryz.prog 16 #[.int .i64 p] w fun e w' => e = .returned (.tuple #[(.agg #[.slice noHs.w.a noHs.w.n noHs.w.c, .slice noHs.p.a noHs.p.n noHs.p.c, .slice (noHs.u 0).a (noHs.u 0).n (noHs.u 0).c, .slice (noHs.u 1).a (noHs.u 1).n (noHs.u 1).c, .slice (noHs.u 2).a (noHs.u 2).n (noHs.u 2).c, .slice noHs.c.a noHs.c.n noHs.c.c]), .int .i64 1]) ∧ Below w.heap.size w w' := by
  have H := Lib.hid h
  clear h
  go_enter Tryz.func16, Tryz.ntmps16
  go_wp2_with fail
  refine (Ar.new_bad p _ H.out).mono ?_
  rintro e w1 ⟨rfl, rfl⟩
  go_wp2
  refine bodyPost_ret (v := .tuple #[(.agg #[.slice noHs.w.a noHs.w.n noHs.w.c, .slice noHs.p.a noHs.p.n noHs.p.c, .slice (noHs.u 0).a (noHs.u 0).n (noHs.u 0).c, .slice (noHs.u 1).a (noHs.u 1).n (noHs.u 1).c, .slice (noHs.u 2).a (noHs.u 2).n (noHs.u 2).c, .slice noHs.c.a noHs.c.n noHs.c.c]), .int .i64 1]) ?_ rfl ?_
  · simp [results, Tryz.results16, go_sem, noHs, Ls.noSl]
  · exact ⟨rfl, (Below.refl _ _).alloc (Nat.le_refl _) _⟩
def NewOut (w : World) (n : Nat) (e : Ending) (w' : World) : Prop :=
  ∃ (A C : Option Addr) (g cw : Nat), e = .returned (.tuple #[.agg #[.slice (some ⟨g, 0, none⟩) (16 * n) cw, .slice A n n, .slice none 0 0, .slice none 0 0, .slice none 0 0, .slice C (2 * n) (2 * n)], .int .i64 0]) ∧
    Row w' w'.heap.size (some ⟨g, 0, none⟩) (16 * n) (List.replicate (16 * n) 0) ∧ Cl.PRow w' w'.heap.size A n (fun _ => (0, 0)) ∧ BRow w' w'.heap.size C (2 * n) (fun _ => false) ∧ Below w.heap.size w w'
theorem put6_gen {W : World} {b : Nat} (h : ∀ j, j < 6 → ∃ v, W.cell? ⟨b, j, none⟩ = some v) (v0 v1 v2 v3 v4 v5 : Value) (o1 o2 : Obj) :
    (((put6 W b v0 v1 v2 v3 v4 v5).alloc o1).alloc o2).cell? ⟨b, 0, none⟩ = some v0 ∧ (((put6 W b v0 v1 v2 v3 v4 v5).alloc o1).alloc o2).cell? ⟨b, 1, none⟩ = some v1 ∧ (((put6 W b v0 v1 v2 v3 v4 v5).alloc o1).alloc o2).cell? ⟨b, 2, none⟩ = some v2 ∧
    (((put6 W b v0 v1 v2 v3 v4 v5).alloc o1).alloc o2).cell? ⟨b, 3, none⟩ = some v3 ∧ (((put6 W b v0 v1 v2 v3 v4 v5).alloc o1).alloc o2).cell? ⟨b, 4, none⟩ = some v4 ∧ (((put6 W b v0 v1 v2 v3 v4 v5).alloc o1).alloc o2).cell? ⟨b, 5, none⟩ = some v5 := by
  obtain ⟨_, h0⟩ := h 0 (by decide)
  obtain ⟨_, h1⟩ := h 1 (by decide)
  obtain ⟨_, h2⟩ := h 2 (by decide)
  obtain ⟨_, h3⟩ := h 3 (by decide)
  obtain ⟨_, h4⟩ := h 4 (by decide)
  obtain ⟨_, h5⟩ := h 5 (by decide)
  have hl : b < W.heap.size := World.block_lt_of_cell? W _ h0
  refine ⟨?_, ?_, ?_, ?_, ?_, ?_⟩ <;> (rw [World.cell?_alloc_past _ _ _ (by simp [put6_size]; omega), World.cell?_alloc_past _ _ _ (by rw [put6_size]; exact hl)]; simp [put6, go_sem, h0, h1, h2, h3, h4, h5])
theorem put6_other (w : World) (b : Nat) (v0 v1 v2 v3 v4 v5 : Value) {k : Nat} (h : ¬ k = b) : (put6 w b v0 v1 v2 v3 v4 v5).heap[k]? = w.heap[k]? :=
  (Below.heap_setCell _ _ _ _ h).trans ((Below.heap_setCell _ _ _ _ h).trans ((Below.heap_setCell _ _ _ _ h).trans ((Below.heap_setCell _ _ _ _ h).trans ((Below.heap_setCell _ _ _ _ h).trans (Below.heap_setCell _ _ _ _ h)))))
theorem new_end {w w1 W' : World} {o o1 o2 : Obj} {n m k g c : Nat} {A C : Option Addr} {v0 v1 v2 v3 v4 v5 : Value} (hm : 16 * n = m) (hk : 2 * n = k) (hmine : Mine w1 (w.alloc o).heap.size 3 g m c (List.replicate m 0)) (hb1 : Below (w.alloc o).heap.size (w.alloc o) w1)
    (hW : W' = (((put6 w1 w.heap.size v0 v1 v2 v3 v4 v5).alloc o1).alloc o2).drew) (hp : Cl.PRow W' W'.heap.size A n (fun _ => (0, 0))) (hc : BRow W' W'.heap.size C k (fun _ => false)) :
    NewOut w n (.returned (.tuple #[.agg #[.slice (some ⟨g, 0, none⟩) m c, .slice A n n, .slice none 0 0, .slice none 0 0, .slice none 0 0, .slice C k k], .int .i64 0])) W' := by
  subst hm hk
  have hg := hmine.2.1
  have hs1 := hb1.size
  rw [World.size_alloc] at hg hs1
  have hbel : Below w.heap.size w W' := by
    rw [hW]
    exact below_drawn' (((below_put6 (((Below.refl _ _).alloc (Nat.le_refl _) o).trans (hb1.mono (by simp))) (Nat.le_refl _) _ _ _ _ _ _).alloc (by rw [put6_size]; omega) _).alloc (by simp [put6_size]; omega) _) 1
  refine ⟨A, C, g, c, rfl, ?_, hp, hc, hbel⟩
  have hr := row_same (w' := W') hmine.row (fun _ x hx => by
    cases hx
    have hgl := hmine.2.2.1
    rw [hW]
    show ((((put6 w1 w.heap.size v0 v1 v2 v3 v4 v5).alloc o1).alloc o2)).heap[g]? = _
    rw [Below.heap_alloc _ _ _ (by simp [put6_size]; omega), Below.heap_alloc _ _ _ (by rw [put6_size]; exact hgl), put6_other _ _ _ _ _ _ _ _ (by omega)])
  refine hr.more ?_
  rw [hW]
  simp [World.drew, put6_size]
  omega
theorem new_ok (n : Nat) (w : World) (h0 : 1 ≤ n) (h1 : n ≤ 64) : Calls Tryz.prog 16 #[.int .i64 (n : Int)] w (NewOut w n) := by
  have hnew := fun W => Ar.new_ok (n : Int) W (by omega) (by omega)
  obtain ⟨m, hm⟩ : ∃ m, 16 * n = m := ⟨_, rfl⟩
  obtain ⟨k, hk⟩ : ∃ k, 2 * n = k := ⟨_, rfl⟩
  simp only [show ((n : Int) * 16).toNat = m by omega] at hnew
  have HNEW := Lib.hid hnew
  have mp := make_pages n (by omega)
  have mb := make_bools k (by omega)
  have d1 : (m : Int) / 8 = k := by omega
  have d2 : Int.tdiv (m : Int) 8 = k := by rw [Int.tdiv_eq_ediv_of_nonneg (by omega)]; exact d1
  have HM := Lib.hid hm
  have HK := Lib.hid hk
  have hm2 : m ≤ 100000 := by omega
  clear hnew hm hk
  go_enter Tryz.func16, Tryz.ntmps16
  go_wp2_with fail
  refine (HNEW.out _).mono ?_
  rintro e w1 ⟨g, c, rfl, hmine, hb1⟩
  have HMI := Lib.hid hmine
  have HB1 := Lib.hid hb1
  have hs1 := hb1.size
  simp only [World.size_alloc] at hs1
  have zc : ∀ j, j < 6 → w1.cell? ⟨w.heap.size, j, none⟩ = some (.slice none 0 0) := fun j hj => (hb1.cell (p := ⟨w.heap.size, j, none⟩) (by simp)).trans (by
    match j, hj with
    | 0, _ => simp [go_sem]
    | 1, _ => simp [go_sem]
    | 2, _ => simp [go_sem]
    | 3, _ => simp [go_sem]
    | 4, _ => simp [go_sem]
    | 5, _ => simp [go_sem])
  have zf : ∀ j, w1.frozen? ⟨w.heap.size, j, none⟩ = false := fun j => (hb1.frozen (p := ⟨w.heap.size, j, none⟩) (by simp)).trans (by simp [go_sem])
  have y0 := zc 0 (by decide)
  have y1 := zc 1 (by decide)
  have y2 := zc 2 (by decide)
  have y3 := zc 3 (by decide)
  have y4 := zc 4 (by decide)
  have y5 := zc 5 (by decide)
  have z0 := zf 0
  have z1 := zf 1
  have z2 := zf 2
  have z3 := zf 3
  have z4 := zf 4
  have z5 := zf 5
  have zl : w.heap.size < w1.heap.size := by omega
  have HC6 := Lib.hid (fun j hj => (⟨_, zc j hj⟩ : ∃ v, w1.cell? ⟨w.heap.size, j, none⟩ = some v))
  clear hmine hb1 zc zf
  go_wp2
  go_region
  all_goals go_wp2
  · refine bodyPost_ret (v := .tuple #[.agg #[.slice (some ⟨g, 0, none⟩) m c, .slice (some ⟨w1.heap.size, 0, none⟩) n n, .slice none 0 0, .slice none 0 0, .slice none 0 0, .slice (some ⟨w1.heap.size + 1, 0, none⟩) k k], .int .i64 0]) ?_ rfl ?_
    rotate_left
    · refine new_end HM.out HK.out HMI.out HB1.out rfl ?_ ?_
      · exact pages_in _ _ n _ (put6_size w1 w.heap.size _ _ _ _ _ _)
      · exact cards_in' _ _ k _ (put6_size w1 w.heap.size _ _ _ _ _ _)
    · obtain ⟨k0, k1, k2, k3, k4, k5⟩ := put6_gen (W := w1) (b := w.heap.size) HC6.out (.slice (some ⟨g, 0, none⟩) m c) (.slice (some ⟨w1.heap.size, 0, none⟩) n n) (.slice none 0 0) (.slice none 0 0) (.slice none 0 0) (.slice (some ⟨w1.heap.size + 1, 0, none⟩) k k) (zPages n) (zBools k)
      unfold put6 at k0 k1 k2 k3 k4 k5
      clear y0 y1 y2 y3 y4 y5
      simp [results, Tryz.results16, go_sem, k0, k1, k2, k3, k4, k5]
  · refine bodyPost_ret (v := .tuple #[.agg #[.slice (some ⟨g, 0, none⟩) m c, .slice (some ⟨w1.heap.size + 1, 0, none⟩) n n, .slice none 0 0, .slice none 0 0, .slice none 0 0, .slice (some ⟨w1.heap.size, 0, none⟩) k k], .int .i64 0]) ?_ rfl ?_
    rotate_left
    · refine new_end HM.out HK.out HMI.out HB1.out rfl ?_ ?_
      · exact pages_in' _ _ n _ (put6_size w1 w.heap.size _ _ _ _ _ _)
      · exact cards_in _ _ k _ (put6_size w1 w.heap.size _ _ _ _ _ _)
    · obtain ⟨k0, k1, k2, k3, k4, k5⟩ := put6_gen (W := w1) (b := w.heap.size) HC6.out (.slice (some ⟨g, 0, none⟩) m c) (.slice (some ⟨w1.heap.size + 1, 0, none⟩) n n) (.slice none 0 0) (.slice none 0 0) (.slice none 0 0) (.slice (some ⟨w1.heap.size, 0, none⟩) k k) (zBools k) (zPages n)
      unfold put6 at k0 k1 k2 k3 k4 k5
      clear y0 y1 y2 y3 y4 y5
      simp [results, Tryz.results16, go_sem, k0, k1, k2, k3, k4, k5]
end Go.Proofs.YthgcaehhjiccbaaGreatDoor
