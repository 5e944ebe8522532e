/-
  Package heap's New.
-/
import Derived.Test.YtcbnefjfoeanoaaDoorZHpHeadI
import Derived.Test.YtcbnefjfoeanoaaDoorZHpEvery
namespace Go.Proofs.YtcbnefjfoeanoaaDoor
open Go.RowKit
set_option maxRecDepth 100000

theorem info_page : (Tryd.prog.info? 42).map (fun i => (i.zero, i.size, i.bytes)) = some (some (.agg #[.int .i64 0, .int .i64 0]), 2, 16) := by kernel_rfl
theorem info_boolT : (Tryd.prog.info? 4).map (fun i => (i.zero, i.size, i.bytes)) = some (some (.bool false), 1, 1) := by kernel_rfl
def zPages (n : Nat) : Obj := .cells (madeCells #[.int .i64 0, .int .i64 0] (n * 2)) 42
def zBools (n : Nat) : Obj := .cells (madeCells #[.bool false] n) 4
theorem make_pages (n : Nat) (h : n ≤ 1000) (w : World) : (Instr.makeSlice 23 (.int .i64 (n : Int)) (.int .i64 (n : Int))).run Tryd.prog w = .ok (.slice (some ⟨w.heap.size, 0, none⟩) n n) (w.alloc (zPages n)) := by
  obtain ⟨i0, hi, hz0, hz1, hz2⟩ := info_parts info_page
  have := run_make (P := Tryd.prog) w 23 42 i0 _ Tryd.underlying23 hi hz0 .i64 .i64 n n (by omega) (Int.le_refl _) (by rw [hz2]; omega) (by omega)
  rw [hz1] at this
  unfold zPages
  simpa [Value.cells] using this
theorem make_bools (n : Nat) (h : n ≤ 1000) (w : World) : (Instr.makeSlice 26 (.int .i64 (n : Int)) (.int .i64 (n : Int))).run Tryd.prog w = .ok (.slice (some ⟨w.heap.size, 0, none⟩) n n) (w.alloc (zBools n)) := by
  obtain ⟨i0, hi, hz0, hz1, hz2⟩ := info_parts info_boolT
  have := run_make (P := Tryd.prog) w 26 4 i0 _ Tryd.underlying26 hi hz0 .i64 .i64 n n (by omega) (Int.le_refl _) (by rw [hz2]; omega) (by omega)
  rw [hz1] at this
  unfold zBools
  simpa [Value.cells] using this
/-- Pages that are free; cards that are clean. -/
theorem pages_made (w : World) (n : Nat) : Cl.PRow (w.alloc (zPages n)) (w.heap.size + 1) (some ⟨w.heap.size, 0, none⟩) n (fun _ => (0, 0)) := fun _ => ⟨w.heap.size, 0, rfl, by omega, fun i hi => by
  have h0 : i * 2 < n * 2 := by omega
  have h1 : i * 2 + 1 < n * 2 := by omega
  constructor
  · simp [zPages, World.cell?_alloc_at _ _ _ _ rfl, madeCells, h0]
  · simp [zPages, World.cell?_alloc_at _ _ _ _ rfl, madeCells, h1]⟩
theorem cards_made (w : World) (n : Nat) : BRow (w.alloc (zBools n)) (w.heap.size + 1) (some ⟨w.heap.size, 0, none⟩) n (fun _ => false) := fun _ => ⟨w.heap.size, 0, rfl, by omega, fun i hi => by
  simp [zBools, World.cell?_alloc_at _ _ _ _ rfl, madeCells, hi, Nat.mod_one]⟩
theorem pages_in (V : World) (o : Obj) (n s : Nat) (hs : V.heap.size = s) : Cl.PRow (((V.alloc (zPages n)).alloc o).drew) (((V.alloc (zPages n)).alloc o).drew).heap.size (some ⟨s, 0, none⟩) n (fun _ => (0, 0)) := by
  subst hs
  exact ((pages_made V n).below ((Below.refl _ _).alloc (by simp) o)).more (by simp [World.drew])
theorem pages_in' (V : World) (o : Obj) (n s : Nat) (hs : V.heap.size = s) : Cl.PRow (((V.alloc o).alloc (zPages n)).drew) (((V.alloc o).alloc (zPages n)).drew).heap.size (some ⟨s + 1, 0, none⟩) n (fun _ => (0, 0)) := by
  subst hs
  have h := pages_made (V.alloc o) n
  rw [World.size_alloc] at h
  exact h.more (by simp [World.drew])
theorem cards_in (V : World) (o : Obj) (n s : Nat) (hs : V.heap.size = s) : BRow (((V.alloc (zBools n)).alloc o).drew) (((V.alloc (zBools n)).alloc o).drew).heap.size (some ⟨s, 0, none⟩) n (fun _ => false) := by
  subst hs
  exact ((cards_made V n).below ((Below.refl _ _).alloc (by simp) o)).more (by simp [World.drew])
theorem cards_in' (V : World) (o : Obj) (n s : Nat) (hs : V.heap.size = s) : BRow (((V.alloc o).alloc (zBools n)).drew) (((V.alloc o).alloc (zBools n)).drew).heap.size (some ⟨s + 1, 0, none⟩) n (fun _ => false) := by
  subst hs
  have h := cards_made (V.alloc o) n
  rw [World.size_alloc] at h
  exact h.more (by simp [World.drew])
def noHs : Hs := ⟨⟨none, 0, 0⟩, ⟨none, 0, 0⟩, Ls.noSl, ⟨none, 0, 0⟩⟩
def NewOut (w : World) (n : Nat) (e : Ending) (w' : World) : Prop :=
  ∃ (A C : Option Addr) (g cw : Nat), e = .returned (.tuple #[.agg #[.slice (some ⟨g, 0, none⟩) (16 * n) cw, .slice A n n, .slice none 0 0, .slice none 0 0, .slice none 0 0, .slice C (2 * n) (2 * n)], .int .i64 0]) ∧
    Row w' w'.heap.size (some ⟨g, 0, none⟩) (16 * n) (List.replicate (16 * n) 0) ∧ Cl.PRow w' w'.heap.size A n (fun _ => (0, 0)) ∧ BRow w' w'.heap.size C (2 * n) (fun _ => false) ∧ Below w.heap.size w w'
theorem put6_gen {W : World} {b : Nat} (h : ∀ j, j < 6 → ∃ v, W.cell? ⟨b, j, none⟩ = some v) (v0 v1 v2 v3 v4 v5 : Value) (o1 o2 : Obj) :
    (((put6 W b v0 v1 v2 v3 v4 v5).alloc o1).alloc o2).cell? ⟨b, 0, none⟩ = some v0 ∧ (((put6 W b v0 v1 v2 v3 v4 v5).alloc o1).alloc o2).cell? ⟨b, 1, none⟩ = some v1 ∧ (((put6 W b v0 v1 v2 v3 v4 v5).alloc o1).alloc o2).cell? ⟨b, 2, none⟩ = some v2 ∧
    (((put6 W b v0 v1 v2 v3 v4 v5).alloc o1).alloc o2).cell? ⟨b, 3, none⟩ = some v3 ∧ (((put6 W b v0 v1 v2 v3 v4 v5).alloc o1).alloc o2).cell? ⟨b, 4, none⟩ = some v4 ∧ (((put6 W b v0 v1 v2 v3 v4 v5).alloc o1).alloc o2).cell? ⟨b, 5, none⟩ = some v5 := by
  obtain ⟨_, h0⟩ := h 0 (by decide)
  obtain ⟨_, h1⟩ := h 1 (by decide)
  obtain ⟨_, h2⟩ := h 2 (by decide)
  obtain ⟨_, h3⟩ := h 3 (by decide)
  obtain ⟨_, h4⟩ := h 4 (by decide)
  obtain ⟨_, h5⟩ := h 5 (by decide)
  have hl : b < W.heap.size := World.block_lt_of_cell? W _ h0
  refine ⟨?_, ?_, ?_, ?_, ?_, ?_⟩ <;> (rw [World.cell?_alloc_past _ _ _ (by simp [put6_size]; omega), World.cell?_alloc_past _ _ _ (by rw [put6_size]; exact hl)]; simp [put6, go_sem, h0, h1, h2, h3, h4, h5])
theorem put6_other (w : World) (b : Nat) (v0 v1 v2 v3 v4 v5 : Value) {k : Nat} (h : ¬ k = b) : (put6 w b v0 v1 v2 v3 v4 v5).heap[k]? = w.heap[k]? :=
  (Below.heap_setCell _ _ _ _ h).trans ((Below.heap_setCell _ _ _ _ h).trans ((Below.heap_setCell _ _ _ _ h).trans ((Below.heap_setCell _ _ _ _ h).trans ((Below.heap_setCell _ _ _ _ h).trans (Below.heap_setCell _ _ _ _ h)))))
theorem new_end {w w1 W' : World} {o o1 o2 : Obj} {n m k g c : Nat} {A C : Option Addr} {v0 v1 v2 v3 v4 v5 : Value} (hm : 16 * n = m) (hk : 2 * n = k) (hmine : Mine w1 (w.alloc o).heap.size 3 g m c (List.replicate m 0)) (hb1 : Below (w.alloc o).heap.size (w.alloc o) w1)
    (hW : W' = (((put6 w1 w.heap.size v0 v1 v2 v3 v4 v5).alloc o1).alloc o2).drew) (hp : Cl.PRow W' W'.heap.size A n (fun _ => (0, 0))) (hc : BRow W' W'.heap.size C k (fun _ => false)) :
    NewOut w n (.returned (.tuple #[.agg #[.slice (some ⟨g, 0, none⟩) m c, .slice A n n, .slice none 0 0, .slice none 0 0, .slice none 0 0, .slice C k k], .int .i64 0])) W' := by
  subst hm hk
  have hg := hmine.2.1
  have hs1 := hb1.size
  rw [World.size_alloc] at hg hs1
  have hbel : Below w.heap.size w W' := by
    rw [hW]
    exact below_drawn' (((below_put6 (((Below.refl _ _).alloc (Nat.le_refl _) o).trans (hb1.mono (by simp))) (Nat.le_refl _) _ _ _ _ _ _).alloc (by rw [put6_size]; omega) _).alloc (by simp [put6_size]; omega) _) 1
  refine ⟨A, C, g, c, rfl, ?_, hp, hc, hbel⟩
  have hr := row_same (w' := W') hmine.row (fun _ x hx => by
    cases hx
    have hgl := hmine.2.2.1
    rw [hW]
    show ((((put6 w1 w.heap.size v0 v1 v2 v3 v4 v5).alloc o1).alloc o2)).heap[g]? = _
    rw [Below.heap_alloc _ _ _ (by simp [put6_size]; omega), Below.heap_alloc _ _ _ (by rw [put6_size]; exact hgl), put6_other _ _ _ _ _ _ _ _ (by omega)])
  refine hr.more ?_
  rw [hW]
  simp [World.drew, put6_size]
  omega
end Go.Proofs.YtcbnefjfoeanoaaDoor
