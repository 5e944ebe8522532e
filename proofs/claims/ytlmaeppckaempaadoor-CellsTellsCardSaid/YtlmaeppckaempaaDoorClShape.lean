/-
  Package cells' shape and on: how many cells begin on a page, and their room; the value that hands them on.
-/
import Derived.Test.YtlmaeppckaempaaDoorPgRefMay
import Derived.Test.YtlmaeppckaempaaDoorClsCalls
namespace Go.Proofs.YtlmaeppckaempaaDoor
open Go.RowKit

/-- How many cells begin on a page, and how many words each has. -/
def numOf (p : Int × Int) : Nat := if p.1 = 1 then (if p.2 = 0 then 8 else if p.2 = 1 then 4 else if p.2 = 2 then 2 else 0) else if p.1 = 2 then 1 else 0
def roomOf (p : Int × Int) : Int := if p.1 = 1 then wordsOf p.2 else if p.1 = 2 then p.2 * 16 else 0
/-- The pages that may be, seen alone. -/
theorem pm_cases {p : Int × Int} (h : pmB p = true) : p = (0, 0) ∨ p = (1, 0) ∨ p = (1, 1) ∨ p = (1, 2) ∨ p = (2, 1) ∨ p = (2, 2) ∨ p = (2, 3) ∨ p = (2, 4) ∨ p = (3, 0) := by
  obtain ⟨a, b⟩ := p
  have := (pmB_iff _).1 h
  simp only [Prod.mk.injEq]
  simp only at this
  omega
theorem num_room {p : Int × Int} (h : pmB p = true) : numOf p ≤ 8 ∧ 0 ≤ roomOf p ∧ roomOf p ≤ 64 := by
  rcases pm_cases h with rfl | rfl | rfl | rfl | rfl | rfl | rfl | rfl | rfl <;> decide

theorem Sz.over {w w' : World} (h : Sz w) {B : Nat} (hb : Below B w w') (hB : 0 < B) : Sz w' :=
  ⟨(hb.cell (p := ⟨0, 0, none⟩) hB).trans h.1, (hb.cell (p := ⟨0, 1, none⟩) hB).trans h.2.1, (hb.cell (p := ⟨0, 2, none⟩) hB).trans h.2.2⟩
theorem Sz.pos {w : World} (h : Sz w) : 0 < w.heap.size := World.block_lt_of_cell? w _ h.1
theorem Sz.alloc {w : World} (h : Sz w) (o : Obj) : Sz (w.alloc o) := h.over ((Below.refl _ _).alloc (Nat.le_refl _) o) h.pos
theorem Sz.drewN {w : World} (h : Sz w) (k : Nat) : Sz (w.drewN k) := h
theorem cells_same {w : World} {c : Int} {m : Int} (h : perPage c = m) (hz : Sz w) : Calls Tryd.prog 44 #[.int .i64 c] w fun e w' => e = .returned (.int .i64 m) ∧ w' = w := by
  rw [← h]; exact (cells_of c w hz).mono fun _ _ ⟨h1, h2⟩ => ⟨h1, h2.symm⟩
theorem words_same {w : World} {c : Int} {m : Int} (h : wordsOf c = m) (hz : Sz w) : Calls Tryd.prog 45 #[.int .i64 c] w fun e w' => e = .returned (.int .i64 m) ∧ w' = w := by
  rw [← h]; exact (words_of c w hz).mono fun _ _ ⟨h1, h2⟩ => ⟨h1, h2.symm⟩

theorem shape_small (c : Int) (a b : Int) (w : World) (hz : Sz w) (ha : perPage c = a) (hb : wordsOf c = b) :
    Calls Tryd.prog 40 #[.agg #[.int .i64 1, .int .i64 c]] w fun e w' => e = .returned (.tuple #[.int .i64 a, .int .i64 b]) ∧ Below w.heap.size w w' := by
  have H := Lib.hid hz
  have H1 := Lib.hid ha
  have H2 := Lib.hid hb
  have HA : Hid (Sz (w.alloc (.cells #[.int .i64 1, .int .i64 c] 34))) := Lib.hid (hz.alloc _)
  clear hz ha hb
  go_enter Tryd.func40, Tryd.ntmps40
  go_wp2
  go_quiet (first | (go_at_call 44; exact Calls.quiet_of_same (cells_same H1.out (HA.out.drewN _))) | (go_at_call 45; exact Calls.quiet_of_same (words_same H2.out (HA.out.drewN _))))
  go_wp2
  go_ret2
  exact ⟨rfl, below_drewN ((Below.refl _ _).alloc (Nat.le_refl _) _) _⟩
theorem shape_large (c : Int) (a : Int) (w : World) (h0 : 0 ≤ c) (h1 : c ≤ 4) (ha : c * 16 = a) :
    Calls Tryd.prog 40 #[.agg #[.int .i64 2, .int .i64 c]] w fun e w' => e = .returned (.tuple #[.int .i64 1, .int .i64 a]) ∧ Below w.heap.size w w' := by
  subst ha
  have hs : IntKind.i64.wrap (c * 16) = c * 16 := IntWalk.i64_in _ (by omega)
  go_enter Tryd.func40, Tryd.ntmps40
  go_wp2
  go_quiet (fail)
  go_wp2
  go_ret2
  exact ⟨rfl, below_drewN ((Below.refl _ _).alloc (Nat.le_refl _) _) _⟩
theorem shape_none (c k : Int) (w : World) (h1 : k ≠ 1) (h2 : k ≠ 2) :
    Calls Tryd.prog 40 #[.agg #[.int .i64 k, .int .i64 c]] w fun e w' => e = .returned (.tuple #[.int .i64 0, .int .i64 0]) ∧ Below w.heap.size w w' := by
  have e1 : (k == 1) = false := by simpa using h1
  have e2 : (k == 2) = false := by simpa using h2
  clear h1 h2
  go_enter Tryd.func40, Tryd.ntmps40
  go_wp2
  go_ret2
  exact ⟨rfl, (Below.refl _ _).alloc (Nat.le_refl _) _⟩
theorem shape_any (p : Int × Int) (w : World) (hz : Sz w) (h : pmB p = true) :
    Calls Tryd.prog 40 #[.agg #[.int .i64 p.1, .int .i64 p.2]] w fun e w' => e = .returned (.tuple #[.int .i64 (numOf p), .int .i64 (roomOf p)]) ∧ Below w.heap.size w w' := by
  rcases pm_cases h with rfl | rfl | rfl | rfl | rfl | rfl | rfl | rfl | rfl
  · exact shape_none 0 0 w (by decide) (by decide)
  · exact shape_small 0 8 2 w hz (by decide) (by decide)
  · exact shape_small 1 4 4 w hz (by decide) (by decide)
  · exact shape_small 2 2 8 w hz (by decide) (by decide)
  · exact shape_large 1 16 w (by decide) (by decide) (by decide)
  · exact shape_large 2 32 w (by decide) (by decide) (by decide)
  · exact shape_large 3 48 w (by decide) (by decide) (by decide)
  · exact shape_large 4 64 w (by decide) (by decide) (by decide)
  · exact shape_none 0 3 w (by decide) (by decide)

/-- The value that hands on the cells of a page: what it has captured. -/
def Seqd (w : World) (k num : Nat) (room : Int) (e : Ending) (w' : World) : Prop :=
  ∃ b0 b1 b2, e = .returned (.func (.func 41) #[] #[.pointer (some ⟨b0, 0, none⟩), .pointer (some ⟨b1, 0, none⟩), .pointer (some ⟨b2, 0, none⟩)]) ∧
    (w.heap.size ≤ b0 ∧ w.heap.size ≤ b1 ∧ w.heap.size ≤ b2) ∧
    w'.cell? ⟨b0, 0, none⟩ = some (.int .i64 k) ∧ w'.cell? ⟨b1, 0, none⟩ = some (.int .i64 num) ∧ w'.cell? ⟨b2, 0, none⟩ = some (.int .i64 room) ∧ Below w.heap.size w w'

theorem on_any (B : Nat) (A : Option Addr) (n c : Nat) (f : Nat → Int × Int) (k : Nat) (w : World) (hz : Sz w) (hn : n ≤ 1000) (hk : k < n) (hp : pmB (f k) = true) (hr : PRow w B A n f) (hB : B ≤ w.heap.size) :
    Calls Tryd.prog 27 #[.slice A n c, .int .i64 k] w (Seqd w k (numOf (f k)) (roomOf (f k))) := by
  have H := Lib.hid hz
  have HP := Lib.hid hp
  have HA : Hid (Sz (w.alloc (.cells #[.int .i64 k] 3))) := Lib.hid (hz.alloc _)
  obtain ⟨b, off, rfl, hbB, hc⟩ := hr (by omega)
  obtain ⟨c0, c1⟩ := hc k hk
  have hbw : b < w.heap.size := by omega
  clear hz hp hc hr
  go_enter Tryd.func27, Tryd.ntmps27
  go_wp2_with fail
  refine (shape_any _ _ HA.out HP.out).mono ?_
  rintro e w1 ⟨rfl, hb1⟩
  have k0 : w1.cell? ⟨w.heap.size, 0, none⟩ = some (.int .i64 k) := (hb1.cell (p := ⟨w.heap.size, 0, none⟩) (by simp)).trans (by simp [go_sem])
  have hs1 : w.heap.size < w1.heap.size := by have := hb1.size; simp at this; omega
  have HB := Lib.hid (below_pair (Below.refl w.heap.size w) hb1)
  clear hb1
  go_wp2
  go_ret
  refine ⟨w.heap.size, w1.heap.size, w1.heap.size + 1, rfl, ⟨Nat.le_refl _, by omega, by omega⟩, ?_, ?_, ?_, ?_⟩
  · rw [← k0]
    exact (((Below.refl w1.heap.size w1).alloc (Nat.le_refl _) _).alloc (by simp) _).cell (p := ⟨w.heap.size, 0, none⟩) hs1
  · simp [go_sem]
  · simp [go_sem]
  · exact (HB.out.alloc (by omega) _).alloc (by simp; omega) _
end Go.Proofs.YtlmaeppckaempaaDoor
