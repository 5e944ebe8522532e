/-
  What a law of layer 8 holds in memory: a heap in its box, and a slice of caches.
-/
import Derived.Test.YthgcaehhjiccbaaGreatDoorHpZS
import Derived.Test.YthgcaehhjiccbaaGreatDoorHpZL
namespace Go.Proofs.YthgcaehhjiccbaaGreatDoor.Al
open Go.Proofs.YthgcaehhjiccbaaGreatDoor
open Go.RowKit
set_option maxRecDepth 100000

structure Lh (w W : World) (s : Hs) (d : Hd_) (A : Option Addr) (n : Nat) (U : Nat → Nat → Ls.Sl) (F : Nat → Nat → List Int) : Prop where
  bel : Below w.heap.size w W
  hb : HBox W w.heap.size s
  hp : Hp W W.heap.size s d
  lr : Ls.LRow W W.heap.size A n U F
section
variable {w W W' : World} {s : Hs} {d : Hd_} {A : Option Addr} {n : Nat} {U : Nat → Nat → Ls.Sl} {F : Nat → Nat → List Int}
theorem Lh.next (h : Lh w W s d A n U F) (hb : Below W.heap.size W W') : Lh w W' s d A n U F := ⟨h.bel.trans (hb.mono h.bel.size), h.hb.next hb, h.hp.next hb, lrow_more (h.lr.below hb) hb.size⟩
theorem lh_start (hp : Hp w w.heap.size s d) (hl : Ls.LRow w w.heap.size A n U F) (h : W = w.alloc (.cells #[.slice s.w.a s.w.n s.w.c, .slice s.p.a s.p.n s.p.c, .slice (s.u 0).a (s.u 0).n (s.u 0).c, .slice (s.u 1).a (s.u 1).n (s.u 1).c, .slice (s.u 2).a (s.u 2).n (s.u 2).c, .slice s.c.a s.c.n s.c.c] 28)) : Lh w W s d A n U F := by
  have b1 : Below w.heap.size w W := by rw [h]; exact (Below.refl _ _).alloc (Nat.le_refl _) _
  have x1 : HBox W w.heap.size s := by rw [h]; exact HBox.new w s _
  exact ⟨b1, x1, hp.next b1, lrow_more (hl.below b1) b1.size⟩
/-- The heap is small, and so are all caches. -/
theorem lite_fewL {B : Nat} (h : fewL s U n = true) (hn : 0 < n) (hp : Hp w B s d) (hl : Ls.LRow w B A n U F) (hv : Fit64 d.ws) : Lite s d (F 0) 70 ∧ n ≤ 4 ∧ (Ls.allOf (ahead d.F F) (1 + n)).length ≤ 2000000 := by
  obtain ⟨b, off, _, _, hc⟩ := hl hn
  unfold fewL lights at h
  simp only [Bool.and_eq_true, decide_eq_true_eq] at h
  have hall := List.all_eq_true.1 h.1.2
  obtain ⟨h1, h2, h3, h4⟩ := few_parts h.1.1
  unfold lightB at h4
  simp only [decide_eq_true_eq] at h4
  have hG : ∀ i, i < n → ∀ j, j < 3 → (F i j).length ≤ 70 := fun i hi j hj => by
    have g := hall i (List.mem_range.2 hi)
    unfold lightB at g
    simp only [decide_eq_true_eq] at g
    have := (hc i hi).2.len j hj
    rcases (show j = 0 ∨ j = 1 ∨ j = 2 by omega) with rfl | rfl | rfl <;> omega
  have hF : ∀ j, j < 3 → (d.F j).length ≤ 70 := fun j hj => by
    have := hp.free.len j hj
    rcases (show j = 0 ∨ j = 1 ∨ j = 2 by omega) with rfl | rfl | rfl <;> omega
  refine ⟨⟨h1, h2, h3, hF, hG 0 hn, hv⟩, h.2, ?_⟩
  have key : ∀ m, m ≤ 1 + n → (Ls.allOf (ahead d.F F) m).length ≤ 210 * m := fun m => by
    induction m with
    | zero => intro _; simp [Ls.allOf]
    | succ m ih =>
      intro hm
      rw [Ls.allOf_succ, List.length_append, upTo3]
      have := ih (by omega)
      cases m with
      | zero => have a0 := hF 0 (by decide); have a1 := hF 1 (by decide); have a2 := hF 2 (by decide); simp only [ahead]; omega
      | succ i => have a0 := hG i (by omega) 0 (by decide); have a1 := hG i (by omega) 1 (by decide); have a2 := hG i (by omega) 2 (by decide); simp only [ahead]; omega
  have := key (1 + n) (Nat.le_refl _)
  have := h.2
  omega
theorem may_first : ∀ {m : Nat}, 0 < m → mayH s d m F = true → mayH s d 1 (fun _ => F 0) = true := fun {m} => by
  induction m with
  | zero => intro h; omega
  | succ m ih =>
    intro _ h
    cases m with
    | zero =>
      unfold mayH freeAll at h ⊢
      rw [show Ls.allOf (ahead d.F fun _ => F 0) (1 + 1) = Ls.allOf (ahead d.F F) (1 + (0 + 1)) by simp [Ls.allOf, List.range_succ, ahead]]
      simpa [List.range_succ, ahead] using h
    | succ k => exact ih (by omega) (may_less h)
end
/-- What Take tells of an error. -/
def Tk4 (W : World) (er : Int) (e : Ending) (w' : World) : Prop :=
  ∃ (t : Hs) (v : Nat → Ls.Sl) (a : Int), e = .returned (.tuple #[(.agg #[.slice t.w.a t.w.n t.w.c, .slice t.p.a t.p.n t.p.c, .slice (t.u 0).a (t.u 0).n (t.u 0).c, .slice (t.u 1).a (t.u 1).n (t.u 1).c, .slice (t.u 2).a (t.u 2).n (t.u 2).c, .slice t.c.a t.c.n t.c.c]), (.agg #[.slice (v 0).a (v 0).n (v 0).c, .slice (v 1).a (v 1).n (v 1).c, .slice (v 2).a (v 2).n (v 2).c]), .int .i64 a, .int .i64 er]) ∧ Below W.heap.size W w'
theorem bl_alloc {w W : World} (h : Below w.heap.size w W) (v : Obj) : Below w.heap.size w (W.alloc v) := h.alloc h.size v
theorem bl_drew {w W : World} (h : Below w.heap.size w W) : Below w.heap.size w W.drew := below_drawn' h 1
theorem bl_call {w W W' : World} (h : Below w.heap.size w W) (hb : Below W.heap.size W W') : Below w.heap.size w W' := h.trans (hb.mono h.size)
theorem bl_set {w W : World} (h : Below w.heap.size w W) {b o : Nat} (hb : w.heap.size ≤ b) (v : Value) : Below w.heap.size w (W.setCell ⟨b, o, none⟩ v) := h.setCell (p := ⟨b, o, none⟩) hb _
theorem oc8 {a z : World} (h : Below a.heap.size a z) : ∀ i k, i < a.heap.size → z.cell? ⟨i, k, none⟩ = a.cell? ⟨i, k, none⟩ := fun i k hi => h.cell (p := ⟨i, k, none⟩) hi
theorem om8 {a z : World} (h : Below a.heap.size a z) : ∀ i k, i < a.heap.size → z.frozen? ⟨i, k, none⟩ = a.frozen? ⟨i, k, none⟩ := fun i k hi => h.frozen (p := ⟨i, k, none⟩) hi
theorem old6 {w w4 : World} (h : Below (w.alloc (.cells #[.slice none 0 0, .slice none 0 0, .slice none 0 0, .slice none 0 0, .slice none 0 0, .slice none 0 0] 28)).heap.size (w.alloc (.cells #[.slice none 0 0, .slice none 0 0, .slice none 0 0, .slice none 0 0, .slice none 0 0, .slice none 0 0] 28)) w4) : w.heap.size < w4.heap.size ∧ w4.cell? ⟨w.heap.size, 0, none⟩ = some (.slice none 0 0) ∧ w4.cell? ⟨w.heap.size, 1, none⟩ = some (.slice none 0 0) ∧ w4.cell? ⟨w.heap.size, 2, none⟩ = some (.slice none 0 0) ∧ w4.cell? ⟨w.heap.size, 3, none⟩ = some (.slice none 0 0) ∧ w4.cell? ⟨w.heap.size, 4, none⟩ = some (.slice none 0 0) ∧ w4.cell? ⟨w.heap.size, 5, none⟩ = some (.slice none 0 0) ∧ w4.frozen? ⟨w.heap.size, 0, none⟩ = false ∧ w4.frozen? ⟨w.heap.size, 1, none⟩ = false ∧ w4.frozen? ⟨w.heap.size, 2, none⟩ = false ∧ w4.frozen? ⟨w.heap.size, 3, none⟩ = false ∧ w4.frozen? ⟨w.heap.size, 4, none⟩ = false ∧ w4.frozen? ⟨w.heap.size, 5, none⟩ = false := by
  have hc := oc8 h
  have hf := om8 h
  have hs := h.size
  simp at hs
  refine ⟨by omega, (hc _ _ (by simp)).trans (by simp), (hc _ _ (by simp)).trans (by simp), (hc _ _ (by simp)).trans (by simp), (hc _ _ (by simp)).trans (by simp), (hc _ _ (by simp)).trans (by simp), (hc _ _ (by simp)).trans (by simp), (hf _ _ (by simp)).trans (by simp), (hf _ _ (by simp)).trans (by simp), (hf _ _ (by simp)).trans (by simp), (hf _ _ (by simp)).trans (by simp), (hf _ _ (by simp)).trans (by simp), (hf _ _ (by simp)).trans (by simp)⟩
theorem old6d {w w4 : World} (h : Below (w.alloc (.cells #[.slice none 0 0, .slice none 0 0, .slice none 0 0, .slice none 0 0, .slice none 0 0, .slice none 0 0] 28)).drew.heap.size (w.alloc (.cells #[.slice none 0 0, .slice none 0 0, .slice none 0 0, .slice none 0 0, .slice none 0 0, .slice none 0 0] 28)).drew w4) : w.heap.size < w4.heap.size ∧ w4.cell? ⟨w.heap.size, 0, none⟩ = some (.slice none 0 0) ∧ w4.cell? ⟨w.heap.size, 1, none⟩ = some (.slice none 0 0) ∧ w4.cell? ⟨w.heap.size, 2, none⟩ = some (.slice none 0 0) ∧ w4.cell? ⟨w.heap.size, 3, none⟩ = some (.slice none 0 0) ∧ w4.cell? ⟨w.heap.size, 4, none⟩ = some (.slice none 0 0) ∧ w4.cell? ⟨w.heap.size, 5, none⟩ = some (.slice none 0 0) ∧ w4.frozen? ⟨w.heap.size, 0, none⟩ = false ∧ w4.frozen? ⟨w.heap.size, 1, none⟩ = false ∧ w4.frozen? ⟨w.heap.size, 2, none⟩ = false ∧ w4.frozen? ⟨w.heap.size, 3, none⟩ = false ∧ w4.frozen? ⟨w.heap.size, 4, none⟩ = false ∧ w4.frozen? ⟨w.heap.size, 5, none⟩ = false := old6 (bl_call (bl_drew (Below.refl _ _)) h)
theorem old3 {w w4 : World} (h : Below (w.alloc (.cells #[.slice none 0 0, .slice none 0 0, .slice none 0 0] 25)).heap.size (w.alloc (.cells #[.slice none 0 0, .slice none 0 0, .slice none 0 0] 25)) w4) : w.heap.size < w4.heap.size ∧ w4.cell? ⟨w.heap.size, 0, none⟩ = some (.slice none 0 0) ∧ w4.cell? ⟨w.heap.size, 1, none⟩ = some (.slice none 0 0) ∧ w4.cell? ⟨w.heap.size, 2, none⟩ = some (.slice none 0 0) ∧ w4.frozen? ⟨w.heap.size, 0, none⟩ = false ∧ w4.frozen? ⟨w.heap.size, 1, none⟩ = false ∧ w4.frozen? ⟨w.heap.size, 2, none⟩ = false := by
  have hc := oc8 h
  have hf := om8 h
  have hs := h.size
  simp at hs
  refine ⟨by omega, (hc _ _ (by simp)).trans (by simp), (hc _ _ (by simp)).trans (by simp), (hc _ _ (by simp)).trans (by simp), (hf _ _ (by simp)).trans (by simp), (hf _ _ (by simp)).trans (by simp), (hf _ _ (by simp)).trans (by simp)⟩
theorem old3d {w w4 : World} (h : Below (w.alloc (.cells #[.slice none 0 0, .slice none 0 0, .slice none 0 0] 25)).drew.heap.size (w.alloc (.cells #[.slice none 0 0, .slice none 0 0, .slice none 0 0] 25)).drew w4) : w.heap.size < w4.heap.size ∧ w4.cell? ⟨w.heap.size, 0, none⟩ = some (.slice none 0 0) ∧ w4.cell? ⟨w.heap.size, 1, none⟩ = some (.slice none 0 0) ∧ w4.cell? ⟨w.heap.size, 2, none⟩ = some (.slice none 0 0) ∧ w4.frozen? ⟨w.heap.size, 0, none⟩ = false ∧ w4.frozen? ⟨w.heap.size, 1, none⟩ = false ∧ w4.frozen? ⟨w.heap.size, 2, none⟩ = false := old3 (bl_call (bl_drew (Below.refl _ _)) h)
theorem old63d {w w4 : World} (h : Below (((w.alloc (.cells #[.slice none 0 0, .slice none 0 0, .slice none 0 0, .slice none 0 0, .slice none 0 0, .slice none 0 0] 28)).alloc (.cells #[.slice none 0 0, .slice none 0 0, .slice none 0 0] 25)).drew).heap.size (((w.alloc (.cells #[.slice none 0 0, .slice none 0 0, .slice none 0 0, .slice none 0 0, .slice none 0 0, .slice none 0 0] 28)).alloc (.cells #[.slice none 0 0, .slice none 0 0, .slice none 0 0] 25)).drew) w4) : (w.heap.size + 1 < w4.heap.size ∧ w4.cell? ⟨w.heap.size + 1, 0, none⟩ = some (.slice none 0 0) ∧ w4.cell? ⟨w.heap.size + 1, 1, none⟩ = some (.slice none 0 0) ∧ w4.cell? ⟨w.heap.size + 1, 2, none⟩ = some (.slice none 0 0) ∧ w4.frozen? ⟨w.heap.size + 1, 0, none⟩ = false ∧ w4.frozen? ⟨w.heap.size + 1, 1, none⟩ = false ∧ w4.frozen? ⟨w.heap.size + 1, 2, none⟩ = false) ∧ w.heap.size < w4.heap.size ∧ w4.cell? ⟨w.heap.size, 0, none⟩ = some (.slice none 0 0) ∧ w4.cell? ⟨w.heap.size, 1, none⟩ = some (.slice none 0 0) ∧ w4.cell? ⟨w.heap.size, 2, none⟩ = some (.slice none 0 0) ∧ w4.cell? ⟨w.heap.size, 3, none⟩ = some (.slice none 0 0) ∧ w4.cell? ⟨w.heap.size, 4, none⟩ = some (.slice none 0 0) ∧ w4.cell? ⟨w.heap.size, 5, none⟩ = some (.slice none 0 0) ∧ w4.frozen? ⟨w.heap.size, 0, none⟩ = false ∧ w4.frozen? ⟨w.heap.size, 1, none⟩ = false ∧ w4.frozen? ⟨w.heap.size, 2, none⟩ = false ∧ w4.frozen? ⟨w.heap.size, 3, none⟩ = false ∧ w4.frozen? ⟨w.heap.size, 4, none⟩ = false ∧ w4.frozen? ⟨w.heap.size, 5, none⟩ = false := by
  have h1 := bl_call (bl_drew (Below.refl _ _)) h
  have h2 := old3 h1
  rw [show (w.alloc (.cells #[.slice none 0 0, .slice none 0 0, .slice none 0 0, .slice none 0 0, .slice none 0 0, .slice none 0 0] 28)).heap.size = w.heap.size + 1 by simp] at h2
  exact ⟨h2, old6 (bl_call (bl_alloc (Below.refl _ _) _) h1)⟩
theorem old36d {w w4 : World} (h : Below (((w.alloc (.cells #[.slice none 0 0, .slice none 0 0, .slice none 0 0] 25)).alloc (.cells #[.slice none 0 0, .slice none 0 0, .slice none 0 0, .slice none 0 0, .slice none 0 0, .slice none 0 0] 28)).drew).heap.size (((w.alloc (.cells #[.slice none 0 0, .slice none 0 0, .slice none 0 0] 25)).alloc (.cells #[.slice none 0 0, .slice none 0 0, .slice none 0 0, .slice none 0 0, .slice none 0 0, .slice none 0 0] 28)).drew) w4) : (w.heap.size + 1 < w4.heap.size ∧ w4.cell? ⟨w.heap.size + 1, 0, none⟩ = some (.slice none 0 0) ∧ w4.cell? ⟨w.heap.size + 1, 1, none⟩ = some (.slice none 0 0) ∧ w4.cell? ⟨w.heap.size + 1, 2, none⟩ = some (.slice none 0 0) ∧ w4.cell? ⟨w.heap.size + 1, 3, none⟩ = some (.slice none 0 0) ∧ w4.cell? ⟨w.heap.size + 1, 4, none⟩ = some (.slice none 0 0) ∧ w4.cell? ⟨w.heap.size + 1, 5, none⟩ = some (.slice none 0 0) ∧ w4.frozen? ⟨w.heap.size + 1, 0, none⟩ = false ∧ w4.frozen? ⟨w.heap.size + 1, 1, none⟩ = false ∧ w4.frozen? ⟨w.heap.size + 1, 2, none⟩ = false ∧ w4.frozen? ⟨w.heap.size + 1, 3, none⟩ = false ∧ w4.frozen? ⟨w.heap.size + 1, 4, none⟩ = false ∧ w4.frozen? ⟨w.heap.size + 1, 5, none⟩ = false) ∧ w.heap.size < w4.heap.size ∧ w4.cell? ⟨w.heap.size, 0, none⟩ = some (.slice none 0 0) ∧ w4.cell? ⟨w.heap.size, 1, none⟩ = some (.slice none 0 0) ∧ w4.cell? ⟨w.heap.size, 2, none⟩ = some (.slice none 0 0) ∧ w4.frozen? ⟨w.heap.size, 0, none⟩ = false ∧ w4.frozen? ⟨w.heap.size, 1, none⟩ = false ∧ w4.frozen? ⟨w.heap.size, 2, none⟩ = false := by
  have h1 := bl_call (bl_drew (Below.refl _ _)) h
  have h2 := old6 h1
  rw [show (w.alloc (.cells #[.slice none 0 0, .slice none 0 0, .slice none 0 0] 25)).heap.size = w.heap.size + 1 by simp] at h2
  exact ⟨h2, old3 (bl_call (bl_alloc (Below.refl _ _) _) h1)⟩
theorem full_keep {w w3 W : World} {s : Hs} {d : Hd_} {n b off : Nat} {U : Nat → Nat → Ls.Sl} {F : Nat → Nat → List Int} (u : Nat → Ls.Sl) (L : Lh w w3 s d (some ⟨b, off, none⟩) n U F) (hn : 0 < n) (hu : U 0 = u) (hb : Below w3.heap.size w3 W) :
    (Below w3.heap.size w3 W ∧ True) ∧ w.heap.size < W.heap.size ∧ W.cell? ⟨w.heap.size, 0, none⟩ = some (.slice s.w.a s.w.n s.w.c) ∧ W.cell? ⟨w.heap.size, 1, none⟩ = some (.slice s.p.a s.p.n s.p.c) ∧ W.cell? ⟨w.heap.size, 2, none⟩ = some (.slice (s.u 0).a (s.u 0).n (s.u 0).c) ∧ W.cell? ⟨w.heap.size, 3, none⟩ = some (.slice (s.u 1).a (s.u 1).n (s.u 1).c) ∧ W.cell? ⟨w.heap.size, 4, none⟩ = some (.slice (s.u 2).a (s.u 2).n (s.u 2).c) ∧ W.cell? ⟨w.heap.size, 5, none⟩ = some (.slice s.c.a s.c.n s.c.c) ∧ b < W.heap.size ∧ W.cell? ⟨b, off, none⟩ = some (.slice (u 0).a (u 0).n (u 0).c) ∧ W.cell? ⟨b, off + 1, none⟩ = some (.slice (u 1).a (u 1).n (u 1).c) ∧ W.cell? ⟨b, off + 2, none⟩ = some (.slice (u 2).a (u 2).n (u 2).c) := by
  have M := L.next hb
  obtain ⟨b', off', e, hbl, hc⟩ := M.lr hn
  cases e
  have c0 := (hc 0 hn).1 0 (by decide)
  have c1 := (hc 0 hn).1 1 (by decide)
  have c2 := (hc 0 hn).1 2 (by decide)
  rw [hu] at c0 c1 c2
  simp only [Nat.zero_mul, Nat.add_zero] at c0 c1 c2
  exact ⟨⟨hb, trivial⟩, M.hb.lt, M.hb.c0, M.hb.c1, M.hb.c2, M.hb.c3, M.hb.c4, M.hb.c5, hbl, c0, c1, c2⟩
end Go.Proofs.YthgcaehhjiccbaaGreatDoor.Al
