/-
  Merged texts: FrHeap, FrAny, ShRow, ShCol, HaRow, MuRow, MuW, MuOff, HaLb, RtArm.
-/
import Derived.Test.YtgmkomnoiffapaaGreatDoorHpBF
import Derived.Test.YtgmkomnoiffapaaGreatDoorHpBE
import Derived.Deep.RegionHeld3
import Derived.Deep.Upon
import Derived.Test.YtgmkomnoiffapaaGreatDoorBRtFresh
import Derived.Test.YtgmkomnoiffapaaGreatDoorHpBA
import Derived.Deep.MidRow
section
namespace Go.Proofs.YtgmkomnoiffapaaGreatDoor
open Go.RowKit
set_option maxRecDepth 100000

/-- A slice is not in that block. -/
def Out (g : Nat) (v : Ls.Sl) : Prop := 0 < v.n → ∀ x, v.a = some x → ¬ x.block = g
/-- A copy was returned; its cards are in a block of their own. -/
def FreshOut (w : World) (s : Hs) (d : Hd_) (e : Ending) (w' : World) : Prop :=
  ∃ t : Hs, e = .returned (.agg #[.slice t.w.a t.w.n t.w.c, .slice t.p.a t.p.n t.p.c, .slice (t.u 0).a (t.u 0).n (t.u 0).c, .slice (t.u 1).a (t.u 1).n (t.u 1).c, .slice (t.u 2).a (t.u 2).n (t.u 2).c, .slice t.c.a t.c.n t.c.c]) ∧ Hp w' w'.heap.size t d ∧ Lens s t ∧ News w.heap.size t ∧ t.p.n ≤ t.p.c ∧ Below w.heap.size w w' ∧
    ∃ g c, t.c = ⟨some ⟨g, 0, none⟩, s.c.n, c⟩ ∧ (∀ i, w'.frozen? ⟨g, i, none⟩ = false) ∧ w.heap.size + 2 ≤ g ∧ g < w'.heap.size ∧ Out g t.w ∧ Out g t.p ∧ ∀ j, j < 3 → Out g (t.u j)
/-- The boxes of the argument and of the result. -/
structure Fr (w W : World) (s : Hs) : Prop where
  bel : Below w.heap.size w W
  box : HBox W w.heap.size s
  res : ∀ j, j < 6 → ∃ v, W.cell? ⟨w.heap.size + 1, j, none⟩ = some v
  free : ∀ j, W.frozen? ⟨w.heap.size + 1, j, none⟩ = false
  lt : w.heap.size + 1 < W.heap.size
section
variable {w W W' : World} {s : Hs} {d : Hd_}
theorem Fr.next (h : Fr w W s) (hb : Below W.heap.size W W') : Fr w W' s :=
  ⟨h.bel.trans (hb.mono h.bel.size), h.box.next hb, fun j hj => by obtain ⟨v, e⟩ := h.res j hj; exact ⟨v, (hb.cell (p := ⟨w.heap.size + 1, j, none⟩) h.lt).trans e⟩, fun j => (hb.frozen (p := ⟨w.heap.size + 1, j, none⟩) h.lt).trans (h.free j), Nat.lt_of_lt_of_le h.lt hb.size⟩
theorem fr_start {t1 t2 : TypeId} (hW : W = (w.alloc (.cells #[.slice s.w.a s.w.n s.w.c, .slice s.p.a s.p.n s.p.c, .slice (s.u 0).a (s.u 0).n (s.u 0).c, .slice (s.u 1).a (s.u 1).n (s.u 1).c, .slice (s.u 2).a (s.u 2).n (s.u 2).c, .slice s.c.a s.c.n s.c.c] t1)).alloc (.cells #[.slice none 0 0, .slice none 0 0, .slice none 0 0, .slice none 0 0, .slice none 0 0, .slice none 0 0] t2)) : Fr w W s := by
  have b1 := HBox.new w s t1
  have b2 : Below (w.alloc (.cells #[.slice s.w.a s.w.n s.w.c, .slice s.p.a s.p.n s.p.c, .slice (s.u 0).a (s.u 0).n (s.u 0).c, .slice (s.u 1).a (s.u 1).n (s.u 1).c, .slice (s.u 2).a (s.u 2).n (s.u 2).c, .slice s.c.a s.c.n s.c.c] t1)).heap.size (w.alloc (.cells #[.slice s.w.a s.w.n s.w.c, .slice s.p.a s.p.n s.p.c, .slice (s.u 0).a (s.u 0).n (s.u 0).c, .slice (s.u 1).a (s.u 1).n (s.u 1).c, .slice (s.u 2).a (s.u 2).n (s.u 2).c, .slice s.c.a s.c.n s.c.c] t1)) W := by rw [hW]; exact (Below.refl _ _).alloc (Nat.le_refl _) _
  refine ⟨by rw [hW]; exact ((Below.refl _ _).alloc (Nat.le_refl _) _).alloc (by simp) _, b1.next b2, fun j hj => ?_, fun j => by rw [hW]; simp [go_sem], by rw [hW]; simp⟩
  match j, hj with
  | 0, _ => exact ⟨_, by rw [hW]; simp [go_sem]; rfl⟩
  | 1, _ => exact ⟨_, by rw [hW]; simp [go_sem]; rfl⟩
  | 2, _ => exact ⟨_, by rw [hW]; simp [go_sem]; rfl⟩
  | 3, _ => exact ⟨_, by rw [hW]; simp [go_sem]; rfl⟩
  | 4, _ => exact ⟨_, by rw [hW]; simp [go_sem]; rfl⟩
  | 5, _ => exact ⟨_, by rw [hW]; simp [go_sem]; rfl⟩
theorem fr_keep (h : Fr w W s ∧ True) (hb : Below W.heap.size W W') : (Fr w W' s ∧ True) ∧ w.heap.size < W'.heap.size ∧ W'.cell? ⟨w.heap.size, 0, none⟩ = some (.slice s.w.a s.w.n s.w.c) ∧ W'.cell? ⟨w.heap.size, 1, none⟩ = some (.slice s.p.a s.p.n s.p.c) ∧ W'.cell? ⟨w.heap.size, 2, none⟩ = some (.slice (s.u 0).a (s.u 0).n (s.u 0).c) ∧ W'.cell? ⟨w.heap.size, 3, none⟩ = some (.slice (s.u 1).a (s.u 1).n (s.u 1).c) ∧ W'.cell? ⟨w.heap.size, 4, none⟩ = some (.slice (s.u 2).a (s.u 2).n (s.u 2).c) ∧ W'.cell? ⟨w.heap.size, 5, none⟩ = some (.slice s.c.a s.c.n s.c.c) := by
  have g := h.1.next hb
  exact ⟨⟨g, trivial⟩, g.box.lt, g.box.c0, g.box.c1, g.box.c2, g.box.c3, g.box.c4, g.box.c5⟩
theorem Fr.put (h : Fr w W s) (v0 v1 v2 v3 v4 v5 : Value) : Fr w (put6 W (w.heap.size + 1) v0 v1 v2 v3 v4 v5) s := by
  have hz := put6_size W (w.heap.size + 1) v0 v1 v2 v3 v4 v5
  obtain ⟨x0, h0⟩ := h.res 0 (by decide)
  obtain ⟨x1, h1⟩ := h.res 1 (by decide)
  obtain ⟨x2, h2⟩ := h.res 2 (by decide)
  obtain ⟨x3, h3⟩ := h.res 3 (by decide)
  obtain ⟨x4, h4⟩ := h.res 4 (by decide)
  obtain ⟨x5, h5⟩ := h.res 5 (by decide)
  refine ⟨below_put6 h.bel (by omega) _ _ _ _ _ _, h.box.same (put6_other _ _ _ _ _ _ _ _ (by omega)) (by rw [hz]; exact Nat.le_refl _), fun j hj => ?_, fun j => ?_, by rw [hz]; exact h.lt⟩
  · match j, hj with
    | 0, _ => exact ⟨v0, by simp [put6, go_sem, h0]⟩
    | 1, _ => exact ⟨v1, by simp [put6, go_sem, h1]⟩
    | 2, _ => exact ⟨v2, by simp [put6, go_sem, h2]⟩
    | 3, _ => exact ⟨v3, by simp [put6, go_sem, h3]⟩
    | 4, _ => exact ⟨v4, by simp [put6, go_sem, h4]⟩
    | 5, _ => exact ⟨v5, by simp [put6, go_sem, h5]⟩
  · unfold put6
    simp only [World.frozen?_setCell]
    exact h.free j
theorem fr_put (h : Fr w W s ∧ True) (v0 v1 v2 v3 v4 v5 : Value) : (Fr w ((((((W.setCell ⟨w.heap.size + 1, 0, none⟩ v0).setCell ⟨w.heap.size + 1, 1, none⟩ v1).setCell ⟨w.heap.size + 1, 2, none⟩ v2).setCell ⟨w.heap.size + 1, 3, none⟩ v3).setCell ⟨w.heap.size + 1, 4, none⟩ v4).setCell ⟨w.heap.size + 1, 5, none⟩ v5) s ∧ True) ∧ w.heap.size < ((((((W.setCell ⟨w.heap.size + 1, 0, none⟩ v0).setCell ⟨w.heap.size + 1, 1, none⟩ v1).setCell ⟨w.heap.size + 1, 2, none⟩ v2).setCell ⟨w.heap.size + 1, 3, none⟩ v3).setCell ⟨w.heap.size + 1, 4, none⟩ v4).setCell ⟨w.heap.size + 1, 5, none⟩ v5).heap.size ∧ ((((((W.setCell ⟨w.heap.size + 1, 0, none⟩ v0).setCell ⟨w.heap.size + 1, 1, none⟩ v1).setCell ⟨w.heap.size + 1, 2, none⟩ v2).setCell ⟨w.heap.size + 1, 3, none⟩ v3).setCell ⟨w.heap.size + 1, 4, none⟩ v4).setCell ⟨w.heap.size + 1, 5, none⟩ v5).cell? ⟨w.heap.size, 0, none⟩ = some (.slice s.w.a s.w.n s.w.c) ∧ ((((((W.setCell ⟨w.heap.size + 1, 0, none⟩ v0).setCell ⟨w.heap.size + 1, 1, none⟩ v1).setCell ⟨w.heap.size + 1, 2, none⟩ v2).setCell ⟨w.heap.size + 1, 3, none⟩ v3).setCell ⟨w.heap.size + 1, 4, none⟩ v4).setCell ⟨w.heap.size + 1, 5, none⟩ v5).cell? ⟨w.heap.size, 1, none⟩ = some (.slice s.p.a s.p.n s.p.c) ∧ ((((((W.setCell ⟨w.heap.size + 1, 0, none⟩ v0).setCell ⟨w.heap.size + 1, 1, none⟩ v1).setCell ⟨w.heap.size + 1, 2, none⟩ v2).setCell ⟨w.heap.size + 1, 3, none⟩ v3).setCell ⟨w.heap.size + 1, 4, none⟩ v4).setCell ⟨w.heap.size + 1, 5, none⟩ v5).cell? ⟨w.heap.size, 2, none⟩ = some (.slice (s.u 0).a (s.u 0).n (s.u 0).c) ∧ ((((((W.setCell ⟨w.heap.size + 1, 0, none⟩ v0).setCell ⟨w.heap.size + 1, 1, none⟩ v1).setCell ⟨w.heap.size + 1, 2, none⟩ v2).setCell ⟨w.heap.size + 1, 3, none⟩ v3).setCell ⟨w.heap.size + 1, 4, none⟩ v4).setCell ⟨w.heap.size + 1, 5, none⟩ v5).cell? ⟨w.heap.size, 3, none⟩ = some (.slice (s.u 1).a (s.u 1).n (s.u 1).c) ∧ ((((((W.setCell ⟨w.heap.size + 1, 0, none⟩ v0).setCell ⟨w.heap.size + 1, 1, none⟩ v1).setCell ⟨w.heap.size + 1, 2, none⟩ v2).setCell ⟨w.heap.size + 1, 3, none⟩ v3).setCell ⟨w.heap.size + 1, 4, none⟩ v4).setCell ⟨w.heap.size + 1, 5, none⟩ v5).cell? ⟨w.heap.size, 4, none⟩ = some (.slice (s.u 2).a (s.u 2).n (s.u 2).c) ∧ ((((((W.setCell ⟨w.heap.size + 1, 0, none⟩ v0).setCell ⟨w.heap.size + 1, 1, none⟩ v1).setCell ⟨w.heap.size + 1, 2, none⟩ v2).setCell ⟨w.heap.size + 1, 3, none⟩ v3).setCell ⟨w.heap.size + 1, 4, none⟩ v4).setCell ⟨w.heap.size + 1, 5, none⟩ v5).cell? ⟨w.heap.size, 5, none⟩ = some (.slice s.c.a s.c.n s.c.c) := by
  have g := h.1.put v0 v1 v2 v3 v4 v5
  exact ⟨⟨g, trivial⟩, g.box.lt, g.box.c0, g.box.c1, g.box.c2, g.box.c3, g.box.c4, g.box.c5⟩
/-- What has been copied so far, slice by slice. -/
def RowN (w W : World) (v : Ls.Sl) (xs : List Int) : Prop := Row W W.heap.size v.a v.n xs ∧ v.n ≤ v.c ∧ v.c ≤ maxLen ∧ New (w.heap.size + 2) v
theorem RowN.next {v : Ls.Sl} {xs : List Int} (h : RowN w W v xs) (hb : Below W.heap.size W W') : RowN w W' v xs := ⟨(h.1.below hb).more hb.size, h.2⟩
theorem rown_of {v : Ls.Sl} {xs : List Int} (h : Fr w W s) (ho : W'.ownsRow W.heap.size 3 1 (.slice v.a v.n v.c) v.n (xs.map (Value.int .i64))) : RowN w W' v xs := by
  have hl := h.lt
  obtain ⟨h1, h2, h3, _, _⟩ := own_off ho (b := w.heap.size) (by omega)
  refine ⟨h1, h2, h3, fun _ x hx => ?_⟩
  have := (ho.lt x.block (by rw [Ls.ownBlock_slice, hx]; rfl)).1
  omega
def PgN (w W : World) (g n c : Nat) (f : Nat → Int × Int) : Prop := Cl.PRow W W.heap.size (some ⟨g, 0, none⟩) n f ∧ w.heap.size + 2 ≤ g ∧ n ≤ c
theorem PgN.next {g n c : Nat} {f : Nat → Int × Int} (h : PgN w W g n c f) (hb : Below W.heap.size W W') : PgN w W' g n c f := ⟨prow_more (h.1.below hb) hb.size, h.2⟩
theorem pgn_of {g n c : Nat} {f : Nat → Int × Int} {ty : TypeId} (h : Fr w W s) (hm : Cl.PMine W' W.heap.size ty g n c f) : PgN w W' g n c f := by
  have hl := h.lt
  exact ⟨hm.row, by have := hm.2.1; omega, hm.2.2.2.1⟩
def LsN (w W : World) (v : Nat → Ls.Sl) (F : Nat → List Int) : Prop := Ls.L3 W W.heap.size v F ∧ ∀ j, j < 3 → New (w.heap.size + 2) (v j)
theorem LsN.next {v : Nat → Ls.Sl} {F : Nat → List Int} (h : LsN w W v F) (hb : Below W.heap.size W W') : LsN w W' v F := ⟨h.1.next hb, h.2⟩
theorem lsn_of {v : Nat → Ls.Sl} {F : Nat → List Int} (h : Fr w W s) (ho : Ls.Own3 W' W.heap.size v F) : LsN w W' v F := by
  have hl := h.lt
  exact ⟨ho.l3, fun j hj _ x hx => by have := (ho.block j hj hx).1; omega⟩
theorem row_out {n g : Nat} {v : Ls.Sl} {xs : List Int} (h : Row W n v.a v.n xs) (hg : n ≤ g) : Out g v := fun h0 x hx => by
  obtain ⟨b', off, e, hlt, _⟩ := h.2 h0
  rw [hx] at e
  cases e
  show ¬ b' = g
  omega
theorem fresh_end {V : World} {v : Ls.Sl} {vu : Nat → Ls.Sl} {g6 c6 g8 c8 : Nat} (v0 v1 v2 v3 v4 v5 : Value) (hl : Hid (Lens s s ∧ s.w.n = d.ws.length ∧ ∀ j, j < 3 → (s.u j).n = (d.F j).length)) (hF : Fr w W s) (hV : Fr w V s) (hr' : RowN w V v d.ws) (hp' : PgN w V g6 s.p.n c6 d.f) (hu' : LsN w V vu d.F) (hb : Below V.heap.size V W) (hc : ∀ i, i < s.c.n → W.cell? ⟨g8, i, none⟩ = some (.bool (d.cs i))) (hz : ∀ i, W.frozen? ⟨g8, i, none⟩ = false) (hg8 : V.heap.size ≤ g8 ∧ g8 < W.heap.size) :
    FreshOut w s d (.returned (.agg #[.slice (⟨v, ⟨some ⟨g6, 0, none⟩, s.p.n, c6⟩, vu, ⟨some ⟨g8, 0, none⟩, s.c.n, c8⟩⟩ : Hs).w.a (⟨v, ⟨some ⟨g6, 0, none⟩, s.p.n, c6⟩, vu, ⟨some ⟨g8, 0, none⟩, s.c.n, c8⟩⟩ : Hs).w.n (⟨v, ⟨some ⟨g6, 0, none⟩, s.p.n, c6⟩, vu, ⟨some ⟨g8, 0, none⟩, s.c.n, c8⟩⟩ : Hs).w.c, .slice (⟨v, ⟨some ⟨g6, 0, none⟩, s.p.n, c6⟩, vu, ⟨some ⟨g8, 0, none⟩, s.c.n, c8⟩⟩ : Hs).p.a (⟨v, ⟨some ⟨g6, 0, none⟩, s.p.n, c6⟩, vu, ⟨some ⟨g8, 0, none⟩, s.c.n, c8⟩⟩ : Hs).p.n (⟨v, ⟨some ⟨g6, 0, none⟩, s.p.n, c6⟩, vu, ⟨some ⟨g8, 0, none⟩, s.c.n, c8⟩⟩ : Hs).p.c, .slice ((⟨v, ⟨some ⟨g6, 0, none⟩, s.p.n, c6⟩, vu, ⟨some ⟨g8, 0, none⟩, s.c.n, c8⟩⟩ : Hs).u 0).a ((⟨v, ⟨some ⟨g6, 0, none⟩, s.p.n, c6⟩, vu, ⟨some ⟨g8, 0, none⟩, s.c.n, c8⟩⟩ : Hs).u 0).n ((⟨v, ⟨some ⟨g6, 0, none⟩, s.p.n, c6⟩, vu, ⟨some ⟨g8, 0, none⟩, s.c.n, c8⟩⟩ : Hs).u 0).c, .slice ((⟨v, ⟨some ⟨g6, 0, none⟩, s.p.n, c6⟩, vu, ⟨some ⟨g8, 0, none⟩, s.c.n, c8⟩⟩ : Hs).u 1).a ((⟨v, ⟨some ⟨g6, 0, none⟩, s.p.n, c6⟩, vu, ⟨some ⟨g8, 0, none⟩, s.c.n, c8⟩⟩ : Hs).u 1).n ((⟨v, ⟨some ⟨g6, 0, none⟩, s.p.n, c6⟩, vu, ⟨some ⟨g8, 0, none⟩, s.c.n, c8⟩⟩ : Hs).u 1).c, .slice ((⟨v, ⟨some ⟨g6, 0, none⟩, s.p.n, c6⟩, vu, ⟨some ⟨g8, 0, none⟩, s.c.n, c8⟩⟩ : Hs).u 2).a ((⟨v, ⟨some ⟨g6, 0, none⟩, s.p.n, c6⟩, vu, ⟨some ⟨g8, 0, none⟩, s.c.n, c8⟩⟩ : Hs).u 2).n ((⟨v, ⟨some ⟨g6, 0, none⟩, s.p.n, c6⟩, vu, ⟨some ⟨g8, 0, none⟩, s.c.n, c8⟩⟩ : Hs).u 2).c, .slice (⟨v, ⟨some ⟨g6, 0, none⟩, s.p.n, c6⟩, vu, ⟨some ⟨g8, 0, none⟩, s.c.n, c8⟩⟩ : Hs).c.a (⟨v, ⟨some ⟨g6, 0, none⟩, s.p.n, c6⟩, vu, ⟨some ⟨g8, 0, none⟩, s.c.n, c8⟩⟩ : Hs).c.n (⟨v, ⟨some ⟨g6, 0, none⟩, s.p.n, c6⟩, vu, ⟨some ⟨g8, 0, none⟩, s.c.n, c8⟩⟩ : Hs).c.c])) (put6 W (w.heap.size + 1) v0 v1 v2 v3 v4 v5) := by
  have hr := hr'.next hb
  have hp := hp'.next hb
  have hu := hu'.next hb
  have hg2 : w.heap.size + 2 ≤ g8 := by have := hV.lt; omega
  have hn : News (w.heap.size + 2) ⟨v, ⟨some ⟨g6, 0, none⟩, s.p.n, c6⟩, vu, ⟨some ⟨g8, 0, none⟩, s.c.n, c8⟩⟩ := ⟨hr.2.2.2, fun _ x hx => by cases hx; exact hp.2.1, hu.2, fun _ x hx => by cases hx; exact hg2⟩
  have hW : Hp W W.heap.size ⟨v, ⟨some ⟨g6, 0, none⟩, s.p.n, c6⟩, vu, ⟨some ⟨g8, 0, none⟩, s.c.n, c8⟩⟩ d := ⟨hr.1, hp.1, hu.1, fun _ => ⟨g8, 0, rfl, hg8.2, fun i hi => by rw [Nat.zero_add]; exact hc i hi⟩⟩
  refine ⟨⟨v, ⟨some ⟨g6, 0, none⟩, s.p.n, c6⟩, vu, ⟨some ⟨g8, 0, none⟩, s.c.n, c8⟩⟩, rfl, hn.kept hW (fun k h1 _ => put6_other _ _ _ _ _ _ _ _ (by omega)) (by rw [put6_size]; exact Nat.le_refl _), ⟨?_, rfl, fun j hj => ?_, rfl⟩, ?_, hp.2.2, below_put6 hF.bel (by omega) _ _ _ _ _ _, g8, c8, rfl, fun i => (World.frozen?_of_block (a := ⟨g8, i, none⟩) (put6_other _ _ _ _ _ _ _ _ (show ¬ g8 = w.heap.size + 1 by omega))).trans (hz i), hg2, by rw [put6_size]; exact hg8.2, row_out hr'.1 hg8.1, ?_, fun j hj => row_out (hu'.1 j hj).1 hg8.1⟩
  · have h1 := hr.1.1
    have h2 := hl.out.2.1
    show v.n = _
    omega
  · have h1 := hu.1.len j hj
    have h2 := hl.out.2.2 j hj
    show (vu j).n = _
    omega
  · exact ⟨fun h0 x hx => by have := hn.w h0 x hx; omega, fun h0 x hx => by have := hn.p h0 x hx; omega, fun j hj h0 x hx => by have := hn.u j hj h0 x hx; omega, fun h0 x hx => by have := hn.c h0 x hx; omega⟩
  · intro h0 x hx
    obtain ⟨b', off, e, hlt, _⟩ := hp'.1 h0
    dsimp only at hx
    rw [hx] at e
    cases e
    show ¬ b' = g8
    omega
end
theorem res_fresh {W : World} {b : Nat} {tm : Array Value} {v0 v1 v2 v3 v4 v5 : Value} (ht : tm[2]? = some (.pointer (some ⟨b, 0, none⟩))) (k0 : W.cell? ⟨b, 0, none⟩ = some v0) (k1 : W.cell? ⟨b, 1, none⟩ = some v1) (k2 : W.cell? ⟨b, 2, none⟩ = some v2) (k3 : W.cell? ⟨b, 3, none⟩ = some v3) (k4 : W.cell? ⟨b, 4, none⟩ = some v4) (k5 : W.cell? ⟨b, 5, none⟩ = some v5) :
    (results Tryz.f52 tm).run Tryz.prog W = .ok (.agg #[v0, v1, v2, v3, v4, v5]) W := by
  simp [results, Tryz.results52, go_sem, ht, k0, k1, k2, k3, k4, k5]
theorem put6_ex {w W : World} {s : Hs} (h : Fr w W s) (v0 v1 v2 v3 v4 v5 : Value) :
    (put6 W (w.heap.size + 1) v0 v1 v2 v3 v4 v5).cell? ⟨w.heap.size + 1, 0, none⟩ = some v0 ∧ (put6 W (w.heap.size + 1) v0 v1 v2 v3 v4 v5).cell? ⟨w.heap.size + 1, 1, none⟩ = some v1 ∧ (put6 W (w.heap.size + 1) v0 v1 v2 v3 v4 v5).cell? ⟨w.heap.size + 1, 2, none⟩ = some v2 ∧
    (put6 W (w.heap.size + 1) v0 v1 v2 v3 v4 v5).cell? ⟨w.heap.size + 1, 3, none⟩ = some v3 ∧ (put6 W (w.heap.size + 1) v0 v1 v2 v3 v4 v5).cell? ⟨w.heap.size + 1, 4, none⟩ = some v4 ∧ (put6 W (w.heap.size + 1) v0 v1 v2 v3 v4 v5).cell? ⟨w.heap.size + 1, 5, none⟩ = some v5 := by
  obtain ⟨x0, h0⟩ := h.res 0 (by decide)
  obtain ⟨x1, h1⟩ := h.res 1 (by decide)
  obtain ⟨x2, h2⟩ := h.res 2 (by decide)
  obtain ⟨x3, h3⟩ := h.res 3 (by decide)
  obtain ⟨x4, h4⟩ := h.res 4 (by decide)
  obtain ⟨x5, h5⟩ := h.res 5 (by decide)
  exact ⟨by simp [put6, go_sem, h0], by simp [put6, go_sem, h1], by simp [put6, go_sem, h2], by simp [put6, go_sem, h3], by simp [put6, go_sem, h4], by simp [put6, go_sem, h5]⟩
set_option maxHeartbeats 4000000 in
theorem fresh_any (s : Hs) (d : Hd_) (w : World) (hp : Hp w w.heap.size s d) (hf : Fine s d) (hfb : firstB s d = true) : Calls Tryz.prog 52 #[(.agg #[.slice s.w.a s.w.n s.w.c, .slice s.p.a s.p.n s.p.c, .slice (s.u 0).a (s.u 0).n (s.u 0).c, .slice (s.u 1).a (s.u 1).n (s.u 1).c, .slice (s.u 2).a (s.u 2).n (s.u 2).c, .slice s.c.a s.c.n s.c.c])] w (FreshOut w s d) := by
  have hpos : 0 < s.p.n ∧ 0 < s.c.n := by
    unfold firstB at hfb
    simp only [Bool.and_eq_true, decide_eq_true_eq] at hfb
    have := ((Cl.mayB_iff _ _).1 hfb.2.1).1
    omega
  have hun : ∀ j, j < 3 → (s.u j).n ≤ 2000000 := fun j hj => by
    have h1 := hf.len
    rw [show (Ls.upTo d.F 3).length = (d.F 0).length + (d.F 1).length + (d.F 2).length by simp [Ls.upTo, List.range_succ]; omega] at h1
    have h2 := hp.free.len j hj
    rcases (show j = 0 ∨ j = 1 ∨ j = 2 by omega) with rfl | rfl | rfl <;> omega
  have C1 := Lib.hid (fun W (h : Below w.heap.size w W) => iclone_any w.heap.size s.w.a s.w.n s.w.c d.ws W (by have := hf.wn; omega) h.size (hp.words.below h))
  have C2 := Lib.hid (fun W (h : Below w.heap.size w W) => Cl.pclone_ok w.heap.size s.p.a s.p.n s.p.c d.f W hpos.1 (by have := hf.pn; omega) (hp.pages.below h))
  have C3 := Lib.hid (fun W (h : Below w.heap.size w W) => Ls.aown_any w.heap.size s.u d.F W (hp.free.below h) h.size hun)
  have C4 := Lib.hid (fun W (h : Below w.heap.size w W) => bclone_ok w.heap.size s.c.a s.c.n s.c.c d.cs W hpos.2 (by have := hf.cn; omega) (hp.cards.below h))
  have HL : Hid (Lens s s ∧ s.w.n = d.ws.length ∧ ∀ j, j < 3 → (s.u j).n = (d.F j).length) := Lib.hid ⟨⟨rfl, rfl, fun _ _ => rfl, rfl⟩, hp.words.1.symm, hp.free.len⟩
  clear hp hf hfb hpos hun
  go_enter Tryz.func52, Tryz.ntmps52
  go_wp2_with fail
  obtain ⟨W0, hW0⟩ : ∃ W0, W0 = (w.alloc (.cells #[.slice s.w.a s.w.n s.w.c, .slice s.p.a s.p.n s.p.c, .slice (s.u 0).a (s.u 0).n (s.u 0).c, .slice (s.u 1).a (s.u 1).n (s.u 1).c, .slice (s.u 2).a (s.u 2).n (s.u 2).c, .slice s.c.a s.c.n s.c.c] 28)).alloc (.cells #[.slice none 0 0, .slice none 0 0, .slice none 0 0, .slice none 0 0, .slice none 0 0, .slice none 0 0] 28) := ⟨_, rfl⟩
  have K0 := Lib.hid (And.intro (fr_start hW0) True.intro)
  rw [← hW0]
  clear hW0
  go_region_held3 (fun W => (Fr w W s ∧ True) ∧ w.heap.size < W.heap.size ∧ W.cell? ⟨w.heap.size, 0, none⟩ = some (.slice s.w.a s.w.n s.w.c) ∧ W.cell? ⟨w.heap.size, 1, none⟩ = some (.slice s.p.a s.p.n s.p.c) ∧ W.cell? ⟨w.heap.size, 2, none⟩ = some (.slice (s.u 0).a (s.u 0).n (s.u 0).c) ∧ W.cell? ⟨w.heap.size, 3, none⟩ = some (.slice (s.u 1).a (s.u 1).n (s.u 1).c) ∧ W.cell? ⟨w.heap.size, 4, none⟩ = some (.slice (s.u 2).a (s.u 2).n (s.u 2).c) ∧ W.cell? ⟨w.heap.size, 5, none⟩ = some (.slice s.c.a s.c.n s.c.c)) (first
    | with_reducible exact fr_put (‹(Fr w _ s ∧ _) ∧ _›).1 _ _ _ _ _ _
    | with_reducible exact fr_keep (‹(Fr w _ s ∧ _) ∧ _›).1 ‹Below _ _ _›
    | with_reducible exact fr_keep K0.out (Below.refl _ _)
    | exact fr_keep K0.out (below_drawn' (Below.refl _ _) 1)) (first
    | ((go_at_call 94; refine (C1.out _ (‹(Fr w _ s ∧ _) ∧ _›).1.1.bel).mono ?_; rintro e w5 ⟨v5, rfl, ho5, hb5⟩; have R5 := Lib.hid (rown_of (‹(Fr w _ s ∧ _) ∧ _›).1.1 ho5); clear ho5))
    | ((go_at_call 95; refine (C2.out _ (‹(Fr w _ s ∧ _) ∧ _›).1.1.bel).mono ?_; rintro e w6 ⟨g6, c6, rfl, hm6, hb6⟩; have R6 := Lib.hid (And.intro (R5.out.next hb6) (pgn_of (‹(Fr w _ s ∧ _) ∧ _›).1.1 hm6)); clear hm6))
    | ((go_at_call 96; refine (C3.out _ (‹(Fr w _ s ∧ _) ∧ _›).1.1.bel).mono ?_; rintro e w7 ⟨v7, rfl, ho7, hb7⟩; have R7 := Lib.hid (And.intro (R6.out.1.next hb7) (And.intro (R6.out.2.next hb7) (lsn_of (‹(Fr w _ s ∧ _) ∧ _›).1.1 ho7))); clear ho7))
    | ((go_at_call 97; refine (C4.out _ (‹(Fr w _ s ∧ _) ∧ _›).1.1.bel).mono ?_; rintro e w8 ⟨g8, c8, rfl, hm8, hz8, hg8, hl8, hb8⟩; have F8 := Lib.hid ((‹(Fr w _ s ∧ _) ∧ _›).1.1.next hb8); have F7 := Lib.hid (‹(Fr w w7 s ∧ _) ∧ _›).1.1; have R8 := Lib.hid (And.intro R7.out (And.intro hb8 (And.intro hm8 (And.intro hz8 (And.intro hg8 hl8))))); obtain ⟨x0, h0⟩ := F8.out.res 0 (by decide); obtain ⟨x1, h1⟩ := F8.out.res 1 (by decide); obtain ⟨x2, h2⟩ := F8.out.res 2 (by decide); obtain ⟨x3, h3⟩ := F8.out.res 3 (by decide); obtain ⟨x4, h4⟩ := F8.out.res 4 (by decide); obtain ⟨x5, h5⟩ := F8.out.res 5 (by decide); have y0 := F8.out.free 0; have y1 := F8.out.free 1; have y2 := F8.out.free 2; have y3 := F8.out.free 3; have y4 := F8.out.free 4; have y5 := F8.out.free 5; have yl := F8.out.lt; clear hm8 hz8 hg8 hl8)))
  go_wp2
  refine bodyPost_ret (v := (.agg #[.slice (⟨v5, ⟨some ⟨g6, 0, none⟩, s.p.n, c6⟩, v7, ⟨some ⟨g8, 0, none⟩, s.c.n, c8⟩⟩ : Hs).w.a (⟨v5, ⟨some ⟨g6, 0, none⟩, s.p.n, c6⟩, v7, ⟨some ⟨g8, 0, none⟩, s.c.n, c8⟩⟩ : Hs).w.n (⟨v5, ⟨some ⟨g6, 0, none⟩, s.p.n, c6⟩, v7, ⟨some ⟨g8, 0, none⟩, s.c.n, c8⟩⟩ : Hs).w.c, .slice (⟨v5, ⟨some ⟨g6, 0, none⟩, s.p.n, c6⟩, v7, ⟨some ⟨g8, 0, none⟩, s.c.n, c8⟩⟩ : Hs).p.a (⟨v5, ⟨some ⟨g6, 0, none⟩, s.p.n, c6⟩, v7, ⟨some ⟨g8, 0, none⟩, s.c.n, c8⟩⟩ : Hs).p.n (⟨v5, ⟨some ⟨g6, 0, none⟩, s.p.n, c6⟩, v7, ⟨some ⟨g8, 0, none⟩, s.c.n, c8⟩⟩ : Hs).p.c, .slice ((⟨v5, ⟨some ⟨g6, 0, none⟩, s.p.n, c6⟩, v7, ⟨some ⟨g8, 0, none⟩, s.c.n, c8⟩⟩ : Hs).u 0).a ((⟨v5, ⟨some ⟨g6, 0, none⟩, s.p.n, c6⟩, v7, ⟨some ⟨g8, 0, none⟩, s.c.n, c8⟩⟩ : Hs).u 0).n ((⟨v5, ⟨some ⟨g6, 0, none⟩, s.p.n, c6⟩, v7, ⟨some ⟨g8, 0, none⟩, s.c.n, c8⟩⟩ : Hs).u 0).c, .slice ((⟨v5, ⟨some ⟨g6, 0, none⟩, s.p.n, c6⟩, v7, ⟨some ⟨g8, 0, none⟩, s.c.n, c8⟩⟩ : Hs).u 1).a ((⟨v5, ⟨some ⟨g6, 0, none⟩, s.p.n, c6⟩, v7, ⟨some ⟨g8, 0, none⟩, s.c.n, c8⟩⟩ : Hs).u 1).n ((⟨v5, ⟨some ⟨g6, 0, none⟩, s.p.n, c6⟩, v7, ⟨some ⟨g8, 0, none⟩, s.c.n, c8⟩⟩ : Hs).u 1).c, .slice ((⟨v5, ⟨some ⟨g6, 0, none⟩, s.p.n, c6⟩, v7, ⟨some ⟨g8, 0, none⟩, s.c.n, c8⟩⟩ : Hs).u 2).a ((⟨v5, ⟨some ⟨g6, 0, none⟩, s.p.n, c6⟩, v7, ⟨some ⟨g8, 0, none⟩, s.c.n, c8⟩⟩ : Hs).u 2).n ((⟨v5, ⟨some ⟨g6, 0, none⟩, s.p.n, c6⟩, v7, ⟨some ⟨g8, 0, none⟩, s.c.n, c8⟩⟩ : Hs).u 2).c, .slice (⟨v5, ⟨some ⟨g6, 0, none⟩, s.p.n, c6⟩, v7, ⟨some ⟨g8, 0, none⟩, s.c.n, c8⟩⟩ : Hs).c.a (⟨v5, ⟨some ⟨g6, 0, none⟩, s.p.n, c6⟩, v7, ⟨some ⟨g8, 0, none⟩, s.c.n, c8⟩⟩ : Hs).c.n (⟨v5, ⟨some ⟨g6, 0, none⟩, s.p.n, c6⟩, v7, ⟨some ⟨g8, 0, none⟩, s.c.n, c8⟩⟩ : Hs).c.c])) ?_ rfl (fresh_end _ _ _ _ _ _ HL F8.out F7.out R8.out.1.1 R8.out.1.2.1 R8.out.1.2.2 R8.out.2.1 R8.out.2.2.1 R8.out.2.2.2.1 R8.out.2.2.2.2)
  obtain ⟨k0, k1, k2, k3, k4, k5⟩ := put6_ex F8.out (.slice v5.a v5.n v5.c) (.slice (some ⟨g6, 0, none⟩) s.p.n c6) (.slice (v7 0).a (v7 0).n (v7 0).c) (.slice (v7 1).a (v7 1).n (v7 1).c) (.slice (v7 2).a (v7 2).n (v7 2).c) (.slice (some ⟨g8, 0, none⟩) s.c.n c8)
  exact res_fresh rfl k0 k1 k2 k3 k4 k5
end Go.Proofs.YtgmkomnoiffapaaGreatDoor
end
section
namespace Go.Proofs.YtgmkomnoiffapaaGreatDoor
open Go.RowKit
set_option maxRecDepth 100000

theorem list_nothing {w : World} {ops : Array Oper} {rest : List Oper} {o : Oper} {a : Act} {Q : Exit → Act → World → Prop} {T E : TypeId} {i0 : TypeInfo} (hu : Tryz.prog.underlying T = some (.slice E)) (hi : Tryz.prog.info? E = some i0) (hgd : o.guard = none) (s x : Operand)
    (ho : o.op = .call { callee := .builtin .append, args := #[s, x], argTypes := #[T, T] }) {p : Option Addr} {m c : Nat} {v : Value}
    (hs : a.eval s = .slice p m c) (hx : a.eval x = v) (hle : m ≤ c) (hsrc : Src Tryz.prog i0.size T v 0 [] w)
    (hK : wpList Tryz.prog ops Q rest (a.put o.dst (.slice p m c)) w) : wpList Tryz.prog ops Q (o :: rest) a w :=
  wpList_plain hgd fun _ hK' => by
    have hrun := run_append_nothing (P := Tryz.prog) w T T o.type E i0 hu hi p m c hle v hsrc
    unfold Oper.wp execOp
    simp only [ho, resolve, invoke, builtin, Sem.run_bind, Sem.run_pure, Result.andThen_ok, List.map_toArray, List.map_cons, List.map_nil, hs, hx, hrun]
    exact hK' _ _ hK
/-- Pages that were cloned, none too. -/
def PClo (w : World) (n : Nat) (f : Nat → Int × Int) (e : Ending) (w' : World) : Prop :=
  ∃ (v : Ls.Sl), v.n = n ∧ e = .returned (.slice v.a n v.c) ∧ Cl.PRow w' w'.heap.size v.a n f ∧ New w.heap.size v ∧ Below w.heap.size w w'
def BClo (w : World) (n : Nat) (f : Nat → Bool) (e : Ending) (w' : World) : Prop :=
  ∃ (v : Ls.Sl), v.n = n ∧ e = .returned (.slice v.a n v.c) ∧ BRow w' w'.heap.size v.a n f ∧ New w.heap.size v ∧ Below w.heap.size w w'
theorem pclone_none (A : Option Addr) (c : Nat) (f : Nat → Int × Int) (w : World) : Calls Tryz.prog 95 #[.slice A 0 c] w (PClo w 0 f) := by
  obtain ⟨i0, hi, hz0, hz1, hz2⟩ := info_parts Cl.info_page
  have q22 : ∀ (w : World) (a : Option Addr) (n c n' c' : Nat), (binOp .eql 23 (.slice a n c) (.slice none n' c')).run Tryz.prog w = .ok (.bool a.isNone) w := fun w a n c n' c' => Lib.run_eql_slice_nil w _ _ a n c n' c' Tryz.underlying23
  cases A with
  | none =>
    go_enter Tryz.func95, Tryz.ntmps95
    go_wp2
    go_ret
    exact ⟨⟨none, 0, 0⟩, rfl, rfl, fun h => absurd h (Nat.lt_irrefl 0), fun h => absurd h (Nat.lt_irrefl 0), Below.refl _ _⟩
  | some x =>
    have hsrc : ∀ w, Src Tryz.prog i0.size 23 (.slice (some x) 0 c) 0 [] w := fun w => by
      rw [hz1]
      exact Src.ofSlice _ Tryz.underlying23 x 0 c [] rfl (by simp) (by simp)
    go_enter Tryz.func95, Tryz.ntmps95
    go_wp2_with (at_builtin; refine list_nothing Tryz.underlying23 hi rfl _ _ rfl rfl rfl (Nat.zero_le _) (hsrc _) ?_)
    go_wp2
    go_ret
    exact ⟨⟨some ⟨w.heap.size, 0, none⟩, 0, 0⟩, rfl, rfl, fun h => absurd h (Nat.lt_irrefl 0), fun h => absurd h (Nat.lt_irrefl 0), (Below.refl _ _).alloc (Nat.le_refl _) _⟩
theorem bclone_none (A : Option Addr) (c : Nat) (f : Nat → Bool) (w : World) : Calls Tryz.prog 97 #[.slice A 0 c] w (BClo w 0 f) := by
  obtain ⟨i0, hi, hz0, hz1, hz2⟩ := info_parts info_boolC
  have q22 : ∀ (w : World) (a : Option Addr) (n c n' c' : Nat), (binOp .eql 26 (.slice a n c) (.slice none n' c')).run Tryz.prog w = .ok (.bool a.isNone) w := fun w a n c n' c' => Lib.run_eql_slice_nil w _ _ a n c n' c' Tryz.underlying26
  cases A with
  | none =>
    go_enter Tryz.func97, Tryz.ntmps97
    go_wp2
    go_ret
    exact ⟨⟨none, 0, 0⟩, rfl, rfl, fun h => absurd h (Nat.lt_irrefl 0), fun h => absurd h (Nat.lt_irrefl 0), Below.refl _ _⟩
  | some x =>
    have hsrc : ∀ w, Src Tryz.prog i0.size 26 (.slice (some x) 0 c) 0 [] w := fun w => by
      rw [hz1]
      exact Src.ofSlice _ Tryz.underlying26 x 0 c [] rfl (by simp) (by simp)
    go_enter Tryz.func97, Tryz.ntmps97
    go_wp2_with (at_builtin; refine list_nothing Tryz.underlying26 hi rfl _ _ rfl rfl rfl (Nat.zero_le _) (hsrc _) ?_)
    go_wp2
    go_ret
    exact ⟨⟨some ⟨w.heap.size, 0, none⟩, 0, 0⟩, rfl, rfl, fun h => absurd h (Nat.lt_irrefl 0), fun h => absurd h (Nat.lt_irrefl 0), (Below.refl _ _).alloc (Nat.le_refl _) _⟩
theorem pclone_any (B : Nat) (A : Option Addr) (n c : Nat) (f : Nat → Int × Int) (w : World) (hbig : n ≤ 1000) (hr : Cl.PRow w B A n f) : Calls Tryz.prog 95 #[.slice A n c] w (PClo w n f) := by
  by_cases hn : n = 0
  · subst hn
    exact pclone_none A c f w
  · exact (Cl.pclone_ok B A n c f w (by omega) hbig hr).mono fun e w' ⟨g, c', he, hm, hb⟩ => ⟨⟨some ⟨g, 0, none⟩, n, c'⟩, rfl, he, hm.row, fun _ x hx => by cases hx; exact hm.2.1, hb⟩
theorem bclone_any (B : Nat) (A : Option Addr) (n c : Nat) (f : Nat → Bool) (w : World) (hbig : n ≤ 1000000) (hr : BRow w B A n f) : Calls Tryz.prog 97 #[.slice A n c] w (BClo w n f) := by
  by_cases hn : n = 0
  · subst hn
    exact bclone_none A c f w
  · exact (bclone_ok B A n c f w (by omega) hbig hr).mono fun e w' ⟨g, c', he, hm, _, hg, hl, hb⟩ => ⟨⟨some ⟨g, 0, none⟩, n, c'⟩, rfl, he, fun _ => ⟨g, 0, rfl, hl, fun i hi => by rw [Nat.zero_add]; exact hm i hi⟩, fun _ x hx => by cases hx; exact hg, hb⟩
/-- A copy was returned. -/
def FreshW (w : World) (s : Hs) (d : Hd_) (e : Ending) (w' : World) : Prop :=
  ∃ t : Hs, e = .returned (.agg #[.slice t.w.a t.w.n t.w.c, .slice t.p.a t.p.n t.p.c, .slice (t.u 0).a (t.u 0).n (t.u 0).c, .slice (t.u 1).a (t.u 1).n (t.u 1).c, .slice (t.u 2).a (t.u 2).n (t.u 2).c, .slice t.c.a t.c.n t.c.c]) ∧ Hp w' w'.heap.size t d ∧ Lens s t ∧ News w.heap.size t ∧ Below w.heap.size w w'
section
variable {w W W' : World} {s : Hs} {d : Hd_}
def PgW (w W : World) (v : Ls.Sl) (n : Nat) (f : Nat → Int × Int) : Prop := v.n = n ∧ Cl.PRow W W.heap.size v.a n f ∧ New (w.heap.size + 2) v
theorem PgW.next {v : Ls.Sl} {n : Nat} {f : Nat → Int × Int} (h : PgW w W v n f) (hb : Below W.heap.size W W') : PgW w W' v n f := ⟨h.1, prow_more (h.2.1.below hb) hb.size, h.2.2⟩
theorem pgw_of {v : Ls.Sl} {n : Nat} {f : Nat → Int × Int} (h : Fr w W s) (hn : v.n = n) (hr : Cl.PRow W' W'.heap.size v.a n f) (hw : New W.heap.size v) : PgW w W' v n f :=
  ⟨hn, hr, fun h0 x hx => by have := hw h0 x hx; have := h.lt; omega⟩
theorem freshw_end {v p c : Ls.Sl} {vu : Nat → Ls.Sl} (v0 v1 v2 v3 v4 v5 : Value) (hl : Hid (Lens s s ∧ s.w.n = d.ws.length ∧ ∀ j, j < 3 → (s.u j).n = (d.F j).length)) (hF : Fr w W s) (hr : RowN w W v d.ws) (hp : PgW w W p s.p.n d.f) (hu : LsN w W vu d.F) (hc : BRow W W.heap.size c.a s.c.n d.cs) (hcn : c.n = s.c.n) (hcw : New (w.heap.size + 2) c) :
    FreshW w s d (.returned (.agg #[.slice v.a v.n v.c, .slice p.a s.p.n p.c, .slice (vu 0).a (vu 0).n (vu 0).c, .slice (vu 1).a (vu 1).n (vu 1).c, .slice (vu 2).a (vu 2).n (vu 2).c, .slice c.a s.c.n c.c])) (put6 W (w.heap.size + 1) v0 v1 v2 v3 v4 v5) := by
  obtain ⟨e1, hp1, hp2⟩ := hp
  have hn : News (w.heap.size + 2) ⟨v, p, vu, c⟩ := ⟨hr.2.2.2, hp2, hu.2, hcw⟩
  have hW : Hp W W.heap.size ⟨v, p, vu, c⟩ d := ⟨hr.1, by rw [e1]; exact hp1, hu.1, by rw [hcn]; exact hc⟩
  refine ⟨⟨v, p, vu, c⟩, by rw [e1, hcn], hn.kept hW (fun k h1 _ => put6_other _ _ _ _ _ _ _ _ (by omega)) (by rw [put6_size]; exact Nat.le_refl _), ⟨?_, e1, fun j hj => ?_, hcn⟩, ⟨fun h0 x hx => by have := hn.w h0 x hx; omega, fun h0 x hx => by have := hn.p h0 x hx; omega, fun j hj h0 x hx => by have := hn.u j hj h0 x hx; omega, fun h0 x hx => by have := hn.c h0 x hx; omega⟩, below_put6 hF.bel (by omega) _ _ _ _ _ _⟩
  · have h1 := hr.1.1
    have h2 := hl.out.2.1
    show v.n = _
    omega
  · have h1 := hu.1.len j hj
    have h2 := hl.out.2.2 j hj
    show (vu j).n = _
    omega
end
set_option maxHeartbeats 4000000 in
theorem fresh_all (s : Hs) (d : Hd_) (w : World) (hp : Hp w w.heap.size s d) (hf : Fine s d) : Calls Tryz.prog 52 #[(.agg #[.slice s.w.a s.w.n s.w.c, .slice s.p.a s.p.n s.p.c, .slice (s.u 0).a (s.u 0).n (s.u 0).c, .slice (s.u 1).a (s.u 1).n (s.u 1).c, .slice (s.u 2).a (s.u 2).n (s.u 2).c, .slice s.c.a s.c.n s.c.c])] w (FreshW w s d) := by
  have hun : ∀ j, j < 3 → (s.u j).n ≤ 2000000 := fun j hj => by
    have h1 := hf.len
    rw [show (Ls.upTo d.F 3).length = (d.F 0).length + (d.F 1).length + (d.F 2).length by simp [Ls.upTo, List.range_succ]; omega] at h1
    have h2 := hp.free.len j hj
    rcases (show j = 0 ∨ j = 1 ∨ j = 2 by omega) with rfl | rfl | rfl <;> omega
  have C1 := Lib.hid (fun W (h : Below w.heap.size w W) => iclone_any w.heap.size s.w.a s.w.n s.w.c d.ws W (by have := hf.wn; omega) h.size (hp.words.below h))
  have C2 := Lib.hid (fun W (h : Below w.heap.size w W) => pclone_any w.heap.size s.p.a s.p.n s.p.c d.f W (by have := hf.pn; omega) (hp.pages.below h))
  have C3 := Lib.hid (fun W (h : Below w.heap.size w W) => Ls.aown_any w.heap.size s.u d.F W (hp.free.below h) h.size hun)
  have C4 := Lib.hid (fun W (h : Below w.heap.size w W) => bclone_any w.heap.size s.c.a s.c.n s.c.c d.cs W (by have := hf.cn; omega) (hp.cards.below h))
  have HL : Hid (Lens s s ∧ s.w.n = d.ws.length ∧ ∀ j, j < 3 → (s.u j).n = (d.F j).length) := Lib.hid ⟨⟨rfl, rfl, fun _ _ => rfl, rfl⟩, hp.words.1.symm, hp.free.len⟩
  clear hp hf hun
  go_enter Tryz.func52, Tryz.ntmps52
  go_wp2_with fail
  obtain ⟨W0, hW0⟩ : ∃ W0, W0 = (w.alloc (.cells #[.slice s.w.a s.w.n s.w.c, .slice s.p.a s.p.n s.p.c, .slice (s.u 0).a (s.u 0).n (s.u 0).c, .slice (s.u 1).a (s.u 1).n (s.u 1).c, .slice (s.u 2).a (s.u 2).n (s.u 2).c, .slice s.c.a s.c.n s.c.c] 28)).alloc (.cells #[.slice none 0 0, .slice none 0 0, .slice none 0 0, .slice none 0 0, .slice none 0 0, .slice none 0 0] 28) := ⟨_, rfl⟩
  have K0 := Lib.hid (And.intro (fr_start hW0) True.intro)
  rw [← hW0]
  clear hW0
  go_region_held3 (fun W => (Fr w W s ∧ True) ∧ w.heap.size < W.heap.size ∧ W.cell? ⟨w.heap.size, 0, none⟩ = some (.slice s.w.a s.w.n s.w.c) ∧ W.cell? ⟨w.heap.size, 1, none⟩ = some (.slice s.p.a s.p.n s.p.c) ∧ W.cell? ⟨w.heap.size, 2, none⟩ = some (.slice (s.u 0).a (s.u 0).n (s.u 0).c) ∧ W.cell? ⟨w.heap.size, 3, none⟩ = some (.slice (s.u 1).a (s.u 1).n (s.u 1).c) ∧ W.cell? ⟨w.heap.size, 4, none⟩ = some (.slice (s.u 2).a (s.u 2).n (s.u 2).c) ∧ W.cell? ⟨w.heap.size, 5, none⟩ = some (.slice s.c.a s.c.n s.c.c)) (first
    | with_reducible exact fr_put (‹(Fr w _ s ∧ _) ∧ _›).1 _ _ _ _ _ _
    | with_reducible exact fr_keep (‹(Fr w _ s ∧ _) ∧ _›).1 ‹Below _ _ _›
    | with_reducible exact fr_keep K0.out (Below.refl _ _)
    | exact fr_keep K0.out (below_drawn' (Below.refl _ _) 1)) (first
    | ((go_at_call 94; refine (C1.out _ (‹(Fr w _ s ∧ _) ∧ _›).1.1.bel).mono ?_; rintro e w5 ⟨v5, rfl, ho5, hb5⟩; have R5 := Lib.hid (rown_of (‹(Fr w _ s ∧ _) ∧ _›).1.1 ho5); clear ho5))
    | ((go_at_call 95; refine (C2.out _ (‹(Fr w _ s ∧ _) ∧ _›).1.1.bel).mono ?_; rintro e w6 ⟨v6, hn6, rfl, hm6, hg6, hb6⟩; have R6 := Lib.hid (And.intro (R5.out.next hb6) (pgw_of (‹(Fr w _ s ∧ _) ∧ _›).1.1 hn6 hm6 hg6)); clear hn6 hm6 hg6))
    | ((go_at_call 96; refine (C3.out _ (‹(Fr w _ s ∧ _) ∧ _›).1.1.bel).mono ?_; rintro e w7 ⟨v7, rfl, ho7, hb7⟩; have R7 := Lib.hid (And.intro (R6.out.1.next hb7) (And.intro (R6.out.2.next hb7) (lsn_of (‹(Fr w _ s ∧ _) ∧ _›).1.1 ho7))); clear ho7))
    | ((go_at_call 97; refine (C4.out _ (‹(Fr w _ s ∧ _) ∧ _›).1.1.bel).mono ?_; rintro e w8 ⟨v8, hn8, rfl, hm8, hg8, hb8⟩; have F8 := Lib.hid ((‹(Fr w _ s ∧ _) ∧ _›).1.1.next hb8); have R8 := Lib.hid (And.intro (R7.out.1.next hb8) (And.intro (R7.out.2.1.next hb8) (And.intro (R7.out.2.2.next hb8) (And.intro hm8 (And.intro hn8 (show New (w.heap.size + 2) v8 from fun h0 x hx => by have h1 := hg8 h0 x hx; have h2 := (‹(Fr w w7 s ∧ _) ∧ _›).1.1.lt; omega)))))); obtain ⟨x0, h0⟩ := F8.out.res 0 (by decide); obtain ⟨x1, h1⟩ := F8.out.res 1 (by decide); obtain ⟨x2, h2⟩ := F8.out.res 2 (by decide); obtain ⟨x3, h3⟩ := F8.out.res 3 (by decide); obtain ⟨x4, h4⟩ := F8.out.res 4 (by decide); obtain ⟨x5, h5⟩ := F8.out.res 5 (by decide); have y0 := F8.out.free 0; have y1 := F8.out.free 1; have y2 := F8.out.free 2; have y3 := F8.out.free 3; have y4 := F8.out.free 4; have y5 := F8.out.free 5; have yl := F8.out.lt; clear hn8 hm8 hg8)))
  go_wp2
  refine bodyPost_ret (v := .agg #[.slice v5.a v5.n v5.c, .slice v6.a s.p.n v6.c, .slice (v7 0).a (v7 0).n (v7 0).c, .slice (v7 1).a (v7 1).n (v7 1).c, .slice (v7 2).a (v7 2).n (v7 2).c, .slice v8.a s.c.n v8.c]) ?_ rfl (freshw_end _ _ _ _ _ _ HL F8.out R8.out.1 R8.out.2.1 R8.out.2.2.1 R8.out.2.2.2.1 R8.out.2.2.2.2.1 R8.out.2.2.2.2.2)
  obtain ⟨k0, k1, k2, k3, k4, k5⟩ := put6_ex F8.out (.slice v5.a v5.n v5.c) (.slice v6.a s.p.n v6.c) (.slice (v7 0).a (v7 0).n (v7 0).c) (.slice (v7 1).a (v7 1).n (v7 1).c) (.slice (v7 2).a (v7 2).n (v7 2).c) (.slice v8.a s.c.n v8.c)
  exact res_fresh rfl k0 k1 k2 k3 k4 k5
end Go.Proofs.YtgmkomnoiffapaaGreatDoor
end
section
namespace Go.Proofs.YtgmkomnoiffapaaGreatDoor.Sh
open Go.Proofs.YtgmkomnoiffapaaGreatDoor
open Go.RowKit
set_option maxRecDepth 100000

structure CBox (W : World) (b : Nat) (k : Ks) : Prop where
  c0 : W.cell? ⟨b, 0, none⟩ = some (.int .i64 k.ph)
  c1 : W.cell? ⟨b, 1, none⟩ = some (.int .i64 k.ep)
  c2 : W.cell? ⟨b, 2, none⟩ = some (.bool k.mj)
  c3 : W.cell? ⟨b, 3, none⟩ = some (.slice k.wk.a k.wk.n k.wk.c)
  c4 : W.cell? ⟨b, 4, none⟩ = some (.bool k.ov)
  c5 : W.cell? ⟨b, 5, none⟩ = some (.int .i64 k.pa)
  c6 : W.cell? ⟨b, 6, none⟩ = some (.int .i64 k.pf)
  c7 : W.cell? ⟨b, 7, none⟩ = some (.int .i64 k.ps)
  c8 : W.cell? ⟨b, 8, none⟩ = some (.int .i64 k.pc)
  c9 : W.cell? ⟨b, 9, none⟩ = some (.bool k.me)
  lt : b < W.heap.size
theorem CBox.new (w : World) (k : Ks) (t : TypeId) : CBox (w.alloc (.cells #[.int .i64 k.ph, .int .i64 k.ep, .bool k.mj, .slice k.wk.a k.wk.n k.wk.c, .bool k.ov, .int .i64 k.pa, .int .i64 k.pf, .int .i64 k.ps, .int .i64 k.pc, .bool k.me] t)) w.heap.size k := by
  refine ⟨?_, ?_, ?_, ?_, ?_, ?_, ?_, ?_, ?_, ?_, by simp⟩ <;> simp [go_sem]
theorem CBox.next {W W' : World} {b : Nat} {k : Ks} (h : CBox W b k) (hb : Below W.heap.size W W') : CBox W' b k :=
  ⟨(hb.cell (p := ⟨b, 0, none⟩) h.lt).trans h.c0, (hb.cell (p := ⟨b, 1, none⟩) h.lt).trans h.c1, (hb.cell (p := ⟨b, 2, none⟩) h.lt).trans h.c2, (hb.cell (p := ⟨b, 3, none⟩) h.lt).trans h.c3, (hb.cell (p := ⟨b, 4, none⟩) h.lt).trans h.c4, (hb.cell (p := ⟨b, 5, none⟩) h.lt).trans h.c5, (hb.cell (p := ⟨b, 6, none⟩) h.lt).trans h.c6, (hb.cell (p := ⟨b, 7, none⟩) h.lt).trans h.c7, (hb.cell (p := ⟨b, 8, none⟩) h.lt).trans h.c8, (hb.cell (p := ⟨b, 9, none⟩) h.lt).trans h.c9, Nat.lt_of_lt_of_le h.lt hb.size⟩
/-- All but the work list, and whether that has no more room. -/
def SameK (k k' : Ks) : Prop := k'.ph = k.ph ∧ k'.ep = k.ep ∧ k'.mj = k.mj ∧ k'.pa = k.pa ∧ k'.pf = k.pf ∧ k'.ps = k.ps ∧ k'.pc = k.pc ∧ k'.me = k.me
theorem SameK.refl (k : Ks) : SameK k k := ⟨rfl, rfl, rfl, rfl, rfl, rfl, rfl, rfl⟩
theorem SameK.trans {k k' k2 : Ks} (h : SameK k k') (g : SameK k' k2) : SameK k k2 := by
  obtain ⟨h1, h2, h3, h4, h5, h6, h7, h8⟩ := h
  obtain ⟨g1, g2, g3, g4, g5, g6, g7, g8⟩ := g
  exact ⟨g1.trans h1, g2.trans h2, g3.trans h3, g4.trans h4, g5.trans h5, g6.trans h6, g7.trans h7, g8.trans h8⟩
/-- A collector's work list. -/
def WRow (w : World) (B : Nat) (k : Ks) (xs : List Int) : Prop := Row w B k.wk.a k.wk.n xs
/-- What a walk holds: heaps in boxes, collectors in boxes. -/
structure Lk (w W : World) (hs : List (Nat × Hs × Hd_)) (ks : List (Nat × Ks × List Int)) : Prop where
  bel : Below w.heap.size w W
  h : ∀ x ∈ hs, HBox W x.1 x.2.1 ∧ Hp W W.heap.size x.2.1 x.2.2
  k : ∀ x ∈ ks, CBox W x.1 x.2.1 ∧ WRow W W.heap.size x.2.1 x.2.2
section
variable {w w3 W W' : World} {s t : Hs} {d d' : Hd_} {k k' : Ks} {xs ys : List Int} {hs : List (Nat × Hs × Hd_)} {ks : List (Nat × Ks × List Int)} {ty ty' : TypeId} {b c : Nat}
theorem WRow.next (h : WRow W W.heap.size k xs) (hb : Below W.heap.size W W') : WRow W' W'.heap.size k xs := (Row.below h hb).more hb.size
theorem WRow.len (h : WRow W c k xs) : k.wk.n = xs.length := h.1.symm
theorem Lk.next (h : Lk w W hs ks) (hb : Below W.heap.size W W') : Lk w W' hs ks := ⟨h.bel.trans (hb.mono h.bel.size), fun x hx => ⟨(h.h x hx).1.next hb, (h.h x hx).2.next hb⟩, fun x hx => ⟨(h.k x hx).1.next hb, (h.k x hx).2.next hb⟩⟩
theorem Lk.at (h : Lk w W hs ks) (b : Nat) (s : Hs) (d : Hd_) (hm : (b, s, d) ∈ hs) : HBox W b s := (h.h _ hm).1
theorem Lk.hp (h : Lk w W hs ks) (b : Nat) (s : Hs) (d : Hd_) (hm : (b, s, d) ∈ hs) : Hp W W.heap.size s d := (h.h _ hm).2
theorem Lk.cat (h : Lk w W hs ks) (b : Nat) (k : Ks) (xs : List Int) (hm : (b, k, xs) ∈ ks) : CBox W b k := (h.k _ hm).1
theorem Lk.wr (h : Lk w W hs ks) (b : Nat) (k : Ks) (xs : List Int) (hm : (b, k, xs) ∈ ks) : WRow W W.heap.size k xs := (h.k _ hm).2
theorem lk_start (hp : Hp w w.heap.size s d) (hk : WRow w w.heap.size k xs) (h : W = (w.alloc (.cells #[.slice s.w.a s.w.n s.w.c, .slice s.p.a s.p.n s.p.c, .slice (s.u 0).a (s.u 0).n (s.u 0).c, .slice (s.u 1).a (s.u 1).n (s.u 1).c, .slice (s.u 2).a (s.u 2).n (s.u 2).c, .slice s.c.a s.c.n s.c.c] ty)).alloc (.cells #[.int .i64 k.ph, .int .i64 k.ep, .bool k.mj, .slice k.wk.a k.wk.n k.wk.c, .bool k.ov, .int .i64 k.pa, .int .i64 k.pf, .int .i64 k.ps, .int .i64 k.pc, .bool k.me] ty')) : Lk w W [(w.heap.size, s, d)] [(w.heap.size + 1, k, xs)] := by
  have b1 : Below w.heap.size w W := by rw [h]; exact ((Below.refl _ _).alloc (Nat.le_refl _) _).alloc (by simp) _
  have b2 : Below (w.alloc (.cells #[.slice s.w.a s.w.n s.w.c, .slice s.p.a s.p.n s.p.c, .slice (s.u 0).a (s.u 0).n (s.u 0).c, .slice (s.u 1).a (s.u 1).n (s.u 1).c, .slice (s.u 2).a (s.u 2).n (s.u 2).c, .slice s.c.a s.c.n s.c.c] ty)).heap.size (w.alloc (.cells #[.slice s.w.a s.w.n s.w.c, .slice s.p.a s.p.n s.p.c, .slice (s.u 0).a (s.u 0).n (s.u 0).c, .slice (s.u 1).a (s.u 1).n (s.u 1).c, .slice (s.u 2).a (s.u 2).n (s.u 2).c, .slice s.c.a s.c.n s.c.c] ty)) W := by rw [h]; exact (Below.refl _ _).alloc (Nat.le_refl _) _
  refine ⟨b1, fun x hx => ?_, fun x hx => ?_⟩
  · obtain rfl := List.mem_singleton.1 hx
    exact ⟨(HBox.new w s ty).next b2, hp.next b1⟩
  · obtain rfl := List.mem_singleton.1 hx
    refine ⟨?_, hk.next b1⟩
    have := CBox.new (w.alloc (.cells #[.slice s.w.a s.w.n s.w.c, .slice s.p.a s.p.n s.p.c, .slice (s.u 0).a (s.u 0).n (s.u 0).c, .slice (s.u 1).a (s.u 1).n (s.u 1).c, .slice (s.u 2).a (s.u 2).n (s.u 2).c, .slice s.c.a s.c.n s.c.c] ty)) k ty'
    rw [World.size_alloc] at this
    rw [h]
    exact this
theorem sixh_of (h : HBox W b s) : b < W.heap.size ∧ W.cell? ⟨b, 0, none⟩ = some (.slice s.w.a s.w.n s.w.c) ∧ W.cell? ⟨b, 1, none⟩ = some (.slice s.p.a s.p.n s.p.c) ∧ W.cell? ⟨b, 2, none⟩ = some (.slice (s.u 0).a (s.u 0).n (s.u 0).c) ∧ W.cell? ⟨b, 3, none⟩ = some (.slice (s.u 1).a (s.u 1).n (s.u 1).c) ∧ W.cell? ⟨b, 4, none⟩ = some (.slice (s.u 2).a (s.u 2).n (s.u 2).c) ∧ W.cell? ⟨b, 5, none⟩ = some (.slice s.c.a s.c.n s.c.c) := ⟨h.lt, h.c0, h.c1, h.c2, h.c3, h.c4, h.c5⟩
end
end Go.Proofs.YtgmkomnoiffapaaGreatDoor.Sh
end
section
namespace Go.Proofs.YtgmkomnoiffapaaGreatDoor.Sh
open Go.Proofs.YtgmkomnoiffapaaGreatDoor
open Go.RowKit
set_option maxRecDepth 100000

/-- A box of ten cells that may be stored to. -/
structure T10 (W : World) (b : Nat) : Prop where
  has : ∀ j, j < 10 → ∃ v, W.cell? ⟨b, j, none⟩ = some v
  free : ∀ j, W.frozen? ⟨b, j, none⟩ = false
  lt : b < W.heap.size
def put10 (w : World) (b : Nat) (v0 v1 v2 v3 v4 v5 v6 v7 v8 v9 : Value) : World :=
  (((((((((w.setCell ⟨b, 0, none⟩ v0).setCell ⟨b, 1, none⟩ v1).setCell ⟨b, 2, none⟩ v2).setCell ⟨b, 3, none⟩ v3).setCell ⟨b, 4, none⟩ v4).setCell ⟨b, 5, none⟩ v5).setCell ⟨b, 6, none⟩ v6).setCell ⟨b, 7, none⟩ v7).setCell ⟨b, 8, none⟩ v8).setCell ⟨b, 9, none⟩ v9
theorem put10_size (w : World) (b : Nat) (v0 v1 v2 v3 v4 v5 v6 v7 v8 v9 : Value) : (put10 w b v0 v1 v2 v3 v4 v5 v6 v7 v8 v9).heap.size = w.heap.size := by simp [put10, World.setCell]
theorem put10_other (w : World) (b : Nat) (v0 v1 v2 v3 v4 v5 v6 v7 v8 v9 : Value) {k : Nat} (hk : ¬ k = b) : (put10 w b v0 v1 v2 v3 v4 v5 v6 v7 v8 v9).heap[k]? = w.heap[k]? := by
  unfold put10
  rw [Below.heap_setCell _ _ _ _ (by exact hk), Below.heap_setCell _ _ _ _ (by exact hk), Below.heap_setCell _ _ _ _ (by exact hk), Below.heap_setCell _ _ _ _ (by exact hk), Below.heap_setCell _ _ _ _ (by exact hk), Below.heap_setCell _ _ _ _ (by exact hk), Below.heap_setCell _ _ _ _ (by exact hk), Below.heap_setCell _ _ _ _ (by exact hk), Below.heap_setCell _ _ _ _ (by exact hk), Below.heap_setCell _ _ _ _ (by exact hk)]
theorem below_put10 {B : Nat} {a w : World} (h : Below B a w) {b : Nat} (hb : B ≤ b) (v0 v1 v2 v3 v4 v5 v6 v7 v8 v9 : Value) : Below B a (put10 w b v0 v1 v2 v3 v4 v5 v6 v7 v8 v9) :=
  (((((((((h.setCell (p := ⟨b, 0, none⟩) hb _).setCell (p := ⟨b, 1, none⟩) hb _).setCell (p := ⟨b, 2, none⟩) hb _).setCell (p := ⟨b, 3, none⟩) hb _).setCell (p := ⟨b, 4, none⟩) hb _).setCell (p := ⟨b, 5, none⟩) hb _).setCell (p := ⟨b, 6, none⟩) hb _).setCell (p := ⟨b, 7, none⟩) hb _).setCell (p := ⟨b, 8, none⟩) hb _).setCell (p := ⟨b, 9, none⟩) hb _
section
variable {w W W' : World} {b : Nat} {k : Ks} {xs : List Int} {v : Ls.Sl}
theorem T10.same (h : T10 W b) (hs : W'.heap[b]? = W.heap[b]?) (hl : W.heap.size ≤ W'.heap.size) : T10 W' b :=
  ⟨fun j hj => by obtain ⟨v, e⟩ := h.has j hj; exact ⟨v, (World.cell?_of_block (a := ⟨b, j, none⟩) hs).trans e⟩, fun j => (World.frozen?_of_block (a := ⟨b, j, none⟩) hs).trans (h.free j), Nat.lt_of_lt_of_le h.lt hl⟩
theorem T10.next (h : T10 W b) (hb : Below W.heap.size W W') : T10 W' b := h.same (hb.block b h.lt) hb.size
theorem t10_of (h : CBox W b k) (hf : ∀ j, W.frozen? ⟨b, j, none⟩ = false) : T10 W b :=
  ⟨fun j hj => by
    match j, hj with
    | 0, _ => exact ⟨_, h.c0⟩
    | 1, _ => exact ⟨_, h.c1⟩
    | 2, _ => exact ⟨_, h.c2⟩
    | 3, _ => exact ⟨_, h.c3⟩
    | 4, _ => exact ⟨_, h.c4⟩
    | 5, _ => exact ⟨_, h.c5⟩
    | 6, _ => exact ⟨_, h.c6⟩
    | 7, _ => exact ⟨_, h.c7⟩
    | 8, _ => exact ⟨_, h.c8⟩
    | 9, _ => exact ⟨_, h.c9⟩, hf, h.lt⟩
theorem T10.new (w : World) (k : Ks) (t : TypeId) : T10 (w.alloc (.cells #[.int .i64 k.ph, .int .i64 k.ep, .bool k.mj, .slice k.wk.a k.wk.n k.wk.c, .bool k.ov, .int .i64 k.pa, .int .i64 k.pf, .int .i64 k.ps, .int .i64 k.pc, .bool k.me] t)) w.heap.size := t10_of (CBox.new w k t) fun j => by simp [go_sem]
theorem CBox.same (h : CBox W b k) (hs : W'.heap[b]? = W.heap[b]?) (hl : W.heap.size ≤ W'.heap.size) : CBox W' b k :=
  ⟨(World.cell?_of_block (a := ⟨b, 0, none⟩) hs).trans h.c0, (World.cell?_of_block (a := ⟨b, 1, none⟩) hs).trans h.c1, (World.cell?_of_block (a := ⟨b, 2, none⟩) hs).trans h.c2, (World.cell?_of_block (a := ⟨b, 3, none⟩) hs).trans h.c3, (World.cell?_of_block (a := ⟨b, 4, none⟩) hs).trans h.c4, (World.cell?_of_block (a := ⟨b, 5, none⟩) hs).trans h.c5, (World.cell?_of_block (a := ⟨b, 6, none⟩) hs).trans h.c6, (World.cell?_of_block (a := ⟨b, 7, none⟩) hs).trans h.c7, (World.cell?_of_block (a := ⟨b, 8, none⟩) hs).trans h.c8, (World.cell?_of_block (a := ⟨b, 9, none⟩) hs).trans h.c9, Nat.lt_of_lt_of_le h.lt hl⟩
theorem T10.set (h : T10 W b) (j : Nat) (v : Value) : T10 (W.setCell ⟨b, j, none⟩ v) b :=
  ⟨fun i hi => by
    obtain ⟨x, e⟩ := h.has i hi
    exact ⟨_, cell_set e rfl⟩, frozen_set h.free, by simp only [World.size_setCell]; exact h.lt⟩
theorem T10.put (h : T10 W b) (v0 v1 v2 v3 v4 v5 v6 v7 v8 v9 : Value) : T10 (put10 W b v0 v1 v2 v3 v4 v5 v6 v7 v8 v9) b := (((((((((h.set 0 v0).set 1 v1).set 2 v2).set 3 v3).set 4 v4).set 5 v5).set 6 v6).set 7 v7).set 8 v8).set 9 v9
theorem put10_at (h : T10 W b) (v0 v1 v2 v3 v4 v5 v6 v7 v8 v9 : Value) : (put10 W b v0 v1 v2 v3 v4 v5 v6 v7 v8 v9).cell? ⟨b, 0, none⟩ = some v0 ∧ (put10 W b v0 v1 v2 v3 v4 v5 v6 v7 v8 v9).cell? ⟨b, 1, none⟩ = some v1 ∧ (put10 W b v0 v1 v2 v3 v4 v5 v6 v7 v8 v9).cell? ⟨b, 2, none⟩ = some v2 ∧ (put10 W b v0 v1 v2 v3 v4 v5 v6 v7 v8 v9).cell? ⟨b, 3, none⟩ = some v3 ∧ (put10 W b v0 v1 v2 v3 v4 v5 v6 v7 v8 v9).cell? ⟨b, 4, none⟩ = some v4 ∧ (put10 W b v0 v1 v2 v3 v4 v5 v6 v7 v8 v9).cell? ⟨b, 5, none⟩ = some v5 ∧ (put10 W b v0 v1 v2 v3 v4 v5 v6 v7 v8 v9).cell? ⟨b, 6, none⟩ = some v6 ∧ (put10 W b v0 v1 v2 v3 v4 v5 v6 v7 v8 v9).cell? ⟨b, 7, none⟩ = some v7 ∧ (put10 W b v0 v1 v2 v3 v4 v5 v6 v7 v8 v9).cell? ⟨b, 8, none⟩ = some v8 ∧ (put10 W b v0 v1 v2 v3 v4 v5 v6 v7 v8 v9).cell? ⟨b, 9, none⟩ = some v9 := by
  obtain ⟨x0, h0⟩ := h.has 0 (by decide)
  obtain ⟨x1, h1⟩ := h.has 1 (by decide)
  obtain ⟨x2, h2⟩ := h.has 2 (by decide)
  obtain ⟨x3, h3⟩ := h.has 3 (by decide)
  obtain ⟨x4, h4⟩ := h.has 4 (by decide)
  obtain ⟨x5, h5⟩ := h.has 5 (by decide)
  obtain ⟨x6, h6⟩ := h.has 6 (by decide)
  obtain ⟨x7, h7⟩ := h.has 7 (by decide)
  obtain ⟨x8, h8⟩ := h.has 8 (by decide)
  obtain ⟨x9, h9⟩ := h.has 9 (by decide)
  refine ⟨?_, ?_, ?_, ?_, ?_, ?_, ?_, ?_, ?_, ?_⟩ <;> simp [put10, go_sem, h0, h1, h2, h3, h4, h5, h6, h7, h8, h9]
/-- A collector with another work list. -/
def kw (k : Ks) (v : Ls.Sl) (o : Bool) : Ks := ⟨k.ph, k.ep, k.mj, v, o, k.pa, k.pf, k.ps, k.pc, k.me⟩
theorem CBox.put3 (h : CBox W b k) (v : Ls.Sl) : CBox (W.setCell ⟨b, 3, none⟩ (.slice v.a v.n v.c)) b (kw k v k.ov) :=
  ⟨cell_set h.c0 rfl, cell_set h.c1 rfl, cell_set h.c2 rfl, cell_set h.c3 rfl, cell_set h.c4 rfl, cell_set h.c5 rfl, cell_set h.c6 rfl, cell_set h.c7 rfl, cell_set h.c8 rfl, cell_set h.c9 rfl, by simp only [World.size_setCell]; exact h.lt⟩
theorem CBox.put4 (h : CBox W b k) (o : Bool) : CBox (W.setCell ⟨b, 4, none⟩ (.bool o)) b (kw k k.wk o) :=
  ⟨cell_set h.c0 rfl, cell_set h.c1 rfl, cell_set h.c2 rfl, cell_set h.c3 rfl, cell_set h.c4 rfl, cell_set h.c5 rfl, cell_set h.c6 rfl, cell_set h.c7 rfl, cell_set h.c8 rfl, cell_set h.c9 rfl, by simp only [World.size_setCell]; exact h.lt⟩
def noKs : Ks := ⟨0, 0, false, ⟨none, 0, 0⟩, false, 0, 0, 0, 0, false⟩
/-- What a walk through fresh.Col has. -/
structure Fc (w W : World) (k : Ks) (xs : List Int) : Prop where
  bel : Below w.heap.size w W
  kb : CBox W w.heap.size k
  kt : T10 W w.heap.size
  rt : T10 W (w.heap.size + 1)
  wr : WRow W W.heap.size k xs
theorem Fc.next (h : Fc w W k xs) (hb : Below W.heap.size W W') : Fc w W' k xs := ⟨h.bel.trans (hb.mono h.bel.size), h.kb.next hb, h.kt.next hb, h.rt.next hb, h.wr.next hb⟩
theorem fc_start {ty ty' : TypeId} (hk : WRow w w.heap.size k xs) (h : W = (w.alloc (.cells #[.int .i64 k.ph, .int .i64 k.ep, .bool k.mj, .slice k.wk.a k.wk.n k.wk.c, .bool k.ov, .int .i64 k.pa, .int .i64 k.pf, .int .i64 k.ps, .int .i64 k.pc, .bool k.me] ty)).alloc (.cells #[.int .i64 noKs.ph, .int .i64 noKs.ep, .bool noKs.mj, .slice noKs.wk.a noKs.wk.n noKs.wk.c, .bool noKs.ov, .int .i64 noKs.pa, .int .i64 noKs.pf, .int .i64 noKs.ps, .int .i64 noKs.pc, .bool noKs.me] ty')) : Fc w W k xs ∧ W.heap.size = w.heap.size + 2 := by
  have b1 : Below w.heap.size w W := by rw [h]; exact ((Below.refl _ _).alloc (Nat.le_refl _) _).alloc (by simp) _
  have b2 : Below (w.alloc (.cells #[.int .i64 k.ph, .int .i64 k.ep, .bool k.mj, .slice k.wk.a k.wk.n k.wk.c, .bool k.ov, .int .i64 k.pa, .int .i64 k.pf, .int .i64 k.ps, .int .i64 k.pc, .bool k.me] ty)).heap.size (w.alloc (.cells #[.int .i64 k.ph, .int .i64 k.ep, .bool k.mj, .slice k.wk.a k.wk.n k.wk.c, .bool k.ov, .int .i64 k.pa, .int .i64 k.pf, .int .i64 k.ps, .int .i64 k.pc, .bool k.me] ty)) W := by rw [h]; exact (Below.refl _ _).alloc (Nat.le_refl _) _
  have x := T10.new (w.alloc (.cells #[.int .i64 k.ph, .int .i64 k.ep, .bool k.mj, .slice k.wk.a k.wk.n k.wk.c, .bool k.ov, .int .i64 k.pa, .int .i64 k.pf, .int .i64 k.ps, .int .i64 k.pc, .bool k.me] ty)) noKs ty'
  rw [World.size_alloc] at x
  exact ⟨⟨b1, (CBox.new w k ty).next b2, (T10.new w k ty).next b2, by rw [h]; exact x, hk.next b1⟩, by rw [h]; simp⟩
/-- A copy of a collector. -/
def ColOut (w : World) (k : Ks) (xs : List Int) (e : Ending) (w' : World) : Prop := ∃ v : Ls.Sl, e = .returned (.agg #[.int .i64 k.ph, .int .i64 k.ep, .bool k.mj, .slice v.a v.n v.c, .bool k.ov, .int .i64 k.pa, .int .i64 k.pf, .int .i64 k.ps, .int .i64 k.pc, .bool k.me]) ∧ Ls.Alling w w' v xs
theorem col_end (v0 v1 v2 v3 v4 v5 v6 v7 v8 v9 : Value) (h0 : Fc w W k xs ∧ W.heap.size = w.heap.size + 2) {w1 : World} (ho : w1.ownsRow W.heap.size 3 1 (.slice v.a v.n v.c) v.n (xs.map (Value.int .i64))) (hb : Below W.heap.size W w1) (u : Value) :
    ColOut w k xs (.returned (.agg #[.int .i64 k.ph, .int .i64 k.ep, .bool k.mj, .slice v.a v.n v.c, .bool k.ov, .int .i64 k.pa, .int .i64 k.pf, .int .i64 k.ps, .int .i64 k.pc, .bool k.me])) (put10 (w1.setCell ⟨w.heap.size, 3, none⟩ u) (w.heap.size + 1) v0 v1 v2 v3 v4 v5 v6 v7 v8 v9) := by
  obtain ⟨h0, hs⟩ := h0
  refine ⟨v, rfl, ?_, below_put10 (Below.setCell (h0.bel.trans (hb.mono h0.bel.size)) (p := ⟨w.heap.size, 3, none⟩) (Nat.le_refl _) _) (by omega) v0 v1 v2 v3 v4 v5 v6 v7 v8 v9⟩
  refine own_less' (Ls.World.ownsRow.same ho fun g hg _ => ?_) (show w.heap.size ≤ W.heap.size by omega)
  have := (ho.lt g hg).1
  exact (put10_other _ _ v0 v1 v2 v3 v4 v5 v6 v7 v8 v9 (by omega)).trans (Below.heap_setCell _ _ _ _ (by show ¬ g = w.heap.size; omega))
theorem res_col {tm : Array Value} {v0 v1 v2 v3 v4 v5 v6 v7 v8 v9 : Value} (ht : tm[2]? = some (.pointer (some ⟨b, 0, none⟩))) (k0 : W.cell? ⟨b, 0, none⟩ = some v0) (k1 : W.cell? ⟨b, 1, none⟩ = some v1) (k2 : W.cell? ⟨b, 2, none⟩ = some v2) (k3 : W.cell? ⟨b, 3, none⟩ = some v3) (k4 : W.cell? ⟨b, 4, none⟩ = some v4) (k5 : W.cell? ⟨b, 5, none⟩ = some v5) (k6 : W.cell? ⟨b, 6, none⟩ = some v6) (k7 : W.cell? ⟨b, 7, none⟩ = some v7) (k8 : W.cell? ⟨b, 8, none⟩ = some v8) (k9 : W.cell? ⟨b, 9, none⟩ = some v9) :
    (results Tryz.f53 tm).run Tryz.prog W = .ok (.agg #[v0, v1, v2, v3, v4, v5, v6, v7, v8, v9]) W := by
  simp [results, Tryz.results53, go_sem, ht, k0, k1, k2, k3, k4, k5, k6, k7, k8, k9]
end
set_option maxHeartbeats 2000000 in
theorem fcol_any (k : Ks) (xs : List Int) (w : World) (hk : WRow w w.heap.size k xs) (hn : xs.length ≤ 1000000) : Calls Tryz.prog 53 #[(.agg #[.int .i64 k.ph, .int .i64 k.ep, .bool k.mj, .slice k.wk.a k.wk.n k.wk.c, .bool k.ov, .int .i64 k.pa, .int .i64 k.pf, .int .i64 k.ps, .int .i64 k.pc, .bool k.me])] w (ColOut w k xs) := by
  have HK := Lib.hid hk
  have hn' : k.wk.n ≤ 2000000 := by rw [hk.len]; omega
  clear hk hn
  go_enter Tryz.func53, Tryz.ntmps53
  go_wp2_with fail
  obtain ⟨W0, hW0⟩ : ∃ W0, W0 = (w.alloc (.cells #[.int .i64 k.ph, .int .i64 k.ep, .bool k.mj, .slice k.wk.a k.wk.n k.wk.c, .bool k.ov, .int .i64 k.pa, .int .i64 k.pf, .int .i64 k.ps, .int .i64 k.pc, .bool k.me] 30)).alloc (.cells #[.int .i64 0, .int .i64 0, .bool false, .slice none 0 0, .bool false, .int .i64 0, .int .i64 0, .int .i64 0, .int .i64 0, .bool false] 30) := ⟨_, rfl⟩
  have K0 := Lib.hid (fc_start HK.out hW0)
  rw [← hW0]
  clear hW0
  refine (iclone_any W0.heap.size k.wk.a k.wk.n k.wk.c xs W0 hn' (Nat.le_refl _) K0.out.1.wr).mono ?_
  rintro e w1 ⟨v, rfl, ho, hb⟩
  have T1 := Lib.hid (And.intro ho hb)
  have K1 := Lib.hid (K0.out.1.next hb)
  have q3 := K1.out.kb.c3
  have ql := K1.out.kb.lt
  have f3 := K1.out.kt.free 3
  clear ho hb
  go_upto_region 2 with fail
  obtain ⟨W2, hW2⟩ : ∃ W2, W2 = w1.setCell ⟨w.heap.size, 3, none⟩ (.slice v.a v.n v.c) := ⟨_, rfl⟩
  have KB : Hid (CBox W2 w.heap.size (kw k v k.ov)) := Lib.hid (by rw [hW2]; exact K1.out.kb.put3 v)
  have RT : Hid (T10 W2 (w.heap.size + 1)) := Lib.hid (K1.out.rt.same (by rw [hW2]; exact Below.heap_setCell _ _ _ _ (by show ¬ w.heap.size + 1 = w.heap.size; omega)) (by rw [hW2]; simp [World.setCell]))
  have HW := Lib.hid hW2
  rw [← hW2]
  clear hW2 q3 ql f3
  have p0 := (KB.out).c0
  have p1 := (KB.out).c1
  have p2 := (KB.out).c2
  have p3 := (KB.out).c3
  have p4 := (KB.out).c4
  have p5 := (KB.out).c5
  have p6 := (KB.out).c6
  have p7 := (KB.out).c7
  have p8 := (KB.out).c8
  have p9 := (KB.out).c9
  have pl := (KB.out).lt
  dsimp only [kw] at p0 p1 p2 p3 p4 p5 p6 p7 p8 p9
  have rl := RT.out.lt
  obtain ⟨x0, h0⟩ := RT.out.has 0 (by decide)
  obtain ⟨x1, h1⟩ := RT.out.has 1 (by decide)
  obtain ⟨x2, h2⟩ := RT.out.has 2 (by decide)
  obtain ⟨x3, h3⟩ := RT.out.has 3 (by decide)
  obtain ⟨x4, h4⟩ := RT.out.has 4 (by decide)
  obtain ⟨x5, h5⟩ := RT.out.has 5 (by decide)
  obtain ⟨x6, h6⟩ := RT.out.has 6 (by decide)
  obtain ⟨x7, h7⟩ := RT.out.has 7 (by decide)
  obtain ⟨x8, h8⟩ := RT.out.has 8 (by decide)
  obtain ⟨x9, h9⟩ := RT.out.has 9 (by decide)
  have y0 := RT.out.free 0
  have y1 := RT.out.free 1
  have y2 := RT.out.free 2
  have y3 := RT.out.free 3
  have y4 := RT.out.free 4
  have y5 := RT.out.free 5
  have y6 := RT.out.free 6
  have y7 := RT.out.free 7
  have y8 := RT.out.free 8
  have y9 := RT.out.free 9
  go_wp2
  refine bodyPost_ret (v := (.agg #[.int .i64 k.ph, .int .i64 k.ep, .bool k.mj, .slice v.a v.n v.c, .bool k.ov, .int .i64 k.pa, .int .i64 k.pf, .int .i64 k.ps, .int .i64 k.pc, .bool k.me])) ?_ rfl (by rw [HW.out]; exact col_end _ _ _ _ _ _ _ _ _ _ K0.out T1.out.1 T1.out.2 _)
  obtain ⟨k0, k1, k2, k3, k4, k5, k6, k7, k8, k9⟩ := put10_at RT.out (.int .i64 k.ph) (.int .i64 k.ep) (.bool k.mj) (.slice v.a v.n v.c) (.bool k.ov) (.int .i64 k.pa) (.int .i64 k.pf) (.int .i64 k.ps) (.int .i64 k.pc) (.bool k.me)
  exact res_col rfl k0 k1 k2 k3 k4 k5 k6 k7 k8 k9
end Go.Proofs.YtgmkomnoiffapaaGreatDoor.Sh
end
section
namespace Go.Proofs.YtgmkomnoiffapaaGreatDoor.Ha
open Go.Proofs.YtgmkomnoiffapaaGreatDoor Go.Proofs.YtgmkomnoiffapaaGreatDoor.Rt
open Go.RowKit
set_option maxRecDepth 100000

/-- The slice holds the threads g 0 to g (n - 1), in a block below B. -/
def TRow (w : World) (B : Nat) (a : Option Addr) (n : Nat) (g : Nat → Ts) : Prop :=
  0 < n → ∃ b off, a = some ⟨b, off, none⟩ ∧ b < B ∧ ∀ i, i < n → ∀ j v, (tv (g i))[j]? = some v → w.cell? ⟨b, off + i * 15 + j, none⟩ = some v
section
variable {w w' W : World} {B B' n b : Nat} {a : Option Addr} {g : Nat → Ts} {t : Ts}
theorem TRow.below (h : TRow w B a n g) (hb : Below B w w') : TRow w' B a n g := fun hn => by
  obtain ⟨b, off, e, hlt, hc⟩ := h hn
  exact ⟨b, off, e, hlt, fun i hi j v hv => (hb.cell (p := ⟨b, off + i * 15 + j, none⟩) hlt).trans (hc i hi j v hv)⟩
theorem TRow.more (h : TRow w B a n g) (hB : B ≤ B') : TRow w B' a n g := fun hn => by
  obtain ⟨b, off, e, hb, hc⟩ := h hn
  exact ⟨b, off, e, by omega, hc⟩
theorem TRow.next (h : TRow w w.heap.size a n g) (hb : Below w.heap.size w w') : TRow w' w'.heap.size a n g := (h.below hb).more hb.size
theorem TRow.empty (w : World) (B : Nat) (a : Option Addr) (g : Nat → Ts) : TRow w B a 0 g := fun h => absurd h (by omega)
theorem inf_thread : (Tryz.prog.info? 34).map (·.size) = some 15 := by kernel_rfl
/-- One of them is loaded whole. -/
theorem TRow.load {off i : Nat} (h : TRow w B a n g) (ha : a = some ⟨b, off, none⟩) (hi : i < n) : (Instr.loadAt 34 (.pointer (some ⟨b, off + i * 15, none⟩))).run Tryz.prog w = .ok (.agg #[.bool (g i).lv, .int .i64 ((g i).r 0), .int .i64 ((g i).r 1), .int .i64 ((g i).r 2), .int .i64 ((g i).r 3), .slice ((g i).u 0).a ((g i).u 0).n ((g i).u 0).c, .slice ((g i).u 1).a ((g i).u 1).n ((g i).u 1).c, .slice ((g i).u 2).a ((g i).u 2).n ((g i).u 2).c, .int .i64 (g i).ep, .int .i64 (g i).sg, .int .i64 (g i).rt, .slice (g i).o.a (g i).o.n (g i).o.c, .int .i64 (g i).pc, .int .i64 (g i).x, .int .i64 (g i).y]) w := by
  obtain ⟨b', off', e, _, hc⟩ := h (by omega)
  rw [ha] at e
  cases e
  exact run_loadAt_mid w b (off + i * 15) _ (tv (g i)) _ (fun j v hj => hc i hi j v hj) Tryz.underlying34 rfl inf_thread
end
end Go.Proofs.YtgmkomnoiffapaaGreatDoor.Ha
end
section
namespace Go.Proofs.YtgmkomnoiffapaaGreatDoor.Mu
open Go.Proofs.YtgmkomnoiffapaaGreatDoor Go.Proofs.YtgmkomnoiffapaaGreatDoor.Rt
open Go.RowKit
set_option maxRecDepth 100000

def hv (s : Hs) : List Value := [.slice s.w.a s.w.n s.w.c, .slice s.p.a s.p.n s.p.c, .slice (s.u 0).a (s.u 0).n (s.u 0).c, .slice (s.u 1).a (s.u 1).n (s.u 1).c, .slice (s.u 2).a (s.u 2).n (s.u 2).c, .slice s.c.a s.c.n s.c.c]
def kv (k : Sh.Ks) : List Value := [.int .i64 k.ph, .int .i64 k.ep, .bool k.mj, .slice k.wk.a k.wk.n k.wk.c, .bool k.ov, .int .i64 k.pa, .int .i64 k.pf, .int .i64 k.ps, .int .i64 k.pc, .bool k.me]
def o0 : O4 := ⟨0, 0, 0, 0⟩
def noHs0 : Hs := ⟨⟨none, 0, 0⟩, ⟨none, 0, 0⟩, Ls.noSl, ⟨none, 0, 0⟩⟩
def noK0 : Sh.Ks := ⟨0, 0, false, ⟨none, 0, 0⟩, false, 0, 0, 0, 0, false⟩
/-- A part of a box. -/
def Part (vs : List Value) (o : Nat) (cs : List Value) : Prop := ∀ j v, cs[j]? = some v → vs[o + j]? = some v
section
variable {W : World} {b o : Nat} {vs cs : List Value}
theorem ld (h : Box W b vs) (hp : Part vs o cs) (ty : TypeId) {d : TypeDesc} (hu : Tryz.prog.underlying ty = some d) (hd : d.isRow = true) (hi : (Tryz.prog.info? ty).map (·.size) = some cs.length) :
    (Instr.loadAt ty (.pointer (some ⟨b, o, none⟩))).run Tryz.prog W = .ok (.agg cs.toArray) W :=
  run_loadAt_mid W b o ty cs d (fun j v hj => h.cel (o + j) v (hp j v hj)) hu hd hi
theorem setCells_puts (b : Nat) : ∀ (cs : List Value) (o : Nat) (W : World), W.setCells b o cs = puts b o cs W := by
  intro cs
  induction cs with
  | nil => intro o W; rfl
  | cons c cs ih => intro o W; first | exact ih (o + 1) _ | (simp only [World.setCells, puts]; exact ih (o + 1) _)
theorem st (h : Box W b vs) (hn : o + cs.length ≤ vs.length) (ty : TypeId) (hi : (Tryz.prog.info? ty).map (·.size) = some cs.length) (h1 : cs.toArray.all (·.oneCell') = true) :
    (Instr.storeAt ty (.pointer (some ⟨b, o, none⟩)) (.agg cs.toArray)).run Tryz.prog W = .ok () (puts b o cs W) := by
  rw [← setCells_puts]
  have := run_storeAt_mid (P := Tryz.prog) W b o ty cs.toArray (fun j hj => ⟨by
    have hj' : o + j < vs.length := by simp at hj; omega
    rw [h.cel (o + j) _ (List.getElem?_eq_getElem hj')]
    rfl, h.free _⟩) (by simpa using hi) h1
  simpa using this
end
end Go.Proofs.YtgmkomnoiffapaaGreatDoor.Mu
end
section
namespace Go.Proofs.YtgmkomnoiffapaaGreatDoor.Mu
open Go.Proofs.YtgmkomnoiffapaaGreatDoor Go.Proofs.YtgmkomnoiffapaaGreatDoor.Rt
open Go.RowKit
set_option maxRecDepth 100000

theorem Part.refl (vs : List Value) : Part vs 0 vs := fun j v h => by rw [Nat.zero_add]; exact h
theorem sets_eq : ∀ (vs : List Value) (j : Nat) (us : List Value), j + vs.length ≤ us.length → sets j vs us = us.take j ++ vs ++ us.drop (j + vs.length)
  | [], j, us, _ => by simp [sets]
  | v :: vs, j, us, h => by
    have hl : j + 1 + vs.length ≤ (us.set j v).length := by simp at h ⊢; omega
    have hj : j < us.length := by simp at h; omega
    show sets (j + 1) vs (us.set j v) = _
    rw [sets_eq vs (j + 1) (us.set j v) hl, List.drop_set_of_lt (by omega), show j + (v :: vs).length = j + 1 + vs.length by simp; omega]
    have : (us.set j v).take (j + 1) = us.take j ++ [v] := by
      rw [List.take_succ_eq_append_getElem (by simpa using hj), List.getElem_set_self, List.take_set_of_le (Nat.le_refl _)]
    rw [this]
    simp
theorem infH : (Tryz.prog.info? 28).map (·.size) = some 6 := by kernel_rfl
theorem infK : (Tryz.prog.info? 30).map (·.size) = some 10 := by kernel_rfl
theorem infT : (Tryz.prog.info? 34).map (·.size) = some 15 := by kernel_rfl
section
variable {w W W0 : World} {ops : Array Oper} {rest : List Oper} {o : Oper} {a : Act} {Q : Exit → Act → World → Prop}
theorem w_load {x : Operand} {ty : TypeId} {p v : Value} (hr : (Instr.loadAt ty p).run Tryz.prog W0 = .ok v W0) (hw : W = W0) (hgd : o.guard = none) (ho : o.op = .load ty x) (hx : a.eval x = p) (hK : wpList Tryz.prog ops Q rest (a.put o.dst v) W) : wpList Tryz.prog ops Q (o :: rest) a W :=
  wpList_plain hgd fun _ hK' => by
    subst hw
    unfold Oper.wp execOp
    simp only [ho, hx, Sem.run_bind, hr, Result.andThen_ok]
    exact hK' _ _ hK
theorem w_store {x y : Operand} {ty : TypeId} {p v : Value} {W' : World} (hr : (Instr.storeAt ty p v).run Tryz.prog W0 = .ok () W') (hw : W = W0) (hgd : o.guard = none) (ho : o.op = .store ty x y) (hx : a.eval x = p) (hy : a.eval y = v) (hK : wpList Tryz.prog ops Q rest (a.put o.dst undef) W') : wpList Tryz.prog ops Q (o :: rest) a W :=
  wpList_plain hgd fun _ hK' => by
    subst hw
    unfold Oper.wp execOp
    simp only [ho, hx, hy, Sem.run_bind, hr, Result.andThen_ok]
    exact hK' _ _ hK
theorem w_loadg {x : Operand} {ty : TypeId} {p v : Value} (hr : (Instr.loadAt ty p).run Tryz.prog W0 = .ok v W0) (hw : W = W0) (hgd : Region.wanted o (yielded ops a.tmps) = true) (ho : o.op = .load ty x) (hx : a.eval x = p) (hK : wpList Tryz.prog ops Q rest (a.put o.dst v) W) : wpList Tryz.prog ops Q (o :: rest) a W := by
  subst hw
  refine wpList_step fun K hK' => ?_
  rw [if_pos hgd]
  unfold Oper.wp execOp
  simp only [ho, hx, Sem.run_bind, hr, Result.andThen_ok]
  exact hK' _ _ hK
end
section
variable {W : World} {b : Nat} {vs : List Value} {s : Hs} {k : Sh.Ks} {t : Ts}
/-- Loads of whole values, and stores. -/
theorem ldHb (h : Box W b (hv s)) : (Instr.loadAt 28 (.pointer (some ⟨b, 0, none⟩))).run Tryz.prog W = .ok (.agg #[.slice s.w.a s.w.n s.w.c, .slice s.p.a s.p.n s.p.c, .slice (s.u 0).a (s.u 0).n (s.u 0).c, .slice (s.u 1).a (s.u 1).n (s.u 1).c, .slice (s.u 2).a (s.u 2).n (s.u 2).c, .slice s.c.a s.c.n s.c.c]) W := ld h (cs := hv s) (Part.refl _) _ Tryz.underlying28 rfl infH
theorem ldKb (h : Box W b (kv k)) : (Instr.loadAt 30 (.pointer (some ⟨b, 0, none⟩))).run Tryz.prog W = .ok (.agg #[.int .i64 k.ph, .int .i64 k.ep, .bool k.mj, .slice k.wk.a k.wk.n k.wk.c, .bool k.ov, .int .i64 k.pa, .int .i64 k.pf, .int .i64 k.ps, .int .i64 k.pc, .bool k.me]) W := ld h (cs := kv k) (Part.refl _) _ Tryz.underlying30 rfl infK
theorem ldTb (h : Box W b (tv t)) : (Instr.loadAt 34 (.pointer (some ⟨b, 0, none⟩))).run Tryz.prog W = .ok (.agg #[.bool t.lv, .int .i64 (t.r 0), .int .i64 (t.r 1), .int .i64 (t.r 2), .int .i64 (t.r 3), .slice (t.u 0).a (t.u 0).n (t.u 0).c, .slice (t.u 1).a (t.u 1).n (t.u 1).c, .slice (t.u 2).a (t.u 2).n (t.u 2).c, .int .i64 t.ep, .int .i64 t.sg, .int .i64 t.rt, .slice t.o.a t.o.n t.o.c, .int .i64 t.pc, .int .i64 t.x, .int .i64 t.y]) W := ld h (cs := tv t) (Part.refl _) _ Tryz.underlying34 rfl infT
theorem stHb (h : Box W b vs) (hl : vs.length = 6) (x : Hs) : (Instr.storeAt 28 (.pointer (some ⟨b, 0, none⟩)) (.agg #[.slice x.w.a x.w.n x.w.c, .slice x.p.a x.p.n x.p.c, .slice (x.u 0).a (x.u 0).n (x.u 0).c, .slice (x.u 1).a (x.u 1).n (x.u 1).c, .slice (x.u 2).a (x.u 2).n (x.u 2).c, .slice x.c.a x.c.n x.c.c])).run Tryz.prog W = .ok () (puts b 0 (hv x) W) := st h (cs := hv x) (by rw [hl]; exact Nat.le_refl 6) _ infH (by kernel_rfl)
theorem stKb (h : Box W b vs) (hl : vs.length = 10) (x : Sh.Ks) : (Instr.storeAt 30 (.pointer (some ⟨b, 0, none⟩)) (.agg #[.int .i64 x.ph, .int .i64 x.ep, .bool x.mj, .slice x.wk.a x.wk.n x.wk.c, .bool x.ov, .int .i64 x.pa, .int .i64 x.pf, .int .i64 x.ps, .int .i64 x.pc, .bool x.me])).run Tryz.prog W = .ok () (puts b 0 (kv x) W) := st h (cs := kv x) (by rw [hl]; exact Nat.le_refl 10) _ infK (by kernel_rfl)
theorem stTb (h : Box W b vs) (hl : vs.length = 15) (x : Ts) : (Instr.storeAt 34 (.pointer (some ⟨b, 0, none⟩)) (.agg #[.bool x.lv, .int .i64 (x.r 0), .int .i64 (x.r 1), .int .i64 (x.r 2), .int .i64 (x.r 3), .slice (x.u 0).a (x.u 0).n (x.u 0).c, .slice (x.u 1).a (x.u 1).n (x.u 1).c, .slice (x.u 2).a (x.u 2).n (x.u 2).c, .int .i64 x.ep, .int .i64 x.sg, .int .i64 x.rt, .slice x.o.a x.o.n x.o.c, .int .i64 x.pc, .int .i64 x.x, .int .i64 x.y])).run Tryz.prog W = .ok () (puts b 0 (tv x) W) := st h (cs := tv x) (by rw [hl]; exact Nat.le_refl 15) _ infT (by kernel_rfl)
/-- One cell is stored. -/
theorem st_int (h : Box W b vs) {j : Nat} (hj : j < vs.length) (x : Int) : (Instr.storeAt 3 (.pointer (some ⟨b, j, none⟩)) (.int .i64 x)).run Tryz.prog W = .ok () (W.setCell ⟨b, j, none⟩ (.int .i64 x)) := by
  have c := h.cel j _ (List.getElem?_eq_getElem hj)
  have f := h.free j
  go_simp
theorem ld_int (h : Box W b vs) {j : Nat} {x : Int} (hj : vs[j]? = some (.int .i64 x)) : (Instr.loadAt 3 (.pointer (some ⟨b, j, none⟩))).run Tryz.prog W = .ok (.int .i64 x) W := by
  have c := h.cel j _ hj
  go_simp
theorem st_bool (h : Box W b vs) {j : Nat} (hj : j < vs.length) (x : Bool) : (Instr.storeAt 4 (.pointer (some ⟨b, j, none⟩)) (.bool x)).run Tryz.prog W = .ok () (W.setCell ⟨b, j, none⟩ (.bool x)) := by
  have c := h.cel j _ (List.getElem?_eq_getElem hj)
  have f := h.free j
  go_simp
/-- A box is filled anew. -/
theorem box_all {us : List Value} (h : Box W b vs) (hl : vs.length = us.length) : Box (puts b 0 us W) b us := by
  have := Box.puts us 0 h
  rw [sets_eq us 0 vs (by omega), show vs.take 0 ++ us ++ vs.drop (0 + us.length) = us by simp [← hl]] at this
  exact this
end
end Go.Proofs.YtgmkomnoiffapaaGreatDoor.Mu
end
section
namespace Go.Proofs.YtgmkomnoiffapaaGreatDoor.Mu
open Go.Proofs.YtgmkomnoiffapaaGreatDoor Go.Proofs.YtgmkomnoiffapaaGreatDoor.Rt
open Go.RowKit
set_option maxRecDepth 100000

/-- A slice lies apart from a block. -/
def Off (b : Nat) (s : Ls.Sl) : Prop := 0 < s.n → ∀ x, s.a = some x → ¬ x.block = b
structure OffH (b : Nat) (s : Hs) : Prop where
  w : Off b s.w
  p : Off b s.p
  u : ∀ j, j < 3 → Off b (s.u j)
  c : Off b s.c
structure OffT (b : Nat) (t : Ts) : Prop where
  u : ∀ j, j < 3 → Off b (t.u j)
  o : Off b t.o
section
variable {w W W' : World} {B n b : Nat} {a : Option Addr} {xs : List Int} {s : Hs} {t : Ts} {d : Hd_} {F : Nat → List Int} {g : Nat → O4}
theorem row_lies (h : Row w B a n xs) : 0 < n → ∀ x, a = some x → x.block < B := fun hn x hx => by
  obtain ⟨b, off, e, hlt, _⟩ := h.2 hn
  rw [hx] at e
  cases e
  exact hlt
theorem row_keep (h : Row w B a n xs) (hs : 0 < n → ∀ x, a = some x → W.heap[x.block]? = w.heap[x.block]?) : Row W B a n xs :=
  ⟨h.1, fun hn => by
    obtain ⟨b, off, e, hlt, hc⟩ := h.2 hn
    have hb := hs hn _ e
    exact ⟨b, off, e, hlt, fun i hi => (World.cell?_of_block (w := w) (w' := W) (a := ⟨b, off + i, none⟩) hb).trans (hc i hi)⟩⟩
theorem prow_lies {f : Nat → Int × Int} (h : Cl.PRow w B a n f) : 0 < n → ∀ x, a = some x → x.block < B := fun hn x hx => by
  obtain ⟨b, off, e, hlt, _⟩ := h hn
  rw [hx] at e
  cases e
  exact hlt
theorem prow_keep {f : Nat → Int × Int} (h : Cl.PRow w B a n f) (hs : 0 < n → ∀ x, a = some x → W.heap[x.block]? = w.heap[x.block]?) : Cl.PRow W B a n f := fun hn => by
  obtain ⟨b, off, e, hlt, hc⟩ := h hn
  have hb := hs hn _ e
  exact ⟨b, off, e, hlt, fun i hi => ⟨(World.cell?_of_block (w := w) (w' := W) (a := ⟨b, off + i * 2, none⟩) hb).trans (hc i hi).1, (World.cell?_of_block (w := w) (w' := W) (a := ⟨b, off + i * 2 + 1, none⟩) hb).trans (hc i hi).2⟩⟩
theorem brow_lies {f : Nat → Bool} (h : BRow w B a n f) : 0 < n → ∀ x, a = some x → x.block < B := fun hn x hx => by
  obtain ⟨b, off, e, hlt, _⟩ := h hn
  rw [hx] at e
  cases e
  exact hlt
theorem brow_keep {f : Nat → Bool} (h : BRow w B a n f) (hs : 0 < n → ∀ x, a = some x → W.heap[x.block]? = w.heap[x.block]?) : BRow W B a n f := fun hn => by
  obtain ⟨b, off, e, hlt, hc⟩ := h hn
  have hb := hs hn _ e
  exact ⟨b, off, e, hlt, fun i hi => (World.cell?_of_block (w := w) (w' := W) (a := ⟨b, off + i, none⟩) hb).trans (hc i hi)⟩
theorem orow_lies (h : ORow w B a n g) : 0 < n → ∀ x, a = some x → x.block < B := fun hn x hx => by
  obtain ⟨b, off, e, hlt, _⟩ := h hn
  rw [hx] at e
  cases e
  exact hlt
end
section
variable {w W : World} {B b : Nat} {s : Hs} {t : Ts} {d : Hd_} {F : Nat → List Int} {g : Nat → O4}
theorem hp_off (h : Hp w B s d) (ha : OffH b s) (hs : ∀ k, ¬ k = b → W.heap[k]? = w.heap[k]?) : Hp W B s d :=
  have k := fun {u : Ls.Sl} (h : Off b u) (hn : 0 < u.n) x hx => hs x.block (h hn x hx)
  ⟨row_keep h.words (k ha.w), prow_keep h.pages (k ha.p), fun j hj => ⟨row_keep (h.free j hj).1 (k (ha.u j hj)), (h.free j hj).2⟩, brow_keep h.cards (k ha.c)⟩
theorem th_off (h : Th w B t F g) (ha : OffT b t) (hs : ∀ k, ¬ k = b → W.heap[k]? = w.heap[k]?) : Th W B t F g :=
  have k := fun {u : Ls.Sl} (h : Off b u) (hn : 0 < u.n) x hx => hs x.block (h hn x hx)
  ⟨fun j hj => ⟨row_keep (h.c j hj).1 (k (ha.u j hj)), (h.c j hj).2⟩, h.o.same (k ha.o), h.k⟩
theorem offh_old (h : Hp w b s d) : OffH b s := ⟨fun hn x hx => by have := row_lies h.words hn x hx; omega, fun hn x hx => by have := prow_lies h.pages hn x hx; omega, fun j hj hn x hx => by have := row_lies (h.free j hj).1 hn x hx; omega, fun hn x hx => by have := brow_lies h.cards hn x hx; omega⟩
end
theorem all_row9 {w w' : World} {s : Ls.Sl} {xs : List Int} (ho : w'.ownsRow w.heap.size 3 1 (.slice s.a s.n s.c) s.n (xs.map (Value.int .i64))) : Row w' w'.heap.size s.a s.n xs := by
  obtain ⟨a1, c1, e1, r1, _, _⟩ := Ls.owns_row ho
  simp only [Value.slice.injEq, true_and] at e1
  obtain ⟨rfl, rfl⟩ := e1
  exact r1
end Go.Proofs.YtgmkomnoiffapaaGreatDoor.Mu
end
section
namespace Go.Proofs.YtgmkomnoiffapaaGreatDoor.Ha
open Go.Proofs.YtgmkomnoiffapaaGreatDoor Go.Proofs.YtgmkomnoiffapaaGreatDoor.Rt
open Go.RowKit
set_option maxRecDepth 100000

structure Q3 where
  s : Hs
  k : Sh.Ks
  t : Ts
  d : Hd_
  xs : List Int
  F : Nat → List Int
  g : Nat → O4
structure Hold (w : World) (P : Q3) : Prop where
  h : Hp w w.heap.size P.s P.d
  c : Sh.WRow w w.heap.size P.k P.xs
  t : Th w w.heap.size P.t P.F P.g
/-- A slice of threads. -/
structure Tl where
  s : Ls.Sl
  g : Nat → Ts
structure Lb (w W : World) (bs : List (Nat × List Value)) (ps : List Q3) (rs : List Tl) : Prop where
  bel : Below w.heap.size w W
  box : ∀ x ∈ bs, Box W x.1 x.2
  hold : ∀ x ∈ ps, Hold W x
  row : ∀ x ∈ rs, TRow W W.heap.size x.s.a x.s.n x.g
section
variable {w W W' : World} {bs : List (Nat × List Value)} {ps : List Q3} {rs : List Tl} {P : Q3} {b : Nat} {vs : List Value} {T : Tl}
theorem Hold.next (h : Hold W P) (hb : Below W.heap.size W W') : Hold W' P := ⟨h.h.next hb, h.c.next hb, h.t.next hb⟩
theorem Lb.next (h : Lb w W bs ps rs) (hb : Below W.heap.size W W') : Lb w W' bs ps rs := ⟨h.bel.trans (hb.mono h.bel.size), fun x hx => (h.box x hx).next hb, fun x hx => (h.hold x hx).next hb, fun x hx => (h.row x hx).next hb⟩
theorem Lb.bx (h : Lb w W bs ps rs) (b : Nat) (vs : List Value) (hm : (b, vs) ∈ bs) : Box W b vs := h.box _ hm
theorem Lb.at (h : Lb w W bs ps rs) (P : Q3) (hm : P ∈ ps) : Hold W P := h.hold _ hm
theorem Lb.rw (h : Lb w W bs ps rs) (T : Tl) (hm : T ∈ rs) : TRow W W.heap.size T.s.a T.s.n T.g := h.row _ hm
theorem Lb.lay (h : Lb w W bs ps rs) (vs : List Value) (ty : TypeId) : Lb w (W.alloc (.cells vs.toArray ty)) ((W.heap.size, vs) :: bs) ps rs := by
  have n := h.next ((Below.refl W.heap.size W).alloc (Nat.le_refl _) (.cells vs.toArray ty))
  exact ⟨n.bel, fun x hx => (by
    rcases List.mem_cons.1 hx with rfl | hx
    · exact Box.new W vs ty
    · exact n.box x hx), n.hold, n.row⟩
theorem Lb.held (h : Lb w W bs ps rs) (hP : Hold W P) : Lb w W bs (P :: ps) rs := ⟨h.bel, h.box, fun x hx => (by
    rcases List.mem_cons.1 hx with rfl | hx
    · exact hP
    · exact h.hold x hx), h.row⟩
theorem Lb.rows (h : Lb w W bs ps rs) (hT : TRow W W.heap.size T.s.a T.s.n T.g) : Lb w W bs ps (T :: rs) := ⟨h.bel, h.box, h.hold, fun x hx => (by
    rcases List.mem_cons.1 hx with rfl | hx
    · exact hT
    · exact h.row x hx)⟩
theorem Lb.over (h : Lb w W bs ps rs) (hz : Cl.Sz w) : Cl.Sz W := hz.over h.bel hz.pos
theorem lb_none (w : World) : Lb w w [] [] [] := ⟨Below.refl _ _, fun x hx => (by cases hx), fun x hx => (by cases hx), fun x hx => (by cases hx)⟩
/-- A slice of one thread, in a box of its own. -/
theorem one_row {w : World} {b B : Nat} {t : Ts} (h : Box w b (tv t)) (hb : b < B) : TRow w B (some ⟨b, 0, none⟩) 1 (fun _ => t) := fun _ => ⟨b, 0, rfl, hb, fun i hi j v hv => (by
  obtain rfl : i = 0 := by omega
  rw [Nat.zero_mul, Nat.zero_add]
  exact h.cel j v hv)⟩
end
open Go.Proofs.YtgmkomnoiffapaaGreatDoor.Mu (hv kv)
def boxes3 (b : Nat) (s : Hs) (k : Sh.Ks) (t : Ts) : List (Nat × List Value) := [(b + 2, tv t), (b + 1, kv k), (b, hv s)]
theorem lb_three {w W : World} {bs : List (Nat × List Value)} {ps : List Q3} {rs : List Tl} {s : Hs} {k : Sh.Ks} {t : Ts} {w0 : World} {t1 t2 t3 : TypeId} (hh : Lb w0 w bs ps rs) (h : W = ((w.alloc (.cells (hv s).toArray t1)).alloc (.cells (kv k).toArray t2)).alloc (.cells (tv t).toArray t3)) : Lb w0 W (boxes3 w.heap.size s k t ++ bs) ps rs := by
  have l := ((hh.lay (hv s) t1).lay (kv k) t2).lay (tv t) t3
  rw [World.size_alloc, World.size_alloc] at l
  rw [h]
  exact l
end Go.Proofs.YtgmkomnoiffapaaGreatDoor.Ha
end
section
namespace Go.Proofs.YtgmkomnoiffapaaGreatDoor.Rt
open Go.Proofs.YtgmkomnoiffapaaGreatDoor
open Go.RowKit
set_option maxRecDepth 100000

theorem arm_is (ph ep : Int) (t : Ts) : armB ph ep t = ((t.ep == ep) && decide (1 ≤ ph) && decide (ph ≤ 5)) := by
  unfold armB
  rw [Bool.eq_iff_iff]
  simp only [decide_eq_true_eq, Bool.and_eq_true, beq_iff_eq]
  exact ⟨fun h => ⟨⟨h.1, h.2.1⟩, h.2.2⟩, fun h => ⟨h.1.1, h.1.2, h.2⟩⟩
theorem black_is (ph ep : Int) (t : Ts) : blackB ph ep t = ((t.ep == ep) && (t.sg == 3) && (ph != 0)) := by
  unfold blackB
  rw [Bool.eq_iff_iff]
  simp only [decide_eq_true_eq, Bool.and_eq_true, beq_iff_eq, bne_iff_ne]
  exact ⟨fun h => ⟨⟨h.1, h.2.1⟩, h.2.2⟩, fun h => ⟨h.1.1, h.1.2, h.2⟩⟩
theorem two_boxes (w : World) (o p : Obj) : Below w.heap.size w ((w.alloc o).alloc p) := ((Below.refl _ _).alloc (Nat.le_refl _) _).alloc (by simp) _
set_option maxHeartbeats 1000000 in
theorem parmed_core (k : Sh.Ks) (t : Ts) (b1 b2 b3 : Bool) (h1 : (t.ep == k.ep) = b1) (h2 : decide (1 ≤ k.ph) = b2) (h3 : decide (k.ph ≤ 5) = b3) (w : World) :
    Calls Tryz.prog 19 #[(.agg #[.int .i64 k.ph, .int .i64 k.ep, .bool k.mj, .slice k.wk.a k.wk.n k.wk.c, .bool k.ov, .int .i64 k.pa, .int .i64 k.pf, .int .i64 k.ps, .int .i64 k.pc, .bool k.me]), (.agg #[.bool t.lv, .int .i64 (t.r 0), .int .i64 (t.r 1), .int .i64 (t.r 2), .int .i64 (t.r 3), .slice (t.u 0).a (t.u 0).n (t.u 0).c, .slice (t.u 1).a (t.u 1).n (t.u 1).c, .slice (t.u 2).a (t.u 2).n (t.u 2).c, .int .i64 t.ep, .int .i64 t.sg, .int .i64 t.rt, .slice t.o.a t.o.n t.o.c, .int .i64 t.pc, .int .i64 t.x, .int .i64 t.y])] w fun e w' => e = .returned (.bool (b1 && b2 && b3)) ∧ Below w.heap.size w w' := by
  have g1 : decide (t.ep = k.ep) = b1 := by rw [← h1]; rfl
  cases b1 with
  | false =>
    clear h2 h3
    go_enter Tryz.func19, Tryz.ntmps19
    go_wp2
    go_ret
    exact ⟨rfl, two_boxes _ _ _⟩
  | true =>
    cases b2 with
    | false =>
      clear h3
      go_enter Tryz.func19, Tryz.ntmps19
      go_wp2
      go_ret
      exact ⟨rfl, two_boxes _ _ _⟩
    | true =>
      cases b3 with
      | false =>
        go_enter Tryz.func19, Tryz.ntmps19
        go_wp2
        go_ret
        exact ⟨rfl, two_boxes _ _ _⟩
      | true =>
        go_enter Tryz.func19, Tryz.ntmps19
        go_wp2
        go_ret
        exact ⟨rfl, two_boxes _ _ _⟩
theorem parmed_any (k : Sh.Ks) (t : Ts) (w : World) : Calls Tryz.prog 19 #[(.agg #[.int .i64 k.ph, .int .i64 k.ep, .bool k.mj, .slice k.wk.a k.wk.n k.wk.c, .bool k.ov, .int .i64 k.pa, .int .i64 k.pf, .int .i64 k.ps, .int .i64 k.pc, .bool k.me]), (.agg #[.bool t.lv, .int .i64 (t.r 0), .int .i64 (t.r 1), .int .i64 (t.r 2), .int .i64 (t.r 3), .slice (t.u 0).a (t.u 0).n (t.u 0).c, .slice (t.u 1).a (t.u 1).n (t.u 1).c, .slice (t.u 2).a (t.u 2).n (t.u 2).c, .int .i64 t.ep, .int .i64 t.sg, .int .i64 t.rt, .slice t.o.a t.o.n t.o.c, .int .i64 t.pc, .int .i64 t.x, .int .i64 t.y])] w fun e w' => e = .returned (.bool (armB k.ph k.ep t)) ∧ Below w.heap.size w w' := by
  rw [arm_is]
  exact parmed_core k t _ _ _ rfl rfl rfl w
set_option maxHeartbeats 1000000 in
theorem pblack_core (k : Sh.Ks) (t : Ts) (b1 b2 b3 : Bool) (h1 : (t.ep == k.ep) = b1) (h2 : (t.sg == 3) = b2) (h3 : (k.ph != 0) = b3) (w : World) :
    Calls Tryz.prog 22 #[(.agg #[.int .i64 k.ph, .int .i64 k.ep, .bool k.mj, .slice k.wk.a k.wk.n k.wk.c, .bool k.ov, .int .i64 k.pa, .int .i64 k.pf, .int .i64 k.ps, .int .i64 k.pc, .bool k.me]), (.agg #[.bool t.lv, .int .i64 (t.r 0), .int .i64 (t.r 1), .int .i64 (t.r 2), .int .i64 (t.r 3), .slice (t.u 0).a (t.u 0).n (t.u 0).c, .slice (t.u 1).a (t.u 1).n (t.u 1).c, .slice (t.u 2).a (t.u 2).n (t.u 2).c, .int .i64 t.ep, .int .i64 t.sg, .int .i64 t.rt, .slice t.o.a t.o.n t.o.c, .int .i64 t.pc, .int .i64 t.x, .int .i64 t.y])] w fun e w' => e = .returned (.bool (b1 && b2 && b3)) ∧ Below w.heap.size w w' := by
  have g1 : decide (t.ep = k.ep) = b1 := by rw [← h1]; rfl
  have g2 : decide (t.sg = 3) = b2 := by rw [← h2]; rfl
  cases b1 with
  | false =>
    clear h2 h3 g2
    go_enter Tryz.func22, Tryz.ntmps22
    go_wp2
    go_ret
    exact ⟨rfl, two_boxes _ _ _⟩
  | true =>
    cases b2 with
    | false =>
      clear h3
      go_enter Tryz.func22, Tryz.ntmps22
      go_wp2
      go_ret
      exact ⟨rfl, two_boxes _ _ _⟩
    | true =>
      cases b3 with
      | false =>
        go_enter Tryz.func22, Tryz.ntmps22
        go_wp2
        go_ret
        exact ⟨rfl, two_boxes _ _ _⟩
      | true =>
        go_enter Tryz.func22, Tryz.ntmps22
        go_wp2
        go_ret
        exact ⟨rfl, two_boxes _ _ _⟩
theorem pblack_any (k : Sh.Ks) (t : Ts) (w : World) : Calls Tryz.prog 22 #[(.agg #[.int .i64 k.ph, .int .i64 k.ep, .bool k.mj, .slice k.wk.a k.wk.n k.wk.c, .bool k.ov, .int .i64 k.pa, .int .i64 k.pf, .int .i64 k.ps, .int .i64 k.pc, .bool k.me]), (.agg #[.bool t.lv, .int .i64 (t.r 0), .int .i64 (t.r 1), .int .i64 (t.r 2), .int .i64 (t.r 3), .slice (t.u 0).a (t.u 0).n (t.u 0).c, .slice (t.u 1).a (t.u 1).n (t.u 1).c, .slice (t.u 2).a (t.u 2).n (t.u 2).c, .int .i64 t.ep, .int .i64 t.sg, .int .i64 t.rt, .slice t.o.a t.o.n t.o.c, .int .i64 t.pc, .int .i64 t.x, .int .i64 t.y])] w fun e w' => e = .returned (.bool (blackB k.ph k.ep t)) ∧ Below w.heap.size w w' := by
  rw [black_is]
  exact pblack_core k t _ _ _ rfl rfl rfl w
end Go.Proofs.YtgmkomnoiffapaaGreatDoor.Rt
end
