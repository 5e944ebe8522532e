/-
  Package alloc's Take: what its walk has in memory, and what it leaves.
-/
import Derived.Test.YtdmclfolooiccaaGreatDoorHpAO
import Derived.Test.YtdmclfolooiccaaGreatDoorAAlBegin
import Derived.Test.YtdmclfolooiccaaGreatDoorAAlCopied
import Derived.Test.YtdmclfolooiccaaGreatDoorHpAL
namespace Go.Proofs.YtdmclfolooiccaaGreatDoor
open Go.RowKit
set_option maxRecDepth 100000

/-- What Take tells. -/
def TakeOut (w : World) (r : Tk) (e : Ending) (w' : World) : Prop :=
  ∃ (t : Hs) (v : Nat → Ls.Sl), e = .returned (.tuple #[(.agg #[.slice t.w.a t.w.n t.w.c, .slice t.p.a t.p.n t.p.c, .slice (t.u 0).a (t.u 0).n (t.u 0).c, .slice (t.u 1).a (t.u 1).n (t.u 1).c, .slice (t.u 2).a (t.u 2).n (t.u 2).c, .slice t.c.a t.c.n t.c.c]), (.agg #[.slice (v 0).a (v 0).n (v 0).c, .slice (v 1).a (v 1).n (v 1).c, .slice (v 2).a (v 2).n (v 2).c]), .int .i64 r.a, .int .i64 r.er]) ∧ Hp w' w'.heap.size t r.d ∧ Ls.L3 w' w'.heap.size v r.G ∧ (t.w.n = r.wn ∧ t.p.n = r.pn ∧ t.c.n = r.cn) ∧ Below w.heap.size w w'
theorem slices3_new (w : World) (u : Nat → Ls.Sl) (ty : TypeId) : Slices (w.alloc (.cells #[.slice (u 0).a (u 0).n (u 0).c, .slice (u 1).a (u 1).n (u 1).c, .slice (u 2).a (u 2).n (u 2).c] ty)) w.heap.size := fun j v hv => by
  rcases j with _ | _ | _ | j
  · simp [go_sem] at hv; exact ⟨_, _, _, hv.symm⟩
  · simp [go_sem] at hv; exact ⟨_, _, _, hv.symm⟩
  · simp [go_sem] at hv; exact ⟨_, _, _, hv.symm⟩
  · simp [go_sem] at hv
theorem slices6_new (w : World) (s : Hs) (ty : TypeId) : Slices (w.alloc (.cells #[.slice s.w.a s.w.n s.w.c, .slice s.p.a s.p.n s.p.c, .slice (s.u 0).a (s.u 0).n (s.u 0).c, .slice (s.u 1).a (s.u 1).n (s.u 1).c, .slice (s.u 2).a (s.u 2).n (s.u 2).c, .slice s.c.a s.c.n s.c.c] ty)) w.heap.size := fun j v hv => by
  rcases j with _ | _ | _ | _ | _ | _ | j
  · simp [go_sem] at hv; exact ⟨_, _, _, hv.symm⟩
  · simp [go_sem] at hv; exact ⟨_, _, _, hv.symm⟩
  · simp [go_sem] at hv; exact ⟨_, _, _, hv.symm⟩
  · simp [go_sem] at hv; exact ⟨_, _, _, hv.symm⟩
  · simp [go_sem] at hv; exact ⟨_, _, _, hv.symm⟩
  · simp [go_sem] at hv; exact ⟨_, _, _, hv.symm⟩
  · simp [go_sem] at hv
theorem slices9_new (w : World) (t : Hs) (u : Nat → Ls.Sl) (ty : TypeId) : Slices (w.alloc (.cells #[.slice t.w.a t.w.n t.w.c, .slice t.p.a t.p.n t.p.c, .slice (t.u 0).a (t.u 0).n (t.u 0).c, .slice (t.u 1).a (t.u 1).n (t.u 1).c, .slice (t.u 2).a (t.u 2).n (t.u 2).c, .slice t.c.a t.c.n t.c.c, .slice (u 0).a (u 0).n (u 0).c, .slice (u 1).a (u 1).n (u 1).c, .slice (u 2).a (u 2).n (u 2).c] ty)) w.heap.size := fun j v hv => by
  rcases j with _ | _ | _ | _ | _ | _ | _ | _ | _ | j
  · simp [go_sem] at hv; exact ⟨_, _, _, hv.symm⟩
  · simp [go_sem] at hv; exact ⟨_, _, _, hv.symm⟩
  · simp [go_sem] at hv; exact ⟨_, _, _, hv.symm⟩
  · simp [go_sem] at hv; exact ⟨_, _, _, hv.symm⟩
  · simp [go_sem] at hv; exact ⟨_, _, _, hv.symm⟩
  · simp [go_sem] at hv; exact ⟨_, _, _, hv.symm⟩
  · simp [go_sem] at hv; exact ⟨_, _, _, hv.symm⟩
  · simp [go_sem] at hv; exact ⟨_, _, _, hv.symm⟩
  · simp [go_sem] at hv; exact ⟨_, _, _, hv.symm⟩
  · simp [go_sem] at hv
theorem Slices.next {W W' : World} {b : Nat} (h : Slices W b) (hl : b < W.heap.size) (hb : Below W.heap.size W W') : Slices W' b := h.same (hb.block b hl)
/-- What a walk through Take has in memory. -/
structure TkS (w W : World) (s : Hs) (d : Hd_) (u : Nat → Ls.Sl) (G : Nat → List Int) (us o e : Bool) (N b m : Int) : Prop where
  bel : Below w.heap.size w W
  hb : HBox W w.heap.size s
  cb : Ls.Box3 W (w.heap.size + 1) u
  xb : X6 W (w.heap.size + 2) us o e N b m
  r6 : Box6 W (w.heap.size + 3) noHs
  r3 : Ls.Box3 W (w.heap.size + 4) Ls.noSl
  s6 : Slices W (w.heap.size + 3)
  s3 : Slices W (w.heap.size + 4)
  hp : Hp W w.heap.size s d
  l3 : Ls.L3 W w.heap.size u G
section
variable {w W W' : World} {s : Hs} {d : Hd_} {u : Nat → Ls.Sl} {G : Nat → List Int} {us o e : Bool} {N b m : Int}
theorem TkS.size (h : TkS w W s d u G us o e N b m) : w.heap.size + 5 ≤ W.heap.size := by have := h.r3.lt; omega
theorem TkS.below (h : TkS w W s d u G us o e N b m) {B : Nat} (hb : Below B W W') (hB : w.heap.size + 5 ≤ B) : TkS w W' s d u G us o e N b m := by
  have hl := hb.size
  have hs := h.size
  have k : ∀ i, i < w.heap.size + 5 → W'.heap[i]? = W.heap[i]? := fun i hi => hb.block i (by omega)
  exact ⟨h.bel.trans (hb.mono (by omega)), hbox_same h.hb (k _ (by omega)) hl, h.cb.same (k _ (by omega)) hl, x6_same h.xb (k _ (by omega)) hl, h.r6.same (k _ (by omega)) hl, h.r3.same (k _ (by omega)) hl, h.s6.same (k _ (by omega)), h.s3.same (k _ (by omega)), h.hp.below (hb.mono (by omega)), h.l3.below (hb.mono (by omega))⟩
theorem TkS.next (h : TkS w W s d u G us o e N b m) (hb : Below W.heap.size W W') : TkS w W' s d u G us o e N b m := h.below hb h.size
theorem tk_start (hp : Hp w w.heap.size s d) (l3 : Ls.L3 w w.heap.size u G) (h : W = ((((w.alloc (.cells #[.slice s.w.a s.w.n s.w.c, .slice s.p.a s.p.n s.p.c, .slice (s.u 0).a (s.u 0).n (s.u 0).c, .slice (s.u 1).a (s.u 1).n (s.u 1).c, .slice (s.u 2).a (s.u 2).n (s.u 2).c, .slice s.c.a s.c.n s.c.c] 28)).alloc (.cells #[.slice (u 0).a (u 0).n (u 0).c, .slice (u 1).a (u 1).n (u 1).c, .slice (u 2).a (u 2).n (u 2).c] 25)).alloc (.cells #[.bool us, .bool o, .bool e, .int .i64 N, .int .i64 b, .int .i64 m] 30)).alloc (.cells #[.slice none 0 0, .slice none 0 0, .slice none 0 0, .slice none 0 0, .slice none 0 0, .slice none 0 0] 28)).alloc (.cells #[.slice none 0 0, .slice none 0 0, .slice none 0 0] 25)) : TkS w W s d u G us o e N b m := by
  obtain ⟨W1, h1⟩ : ∃ W1, W1 = w.alloc (.cells #[.slice s.w.a s.w.n s.w.c, .slice s.p.a s.p.n s.p.c, .slice (s.u 0).a (s.u 0).n (s.u 0).c, .slice (s.u 1).a (s.u 1).n (s.u 1).c, .slice (s.u 2).a (s.u 2).n (s.u 2).c, .slice s.c.a s.c.n s.c.c] 28) := ⟨_, rfl⟩
  obtain ⟨W2, h2⟩ : ∃ W2, W2 = W1.alloc (.cells #[.slice (u 0).a (u 0).n (u 0).c, .slice (u 1).a (u 1).n (u 1).c, .slice (u 2).a (u 2).n (u 2).c] 25) := ⟨_, rfl⟩
  obtain ⟨W3, h3⟩ : ∃ W3, W3 = W2.alloc (.cells #[.bool us, .bool o, .bool e, .int .i64 N, .int .i64 b, .int .i64 m] 30) := ⟨_, rfl⟩
  obtain ⟨W4, h4⟩ : ∃ W4, W4 = W3.alloc (.cells #[.slice none 0 0, .slice none 0 0, .slice none 0 0, .slice none 0 0, .slice none 0 0, .slice none 0 0] 28) := ⟨_, rfl⟩
  rw [← h1, ← h2, ← h3, ← h4] at h
  have z1 : W1.heap.size = w.heap.size + 1 := by rw [h1]; simp
  have z2 : W2.heap.size = w.heap.size + 2 := by rw [h2]; simp [z1]
  have z3 : W3.heap.size = w.heap.size + 3 := by rw [h3]; simp [z2]
  have z4 : W4.heap.size = w.heap.size + 4 := by rw [h4]; simp [z3]
  have b1 : Below w.heap.size w W1 := by rw [h1]; exact (Below.refl _ _).alloc (Nat.le_refl _) _
  have b2 : Below W1.heap.size W1 W2 := by rw [h2]; exact (Below.refl _ _).alloc (Nat.le_refl _) _
  have b3 : Below W2.heap.size W2 W3 := by rw [h3]; exact (Below.refl _ _).alloc (Nat.le_refl _) _
  have b4 : Below W3.heap.size W3 W4 := by rw [h4]; exact (Below.refl _ _).alloc (Nat.le_refl _) _
  have b5 : Below W4.heap.size W4 W := by rw [h]; exact (Below.refl _ _).alloc (Nat.le_refl _) _
  have x1 : HBox W1 w.heap.size s := by rw [h1]; exact HBox.new w s _
  have x2 : Ls.Box3 W2 (w.heap.size + 1) u := by rw [h2, ← z1]; exact Ls.Box3.new W1 u _
  have x3 : X6 W3 (w.heap.size + 2) us o e N b m := by rw [h3, ← z2]; exact X6.new W2 us o e N b m _
  have x4 : Box6 W4 (w.heap.size + 3) noHs := by rw [h4, ← z3]; exact ⟨HBox.new W3 noHs _, fun j => by simp [go_sem]⟩
  have y4 : Slices W4 (w.heap.size + 3) := by rw [h4, ← z3]; exact slices6_new W3 noHs _
  have x5 : Ls.Box3 W (w.heap.size + 4) Ls.noSl := by rw [h, ← z4]; exact Ls.Box3.new W4 Ls.noSl _
  have y5 : Slices W (w.heap.size + 4) := by rw [h, ← z4]; exact slices3_new W4 Ls.noSl _
  have bel : Below w.heap.size w W := b1.trans ((b2.mono (by omega)).trans ((b3.mono (by omega)).trans ((b4.mono (by omega)).trans (b5.mono (by omega)))))
  exact ⟨bel, (((x1.next b2).next b3).next b4).next b5, ((x2.next b3).next b4).next b5, (x3.next b4).next b5, x4.next b5, x5, y4.next (by omega) b5, y5, hp.below bel, l3.below bel⟩
theorem res_take {W : World} {b6 b3 : Nat} {tm : Array Value} {v0 v1 v2 v3 v4 v5 y0 y1 y2 va ve : Value} (t6 : tm[6]? = some (.pointer (some ⟨b6, 0, none⟩))) (t7 : tm[7]? = some (.pointer (some ⟨b3, 0, none⟩))) (t8 : tm[8]? = some va) (t9 : tm[9]? = some ve)
    (k0 : W.cell? ⟨b6, 0, none⟩ = some v0) (k1 : W.cell? ⟨b6, 1, none⟩ = some v1) (k2 : W.cell? ⟨b6, 2, none⟩ = some v2) (k3 : W.cell? ⟨b6, 3, none⟩ = some v3) (k4 : W.cell? ⟨b6, 4, none⟩ = some v4) (k5 : W.cell? ⟨b6, 5, none⟩ = some v5) (j0 : W.cell? ⟨b3, 0, none⟩ = some y0) (j1 : W.cell? ⟨b3, 1, none⟩ = some y1) (j2 : W.cell? ⟨b3, 2, none⟩ = some y2) :
    (results Tryz.f7 tm).run Tryz.prog W = .ok (.tuple #[.agg #[v0, v1, v2, v3, v4, v5], .agg #[y0, y1, y2], va, ve]) W := by
  simp [results, Tryz.results7, go_sem, t6, t7, t8, t9, k0, k1, k2, k3, k4, k5, j0, j1, j2]
/-- The two results are stored. -/
theorem take_stored (h : TkS w W s d u G us o e N b m) {t : Hs} {v : Nat → Ls.Sl} {d' : Hd_} {G' : Nat → List Int} (hp : Hp W W.heap.size t d') (l3 : Ls.L3 W W.heap.size v G') :
    Hp (Ls.put3 (put6 W (w.heap.size + 3) (.slice t.w.a t.w.n t.w.c) (.slice t.p.a t.p.n t.p.c) (.slice (t.u 0).a (t.u 0).n (t.u 0).c) (.slice (t.u 1).a (t.u 1).n (t.u 1).c) (.slice (t.u 2).a (t.u 2).n (t.u 2).c) (.slice t.c.a t.c.n t.c.c)) (w.heap.size + 4) v) (Ls.put3 (put6 W (w.heap.size + 3) (.slice t.w.a t.w.n t.w.c) (.slice t.p.a t.p.n t.p.c) (.slice (t.u 0).a (t.u 0).n (t.u 0).c) (.slice (t.u 1).a (t.u 1).n (t.u 1).c) (.slice (t.u 2).a (t.u 2).n (t.u 2).c) (.slice t.c.a t.c.n t.c.c)) (w.heap.size + 4) v).heap.size t d' ∧
    Ls.L3 (Ls.put3 (put6 W (w.heap.size + 3) (.slice t.w.a t.w.n t.w.c) (.slice t.p.a t.p.n t.p.c) (.slice (t.u 0).a (t.u 0).n (t.u 0).c) (.slice (t.u 1).a (t.u 1).n (t.u 1).c) (.slice (t.u 2).a (t.u 2).n (t.u 2).c) (.slice t.c.a t.c.n t.c.c)) (w.heap.size + 4) v) (Ls.put3 (put6 W (w.heap.size + 3) (.slice t.w.a t.w.n t.w.c) (.slice t.p.a t.p.n t.p.c) (.slice (t.u 0).a (t.u 0).n (t.u 0).c) (.slice (t.u 1).a (t.u 1).n (t.u 1).c) (.slice (t.u 2).a (t.u 2).n (t.u 2).c) (.slice t.c.a t.c.n t.c.c)) (w.heap.size + 4) v).heap.size v G' ∧
    Below w.heap.size w (Ls.put3 (put6 W (w.heap.size + 3) (.slice t.w.a t.w.n t.w.c) (.slice t.p.a t.p.n t.p.c) (.slice (t.u 0).a (t.u 0).n (t.u 0).c) (.slice (t.u 1).a (t.u 1).n (t.u 1).c) (.slice (t.u 2).a (t.u 2).n (t.u 2).c) (.slice t.c.a t.c.n t.c.c)) (w.heap.size + 4) v) ∧
    Box6 (Ls.put3 (put6 W (w.heap.size + 3) (.slice t.w.a t.w.n t.w.c) (.slice t.p.a t.p.n t.p.c) (.slice (t.u 0).a (t.u 0).n (t.u 0).c) (.slice (t.u 1).a (t.u 1).n (t.u 1).c) (.slice (t.u 2).a (t.u 2).n (t.u 2).c) (.slice t.c.a t.c.n t.c.c)) (w.heap.size + 4) v) (w.heap.size + 3) t ∧
    Ls.Box3 (Ls.put3 (put6 W (w.heap.size + 3) (.slice t.w.a t.w.n t.w.c) (.slice t.p.a t.p.n t.p.c) (.slice (t.u 0).a (t.u 0).n (t.u 0).c) (.slice (t.u 1).a (t.u 1).n (t.u 1).c) (.slice (t.u 2).a (t.u 2).n (t.u 2).c) (.slice t.c.a t.c.n t.c.c)) (w.heap.size + 4) v) (w.heap.size + 4) v := by
  obtain ⟨X, hX⟩ : ∃ X, X = put6 W (w.heap.size + 3) (.slice t.w.a t.w.n t.w.c) (.slice t.p.a t.p.n t.p.c) (.slice (t.u 0).a (t.u 0).n (t.u 0).c) (.slice (t.u 1).a (t.u 1).n (t.u 1).c) (.slice (t.u 2).a (t.u 2).n (t.u 2).c) (.slice t.c.a t.c.n t.c.c) := ⟨_, rfl⟩
  have ho : ∀ i, ¬ i = w.heap.size + 3 → X.heap[i]? = W.heap[i]? := fun i hi => by rw [hX]; exact put6_other _ _ _ _ _ _ _ _ hi
  have hz : W.heap.size = X.heap.size := by rw [hX, put6_size]
  obtain ⟨k0, k1, k2, k3, k4, k5⟩ := put6_at h.r6 (.slice t.w.a t.w.n t.w.c) (.slice t.p.a t.p.n t.p.c) (.slice (t.u 0).a (t.u 0).n (t.u 0).c) (.slice (t.u 1).a (t.u 1).n (t.u 1).c) (.slice (t.u 2).a (t.u 2).n (t.u 2).c) (.slice t.c.a t.c.n t.c.c)
  have hf : ∀ j, X.frozen? ⟨w.heap.size + 3, j, none⟩ = false := fun j => by
    rw [hX]
    unfold put6
    simp only [World.frozen?_setCell]
    exact h.r6.free j
  rw [← hX] at k0 k1 k2 k3 k4 k5 ⊢
  have bX : Below w.heap.size w X := by rw [hX]; exact below_put6 h.bel (by omega) _ _ _ _ _ _
  have p1 := hp_turn h.s6 hp ho hz
  have l1 := l3_turn h.s6 l3 ho hz
  have s3 : Slices X (w.heap.size + 4) := h.s3.same (ho _ (by omega))
  have r3 : Ls.Box3 X (w.heap.size + 4) Ls.noSl := h.r3.same (ho _ (by omega)) (Nat.le_of_eq hz)
  have ho2 : ∀ i, ¬ i = w.heap.size + 4 → (Ls.put3 X (w.heap.size + 4) v).heap[i]? = X.heap[i]? := fun i hi => Ls.put3_other X v hi
  have hz2 : X.heap.size = (Ls.put3 X (w.heap.size + 4) v).heap.size := (Ls.put3_size X _ v).symm
  have b6 : Box6 X (w.heap.size + 3) t := ⟨⟨k0, k1, k2, k3, k4, k5, by rw [← hz]; exact h.r6.box.lt⟩, hf⟩
  exact ⟨hp_turn s3 p1 ho2 hz2, l3_turn s3 l1 ho2 hz2, Ls.below_put3 bX (by omega) v, b6.same (ho2 _ (by omega)) (Nat.le_of_eq hz2), r3.put v⟩
end
end Go.Proofs.YtdmclfolooiccaaGreatDoor
