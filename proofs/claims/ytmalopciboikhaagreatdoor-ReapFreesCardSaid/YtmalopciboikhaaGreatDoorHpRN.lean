/-
  Merged texts: AlCopied, AlTakeS, AlTakeA, HpInv, HpKeep.
-/
import Derived.Test.YtmalopciboikhaaGreatDoorHpRI
import Derived.Test.YtmalopciboikhaaGreatDoorHpRM
import Derived.Test.YtmalopciboikhaaGreatDoorRAlBegin
import Derived.Test.YtmalopciboikhaaGreatDoorHpRG
import Derived.Test.YtmalopciboikhaaGreatDoorHpRL
section
namespace Go.Proofs.YtmalopciboikhaaGreatDoor
open Go.RowKit
set_option maxRecDepth 100000

/-- A copy was returned. -/
def ACopyOut (w : World) (s : Hs) (d : Hd_) (e : Ending) (w' : World) : Prop :=
  ∃ t : Hs, e = .returned (.agg #[.slice t.w.a t.w.n t.w.c, .slice t.p.a t.p.n t.p.c, .slice (t.u 0).a (t.u 0).n (t.u 0).c, .slice (t.u 1).a (t.u 1).n (t.u 1).c, .slice (t.u 2).a (t.u 2).n (t.u 2).c, .slice t.c.a t.c.n t.c.c]) ∧ Hp w' w'.heap.size t d ∧ Lens s t ∧ t.p.n ≤ t.p.c ∧ Below w.heap.size w w'
theorem acopied_any (s : Hs) (d : Hd_) (w : World) (hp : Hp w w.heap.size s d) (hf : Fine s d) (hfb : firstB s d = true) : Calls Tryz.prog 42 #[(.agg #[.slice s.w.a s.w.n s.w.c, .slice s.p.a s.p.n s.p.c, .slice (s.u 0).a (s.u 0).n (s.u 0).c, .slice (s.u 1).a (s.u 1).n (s.u 1).c, .slice (s.u 2).a (s.u 2).n (s.u 2).c, .slice s.c.a s.c.n s.c.c])] w (ACopyOut w s d) :=
  (fresh_any s d w hp hf hfb).mono fun _ _ ⟨t, h1, h2, h3, _, h5, h6, _⟩ => ⟨t, h1, h2, h3, h5, h6⟩
end Go.Proofs.YtmalopciboikhaaGreatDoor
end
section
namespace Go.Proofs.YtmalopciboikhaaGreatDoor
open Go.RowKit
set_option maxRecDepth 100000

/-- What Take tells. -/
def TakeOut (w : World) (r : Tk) (e : Ending) (w' : World) : Prop :=
  ∃ (t : Hs) (v : Nat → Ls.Sl), e = .returned (.tuple #[(.agg #[.slice t.w.a t.w.n t.w.c, .slice t.p.a t.p.n t.p.c, .slice (t.u 0).a (t.u 0).n (t.u 0).c, .slice (t.u 1).a (t.u 1).n (t.u 1).c, .slice (t.u 2).a (t.u 2).n (t.u 2).c, .slice t.c.a t.c.n t.c.c]), (.agg #[.slice (v 0).a (v 0).n (v 0).c, .slice (v 1).a (v 1).n (v 1).c, .slice (v 2).a (v 2).n (v 2).c]), .int .i64 r.a, .int .i64 r.er]) ∧ Hp w' w'.heap.size t r.d ∧ Ls.L3 w' w'.heap.size v r.G ∧ (t.w.n = r.wn ∧ t.p.n = r.pn ∧ t.c.n = r.cn) ∧ Below w.heap.size w w'
theorem slices3_new (w : World) (u : Nat → Ls.Sl) (ty : TypeId) : Slices (w.alloc (.cells #[.slice (u 0).a (u 0).n (u 0).c, .slice (u 1).a (u 1).n (u 1).c, .slice (u 2).a (u 2).n (u 2).c] ty)) w.heap.size := fun j v hv => by
  rcases j with _ | _ | _ | j
  · simp [go_sem] at hv; exact ⟨_, _, _, hv.symm⟩
  · simp [go_sem] at hv; exact ⟨_, _, _, hv.symm⟩
  · simp [go_sem] at hv; exact ⟨_, _, _, hv.symm⟩
  · simp [go_sem] at hv
theorem slices6_new (w : World) (s : Hs) (ty : TypeId) : Slices (w.alloc (.cells #[.slice s.w.a s.w.n s.w.c, .slice s.p.a s.p.n s.p.c, .slice (s.u 0).a (s.u 0).n (s.u 0).c, .slice (s.u 1).a (s.u 1).n (s.u 1).c, .slice (s.u 2).a (s.u 2).n (s.u 2).c, .slice s.c.a s.c.n s.c.c] ty)) w.heap.size := fun j v hv => by
  rcases j with _ | _ | _ | _ | _ | _ | j
  · simp [go_sem] at hv; exact ⟨_, _, _, hv.symm⟩
  · simp [go_sem] at hv; exact ⟨_, _, _, hv.symm⟩
  · simp [go_sem] at hv; exact ⟨_, _, _, hv.symm⟩
  · simp [go_sem] at hv; exact ⟨_, _, _, hv.symm⟩
  · simp [go_sem] at hv; exact ⟨_, _, _, hv.symm⟩
  · simp [go_sem] at hv; exact ⟨_, _, _, hv.symm⟩
  · simp [go_sem] at hv
theorem slices9_new (w : World) (t : Hs) (u : Nat → Ls.Sl) (ty : TypeId) : Slices (w.alloc (.cells #[.slice t.w.a t.w.n t.w.c, .slice t.p.a t.p.n t.p.c, .slice (t.u 0).a (t.u 0).n (t.u 0).c, .slice (t.u 1).a (t.u 1).n (t.u 1).c, .slice (t.u 2).a (t.u 2).n (t.u 2).c, .slice t.c.a t.c.n t.c.c, .slice (u 0).a (u 0).n (u 0).c, .slice (u 1).a (u 1).n (u 1).c, .slice (u 2).a (u 2).n (u 2).c] ty)) w.heap.size := fun j v hv => by
  rcases j with _ | _ | _ | _ | _ | _ | _ | _ | _ | j
  · simp [go_sem] at hv; exact ⟨_, _, _, hv.symm⟩
  · simp [go_sem] at hv; exact ⟨_, _, _, hv.symm⟩
  · simp [go_sem] at hv; exact ⟨_, _, _, hv.symm⟩
  · simp [go_sem] at hv; exact ⟨_, _, _, hv.symm⟩
  · simp [go_sem] at hv; exact ⟨_, _, _, hv.symm⟩
  · simp [go_sem] at hv; exact ⟨_, _, _, hv.symm⟩
  · simp [go_sem] at hv; exact ⟨_, _, _, hv.symm⟩
  · simp [go_sem] at hv; exact ⟨_, _, _, hv.symm⟩
  · simp [go_sem] at hv; exact ⟨_, _, _, hv.symm⟩
  · simp [go_sem] at hv
theorem Slices.next {W W' : World} {b : Nat} (h : Slices W b) (hl : b < W.heap.size) (hb : Below W.heap.size W W') : Slices W' b := h.same (hb.block b hl)
/-- What a walk through Take has in memory. -/
structure TkS (w W : World) (s : Hs) (d : Hd_) (u : Nat → Ls.Sl) (G : Nat → List Int) (us o e : Bool) (N b m : Int) : Prop where
  bel : Below w.heap.size w W
  hb : HBox W w.heap.size s
  cb : Ls.Box3 W (w.heap.size + 1) u
  xb : X6 W (w.heap.size + 2) us o e N b m
  r6 : Box6 W (w.heap.size + 3) noHs
  r3 : Ls.Box3 W (w.heap.size + 4) Ls.noSl
  s6 : Slices W (w.heap.size + 3)
  s3 : Slices W (w.heap.size + 4)
  hp : Hp W w.heap.size s d
  l3 : Ls.L3 W w.heap.size u G
section
variable {w W W' : World} {s : Hs} {d : Hd_} {u : Nat → Ls.Sl} {G : Nat → List Int} {us o e : Bool} {N b m : Int}
theorem TkS.size (h : TkS w W s d u G us o e N b m) : w.heap.size + 5 ≤ W.heap.size := by have := h.r3.lt; omega
theorem TkS.below (h : TkS w W s d u G us o e N b m) {B : Nat} (hb : Below B W W') (hB : w.heap.size + 5 ≤ B) : TkS w W' s d u G us o e N b m := by
  have hl := hb.size
  have hs := h.size
  have k : ∀ i, i < w.heap.size + 5 → W'.heap[i]? = W.heap[i]? := fun i hi => hb.block i (by omega)
  exact ⟨h.bel.trans (hb.mono (by omega)), hbox_same h.hb (k _ (by omega)) hl, h.cb.same (k _ (by omega)) hl, x6_same h.xb (k _ (by omega)) hl, h.r6.same (k _ (by omega)) hl, h.r3.same (k _ (by omega)) hl, h.s6.same (k _ (by omega)), h.s3.same (k _ (by omega)), h.hp.below (hb.mono (by omega)), h.l3.below (hb.mono (by omega))⟩
theorem TkS.next (h : TkS w W s d u G us o e N b m) (hb : Below W.heap.size W W') : TkS w W' s d u G us o e N b m := h.below hb h.size
theorem tk_start (hp : Hp w w.heap.size s d) (l3 : Ls.L3 w w.heap.size u G) (h : W = ((((w.alloc (.cells #[.slice s.w.a s.w.n s.w.c, .slice s.p.a s.p.n s.p.c, .slice (s.u 0).a (s.u 0).n (s.u 0).c, .slice (s.u 1).a (s.u 1).n (s.u 1).c, .slice (s.u 2).a (s.u 2).n (s.u 2).c, .slice s.c.a s.c.n s.c.c] 28)).alloc (.cells #[.slice (u 0).a (u 0).n (u 0).c, .slice (u 1).a (u 1).n (u 1).c, .slice (u 2).a (u 2).n (u 2).c] 25)).alloc (.cells #[.bool us, .bool o, .bool e, .int .i64 N, .int .i64 b, .int .i64 m] 30)).alloc (.cells #[.slice none 0 0, .slice none 0 0, .slice none 0 0, .slice none 0 0, .slice none 0 0, .slice none 0 0] 28)).alloc (.cells #[.slice none 0 0, .slice none 0 0, .slice none 0 0] 25)) : TkS w W s d u G us o e N b m := by
  obtain ⟨W1, h1⟩ : ∃ W1, W1 = w.alloc (.cells #[.slice s.w.a s.w.n s.w.c, .slice s.p.a s.p.n s.p.c, .slice (s.u 0).a (s.u 0).n (s.u 0).c, .slice (s.u 1).a (s.u 1).n (s.u 1).c, .slice (s.u 2).a (s.u 2).n (s.u 2).c, .slice s.c.a s.c.n s.c.c] 28) := ⟨_, rfl⟩
  obtain ⟨W2, h2⟩ : ∃ W2, W2 = W1.alloc (.cells #[.slice (u 0).a (u 0).n (u 0).c, .slice (u 1).a (u 1).n (u 1).c, .slice (u 2).a (u 2).n (u 2).c] 25) := ⟨_, rfl⟩
  obtain ⟨W3, h3⟩ : ∃ W3, W3 = W2.alloc (.cells #[.bool us, .bool o, .bool e, .int .i64 N, .int .i64 b, .int .i64 m] 30) := ⟨_, rfl⟩
  obtain ⟨W4, h4⟩ : ∃ W4, W4 = W3.alloc (.cells #[.slice none 0 0, .slice none 0 0, .slice none 0 0, .slice none 0 0, .slice none 0 0, .slice none 0 0] 28) := ⟨_, rfl⟩
  rw [← h1, ← h2, ← h3, ← h4] at h
  have z1 : W1.heap.size = w.heap.size + 1 := by rw [h1]; simp
  have z2 : W2.heap.size = w.heap.size + 2 := by rw [h2]; simp [z1]
  have z3 : W3.heap.size = w.heap.size + 3 := by rw [h3]; simp [z2]
  have z4 : W4.heap.size = w.heap.size + 4 := by rw [h4]; simp [z3]
  have b1 : Below w.heap.size w W1 := by rw [h1]; exact (Below.refl _ _).alloc (Nat.le_refl _) _
  have b2 : Below W1.heap.size W1 W2 := by rw [h2]; exact (Below.refl _ _).alloc (Nat.le_refl _) _
  have b3 : Below W2.heap.size W2 W3 := by rw [h3]; exact (Below.refl _ _).alloc (Nat.le_refl _) _
  have b4 : Below W3.heap.size W3 W4 := by rw [h4]; exact (Below.refl _ _).alloc (Nat.le_refl _) _
  have b5 : Below W4.heap.size W4 W := by rw [h]; exact (Below.refl _ _).alloc (Nat.le_refl _) _
  have x1 : HBox W1 w.heap.size s := by rw [h1]; exact HBox.new w s _
  have x2 : Ls.Box3 W2 (w.heap.size + 1) u := by rw [h2, ← z1]; exact Ls.Box3.new W1 u _
  have x3 : X6 W3 (w.heap.size + 2) us o e N b m := by rw [h3, ← z2]; exact X6.new W2 us o e N b m _
  have x4 : Box6 W4 (w.heap.size + 3) noHs := by rw [h4, ← z3]; exact ⟨HBox.new W3 noHs _, fun j => by simp [go_sem]⟩
  have y4 : Slices W4 (w.heap.size + 3) := by rw [h4, ← z3]; exact slices6_new W3 noHs _
  have x5 : Ls.Box3 W (w.heap.size + 4) Ls.noSl := by rw [h, ← z4]; exact Ls.Box3.new W4 Ls.noSl _
  have y5 : Slices W (w.heap.size + 4) := by rw [h, ← z4]; exact slices3_new W4 Ls.noSl _
  have bel : Below w.heap.size w W := b1.trans ((b2.mono (by omega)).trans ((b3.mono (by omega)).trans ((b4.mono (by omega)).trans (b5.mono (by omega)))))
  exact ⟨bel, (((x1.next b2).next b3).next b4).next b5, ((x2.next b3).next b4).next b5, (x3.next b4).next b5, x4.next b5, x5, y4.next (by omega) b5, y5, hp.below bel, l3.below bel⟩
theorem res_take {W : World} {b6 b3 : Nat} {tm : Array Value} {v0 v1 v2 v3 v4 v5 y0 y1 y2 va ve : Value} (t6 : tm[6]? = some (.pointer (some ⟨b6, 0, none⟩))) (t7 : tm[7]? = some (.pointer (some ⟨b3, 0, none⟩))) (t8 : tm[8]? = some va) (t9 : tm[9]? = some ve)
    (k0 : W.cell? ⟨b6, 0, none⟩ = some v0) (k1 : W.cell? ⟨b6, 1, none⟩ = some v1) (k2 : W.cell? ⟨b6, 2, none⟩ = some v2) (k3 : W.cell? ⟨b6, 3, none⟩ = some v3) (k4 : W.cell? ⟨b6, 4, none⟩ = some v4) (k5 : W.cell? ⟨b6, 5, none⟩ = some v5) (j0 : W.cell? ⟨b3, 0, none⟩ = some y0) (j1 : W.cell? ⟨b3, 1, none⟩ = some y1) (j2 : W.cell? ⟨b3, 2, none⟩ = some y2) :
    (results Tryz.f9 tm).run Tryz.prog W = .ok (.tuple #[.agg #[v0, v1, v2, v3, v4, v5], .agg #[y0, y1, y2], va, ve]) W := by
  simp [results, Tryz.results9, go_sem, t6, t7, t8, t9, k0, k1, k2, k3, k4, k5, j0, j1, j2]
/-- The two results are stored. -/
theorem take_stored (h : TkS w W s d u G us o e N b m) {t : Hs} {v : Nat → Ls.Sl} {d' : Hd_} {G' : Nat → List Int} (hp : Hp W W.heap.size t d') (l3 : Ls.L3 W W.heap.size v G') :
    Hp (Ls.put3 (put6 W (w.heap.size + 3) (.slice t.w.a t.w.n t.w.c) (.slice t.p.a t.p.n t.p.c) (.slice (t.u 0).a (t.u 0).n (t.u 0).c) (.slice (t.u 1).a (t.u 1).n (t.u 1).c) (.slice (t.u 2).a (t.u 2).n (t.u 2).c) (.slice t.c.a t.c.n t.c.c)) (w.heap.size + 4) v) (Ls.put3 (put6 W (w.heap.size + 3) (.slice t.w.a t.w.n t.w.c) (.slice t.p.a t.p.n t.p.c) (.slice (t.u 0).a (t.u 0).n (t.u 0).c) (.slice (t.u 1).a (t.u 1).n (t.u 1).c) (.slice (t.u 2).a (t.u 2).n (t.u 2).c) (.slice t.c.a t.c.n t.c.c)) (w.heap.size + 4) v).heap.size t d' ∧
    Ls.L3 (Ls.put3 (put6 W (w.heap.size + 3) (.slice t.w.a t.w.n t.w.c) (.slice t.p.a t.p.n t.p.c) (.slice (t.u 0).a (t.u 0).n (t.u 0).c) (.slice (t.u 1).a (t.u 1).n (t.u 1).c) (.slice (t.u 2).a (t.u 2).n (t.u 2).c) (.slice t.c.a t.c.n t.c.c)) (w.heap.size + 4) v) (Ls.put3 (put6 W (w.heap.size + 3) (.slice t.w.a t.w.n t.w.c) (.slice t.p.a t.p.n t.p.c) (.slice (t.u 0).a (t.u 0).n (t.u 0).c) (.slice (t.u 1).a (t.u 1).n (t.u 1).c) (.slice (t.u 2).a (t.u 2).n (t.u 2).c) (.slice t.c.a t.c.n t.c.c)) (w.heap.size + 4) v).heap.size v G' ∧
    Below w.heap.size w (Ls.put3 (put6 W (w.heap.size + 3) (.slice t.w.a t.w.n t.w.c) (.slice t.p.a t.p.n t.p.c) (.slice (t.u 0).a (t.u 0).n (t.u 0).c) (.slice (t.u 1).a (t.u 1).n (t.u 1).c) (.slice (t.u 2).a (t.u 2).n (t.u 2).c) (.slice t.c.a t.c.n t.c.c)) (w.heap.size + 4) v) ∧
    Box6 (Ls.put3 (put6 W (w.heap.size + 3) (.slice t.w.a t.w.n t.w.c) (.slice t.p.a t.p.n t.p.c) (.slice (t.u 0).a (t.u 0).n (t.u 0).c) (.slice (t.u 1).a (t.u 1).n (t.u 1).c) (.slice (t.u 2).a (t.u 2).n (t.u 2).c) (.slice t.c.a t.c.n t.c.c)) (w.heap.size + 4) v) (w.heap.size + 3) t ∧
    Ls.Box3 (Ls.put3 (put6 W (w.heap.size + 3) (.slice t.w.a t.w.n t.w.c) (.slice t.p.a t.p.n t.p.c) (.slice (t.u 0).a (t.u 0).n (t.u 0).c) (.slice (t.u 1).a (t.u 1).n (t.u 1).c) (.slice (t.u 2).a (t.u 2).n (t.u 2).c) (.slice t.c.a t.c.n t.c.c)) (w.heap.size + 4) v) (w.heap.size + 4) v := by
  obtain ⟨X, hX⟩ : ∃ X, X = put6 W (w.heap.size + 3) (.slice t.w.a t.w.n t.w.c) (.slice t.p.a t.p.n t.p.c) (.slice (t.u 0).a (t.u 0).n (t.u 0).c) (.slice (t.u 1).a (t.u 1).n (t.u 1).c) (.slice (t.u 2).a (t.u 2).n (t.u 2).c) (.slice t.c.a t.c.n t.c.c) := ⟨_, rfl⟩
  have ho : ∀ i, ¬ i = w.heap.size + 3 → X.heap[i]? = W.heap[i]? := fun i hi => by rw [hX]; exact put6_other _ _ _ _ _ _ _ _ hi
  have hz : W.heap.size = X.heap.size := by rw [hX, put6_size]
  obtain ⟨k0, k1, k2, k3, k4, k5⟩ := put6_at h.r6 (.slice t.w.a t.w.n t.w.c) (.slice t.p.a t.p.n t.p.c) (.slice (t.u 0).a (t.u 0).n (t.u 0).c) (.slice (t.u 1).a (t.u 1).n (t.u 1).c) (.slice (t.u 2).a (t.u 2).n (t.u 2).c) (.slice t.c.a t.c.n t.c.c)
  have hf : ∀ j, X.frozen? ⟨w.heap.size + 3, j, none⟩ = false := fun j => by
    rw [hX]
    unfold put6
    simp only [World.frozen?_setCell]
    exact h.r6.free j
  rw [← hX] at k0 k1 k2 k3 k4 k5 ⊢
  have bX : Below w.heap.size w X := by rw [hX]; exact below_put6 h.bel (by omega) _ _ _ _ _ _
  have p1 := hp_turn h.s6 hp ho hz
  have l1 := l3_turn h.s6 l3 ho hz
  have s3 : Slices X (w.heap.size + 4) := h.s3.same (ho _ (by omega))
  have r3 : Ls.Box3 X (w.heap.size + 4) Ls.noSl := h.r3.same (ho _ (by omega)) (Nat.le_of_eq hz)
  have ho2 : ∀ i, ¬ i = w.heap.size + 4 → (Ls.put3 X (w.heap.size + 4) v).heap[i]? = X.heap[i]? := fun i hi => Ls.put3_other X v hi
  have hz2 : X.heap.size = (Ls.put3 X (w.heap.size + 4) v).heap.size := (Ls.put3_size X _ v).symm
  have b6 : Box6 X (w.heap.size + 3) t := ⟨⟨k0, k1, k2, k3, k4, k5, by rw [← hz]; exact h.r6.box.lt⟩, hf⟩
  exact ⟨hp_turn s3 p1 ho2 hz2, l3_turn s3 l1 ho2 hz2, Ls.below_put3 bX (by omega) v, b6.same (ho2 _ (by omega)) (Nat.le_of_eq hz2), r3.put v⟩
end
end Go.Proofs.YtmalopciboikhaaGreatDoor
end
section
namespace Go.Proofs.YtmalopciboikhaaGreatDoor
open Go.RowKit
set_option maxRecDepth 100000

section
variable (s : Hs) (u : Nat → Ls.Sl) (d : Hd_) (G : Nat → List Int) (us o e : Bool) (N b m : Int) (w : World)
theorem take_may (hz : Cl.Sz w) (hf : FineT s d u G) : ∀ W, TkS w W s d u G us o e N b m → Calls Tryz.prog 40 #[(.agg #[.slice s.w.a s.w.n s.w.c, .slice s.p.a s.p.n s.p.c, .slice (s.u 0).a (s.u 0).n (s.u 0).c, .slice (s.u 1).a (s.u 1).n (s.u 1).c, .slice (s.u 2).a (s.u 2).n (s.u 2).c, .slice s.c.a s.c.n s.c.c]), .slice (some ⟨W.heap.size, 0, none⟩) 1 1] (W.alloc (.cells #[.slice (u 0).a (u 0).n (u 0).c, .slice (u 1).a (u 1).n (u 1).c, .slice (u 2).a (u 2).n (u 2).c] 25)) fun e w' => e = .returned (.bool (mayH s d 1 (fun _ => G))) ∧ Below (W.alloc (.cells #[.slice (u 0).a (u 0).n (u 0).c, .slice (u 1).a (u 1).n (u 1).c, .slice (u 2).a (u 2).n (u 2).c] 25)).heap.size (W.alloc (.cells #[.slice (u 0).a (u 0).n (u 0).c, .slice (u 1).a (u 1).n (u 1).c, .slice (u 2).a (u 2).n (u 2).c] 25)) w' := fun W h => by
  have hb := (Below.refl W.heap.size W).alloc (Nat.le_refl _) (.cells #[.slice (u 0).a (u 0).n (u 0).c, .slice (u 1).a (u 1).n (u 1).c, .slice (u 2).a (u 2).n (u 2).c] 25)
  have hl := h.size
  have h2 := h.next hb
  have hz0 := hz.pos
  refine pmay_any s d (some ⟨W.heap.size, 0, none⟩) 1 1 (fun _ => u) (fun _ => G) (W.alloc (.cells #[.slice (u 0).a (u 0).n (u 0).c, .slice (u 1).a (u 1).n (u 1).c, .slice (u 2).a (u 2).n (u 2).c] 25)) (h2.hp.more h2.bel.size) (lrow_of (own_one W u) (by simp) (fun _ _ => h2.l3.more h2.bel.size)) (by decide) (hz.over h2.bel hz0) hf.fine.wn ?_ hf.fine.cn hf.all
  have := hf.fine.pn
  omega
section
variable {s u d G us o e N b m w}
theorem take_no_end {W : World} (h : TkS w W s d u G us o e N b m) (er : Int) : TakeOut w (tkNo er) (.returned (.tuple #[(.agg #[.slice noHs.w.a noHs.w.n noHs.w.c, .slice noHs.p.a noHs.p.n noHs.p.c, .slice (noHs.u 0).a (noHs.u 0).n (noHs.u 0).c, .slice (noHs.u 1).a (noHs.u 1).n (noHs.u 1).c, .slice (noHs.u 2).a (noHs.u 2).n (noHs.u 2).c, .slice noHs.c.a noHs.c.n noHs.c.c]), (.agg #[.slice (Ls.noSl 0).a (Ls.noSl 0).n (Ls.noSl 0).c, .slice (Ls.noSl 1).a (Ls.noSl 1).n (Ls.noSl 1).c, .slice (Ls.noSl 2).a (Ls.noSl 2).n (Ls.noSl 2).c]), .int .i64 0, .int .i64 er])) (Ls.put3 (put6 W (w.heap.size + 3) (.slice none 0 0) (.slice none 0 0) (.slice none 0 0) (.slice none 0 0) (.slice none 0 0) (.slice none 0 0)) (w.heap.size + 4) Ls.noSl) := by
  have h0 : Hp W W.heap.size noHs dNone := ⟨Row.none_ _ _, fun h => absurd h (Nat.lt_irrefl 0), Ls.L3.none_ _ _, fun h => absurd h (Nat.lt_irrefl 0)⟩
  obtain ⟨h1, h2, h3, _, _⟩ := take_stored h h0 (Ls.L3.none_ W W.heap.size)
  exact ⟨noHs, Ls.noSl, rfl, h1, h2, ⟨rfl, rfl, rfl⟩, h3⟩
theorem take_no_res {W : World} (h : TkS w W s d u G us o e N b m) {tm : Array Value} {va ve : Value} (t6 : tm[6]? = some (.pointer (some ⟨w.heap.size + 3, 0, none⟩))) (t7 : tm[7]? = some (.pointer (some ⟨w.heap.size + 4, 0, none⟩))) (t8 : tm[8]? = some va) (t9 : tm[9]? = some ve) :
    (results Tryz.f9 tm).run Tryz.prog (Ls.put3 (put6 W (w.heap.size + 3) (.slice none 0 0) (.slice none 0 0) (.slice none 0 0) (.slice none 0 0) (.slice none 0 0) (.slice none 0 0)) (w.heap.size + 4) Ls.noSl) = .ok (.tuple #[(.agg #[.slice noHs.w.a noHs.w.n noHs.w.c, .slice noHs.p.a noHs.p.n noHs.p.c, .slice (noHs.u 0).a (noHs.u 0).n (noHs.u 0).c, .slice (noHs.u 1).a (noHs.u 1).n (noHs.u 1).c, .slice (noHs.u 2).a (noHs.u 2).n (noHs.u 2).c, .slice noHs.c.a noHs.c.n noHs.c.c]), (.agg #[.slice (Ls.noSl 0).a (Ls.noSl 0).n (Ls.noSl 0).c, .slice (Ls.noSl 1).a (Ls.noSl 1).n (Ls.noSl 1).c, .slice (Ls.noSl 2).a (Ls.noSl 2).n (Ls.noSl 2).c]), va, ve]) (Ls.put3 (put6 W (w.heap.size + 3) (.slice none 0 0) (.slice none 0 0) (.slice none 0 0) (.slice none 0 0) (.slice none 0 0) (.slice none 0 0)) (w.heap.size + 4) Ls.noSl) := by
  have h0 : Hp W W.heap.size noHs dNone := ⟨Row.none_ _ _, fun h => absurd h (Nat.lt_irrefl 0), Ls.L3.none_ _ _, fun h => absurd h (Nat.lt_irrefl 0)⟩
  obtain ⟨_, _, _, h6, h3⟩ := take_stored h h0 (Ls.L3.none_ W W.heap.size)
  exact res_take t6 t7 t8 t9 h6.box.c0 h6.box.c1 h6.box.c2 h6.box.c3 h6.box.c4 h6.box.c5 (h3.cell 0 (by decide)) (h3.cell 1 (by decide)) (h3.cell 2 (by decide))
end
theorem ptake_may (hp : Hp w w.heap.size s d) (l3 : Ls.L3 w w.heap.size u G) (hz : Cl.Sz w) (hf : FineT s d u G) (hm : mayH s d 1 (fun _ => G) = false) : Calls Tryz.prog 9 #[(.agg #[.slice s.w.a s.w.n s.w.c, .slice s.p.a s.p.n s.p.c, .slice (s.u 0).a (s.u 0).n (s.u 0).c, .slice (s.u 1).a (s.u 1).n (s.u 1).c, .slice (s.u 2).a (s.u 2).n (s.u 2).c, .slice s.c.a s.c.n s.c.c]), (.agg #[.slice (u 0).a (u 0).n (u 0).c, .slice (u 1).a (u 1).n (u 1).c, .slice (u 2).a (u 2).n (u 2).c]), .agg #[.bool us, .bool o, .bool e, .int .i64 N, .int .i64 b, .int .i64 m]] w (TakeOut w (tkNo 1)) := by
  have HP := Lib.hid hp
  have HL := Lib.hid l3
  have HZ := Lib.hid hz
  have hz0 := hz.pos
  have HM := Lib.hid (take_may s u d G us o e N b m w hz hf)
  rw [hm] at HM
  clear hm
  clear hp l3 hz hf
  go_enter Tryz.func9, Tryz.ntmps9
  go_wp2_with fail
  obtain ⟨W5, hW5⟩ : ∃ W5, W5 = ((((w.alloc (.cells #[.slice s.w.a s.w.n s.w.c, .slice s.p.a s.p.n s.p.c, .slice (s.u 0).a (s.u 0).n (s.u 0).c, .slice (s.u 1).a (s.u 1).n (s.u 1).c, .slice (s.u 2).a (s.u 2).n (s.u 2).c, .slice s.c.a s.c.n s.c.c] 28)).alloc (.cells #[.slice (u 0).a (u 0).n (u 0).c, .slice (u 1).a (u 1).n (u 1).c, .slice (u 2).a (u 2).n (u 2).c] 25)).alloc (.cells #[.bool us, .bool o, .bool e, .int .i64 N, .int .i64 b, .int .i64 m] 30)).alloc (.cells #[.slice none 0 0, .slice none 0 0, .slice none 0 0, .slice none 0 0, .slice none 0 0, .slice none 0 0] 28)).alloc (.cells #[.slice none 0 0, .slice none 0 0, .slice none 0 0] 25) := ⟨_, rfl⟩
  have T5 := Lib.hid (tk_start (us := us) HP.out HL.out hW5)
  have hz5 : w.heap.size + 1 + 1 + 1 + 1 + 1 = W5.heap.size := by rw [hW5]; simp
  rw [← hW5, hz5]
  clear hW5 hz5
  refine (HM.out W5 T5.out).mono ?_
  rintro e9 w6 ⟨rfl, hb6⟩
  have T6 := Lib.hid ((T5.out.next ((Below.refl _ _).alloc (Nat.le_refl _) (.cells #[.slice (u 0).a (u 0).n (u 0).c, .slice (u 1).a (u 1).n (u 1).c, .slice (u 2).a (u 2).n (u 2).c] 25))).next hb6)
  clear hb6 T5
  have g0 := T6.out.r6.free 0
  have g1 := T6.out.r6.free 1
  have g2 := T6.out.r6.free 2
  have g3 := T6.out.r6.free 3
  have g4 := T6.out.r6.free 4
  have g5 := T6.out.r6.free 5
  have y0 := T6.out.r6.box.c0
  have y1 := T6.out.r6.box.c1
  have y2 := T6.out.r6.box.c2
  have y3 := T6.out.r6.box.c3
  have y4 := T6.out.r6.box.c4
  have y5 := T6.out.r6.box.c5
  have yl := T6.out.r6.box.lt
  have i0 := T6.out.r3.cell 0 (by decide)
  have i1 := T6.out.r3.cell 1 (by decide)
  have i2 := T6.out.r3.cell 2 (by decide)
  have j0 := T6.out.r3.free 0
  have j1 := T6.out.r3.free 1
  have j2 := T6.out.r3.free 2
  have il := T6.out.r3.lt
  dsimp only [noHs, Ls.noSl] at y0 y1 y2 y3 y4 y5 i0 i1 i2
  go_wp2
  refine bodyPost_ret (v := .tuple #[(.agg #[.slice noHs.w.a noHs.w.n noHs.w.c, .slice noHs.p.a noHs.p.n noHs.p.c, .slice (noHs.u 0).a (noHs.u 0).n (noHs.u 0).c, .slice (noHs.u 1).a (noHs.u 1).n (noHs.u 1).c, .slice (noHs.u 2).a (noHs.u 2).n (noHs.u 2).c, .slice noHs.c.a noHs.c.n noHs.c.c]), (.agg #[.slice (Ls.noSl 0).a (Ls.noSl 0).n (Ls.noSl 0).c, .slice (Ls.noSl 1).a (Ls.noSl 1).n (Ls.noSl 1).c, .slice (Ls.noSl 2).a (Ls.noSl 2).n (Ls.noSl 2).c]), .int .i64 0, .int .i64 1]) ?_ rfl (take_no_end T6.out 1)
  exact take_no_res T6.out rfl rfl rfl rfl
theorem ptake_head (hp : Hp w w.heap.size s d) (l3 : Ls.L3 w w.heap.size u G) (hz : Cl.Sz w) (hf : FineT s d u G) (hm : mayH s d 1 (fun _ => G) = true) (hh : Hd.mayB us o e N b m = false) : Calls Tryz.prog 9 #[(.agg #[.slice s.w.a s.w.n s.w.c, .slice s.p.a s.p.n s.p.c, .slice (s.u 0).a (s.u 0).n (s.u 0).c, .slice (s.u 1).a (s.u 1).n (s.u 1).c, .slice (s.u 2).a (s.u 2).n (s.u 2).c, .slice s.c.a s.c.n s.c.c]), (.agg #[.slice (u 0).a (u 0).n (u 0).c, .slice (u 1).a (u 1).n (u 1).c, .slice (u 2).a (u 2).n (u 2).c]), .agg #[.bool us, .bool o, .bool e, .int .i64 N, .int .i64 b, .int .i64 m]] w (TakeOut w (tkNo 1)) := by
  have HP := Lib.hid hp
  have HL := Lib.hid l3
  have HZ := Lib.hid hz
  have hz0 := hz.pos
  have HM := Lib.hid (take_may s u d G us o e N b m w hz hf)
  rw [hm] at HM
  have HH := Lib.hid hh
  clear hm hh
  clear hp l3 hz hf
  go_enter Tryz.func9, Tryz.ntmps9
  go_wp2_with fail
  obtain ⟨W5, hW5⟩ : ∃ W5, W5 = ((((w.alloc (.cells #[.slice s.w.a s.w.n s.w.c, .slice s.p.a s.p.n s.p.c, .slice (s.u 0).a (s.u 0).n (s.u 0).c, .slice (s.u 1).a (s.u 1).n (s.u 1).c, .slice (s.u 2).a (s.u 2).n (s.u 2).c, .slice s.c.a s.c.n s.c.c] 28)).alloc (.cells #[.slice (u 0).a (u 0).n (u 0).c, .slice (u 1).a (u 1).n (u 1).c, .slice (u 2).a (u 2).n (u 2).c] 25)).alloc (.cells #[.bool us, .bool o, .bool e, .int .i64 N, .int .i64 b, .int .i64 m] 30)).alloc (.cells #[.slice none 0 0, .slice none 0 0, .slice none 0 0, .slice none 0 0, .slice none 0 0, .slice none 0 0] 28)).alloc (.cells #[.slice none 0 0, .slice none 0 0, .slice none 0 0] 25) := ⟨_, rfl⟩
  have T5 := Lib.hid (tk_start (us := us) HP.out HL.out hW5)
  have hz5 : w.heap.size + 1 + 1 + 1 + 1 + 1 = W5.heap.size := by rw [hW5]; simp
  rw [← hW5, hz5]
  clear hW5 hz5
  refine (HM.out W5 T5.out).mono ?_
  rintro e9 w6 ⟨rfl, hb6⟩
  have T6 := Lib.hid ((T5.out.next ((Below.refl _ _).alloc (Nat.le_refl _) (.cells #[.slice (u 0).a (u 0).n (u 0).c, .slice (u 1).a (u 1).n (u 1).c, .slice (u 2).a (u 2).n (u 2).c] 25))).next hb6)
  clear hb6 T5
  have x0 := T6.out.xb.c0
  have x1 := T6.out.xb.c1
  have x2 := T6.out.xb.c2
  have x3 := T6.out.xb.c3
  have x4 := T6.out.xb.c4
  have x5 := T6.out.xb.c5
  have xl := T6.out.xb.lt
  go_wp2_with fail
  refine (Hd.may_no us o e N b m w6 HH.out).mono ?_
  rintro e9 w7 ⟨rfl, hb7⟩
  have T7 := Lib.hid (T6.out.next hb7)
  clear x0 x1 x2 x3 x4 x5 xl
  clear hb7 T6
  have g0 := T7.out.r6.free 0
  have g1 := T7.out.r6.free 1
  have g2 := T7.out.r6.free 2
  have g3 := T7.out.r6.free 3
  have g4 := T7.out.r6.free 4
  have g5 := T7.out.r6.free 5
  have y0 := T7.out.r6.box.c0
  have y1 := T7.out.r6.box.c1
  have y2 := T7.out.r6.box.c2
  have y3 := T7.out.r6.box.c3
  have y4 := T7.out.r6.box.c4
  have y5 := T7.out.r6.box.c5
  have yl := T7.out.r6.box.lt
  have i0 := T7.out.r3.cell 0 (by decide)
  have i1 := T7.out.r3.cell 1 (by decide)
  have i2 := T7.out.r3.cell 2 (by decide)
  have j0 := T7.out.r3.free 0
  have j1 := T7.out.r3.free 1
  have j2 := T7.out.r3.free 2
  have il := T7.out.r3.lt
  dsimp only [noHs, Ls.noSl] at y0 y1 y2 y3 y4 y5 i0 i1 i2
  go_wp2
  refine bodyPost_ret (v := .tuple #[(.agg #[.slice noHs.w.a noHs.w.n noHs.w.c, .slice noHs.p.a noHs.p.n noHs.p.c, .slice (noHs.u 0).a (noHs.u 0).n (noHs.u 0).c, .slice (noHs.u 1).a (noHs.u 1).n (noHs.u 1).c, .slice (noHs.u 2).a (noHs.u 2).n (noHs.u 2).c, .slice noHs.c.a noHs.c.n noHs.c.c]), (.agg #[.slice (Ls.noSl 0).a (Ls.noSl 0).n (Ls.noSl 0).c, .slice (Ls.noSl 1).a (Ls.noSl 1).n (Ls.noSl 1).c, .slice (Ls.noSl 2).a (Ls.noSl 2).n (Ls.noSl 2).c]), .int .i64 0, .int .i64 1]) ?_ rfl (take_no_end T7.out 1)
  exact take_no_res T7.out rfl rfl rfl rfl
theorem ptake_used (hp : Hp w w.heap.size s d) (l3 : Ls.L3 w w.heap.size u G) (hz : Cl.Sz w) (hf : FineT s d u G) (hm : mayH s d 1 (fun _ => G) = true) (hh : Hd.mayB false o e N b m = true) : Calls Tryz.prog 9 #[(.agg #[.slice s.w.a s.w.n s.w.c, .slice s.p.a s.p.n s.p.c, .slice (s.u 0).a (s.u 0).n (s.u 0).c, .slice (s.u 1).a (s.u 1).n (s.u 1).c, .slice (s.u 2).a (s.u 2).n (s.u 2).c, .slice s.c.a s.c.n s.c.c]), (.agg #[.slice (u 0).a (u 0).n (u 0).c, .slice (u 1).a (u 1).n (u 1).c, .slice (u 2).a (u 2).n (u 2).c]), .agg #[.bool false, .bool o, .bool e, .int .i64 N, .int .i64 b, .int .i64 m]] w (TakeOut w (tkNo 1)) := by
  have HP := Lib.hid hp
  have HL := Lib.hid l3
  have HZ := Lib.hid hz
  have hz0 := hz.pos
  have HM := Lib.hid (take_may s u d G false o e N b m w hz hf)
  rw [hm] at HM
  have HH := Lib.hid hh
  clear hm hh
  clear hp l3 hz hf
  go_enter Tryz.func9, Tryz.ntmps9
  go_wp2_with fail
  obtain ⟨W5, hW5⟩ : ∃ W5, W5 = ((((w.alloc (.cells #[.slice s.w.a s.w.n s.w.c, .slice s.p.a s.p.n s.p.c, .slice (s.u 0).a (s.u 0).n (s.u 0).c, .slice (s.u 1).a (s.u 1).n (s.u 1).c, .slice (s.u 2).a (s.u 2).n (s.u 2).c, .slice s.c.a s.c.n s.c.c] 28)).alloc (.cells #[.slice (u 0).a (u 0).n (u 0).c, .slice (u 1).a (u 1).n (u 1).c, .slice (u 2).a (u 2).n (u 2).c] 25)).alloc (.cells #[.bool false, .bool o, .bool e, .int .i64 N, .int .i64 b, .int .i64 m] 30)).alloc (.cells #[.slice none 0 0, .slice none 0 0, .slice none 0 0, .slice none 0 0, .slice none 0 0, .slice none 0 0] 28)).alloc (.cells #[.slice none 0 0, .slice none 0 0, .slice none 0 0] 25) := ⟨_, rfl⟩
  have T5 := Lib.hid (tk_start (us := false) HP.out HL.out hW5)
  have hz5 : w.heap.size + 1 + 1 + 1 + 1 + 1 = W5.heap.size := by rw [hW5]; simp
  rw [← hW5, hz5]
  clear hW5 hz5
  refine (HM.out W5 T5.out).mono ?_
  rintro e9 w6 ⟨rfl, hb6⟩
  have T6 := Lib.hid ((T5.out.next ((Below.refl _ _).alloc (Nat.le_refl _) (.cells #[.slice (u 0).a (u 0).n (u 0).c, .slice (u 1).a (u 1).n (u 1).c, .slice (u 2).a (u 2).n (u 2).c] 25))).next hb6)
  clear hb6 T5
  have x0 := T6.out.xb.c0
  have x1 := T6.out.xb.c1
  have x2 := T6.out.xb.c2
  have x3 := T6.out.xb.c3
  have x4 := T6.out.xb.c4
  have x5 := T6.out.xb.c5
  have xl := T6.out.xb.lt
  go_wp2_with fail
  refine (Hd.may_yes false o e N b m w6 HH.out).mono ?_
  rintro e9 w7 ⟨rfl, hb7⟩
  have T7 := Lib.hid (T6.out.next hb7)
  clear x0 x1 x2 x3 x4 x5 xl
  clear hb7 T6
  have x0 := T7.out.xb.c0
  have x1 := T7.out.xb.c1
  have x2 := T7.out.xb.c2
  have x3 := T7.out.xb.c3
  have x4 := T7.out.xb.c4
  have x5 := T7.out.xb.c5
  have xl := T7.out.xb.lt
  have g0 := T7.out.r6.free 0
  have g1 := T7.out.r6.free 1
  have g2 := T7.out.r6.free 2
  have g3 := T7.out.r6.free 3
  have g4 := T7.out.r6.free 4
  have g5 := T7.out.r6.free 5
  have y0 := T7.out.r6.box.c0
  have y1 := T7.out.r6.box.c1
  have y2 := T7.out.r6.box.c2
  have y3 := T7.out.r6.box.c3
  have y4 := T7.out.r6.box.c4
  have y5 := T7.out.r6.box.c5
  have yl := T7.out.r6.box.lt
  have i0 := T7.out.r3.cell 0 (by decide)
  have i1 := T7.out.r3.cell 1 (by decide)
  have i2 := T7.out.r3.cell 2 (by decide)
  have j0 := T7.out.r3.free 0
  have j1 := T7.out.r3.free 1
  have j2 := T7.out.r3.free 2
  have il := T7.out.r3.lt
  dsimp only [noHs, Ls.noSl] at y0 y1 y2 y3 y4 y5 i0 i1 i2
  go_wp2
  refine bodyPost_ret (v := .tuple #[(.agg #[.slice noHs.w.a noHs.w.n noHs.w.c, .slice noHs.p.a noHs.p.n noHs.p.c, .slice (noHs.u 0).a (noHs.u 0).n (noHs.u 0).c, .slice (noHs.u 1).a (noHs.u 1).n (noHs.u 1).c, .slice (noHs.u 2).a (noHs.u 2).n (noHs.u 2).c, .slice noHs.c.a noHs.c.n noHs.c.c]), (.agg #[.slice (Ls.noSl 0).a (Ls.noSl 0).n (Ls.noSl 0).c, .slice (Ls.noSl 1).a (Ls.noSl 1).n (Ls.noSl 1).c, .slice (Ls.noSl 2).a (Ls.noSl 2).n (Ls.noSl 2).c]), .int .i64 0, .int .i64 1]) ?_ rfl (take_no_end T7.out 1)
  exact take_no_res T7.out rfl rfl rfl rfl
end
end Go.Proofs.YtmalopciboikhaaGreatDoor
end
section
namespace Go.Proofs.YtmalopciboikhaaGreatDoor
open Go.RowKit

section
variable {P : Program} {ops : Array Oper} {Q : Exit → Act → World → Prop} {md : Region.Mode}
theorem wpAny_inv (Inv : (Nat → Bool) → Act → World → Prop) (hdag : ∀ (i : Nat) (o : Oper), ops[i]? = some o → ∀ e ∈ o.after, Region.binds md e = true → e.on < i)
    (hstep : ∀ (i : Nat) (o : Oper) (l : Nat → Bool) (a : Act) (w : World), ops[i]? = some o → Inv l a w → l i = false → (∀ e ∈ o.after, Region.binds md e = true → l e.on = true) → ∀ K : Act → World → Prop, (∀ a' w', Inv (Ls.upd l i true) a' w' → K a' w') → wpOp P ops Q i K a w)
    (hdone : ∀ (l : Nat → Bool) (a : Act) (w : World), Inv l a w → (∀ i, i < ops.size → l i = true) → Q .normal a w) :
    ∀ (fuel : Nat) (listed : Array Bool) (l : Nat → Bool) (a : Act) (w : World), listed.size = ops.size → (∀ j, j < ops.size → listed.getD j true = l j) → Ls.todo ops.size l ≤ fuel → Inv l a w → wpAny P md ops Q fuel listed a w := by
  intro fuel
  induction fuel with
  | zero =>
    intro listed l a w hs hl ht hi
    have hall := Ls.todo_none ops.size (Nat.le_zero.1 ht)
    refine ⟨List.eq_nil_iff_forall_not_mem.2 fun j hj => ?_, hdone l a w hi hall⟩
    obtain ⟨h1, o, ho, _⟩ := mem_ready.1 hj
    have hlt : j < ops.size := (Array.getElem?_eq_some_iff.1 ho).1
    rw [hl j hlt, hall j hlt] at h1
    cases h1
  | succ fuel ih =>
    intro listed l a w hs hl ht hi
    refine ⟨fun hr => hdone l a w hi ?_, fun i hri => ?_⟩
    · intro i
      induction i using Nat.strongRecOn with
      | ind i ihi =>
        intro hlt
        cases hli : l i with
        | true => rfl
        | false =>
          have ho : ops[i]? = some ops[i] := Array.getElem?_eq_getElem hlt
          have : i ∈ Region.ready md ops listed := mem_ready.2 ⟨by rw [hl i hlt]; exact hli, _, ho, fun e he hbd => by
            have hlo := hdag i _ ho e he hbd
            have h1 := ihi e.on hlo (by omega)
            rw [← hl e.on (by omega)] at h1
            rw [Array.getD_eq_getD_getElem?] at h1 ⊢
            rw [Array.getElem?_eq_getElem (by omega)] at h1 ⊢
            exact h1⟩
          rw [hr] at this
          cases this
    · obtain ⟨h1, o, ho, ha⟩ := mem_ready.1 hri
      have hlt : i < ops.size := (Array.getElem?_eq_some_iff.1 ho).1
      rw [hl i hlt] at h1
      refine hstep i o l a w ho hi h1 (fun e he hb => ?_) _ (fun a' w' hi' => ih _ (Ls.upd l i true) a' w' (by simpa using hs) (fun j hj => ?_) ?_ hi')
      · have h2 := ha e he hb
        have hlo := hdag i o ho e he hb
        rw [← hl e.on (by omega)]
        rw [Array.getD_eq_getD_getElem?] at h2 ⊢
        rw [Array.getElem?_eq_getElem (by omega)] at h2 ⊢
        exact h2
      · by_cases e : j = i
        · subst e
          rw [Ls.upd_same, Array.getD_eq_getD_getElem?, Array.getElem?_setIfInBounds_self_of_lt (by omega)]
          rfl
        · rw [Ls.upd_other _ _ e, Array.getD_eq_getD_getElem?, Array.getElem?_setIfInBounds_ne (fun h => e h.symm), ← Array.getD_eq_getD_getElem?]
          exact hl j hj
      · have := Ls.todo_upd h1 ops.size hlt
        omega
theorem wp_region_from {id : Nat} {a : Act} {w : World} (hm : P.follows .mixedOrders = true) (Inv : Act → (Nat → Bool) → Act → World → Prop) (hdag : ∀ (i : Nat) (o : Oper), ops[i]? = some o → ∀ e ∈ o.after, Region.binds .any e = true → e.on < i)
    (hstart : Inv a (fun _ => false) a w.drew)
    (hstep : ∀ (i : Nat) (o : Oper) (l : Nat → Bool) (a' : Act) (w : World), ops[i]? = some o → Inv a l a' w → l i = false → (∀ e ∈ o.after, Region.binds .any e = true → l e.on = true) → ∀ K : Act → World → Prop, (∀ a'' w', Inv a (Ls.upd l i true) a'' w' → K a'' w') → wpOp P ops Q i K a' w)
    (hdone : ∀ (l : Nat → Bool) (a' : Act) (w : World), Inv a l a' w → (∀ i, i < ops.size → l i = true) → Q .normal a' w) : (Code.region id ops true).wp P Q a w :=
  wp_region_any hm (wpAny_inv (Inv a) hdag hstep hdone ops.size _ (fun _ => false) a w.drew (by simp) (fun j hj => by
    rw [Array.getD_eq_getD_getElem?, Array.getElem?_replicate, if_pos hj]
    rfl) (Ls.todo_le _ _) hstart)
/-- The edges that bind lead back. -/
def backAny (ops : Array Oper) : Bool := (List.range ops.size).all fun i => ((ops[i]?).map fun o => o.after.all fun e => !Region.binds .any e || decide (e.on < i)).getD true
theorem dag_any {ops : Array Oper} (h : backAny ops = true) : ∀ (i : Nat) (o : Oper), ops[i]? = some o → ∀ e ∈ o.after, Region.binds .any e = true → e.on < i := by
  intro i o ho e he hb
  have hi : i < ops.size := (Array.getElem?_eq_some_iff.1 ho).1
  have := List.all_eq_true.1 h i (List.mem_range.2 hi)
  rw [ho] at this
  simp only [Option.map_some, Option.getD_some] at this
  have := Array.all_eq_true_iff_forall_mem.1 this e he
  rw [hb] at this
  simpa using this
theorem wpOp_of {i : Nat} {o : Oper} {a : Act} {w : World} {K : Act → World → Prop} (ho : ops[i]? = some o)
    (h : if Region.wanted o (yielded ops a.tmps) = true then o.wp P a w K Q else K (a.put o.dst undef) w) : wpOp P ops Q i K a w := by
  unfold wpOp
  rw [ho]
  simp only
  split
  · next hw => rw [if_pos hw] at h; exact .inl h
  · next hw => rw [if_neg hw] at h; exact h
end
end Go.Proofs.YtmalopciboikhaaGreatDoor
end
section
namespace Go.Proofs.YtmalopciboikhaaGreatDoor
open Go.RowKit
set_option maxRecDepth 100000

/-- The other heap, in its box. -/
structure BB (W : World) (bb : Nat) (t : Hs) (d : Hd_) : Prop where
  box : HBox W bb t
  hp : Hp W W.heap.size t d
theorem BB.next {W W' : World} {bb : Nat} {t : Hs} {d : Hd_} (h : BB W bb t d) (hb : Below W.heap.size W W') : BB W' bb t d := ⟨h.box.next hb, h.hp.next hb⟩
structure KS (w W : World) (s t : Hs) (d d' : Hd_) (u o e : Bool) (n b m : Int) (bb : Nat) (A : Option Addr) (k : Nat) (us : List Int) : Prop where
  h : HNow w W s d
  x : X6 W (w.heap.size + 1) u o e n b m
  b : BB W bb t d'
  r : Row W W.heap.size A k us
theorem KS.next {w W W' : World} {s t : Hs} {d d' : Hd_} {u o e : Bool} {n b m : Int} {bb : Nat} {A : Option Addr} {k : Nat} {us : List Int} (h : KS w W s t d d' u o e n b m bb A k us) (hb : Below W.heap.size W W') : KS w W' s t d d' u o e n b m bb A k us :=
  ⟨h.h.next hb, h.x.next hb, h.b.next hb, (h.r.below hb).more hb.size⟩
theorem below_drew0 (w : World) : Below w.heap.size w w.drew := below_drawn' (Below.refl _ _) 1
section
variable {wr W : World} {bb br o : Nat} {t : Hs} {v : Value} (h : HBox wr bb t ∧ br < wr.heap.size ∧ wr.cell? ⟨br, o, none⟩ = some v)
include h
end
end Go.Proofs.YtmalopciboikhaaGreatDoor
end
