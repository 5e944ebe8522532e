/-
  Package shade: Shade, Black.
-/
import Derived.Test.YtccjelpfmkbmiaaGreatDoorHpXH
import Derived.Deep.RegionHeld3
namespace Go.Proofs.YtccjelpfmkbmiaaGreatDoor.Sh
open Go.Proofs.YtccjelpfmkbmiaaGreatDoor
open Go.RowKit
set_option maxRecDepth 100000

/-- What Shade leaves: a heap, and a collector. -/
def ShOut (w : World) (s : Hs) (k : Ks) (d' : Hd_) (o : Bool) (xs : List Int) (e : Ending) (w' : World) : Prop :=
  ∃ (t : Hs) (v : Ls.Sl), e = .returned (.tuple #[(.agg #[.slice t.w.a t.w.n t.w.c, .slice t.p.a t.p.n t.p.c, .slice (t.u 0).a (t.u 0).n (t.u 0).c, .slice (t.u 1).a (t.u 1).n (t.u 1).c, .slice (t.u 2).a (t.u 2).n (t.u 2).c, .slice t.c.a t.c.n t.c.c]), (.agg #[.int .i64 k.ph, .int .i64 k.ep, .bool k.mj, .slice v.a v.n v.c, .bool o, .int .i64 k.pa, .int .i64 k.pf, .int .i64 k.ps, .int .i64 k.pc, .bool k.me])]) ∧ Hp w' w'.heap.size t d' ∧ Lens s t ∧ News w.heap.size t ∧ Ls.Alling w w' v xs
theorem box6_new (w : World) (s : Hs) (ty : TypeId) : Box6 (w.alloc (.cells #[.slice s.w.a s.w.n s.w.c, .slice s.p.a s.p.n s.p.c, .slice (s.u 0).a (s.u 0).n (s.u 0).c, .slice (s.u 1).a (s.u 1).n (s.u 1).c, .slice (s.u 2).a (s.u 2).n (s.u 2).c, .slice s.c.a s.c.n s.c.c] ty)) w.heap.size s := ⟨HBox.new w s ty, fun j => by simp [go_sem]⟩
theorem own_next {W W' : World} {base n : Nat} {v : Value} {xs : List Value} (h : W.ownsRow base 3 1 v n xs) (hb : Below W.heap.size W W') : W'.ownsRow base 3 1 v n xs :=
  Ls.World.ownsRow.same h fun g hg _ => hb.block g (h.lt g hg).2
/-- A box of six cells that may be stored to. -/
structure T6 (W : World) (b : Nat) : Prop where
  has : ∀ j, j < 6 → ∃ v, W.cell? ⟨b, j, none⟩ = some v
  free : ∀ j, W.frozen? ⟨b, j, none⟩ = false
  lt : b < W.heap.size
theorem T6.same {W W' : World} {b : Nat} (h : T6 W b) (hs : W'.heap[b]? = W.heap[b]?) (hl : W.heap.size ≤ W'.heap.size) : T6 W' b :=
  ⟨fun j hj => by obtain ⟨v, e⟩ := h.has j hj; exact ⟨v, (World.cell?_of_block (a := ⟨b, j, none⟩) hs).trans e⟩, fun j => (World.frozen?_of_block (a := ⟨b, j, none⟩) hs).trans (h.free j), Nat.lt_of_lt_of_le h.lt hl⟩
theorem T6.set {W : World} {b : Nat} (h : T6 W b) (j : Nat) (v : Value) : T6 (W.setCell ⟨b, j, none⟩ v) b :=
  ⟨fun i hi => by
    obtain ⟨x, e⟩ := h.has i hi
    exact ⟨_, cell_set e rfl⟩, frozen_set h.free, by simp only [World.size_setCell]; exact h.lt⟩
theorem T6.put {W : World} {b : Nat} (h : T6 W b) (v0 v1 v2 v3 v4 v5 : Value) : T6 (put6 W b v0 v1 v2 v3 v4 v5) b := (((((h.set 0 v0).set 1 v1).set 2 v2).set 3 v3).set 4 v4).set 5 v5
theorem t6_of {W : World} {b : Nat} {s : Hs} (h : Box6 W b s) : T6 W b :=
  ⟨fun j hj => by
    match j, hj with
    | 0, _ => exact ⟨_, h.box.c0⟩
    | 1, _ => exact ⟨_, h.box.c1⟩
    | 2, _ => exact ⟨_, h.box.c2⟩
    | 3, _ => exact ⟨_, h.box.c3⟩
    | 4, _ => exact ⟨_, h.box.c4⟩
    | 5, _ => exact ⟨_, h.box.c5⟩, h.free, h.box.lt⟩
theorem put6_t6 {W : World} {b : Nat} (h : T6 W b) (v0 v1 v2 v3 v4 v5 : Value) : (put6 W b v0 v1 v2 v3 v4 v5).cell? ⟨b, 0, none⟩ = some v0 ∧ (put6 W b v0 v1 v2 v3 v4 v5).cell? ⟨b, 1, none⟩ = some v1 ∧ (put6 W b v0 v1 v2 v3 v4 v5).cell? ⟨b, 2, none⟩ = some v2 ∧ (put6 W b v0 v1 v2 v3 v4 v5).cell? ⟨b, 3, none⟩ = some v3 ∧ (put6 W b v0 v1 v2 v3 v4 v5).cell? ⟨b, 4, none⟩ = some v4 ∧ (put6 W b v0 v1 v2 v3 v4 v5).cell? ⟨b, 5, none⟩ = some v5 := by
  obtain ⟨x0, h0⟩ := h.has 0 (by decide)
  obtain ⟨x1, h1⟩ := h.has 1 (by decide)
  obtain ⟨x2, h2⟩ := h.has 2 (by decide)
  obtain ⟨x3, h3⟩ := h.has 3 (by decide)
  obtain ⟨x4, h4⟩ := h.has 4 (by decide)
  obtain ⟨x5, h5⟩ := h.has 5 (by decide)
  refine ⟨?_, ?_, ?_, ?_, ?_, ?_⟩ <;> simp [put6, go_sem, h0, h1, h2, h3, h4, h5]
/-- The boxes of a walk through Shade. -/
structure Sw (w W : World) (s : Hs) (d : Hd_) (k : Ks) (xs : List Int) : Prop where
  bel : Below w.heap.size w W
  hb : Box6 W w.heap.size s
  kb : CBox W (w.heap.size + 1) k
  rb : T6 W (w.heap.size + 2)
  rt : T10 W (w.heap.size + 3)
  hp0 : Hp w w.heap.size s d
  wr0 : WRow w w.heap.size k xs
/-- The collector of its own. -/
structure So (w W : World) (k : Ks) (b : Nat) (v : Ls.Sl) (o : Bool) (xs : List Int) : Prop where
  cb : CBox W b (kw k v o)
  ct : T10 W b
  own : W.ownsRow (w.heap.size + 4) 3 1 (.slice v.a v.n v.c) v.n (xs.map (Value.int .i64))
  off : ∀ g, (Value.slice v.a v.n v.c).ownBlock = some g → ¬ g = b
  lo : w.heap.size + 4 ≤ b
section
variable {w W W' w3 : World} {s t : Hs} {d d' : Hd_} {k : Ks} {xs ys : List Int} {b b5 : Nat} {v : Ls.Sl} {o : Bool}
theorem Sw.hp (h : Sw w W s d k xs) : Hp W W.heap.size s d := h.hp0.next h.bel
theorem Sw.wr (h : Sw w W s d k xs) : WRow W W.heap.size k xs := h.wr0.next h.bel
theorem Sw.same (h : Sw w W s d k xs) (hb : Below (w.heap.size + 4) W W') : Sw w W' s d k xs := by
  have hs : ∀ g, g < w.heap.size + 4 → W'.heap[g]? = W.heap[g]? := fun g hg => hb.block g hg
  exact ⟨h.bel.trans (hb.mono (by omega)), h.hb.same (hs _ (by omega)) hb.size, h.kb.same (hs _ (by omega)) hb.size, h.rb.same (hs _ (by omega)) hb.size, h.rt.same (hs _ (by omega)) hb.size, h.hp0, h.wr0⟩
theorem Sw.next (h : Sw w W s d k xs) (hb : Below W.heap.size W W') : Sw w W' s d k xs := h.same (hb.mono (by have := h.rt.lt; omega))
theorem sw_start {t1 t2 t3 t4 : TypeId} (hp : Hp w w.heap.size s d) (hk : WRow w w.heap.size k xs) (h : W = (((w.alloc (.cells #[.slice s.w.a s.w.n s.w.c, .slice s.p.a s.p.n s.p.c, .slice (s.u 0).a (s.u 0).n (s.u 0).c, .slice (s.u 1).a (s.u 1).n (s.u 1).c, .slice (s.u 2).a (s.u 2).n (s.u 2).c, .slice s.c.a s.c.n s.c.c] t1)).alloc (.cells #[.int .i64 k.ph, .int .i64 k.ep, .bool k.mj, .slice k.wk.a k.wk.n k.wk.c, .bool k.ov, .int .i64 k.pa, .int .i64 k.pf, .int .i64 k.ps, .int .i64 k.pc, .bool k.me] t2)).alloc (.cells #[.slice none 0 0, .slice none 0 0, .slice none 0 0, .slice none 0 0, .slice none 0 0, .slice none 0 0] t3)).alloc (.cells #[.int .i64 0, .int .i64 0, .bool false, .slice none 0 0, .bool false, .int .i64 0, .int .i64 0, .int .i64 0, .int .i64 0, .bool false] t4)) : Sw w W s d k xs ∧ W.heap.size = w.heap.size + 4 := by
  have z1 : (w.alloc (.cells #[.slice s.w.a s.w.n s.w.c, .slice s.p.a s.p.n s.p.c, .slice (s.u 0).a (s.u 0).n (s.u 0).c, .slice (s.u 1).a (s.u 1).n (s.u 1).c, .slice (s.u 2).a (s.u 2).n (s.u 2).c, .slice s.c.a s.c.n s.c.c] t1)).heap.size = w.heap.size + 1 := World.size_alloc _ _
  have z2 : ((w.alloc (.cells #[.slice s.w.a s.w.n s.w.c, .slice s.p.a s.p.n s.p.c, .slice (s.u 0).a (s.u 0).n (s.u 0).c, .slice (s.u 1).a (s.u 1).n (s.u 1).c, .slice (s.u 2).a (s.u 2).n (s.u 2).c, .slice s.c.a s.c.n s.c.c] t1)).alloc (.cells #[.int .i64 k.ph, .int .i64 k.ep, .bool k.mj, .slice k.wk.a k.wk.n k.wk.c, .bool k.ov, .int .i64 k.pa, .int .i64 k.pf, .int .i64 k.ps, .int .i64 k.pc, .bool k.me] t2)).heap.size = w.heap.size + 2 := by rw [World.size_alloc, z1]
  have z3 : (((w.alloc (.cells #[.slice s.w.a s.w.n s.w.c, .slice s.p.a s.p.n s.p.c, .slice (s.u 0).a (s.u 0).n (s.u 0).c, .slice (s.u 1).a (s.u 1).n (s.u 1).c, .slice (s.u 2).a (s.u 2).n (s.u 2).c, .slice s.c.a s.c.n s.c.c] t1)).alloc (.cells #[.int .i64 k.ph, .int .i64 k.ep, .bool k.mj, .slice k.wk.a k.wk.n k.wk.c, .bool k.ov, .int .i64 k.pa, .int .i64 k.pf, .int .i64 k.ps, .int .i64 k.pc, .bool k.me] t2)).alloc (.cells #[.slice none 0 0, .slice none 0 0, .slice none 0 0, .slice none 0 0, .slice none 0 0, .slice none 0 0] t3)).heap.size = w.heap.size + 3 := by rw [World.size_alloc, z2]
  have z4 : W.heap.size = w.heap.size + 4 := by rw [h, World.size_alloc, z3]
  have b4 : Below (((w.alloc (.cells #[.slice s.w.a s.w.n s.w.c, .slice s.p.a s.p.n s.p.c, .slice (s.u 0).a (s.u 0).n (s.u 0).c, .slice (s.u 1).a (s.u 1).n (s.u 1).c, .slice (s.u 2).a (s.u 2).n (s.u 2).c, .slice s.c.a s.c.n s.c.c] t1)).alloc (.cells #[.int .i64 k.ph, .int .i64 k.ep, .bool k.mj, .slice k.wk.a k.wk.n k.wk.c, .bool k.ov, .int .i64 k.pa, .int .i64 k.pf, .int .i64 k.ps, .int .i64 k.pc, .bool k.me] t2)).alloc (.cells #[.slice none 0 0, .slice none 0 0, .slice none 0 0, .slice none 0 0, .slice none 0 0, .slice none 0 0] t3)).heap.size (((w.alloc (.cells #[.slice s.w.a s.w.n s.w.c, .slice s.p.a s.p.n s.p.c, .slice (s.u 0).a (s.u 0).n (s.u 0).c, .slice (s.u 1).a (s.u 1).n (s.u 1).c, .slice (s.u 2).a (s.u 2).n (s.u 2).c, .slice s.c.a s.c.n s.c.c] t1)).alloc (.cells #[.int .i64 k.ph, .int .i64 k.ep, .bool k.mj, .slice k.wk.a k.wk.n k.wk.c, .bool k.ov, .int .i64 k.pa, .int .i64 k.pf, .int .i64 k.ps, .int .i64 k.pc, .bool k.me] t2)).alloc (.cells #[.slice none 0 0, .slice none 0 0, .slice none 0 0, .slice none 0 0, .slice none 0 0, .slice none 0 0] t3)) W := by rw [h]; exact (Below.refl _ _).alloc (Nat.le_refl _) _
  have b3 : Below ((w.alloc (.cells #[.slice s.w.a s.w.n s.w.c, .slice s.p.a s.p.n s.p.c, .slice (s.u 0).a (s.u 0).n (s.u 0).c, .slice (s.u 1).a (s.u 1).n (s.u 1).c, .slice (s.u 2).a (s.u 2).n (s.u 2).c, .slice s.c.a s.c.n s.c.c] t1)).alloc (.cells #[.int .i64 k.ph, .int .i64 k.ep, .bool k.mj, .slice k.wk.a k.wk.n k.wk.c, .bool k.ov, .int .i64 k.pa, .int .i64 k.pf, .int .i64 k.ps, .int .i64 k.pc, .bool k.me] t2)).heap.size ((w.alloc (.cells #[.slice s.w.a s.w.n s.w.c, .slice s.p.a s.p.n s.p.c, .slice (s.u 0).a (s.u 0).n (s.u 0).c, .slice (s.u 1).a (s.u 1).n (s.u 1).c, .slice (s.u 2).a (s.u 2).n (s.u 2).c, .slice s.c.a s.c.n s.c.c] t1)).alloc (.cells #[.int .i64 k.ph, .int .i64 k.ep, .bool k.mj, .slice k.wk.a k.wk.n k.wk.c, .bool k.ov, .int .i64 k.pa, .int .i64 k.pf, .int .i64 k.ps, .int .i64 k.pc, .bool k.me] t2)) W := ((Below.refl _ _).alloc (Nat.le_refl _) _).trans (b4.mono (by omega))
  have b2 : Below (w.alloc (.cells #[.slice s.w.a s.w.n s.w.c, .slice s.p.a s.p.n s.p.c, .slice (s.u 0).a (s.u 0).n (s.u 0).c, .slice (s.u 1).a (s.u 1).n (s.u 1).c, .slice (s.u 2).a (s.u 2).n (s.u 2).c, .slice s.c.a s.c.n s.c.c] t1)).heap.size (w.alloc (.cells #[.slice s.w.a s.w.n s.w.c, .slice s.p.a s.p.n s.p.c, .slice (s.u 0).a (s.u 0).n (s.u 0).c, .slice (s.u 1).a (s.u 1).n (s.u 1).c, .slice (s.u 2).a (s.u 2).n (s.u 2).c, .slice s.c.a s.c.n s.c.c] t1)) W := ((Below.refl _ _).alloc (Nat.le_refl _) _).trans (b3.mono (by omega))
  have b1 : Below w.heap.size w W := ((Below.refl _ _).alloc (Nat.le_refl _) _).trans (b2.mono (by omega))
  have x2 := (CBox.new (w.alloc (.cells #[.slice s.w.a s.w.n s.w.c, .slice s.p.a s.p.n s.p.c, .slice (s.u 0).a (s.u 0).n (s.u 0).c, .slice (s.u 1).a (s.u 1).n (s.u 1).c, .slice (s.u 2).a (s.u 2).n (s.u 2).c, .slice s.c.a s.c.n s.c.c] t1)) k t2).next b3
  have x3 := (box6_new ((w.alloc (.cells #[.slice s.w.a s.w.n s.w.c, .slice s.p.a s.p.n s.p.c, .slice (s.u 0).a (s.u 0).n (s.u 0).c, .slice (s.u 1).a (s.u 1).n (s.u 1).c, .slice (s.u 2).a (s.u 2).n (s.u 2).c, .slice s.c.a s.c.n s.c.c] t1)).alloc (.cells #[.int .i64 k.ph, .int .i64 k.ep, .bool k.mj, .slice k.wk.a k.wk.n k.wk.c, .bool k.ov, .int .i64 k.pa, .int .i64 k.pf, .int .i64 k.ps, .int .i64 k.pc, .bool k.me] t2)) noHs t3).next b4
  have x4 := T10.new (((w.alloc (.cells #[.slice s.w.a s.w.n s.w.c, .slice s.p.a s.p.n s.p.c, .slice (s.u 0).a (s.u 0).n (s.u 0).c, .slice (s.u 1).a (s.u 1).n (s.u 1).c, .slice (s.u 2).a (s.u 2).n (s.u 2).c, .slice s.c.a s.c.n s.c.c] t1)).alloc (.cells #[.int .i64 k.ph, .int .i64 k.ep, .bool k.mj, .slice k.wk.a k.wk.n k.wk.c, .bool k.ov, .int .i64 k.pa, .int .i64 k.pf, .int .i64 k.ps, .int .i64 k.pc, .bool k.me] t2)).alloc (.cells #[.slice none 0 0, .slice none 0 0, .slice none 0 0, .slice none 0 0, .slice none 0 0, .slice none 0 0] t3)) noKs t4
  rw [z1] at x2
  rw [z2] at x3
  rw [z3] at x4
  exact ⟨⟨b1, (box6_new w s t1).next b2, x2, t6_of x3, by rw [h]; exact x4, hp, hk⟩, z4⟩
theorem So.next (h : So w W k b v o xs) (hb : Below W.heap.size W W') : So w W' k b v o xs := ⟨h.cb.next hb, h.ct.next hb, own_next h.own hb, h.off, h.lo⟩
/-- Another block is turned. -/
theorem So.other (h : So w W k b v o xs) (hl : W.heap.size ≤ W'.heap.size) (h5 : ¬ b5 = b) (hv : ∀ g, (Value.slice v.a v.n v.c).ownBlock = some g → ¬ g = b5) (hs : ∀ g, ¬ g = b5 → W'.heap[g]? = W.heap[g]?) : So w W' k b v o xs :=
  ⟨h.cb.same (hs _ (fun e => h5 e.symm)) hl, h.ct.same (hs _ (fun e => h5 e.symm)) hl, Ls.World.ownsRow.same h.own fun g hg _ => hs g (hv g hg), h.off, h.lo⟩
theorem so_start {ty : TypeId} (h0 : W.heap.size = w.heap.size + 4) (ha : Ls.Alling W w3 v xs) (hw : W' = w3.alloc (.cells #[.int .i64 k.ph, .int .i64 k.ep, .bool k.mj, .slice v.a v.n v.c, .bool o, .int .i64 k.pa, .int .i64 k.pf, .int .i64 k.ps, .int .i64 k.pc, .bool k.me] ty)) : So w W' k w3.heap.size v o xs ∧ (∀ g, (Value.slice v.a v.n v.c).ownBlock = some g → g < w3.heap.size) := by
  have hs := ha.bel.size
  refine ⟨⟨by rw [hw]; exact CBox.new w3 (kw k v o) ty, by rw [hw]; exact T10.new w3 (kw k v o) ty, by rw [hw, ← h0]; exact ha.own.alloc _, fun g hg => ?_, by omega⟩, fun g hg => (ha.own.lt g hg).2⟩
  have := (ha.own.lt g hg).2
  omega
/-- The end: both results were stored. -/
theorem sh_end (hp : Hp W W.heap.size t d') (hl : Lens s t) (nw : News (w.heap.size + 4) t) (own : W.ownsRow (w.heap.size + 4) 3 1 (.slice v.a v.n v.c) v.n (xs.map (Value.int .i64))) (hb : Below w.heap.size w W') (hs : ∀ g, ¬ g = w.heap.size + 2 → ¬ g = w.heap.size + 3 → W'.heap[g]? = W.heap[g]?) (hz : W.heap.size = W'.heap.size) :
    ShOut w s k d' o xs (.returned (.tuple #[(.agg #[.slice t.w.a t.w.n t.w.c, .slice t.p.a t.p.n t.p.c, .slice (t.u 0).a (t.u 0).n (t.u 0).c, .slice (t.u 1).a (t.u 1).n (t.u 1).c, .slice (t.u 2).a (t.u 2).n (t.u 2).c, .slice t.c.a t.c.n t.c.c]), (.agg #[.int .i64 k.ph, .int .i64 k.ep, .bool k.mj, .slice v.a v.n v.c, .bool o, .int .i64 k.pa, .int .i64 k.pf, .int .i64 k.ps, .int .i64 k.pc, .bool k.me])])) W' := by
  refine ⟨t, v, rfl, nw.kept hp (fun g h1 _ => hs g (by omega) (by omega)) (Nat.le_of_eq hz), hl, ⟨fun h0 x hx => by have := nw.w h0 x hx; omega, fun h0 x hx => by have := nw.p h0 x hx; omega, fun j hj h0 x hx => by have := nw.u j hj h0 x hx; omega, fun h0 x hx => by have := nw.c h0 x hx; omega⟩, own_less' (Ls.World.ownsRow.same own fun g hg _ => ?_) (show w.heap.size ≤ w.heap.size + 4 by omega), hb⟩
  have := (own.lt g hg).1
  exact hs g (by omega) (by omega)
end
theorem res_shade {W : World} {b c : Nat} {tm : Array Value} {v0 v1 v2 v3 v4 v5 u0 u1 u2 u3 u4 u5 u6 u7 u8 u9 : Value} (h6 : tm[6]? = some (.pointer (some ⟨b, 0, none⟩))) (h7 : tm[7]? = some (.pointer (some ⟨c, 0, none⟩))) (k0 : W.cell? ⟨b, 0, none⟩ = some v0) (k1 : W.cell? ⟨b, 1, none⟩ = some v1) (k2 : W.cell? ⟨b, 2, none⟩ = some v2) (k3 : W.cell? ⟨b, 3, none⟩ = some v3) (k4 : W.cell? ⟨b, 4, none⟩ = some v4) (k5 : W.cell? ⟨b, 5, none⟩ = some v5) (l0 : W.cell? ⟨c, 0, none⟩ = some u0) (l1 : W.cell? ⟨c, 1, none⟩ = some u1) (l2 : W.cell? ⟨c, 2, none⟩ = some u2) (l3 : W.cell? ⟨c, 3, none⟩ = some u3) (l4 : W.cell? ⟨c, 4, none⟩ = some u4) (l5 : W.cell? ⟨c, 5, none⟩ = some u5) (l6 : W.cell? ⟨c, 6, none⟩ = some u6) (l7 : W.cell? ⟨c, 7, none⟩ = some u7) (l8 : W.cell? ⟨c, 8, none⟩ = some u8) (l9 : W.cell? ⟨c, 9, none⟩ = some u9) :
    (results Tryz.f60 tm).run Tryz.prog W = .ok (.tuple #[.agg #[v0, v1, v2, v3, v4, v5], .agg #[u0, u1, u2, u3, u4, u5, u6, u7, u8, u9]]) W := by
  simp [results, Tryz.results60, go_sem, h6, h7, k0, k1, k2, k3, k4, k5, l0, l1, l2, l3, l4, l5, l6, l7, l8, l9]
theorem res_shade_drew {W : World} {b c : Nat} {tm : Array Value} {v0 v1 v2 v3 v4 v5 u0 u1 u2 u3 u4 u5 u6 u7 u8 u9 : Value} (h6 : tm[6]? = some (.pointer (some ⟨b, 0, none⟩))) (h7 : tm[7]? = some (.pointer (some ⟨c, 0, none⟩))) (k0 : W.cell? ⟨b, 0, none⟩ = some v0) (k1 : W.cell? ⟨b, 1, none⟩ = some v1) (k2 : W.cell? ⟨b, 2, none⟩ = some v2) (k3 : W.cell? ⟨b, 3, none⟩ = some v3) (k4 : W.cell? ⟨b, 4, none⟩ = some v4) (k5 : W.cell? ⟨b, 5, none⟩ = some v5) (l0 : W.cell? ⟨c, 0, none⟩ = some u0) (l1 : W.cell? ⟨c, 1, none⟩ = some u1) (l2 : W.cell? ⟨c, 2, none⟩ = some u2) (l3 : W.cell? ⟨c, 3, none⟩ = some u3) (l4 : W.cell? ⟨c, 4, none⟩ = some u4) (l5 : W.cell? ⟨c, 5, none⟩ = some u5) (l6 : W.cell? ⟨c, 6, none⟩ = some u6) (l7 : W.cell? ⟨c, 7, none⟩ = some u7) (l8 : W.cell? ⟨c, 8, none⟩ = some u8) (l9 : W.cell? ⟨c, 9, none⟩ = some u9) :
    (results Tryz.f60 tm).run Tryz.prog W.drew = .ok (.tuple #[.agg #[v0, v1, v2, v3, v4, v5], .agg #[u0, u1, u2, u3, u4, u5, u6, u7, u8, u9]]) W.drew :=
  res_shade (W := W.drew) h6 h7 k0 k1 k2 k3 k4 k5 l0 l1 l2 l3 l4 l5 l6 l7 l8 l9
theorem ends_a {W : World} {b c : Nat} (hb : T6 W b) (hc : T10 W c) (hn : ¬ b = c) (v0 v1 v2 v3 v4 v5 u0 u1 u2 u3 u4 u5 u6 u7 u8 u9 : Value) : ((put10 (put6 W b v0 v1 v2 v3 v4 v5) c u0 u1 u2 u3 u4 u5 u6 u7 u8 u9).cell? ⟨b, 0, none⟩ = some v0 ∧ (put10 (put6 W b v0 v1 v2 v3 v4 v5) c u0 u1 u2 u3 u4 u5 u6 u7 u8 u9).cell? ⟨b, 1, none⟩ = some v1 ∧ (put10 (put6 W b v0 v1 v2 v3 v4 v5) c u0 u1 u2 u3 u4 u5 u6 u7 u8 u9).cell? ⟨b, 2, none⟩ = some v2 ∧ (put10 (put6 W b v0 v1 v2 v3 v4 v5) c u0 u1 u2 u3 u4 u5 u6 u7 u8 u9).cell? ⟨b, 3, none⟩ = some v3 ∧ (put10 (put6 W b v0 v1 v2 v3 v4 v5) c u0 u1 u2 u3 u4 u5 u6 u7 u8 u9).cell? ⟨b, 4, none⟩ = some v4 ∧ (put10 (put6 W b v0 v1 v2 v3 v4 v5) c u0 u1 u2 u3 u4 u5 u6 u7 u8 u9).cell? ⟨b, 5, none⟩ = some v5) ∧ (put10 (put6 W b v0 v1 v2 v3 v4 v5) c u0 u1 u2 u3 u4 u5 u6 u7 u8 u9).cell? ⟨c, 0, none⟩ = some u0 ∧ (put10 (put6 W b v0 v1 v2 v3 v4 v5) c u0 u1 u2 u3 u4 u5 u6 u7 u8 u9).cell? ⟨c, 1, none⟩ = some u1 ∧ (put10 (put6 W b v0 v1 v2 v3 v4 v5) c u0 u1 u2 u3 u4 u5 u6 u7 u8 u9).cell? ⟨c, 2, none⟩ = some u2 ∧ (put10 (put6 W b v0 v1 v2 v3 v4 v5) c u0 u1 u2 u3 u4 u5 u6 u7 u8 u9).cell? ⟨c, 3, none⟩ = some u3 ∧ (put10 (put6 W b v0 v1 v2 v3 v4 v5) c u0 u1 u2 u3 u4 u5 u6 u7 u8 u9).cell? ⟨c, 4, none⟩ = some u4 ∧ (put10 (put6 W b v0 v1 v2 v3 v4 v5) c u0 u1 u2 u3 u4 u5 u6 u7 u8 u9).cell? ⟨c, 5, none⟩ = some u5 ∧ (put10 (put6 W b v0 v1 v2 v3 v4 v5) c u0 u1 u2 u3 u4 u5 u6 u7 u8 u9).cell? ⟨c, 6, none⟩ = some u6 ∧ (put10 (put6 W b v0 v1 v2 v3 v4 v5) c u0 u1 u2 u3 u4 u5 u6 u7 u8 u9).cell? ⟨c, 7, none⟩ = some u7 ∧ (put10 (put6 W b v0 v1 v2 v3 v4 v5) c u0 u1 u2 u3 u4 u5 u6 u7 u8 u9).cell? ⟨c, 8, none⟩ = some u8 ∧ (put10 (put6 W b v0 v1 v2 v3 v4 v5) c u0 u1 u2 u3 u4 u5 u6 u7 u8 u9).cell? ⟨c, 9, none⟩ = some u9 := by
  have hk := put10_at (hc.same (W' := put6 W b v0 v1 v2 v3 v4 v5) (put6_other _ _ v0 v1 v2 v3 v4 v5 (fun e => hn e.symm)) (Nat.le_of_eq (put6_size _ _ v0 v1 v2 v3 v4 v5).symm)) u0 u1 u2 u3 u4 u5 u6 u7 u8 u9
  obtain ⟨k0, k1, k2, k3, k4, k5⟩ := put6_t6 hb v0 v1 v2 v3 v4 v5
  have e := fun j => World.cell?_of_block (a := (⟨b, j, none⟩ : Addr)) (put10_other (put6 W b v0 v1 v2 v3 v4 v5) c u0 u1 u2 u3 u4 u5 u6 u7 u8 u9 hn)
  exact ⟨⟨(e 0).trans k0, (e 1).trans k1, (e 2).trans k2, (e 3).trans k3, (e 4).trans k4, (e 5).trans k5⟩, hk⟩
theorem stay_a {W : World} {n : Nat} (hb : Below n W W) (v0 v1 v2 v3 v4 v5 u0 u1 u2 u3 u4 u5 u6 u7 u8 u9 : Value) : (∀ g, ¬ g = n + 2 → ¬ g = n + 3 → (put10 (put6 W (n + 2) v0 v1 v2 v3 v4 v5) (n + 3) u0 u1 u2 u3 u4 u5 u6 u7 u8 u9).heap[g]? = W.heap[g]?) ∧ W.heap.size = (put10 (put6 W (n + 2) v0 v1 v2 v3 v4 v5) (n + 3) u0 u1 u2 u3 u4 u5 u6 u7 u8 u9).heap.size ∧ Below n W (put10 (put6 W (n + 2) v0 v1 v2 v3 v4 v5) (n + 3) u0 u1 u2 u3 u4 u5 u6 u7 u8 u9) :=
  ⟨fun g h1 h2 => (put10_other _ _ u0 u1 u2 u3 u4 u5 u6 u7 u8 u9 h2).trans (put6_other _ _ v0 v1 v2 v3 v4 v5 h1), by rw [put10_size, put6_size], below_put10 (below_put6 hb (by omega) v0 v1 v2 v3 v4 v5) (by omega) u0 u1 u2 u3 u4 u5 u6 u7 u8 u9⟩
theorem news_less {N M : Nat} {t : Hs} (h : News M t) (hle : N ≤ M) : News N t := ⟨fun h0 x hx => Nat.le_trans hle (h.w h0 x hx), fun h0 x hx => Nat.le_trans hle (h.p h0 x hx), fun j hj h0 x hx => Nat.le_trans hle (h.u j hj h0 x hx), fun h0 x hx => Nat.le_trans hle (h.c h0 x hx)⟩
theorem sh_end_a {w W : World} {s t : Hs} {d' : Hd_} {k : Ks} {xs : List Int} {v : Ls.Sl} {o : Bool} (v0 v1 v2 v3 v4 v5 u0 u1 u2 u3 u4 u5 u6 u7 u8 u9 : Value) (bel : Below w.heap.size w W) (hp : Hp W W.heap.size t d') (hl : Lens s t) (nw : News (w.heap.size + 4) t) (own : W.ownsRow (w.heap.size + 4) 3 1 (.slice v.a v.n v.c) v.n (xs.map (Value.int .i64))) :
    ShOut w s k d' o xs (.returned (.tuple #[(.agg #[.slice t.w.a t.w.n t.w.c, .slice t.p.a t.p.n t.p.c, .slice (t.u 0).a (t.u 0).n (t.u 0).c, .slice (t.u 1).a (t.u 1).n (t.u 1).c, .slice (t.u 2).a (t.u 2).n (t.u 2).c, .slice t.c.a t.c.n t.c.c]), (.agg #[.int .i64 k.ph, .int .i64 k.ep, .bool k.mj, .slice v.a v.n v.c, .bool o, .int .i64 k.pa, .int .i64 k.pf, .int .i64 k.ps, .int .i64 k.pc, .bool k.me])])) (put10 (put6 W (w.heap.size + 2) v0 v1 v2 v3 v4 v5) (w.heap.size + 3) u0 u1 u2 u3 u4 u5 u6 u7 u8 u9) :=
  have h := stay_a (W := W) (n := w.heap.size) (Below.refl _ _) v0 v1 v2 v3 v4 v5 u0 u1 u2 u3 u4 u5 u6 u7 u8 u9
  sh_end hp hl nw own (bel.trans h.2.2) h.1 h.2.1
section
variable {w W W' : World} {s : Hs} {d : Hd_} {k : Ks} {xs : List Int} {b : Nat} {v : Ls.Sl} {o : Bool}
theorem kw_of (h : CBox W b (kw k v o)) : b < W.heap.size ∧ W.cell? ⟨b, 0, none⟩ = some (.int .i64 k.ph) ∧ W.cell? ⟨b, 1, none⟩ = some (.int .i64 k.ep) ∧ W.cell? ⟨b, 2, none⟩ = some (.bool k.mj) ∧ W.cell? ⟨b, 3, none⟩ = some (.slice v.a v.n v.c) ∧ W.cell? ⟨b, 4, none⟩ = some (.bool o) ∧ W.cell? ⟨b, 5, none⟩ = some (.int .i64 k.pa) ∧ W.cell? ⟨b, 6, none⟩ = some (.int .i64 k.pf) ∧ W.cell? ⟨b, 7, none⟩ = some (.int .i64 k.ps) ∧ W.cell? ⟨b, 8, none⟩ = some (.int .i64 k.pc) ∧ W.cell? ⟨b, 9, none⟩ = some (.bool k.me) := ⟨h.lt, h.c0, h.c1, h.c2, h.c3, h.c4, h.c5, h.c6, h.c7, h.c8, h.c9⟩
theorem sk_keep (h : (Sw w W s d k xs ∧ So w W k b v o xs) ∧ True) (hb : Below W.heap.size W W') : ((Sw w W' s d k xs ∧ So w W' k b v o xs) ∧ True) ∧ (w.heap.size < W'.heap.size ∧ W'.cell? ⟨w.heap.size, 0, none⟩ = some (.slice s.w.a s.w.n s.w.c) ∧ W'.cell? ⟨w.heap.size, 1, none⟩ = some (.slice s.p.a s.p.n s.p.c) ∧ W'.cell? ⟨w.heap.size, 2, none⟩ = some (.slice (s.u 0).a (s.u 0).n (s.u 0).c) ∧ W'.cell? ⟨w.heap.size, 3, none⟩ = some (.slice (s.u 1).a (s.u 1).n (s.u 1).c) ∧ W'.cell? ⟨w.heap.size, 4, none⟩ = some (.slice (s.u 2).a (s.u 2).n (s.u 2).c) ∧ W'.cell? ⟨w.heap.size, 5, none⟩ = some (.slice s.c.a s.c.n s.c.c)) ∧ b < W'.heap.size ∧ W'.cell? ⟨b, 0, none⟩ = some (.int .i64 k.ph) ∧ W'.cell? ⟨b, 1, none⟩ = some (.int .i64 k.ep) ∧ W'.cell? ⟨b, 2, none⟩ = some (.bool k.mj) ∧ W'.cell? ⟨b, 3, none⟩ = some (.slice v.a v.n v.c) ∧ W'.cell? ⟨b, 4, none⟩ = some (.bool o) ∧ W'.cell? ⟨b, 5, none⟩ = some (.int .i64 k.pa) ∧ W'.cell? ⟨b, 6, none⟩ = some (.int .i64 k.pf) ∧ W'.cell? ⟨b, 7, none⟩ = some (.int .i64 k.ps) ∧ W'.cell? ⟨b, 8, none⟩ = some (.int .i64 k.pc) ∧ W'.cell? ⟨b, 9, none⟩ = some (.bool k.me) :=
  have g1 := h.1.1.next hb
  have g2 := h.1.2.next hb
  ⟨⟨⟨g1, g2⟩, trivial⟩, sixh_of g1.hb.box, kw_of g2.cb⟩
theorem sk_stay (h : (Sw w W s d k xs ∧ So w W k b v o xs) ∧ True) (hs : ∀ g, ¬ g = w.heap.size + 2 → ¬ g = w.heap.size + 3 → W'.heap[g]? = W.heap[g]?) (hz : W.heap.size = W'.heap.size) (hb : Below w.heap.size w W') (h6 : T6 W' (w.heap.size + 2)) (h10 : T10 W' (w.heap.size + 3)) : ((Sw w W' s d k xs ∧ So w W' k b v o xs) ∧ True) ∧ (w.heap.size < W'.heap.size ∧ W'.cell? ⟨w.heap.size, 0, none⟩ = some (.slice s.w.a s.w.n s.w.c) ∧ W'.cell? ⟨w.heap.size, 1, none⟩ = some (.slice s.p.a s.p.n s.p.c) ∧ W'.cell? ⟨w.heap.size, 2, none⟩ = some (.slice (s.u 0).a (s.u 0).n (s.u 0).c) ∧ W'.cell? ⟨w.heap.size, 3, none⟩ = some (.slice (s.u 1).a (s.u 1).n (s.u 1).c) ∧ W'.cell? ⟨w.heap.size, 4, none⟩ = some (.slice (s.u 2).a (s.u 2).n (s.u 2).c) ∧ W'.cell? ⟨w.heap.size, 5, none⟩ = some (.slice s.c.a s.c.n s.c.c)) ∧ b < W'.heap.size ∧ W'.cell? ⟨b, 0, none⟩ = some (.int .i64 k.ph) ∧ W'.cell? ⟨b, 1, none⟩ = some (.int .i64 k.ep) ∧ W'.cell? ⟨b, 2, none⟩ = some (.bool k.mj) ∧ W'.cell? ⟨b, 3, none⟩ = some (.slice v.a v.n v.c) ∧ W'.cell? ⟨b, 4, none⟩ = some (.bool o) ∧ W'.cell? ⟨b, 5, none⟩ = some (.int .i64 k.pa) ∧ W'.cell? ⟨b, 6, none⟩ = some (.int .i64 k.pf) ∧ W'.cell? ⟨b, 7, none⟩ = some (.int .i64 k.ps) ∧ W'.cell? ⟨b, 8, none⟩ = some (.int .i64 k.pc) ∧ W'.cell? ⟨b, 9, none⟩ = some (.bool k.me) := by
  obtain ⟨⟨⟨_, a1, a2, _, _, a5, a6⟩, ⟨c1, c2, c3, c4, c5⟩⟩, _⟩ := h
  have hl := Nat.le_of_eq hz
  have g1 : Sw w W' s d k xs := ⟨hb, a1.same (hs _ (by omega) (by omega)) hl, a2.same (hs _ (by omega) (by omega)) hl, h6, h10, a5, a6⟩
  have g2 : So w W' k b v o xs := ⟨c1.same (hs _ (by omega) (by omega)) hl, c2.same (hs _ (by omega) (by omega)) hl, Ls.World.ownsRow.same c3 fun g hg _ => by
    have := (c3.lt g hg).1
    exact hs g (by omega) (by omega), c4, c5⟩
  exact ⟨⟨⟨g1, g2⟩, trivial⟩, sixh_of g1.hb.box, kw_of g2.cb⟩
theorem sk_put6 (h : (Sw w W s d k xs ∧ So w W k b v o xs) ∧ True) (v0 v1 v2 v3 v4 v5 : Value) : ((Sw w ((((((W.setCell ⟨w.heap.size + 2, 0, none⟩ v0).setCell ⟨w.heap.size + 2, 1, none⟩ v1).setCell ⟨w.heap.size + 2, 2, none⟩ v2).setCell ⟨w.heap.size + 2, 3, none⟩ v3).setCell ⟨w.heap.size + 2, 4, none⟩ v4).setCell ⟨w.heap.size + 2, 5, none⟩ v5) s d k xs ∧ So w ((((((W.setCell ⟨w.heap.size + 2, 0, none⟩ v0).setCell ⟨w.heap.size + 2, 1, none⟩ v1).setCell ⟨w.heap.size + 2, 2, none⟩ v2).setCell ⟨w.heap.size + 2, 3, none⟩ v3).setCell ⟨w.heap.size + 2, 4, none⟩ v4).setCell ⟨w.heap.size + 2, 5, none⟩ v5) k b v o xs) ∧ True) ∧ (w.heap.size < ((((((W.setCell ⟨w.heap.size + 2, 0, none⟩ v0).setCell ⟨w.heap.size + 2, 1, none⟩ v1).setCell ⟨w.heap.size + 2, 2, none⟩ v2).setCell ⟨w.heap.size + 2, 3, none⟩ v3).setCell ⟨w.heap.size + 2, 4, none⟩ v4).setCell ⟨w.heap.size + 2, 5, none⟩ v5).heap.size ∧ ((((((W.setCell ⟨w.heap.size + 2, 0, none⟩ v0).setCell ⟨w.heap.size + 2, 1, none⟩ v1).setCell ⟨w.heap.size + 2, 2, none⟩ v2).setCell ⟨w.heap.size + 2, 3, none⟩ v3).setCell ⟨w.heap.size + 2, 4, none⟩ v4).setCell ⟨w.heap.size + 2, 5, none⟩ v5).cell? ⟨w.heap.size, 0, none⟩ = some (.slice s.w.a s.w.n s.w.c) ∧ ((((((W.setCell ⟨w.heap.size + 2, 0, none⟩ v0).setCell ⟨w.heap.size + 2, 1, none⟩ v1).setCell ⟨w.heap.size + 2, 2, none⟩ v2).setCell ⟨w.heap.size + 2, 3, none⟩ v3).setCell ⟨w.heap.size + 2, 4, none⟩ v4).setCell ⟨w.heap.size + 2, 5, none⟩ v5).cell? ⟨w.heap.size, 1, none⟩ = some (.slice s.p.a s.p.n s.p.c) ∧ ((((((W.setCell ⟨w.heap.size + 2, 0, none⟩ v0).setCell ⟨w.heap.size + 2, 1, none⟩ v1).setCell ⟨w.heap.size + 2, 2, none⟩ v2).setCell ⟨w.heap.size + 2, 3, none⟩ v3).setCell ⟨w.heap.size + 2, 4, none⟩ v4).setCell ⟨w.heap.size + 2, 5, none⟩ v5).cell? ⟨w.heap.size, 2, none⟩ = some (.slice (s.u 0).a (s.u 0).n (s.u 0).c) ∧ ((((((W.setCell ⟨w.heap.size + 2, 0, none⟩ v0).setCell ⟨w.heap.size + 2, 1, none⟩ v1).setCell ⟨w.heap.size + 2, 2, none⟩ v2).setCell ⟨w.heap.size + 2, 3, none⟩ v3).setCell ⟨w.heap.size + 2, 4, none⟩ v4).setCell ⟨w.heap.size + 2, 5, none⟩ v5).cell? ⟨w.heap.size, 3, none⟩ = some (.slice (s.u 1).a (s.u 1).n (s.u 1).c) ∧ ((((((W.setCell ⟨w.heap.size + 2, 0, none⟩ v0).setCell ⟨w.heap.size + 2, 1, none⟩ v1).setCell ⟨w.heap.size + 2, 2, none⟩ v2).setCell ⟨w.heap.size + 2, 3, none⟩ v3).setCell ⟨w.heap.size + 2, 4, none⟩ v4).setCell ⟨w.heap.size + 2, 5, none⟩ v5).cell? ⟨w.heap.size, 4, none⟩ = some (.slice (s.u 2).a (s.u 2).n (s.u 2).c) ∧ ((((((W.setCell ⟨w.heap.size + 2, 0, none⟩ v0).setCell ⟨w.heap.size + 2, 1, none⟩ v1).setCell ⟨w.heap.size + 2, 2, none⟩ v2).setCell ⟨w.heap.size + 2, 3, none⟩ v3).setCell ⟨w.heap.size + 2, 4, none⟩ v4).setCell ⟨w.heap.size + 2, 5, none⟩ v5).cell? ⟨w.heap.size, 5, none⟩ = some (.slice s.c.a s.c.n s.c.c)) ∧ b < ((((((W.setCell ⟨w.heap.size + 2, 0, none⟩ v0).setCell ⟨w.heap.size + 2, 1, none⟩ v1).setCell ⟨w.heap.size + 2, 2, none⟩ v2).setCell ⟨w.heap.size + 2, 3, none⟩ v3).setCell ⟨w.heap.size + 2, 4, none⟩ v4).setCell ⟨w.heap.size + 2, 5, none⟩ v5).heap.size ∧ ((((((W.setCell ⟨w.heap.size + 2, 0, none⟩ v0).setCell ⟨w.heap.size + 2, 1, none⟩ v1).setCell ⟨w.heap.size + 2, 2, none⟩ v2).setCell ⟨w.heap.size + 2, 3, none⟩ v3).setCell ⟨w.heap.size + 2, 4, none⟩ v4).setCell ⟨w.heap.size + 2, 5, none⟩ v5).cell? ⟨b, 0, none⟩ = some (.int .i64 k.ph) ∧ ((((((W.setCell ⟨w.heap.size + 2, 0, none⟩ v0).setCell ⟨w.heap.size + 2, 1, none⟩ v1).setCell ⟨w.heap.size + 2, 2, none⟩ v2).setCell ⟨w.heap.size + 2, 3, none⟩ v3).setCell ⟨w.heap.size + 2, 4, none⟩ v4).setCell ⟨w.heap.size + 2, 5, none⟩ v5).cell? ⟨b, 1, none⟩ = some (.int .i64 k.ep) ∧ ((((((W.setCell ⟨w.heap.size + 2, 0, none⟩ v0).setCell ⟨w.heap.size + 2, 1, none⟩ v1).setCell ⟨w.heap.size + 2, 2, none⟩ v2).setCell ⟨w.heap.size + 2, 3, none⟩ v3).setCell ⟨w.heap.size + 2, 4, none⟩ v4).setCell ⟨w.heap.size + 2, 5, none⟩ v5).cell? ⟨b, 2, none⟩ = some (.bool k.mj) ∧ ((((((W.setCell ⟨w.heap.size + 2, 0, none⟩ v0).setCell ⟨w.heap.size + 2, 1, none⟩ v1).setCell ⟨w.heap.size + 2, 2, none⟩ v2).setCell ⟨w.heap.size + 2, 3, none⟩ v3).setCell ⟨w.heap.size + 2, 4, none⟩ v4).setCell ⟨w.heap.size + 2, 5, none⟩ v5).cell? ⟨b, 3, none⟩ = some (.slice v.a v.n v.c) ∧ ((((((W.setCell ⟨w.heap.size + 2, 0, none⟩ v0).setCell ⟨w.heap.size + 2, 1, none⟩ v1).setCell ⟨w.heap.size + 2, 2, none⟩ v2).setCell ⟨w.heap.size + 2, 3, none⟩ v3).setCell ⟨w.heap.size + 2, 4, none⟩ v4).setCell ⟨w.heap.size + 2, 5, none⟩ v5).cell? ⟨b, 4, none⟩ = some (.bool o) ∧ ((((((W.setCell ⟨w.heap.size + 2, 0, none⟩ v0).setCell ⟨w.heap.size + 2, 1, none⟩ v1).setCell ⟨w.heap.size + 2, 2, none⟩ v2).setCell ⟨w.heap.size + 2, 3, none⟩ v3).setCell ⟨w.heap.size + 2, 4, none⟩ v4).setCell ⟨w.heap.size + 2, 5, none⟩ v5).cell? ⟨b, 5, none⟩ = some (.int .i64 k.pa) ∧ ((((((W.setCell ⟨w.heap.size + 2, 0, none⟩ v0).setCell ⟨w.heap.size + 2, 1, none⟩ v1).setCell ⟨w.heap.size + 2, 2, none⟩ v2).setCell ⟨w.heap.size + 2, 3, none⟩ v3).setCell ⟨w.heap.size + 2, 4, none⟩ v4).setCell ⟨w.heap.size + 2, 5, none⟩ v5).cell? ⟨b, 6, none⟩ = some (.int .i64 k.pf) ∧ ((((((W.setCell ⟨w.heap.size + 2, 0, none⟩ v0).setCell ⟨w.heap.size + 2, 1, none⟩ v1).setCell ⟨w.heap.size + 2, 2, none⟩ v2).setCell ⟨w.heap.size + 2, 3, none⟩ v3).setCell ⟨w.heap.size + 2, 4, none⟩ v4).setCell ⟨w.heap.size + 2, 5, none⟩ v5).cell? ⟨b, 7, none⟩ = some (.int .i64 k.ps) ∧ ((((((W.setCell ⟨w.heap.size + 2, 0, none⟩ v0).setCell ⟨w.heap.size + 2, 1, none⟩ v1).setCell ⟨w.heap.size + 2, 2, none⟩ v2).setCell ⟨w.heap.size + 2, 3, none⟩ v3).setCell ⟨w.heap.size + 2, 4, none⟩ v4).setCell ⟨w.heap.size + 2, 5, none⟩ v5).cell? ⟨b, 8, none⟩ = some (.int .i64 k.pc) ∧ ((((((W.setCell ⟨w.heap.size + 2, 0, none⟩ v0).setCell ⟨w.heap.size + 2, 1, none⟩ v1).setCell ⟨w.heap.size + 2, 2, none⟩ v2).setCell ⟨w.heap.size + 2, 3, none⟩ v3).setCell ⟨w.heap.size + 2, 4, none⟩ v4).setCell ⟨w.heap.size + 2, 5, none⟩ v5).cell? ⟨b, 9, none⟩ = some (.bool k.me) :=
  sk_stay h (fun g h1 _ => put6_other _ _ v0 v1 v2 v3 v4 v5 h1) (put6_size _ _ v0 v1 v2 v3 v4 v5).symm (below_put6 h.1.1.bel (by omega) v0 v1 v2 v3 v4 v5) (h.1.1.rb.put v0 v1 v2 v3 v4 v5) (h.1.1.rt.same (put6_other _ _ v0 v1 v2 v3 v4 v5 (by omega)) (Nat.le_of_eq (put6_size _ _ v0 v1 v2 v3 v4 v5).symm))
theorem sk_put10 (h : (Sw w W s d k xs ∧ So w W k b v o xs) ∧ True) (u0 u1 u2 u3 u4 u5 u6 u7 u8 u9 : Value) : ((Sw w ((((((((((W.setCell ⟨w.heap.size + 3, 0, none⟩ u0).setCell ⟨w.heap.size + 3, 1, none⟩ u1).setCell ⟨w.heap.size + 3, 2, none⟩ u2).setCell ⟨w.heap.size + 3, 3, none⟩ u3).setCell ⟨w.heap.size + 3, 4, none⟩ u4).setCell ⟨w.heap.size + 3, 5, none⟩ u5).setCell ⟨w.heap.size + 3, 6, none⟩ u6).setCell ⟨w.heap.size + 3, 7, none⟩ u7).setCell ⟨w.heap.size + 3, 8, none⟩ u8).setCell ⟨w.heap.size + 3, 9, none⟩ u9) s d k xs ∧ So w ((((((((((W.setCell ⟨w.heap.size + 3, 0, none⟩ u0).setCell ⟨w.heap.size + 3, 1, none⟩ u1).setCell ⟨w.heap.size + 3, 2, none⟩ u2).setCell ⟨w.heap.size + 3, 3, none⟩ u3).setCell ⟨w.heap.size + 3, 4, none⟩ u4).setCell ⟨w.heap.size + 3, 5, none⟩ u5).setCell ⟨w.heap.size + 3, 6, none⟩ u6).setCell ⟨w.heap.size + 3, 7, none⟩ u7).setCell ⟨w.heap.size + 3, 8, none⟩ u8).setCell ⟨w.heap.size + 3, 9, none⟩ u9) k b v o xs) ∧ True) ∧ (w.heap.size < ((((((((((W.setCell ⟨w.heap.size + 3, 0, none⟩ u0).setCell ⟨w.heap.size + 3, 1, none⟩ u1).setCell ⟨w.heap.size + 3, 2, none⟩ u2).setCell ⟨w.heap.size + 3, 3, none⟩ u3).setCell ⟨w.heap.size + 3, 4, none⟩ u4).setCell ⟨w.heap.size + 3, 5, none⟩ u5).setCell ⟨w.heap.size + 3, 6, none⟩ u6).setCell ⟨w.heap.size + 3, 7, none⟩ u7).setCell ⟨w.heap.size + 3, 8, none⟩ u8).setCell ⟨w.heap.size + 3, 9, none⟩ u9).heap.size ∧ ((((((((((W.setCell ⟨w.heap.size + 3, 0, none⟩ u0).setCell ⟨w.heap.size + 3, 1, none⟩ u1).setCell ⟨w.heap.size + 3, 2, none⟩ u2).setCell ⟨w.heap.size + 3, 3, none⟩ u3).setCell ⟨w.heap.size + 3, 4, none⟩ u4).setCell ⟨w.heap.size + 3, 5, none⟩ u5).setCell ⟨w.heap.size + 3, 6, none⟩ u6).setCell ⟨w.heap.size + 3, 7, none⟩ u7).setCell ⟨w.heap.size + 3, 8, none⟩ u8).setCell ⟨w.heap.size + 3, 9, none⟩ u9).cell? ⟨w.heap.size, 0, none⟩ = some (.slice s.w.a s.w.n s.w.c) ∧ ((((((((((W.setCell ⟨w.heap.size + 3, 0, none⟩ u0).setCell ⟨w.heap.size + 3, 1, none⟩ u1).setCell ⟨w.heap.size + 3, 2, none⟩ u2).setCell ⟨w.heap.size + 3, 3, none⟩ u3).setCell ⟨w.heap.size + 3, 4, none⟩ u4).setCell ⟨w.heap.size + 3, 5, none⟩ u5).setCell ⟨w.heap.size + 3, 6, none⟩ u6).setCell ⟨w.heap.size + 3, 7, none⟩ u7).setCell ⟨w.heap.size + 3, 8, none⟩ u8).setCell ⟨w.heap.size + 3, 9, none⟩ u9).cell? ⟨w.heap.size, 1, none⟩ = some (.slice s.p.a s.p.n s.p.c) ∧ ((((((((((W.setCell ⟨w.heap.size + 3, 0, none⟩ u0).setCell ⟨w.heap.size + 3, 1, none⟩ u1).setCell ⟨w.heap.size + 3, 2, none⟩ u2).setCell ⟨w.heap.size + 3, 3, none⟩ u3).setCell ⟨w.heap.size + 3, 4, none⟩ u4).setCell ⟨w.heap.size + 3, 5, none⟩ u5).setCell ⟨w.heap.size + 3, 6, none⟩ u6).setCell ⟨w.heap.size + 3, 7, none⟩ u7).setCell ⟨w.heap.size + 3, 8, none⟩ u8).setCell ⟨w.heap.size + 3, 9, none⟩ u9).cell? ⟨w.heap.size, 2, none⟩ = some (.slice (s.u 0).a (s.u 0).n (s.u 0).c) ∧ ((((((((((W.setCell ⟨w.heap.size + 3, 0, none⟩ u0).setCell ⟨w.heap.size + 3, 1, none⟩ u1).setCell ⟨w.heap.size + 3, 2, none⟩ u2).setCell ⟨w.heap.size + 3, 3, none⟩ u3).setCell ⟨w.heap.size + 3, 4, none⟩ u4).setCell ⟨w.heap.size + 3, 5, none⟩ u5).setCell ⟨w.heap.size + 3, 6, none⟩ u6).setCell ⟨w.heap.size + 3, 7, none⟩ u7).setCell ⟨w.heap.size + 3, 8, none⟩ u8).setCell ⟨w.heap.size + 3, 9, none⟩ u9).cell? ⟨w.heap.size, 3, none⟩ = some (.slice (s.u 1).a (s.u 1).n (s.u 1).c) ∧ ((((((((((W.setCell ⟨w.heap.size + 3, 0, none⟩ u0).setCell ⟨w.heap.size + 3, 1, none⟩ u1).setCell ⟨w.heap.size + 3, 2, none⟩ u2).setCell ⟨w.heap.size + 3, 3, none⟩ u3).setCell ⟨w.heap.size + 3, 4, none⟩ u4).setCell ⟨w.heap.size + 3, 5, none⟩ u5).setCell ⟨w.heap.size + 3, 6, none⟩ u6).setCell ⟨w.heap.size + 3, 7, none⟩ u7).setCell ⟨w.heap.size + 3, 8, none⟩ u8).setCell ⟨w.heap.size + 3, 9, none⟩ u9).cell? ⟨w.heap.size, 4, none⟩ = some (.slice (s.u 2).a (s.u 2).n (s.u 2).c) ∧ ((((((((((W.setCell ⟨w.heap.size + 3, 0, none⟩ u0).setCell ⟨w.heap.size + 3, 1, none⟩ u1).setCell ⟨w.heap.size + 3, 2, none⟩ u2).setCell ⟨w.heap.size + 3, 3, none⟩ u3).setCell ⟨w.heap.size + 3, 4, none⟩ u4).setCell ⟨w.heap.size + 3, 5, none⟩ u5).setCell ⟨w.heap.size + 3, 6, none⟩ u6).setCell ⟨w.heap.size + 3, 7, none⟩ u7).setCell ⟨w.heap.size + 3, 8, none⟩ u8).setCell ⟨w.heap.size + 3, 9, none⟩ u9).cell? ⟨w.heap.size, 5, none⟩ = some (.slice s.c.a s.c.n s.c.c)) ∧ b < ((((((((((W.setCell ⟨w.heap.size + 3, 0, none⟩ u0).setCell ⟨w.heap.size + 3, 1, none⟩ u1).setCell ⟨w.heap.size + 3, 2, none⟩ u2).setCell ⟨w.heap.size + 3, 3, none⟩ u3).setCell ⟨w.heap.size + 3, 4, none⟩ u4).setCell ⟨w.heap.size + 3, 5, none⟩ u5).setCell ⟨w.heap.size + 3, 6, none⟩ u6).setCell ⟨w.heap.size + 3, 7, none⟩ u7).setCell ⟨w.heap.size + 3, 8, none⟩ u8).setCell ⟨w.heap.size + 3, 9, none⟩ u9).heap.size ∧ ((((((((((W.setCell ⟨w.heap.size + 3, 0, none⟩ u0).setCell ⟨w.heap.size + 3, 1, none⟩ u1).setCell ⟨w.heap.size + 3, 2, none⟩ u2).setCell ⟨w.heap.size + 3, 3, none⟩ u3).setCell ⟨w.heap.size + 3, 4, none⟩ u4).setCell ⟨w.heap.size + 3, 5, none⟩ u5).setCell ⟨w.heap.size + 3, 6, none⟩ u6).setCell ⟨w.heap.size + 3, 7, none⟩ u7).setCell ⟨w.heap.size + 3, 8, none⟩ u8).setCell ⟨w.heap.size + 3, 9, none⟩ u9).cell? ⟨b, 0, none⟩ = some (.int .i64 k.ph) ∧ ((((((((((W.setCell ⟨w.heap.size + 3, 0, none⟩ u0).setCell ⟨w.heap.size + 3, 1, none⟩ u1).setCell ⟨w.heap.size + 3, 2, none⟩ u2).setCell ⟨w.heap.size + 3, 3, none⟩ u3).setCell ⟨w.heap.size + 3, 4, none⟩ u4).setCell ⟨w.heap.size + 3, 5, none⟩ u5).setCell ⟨w.heap.size + 3, 6, none⟩ u6).setCell ⟨w.heap.size + 3, 7, none⟩ u7).setCell ⟨w.heap.size + 3, 8, none⟩ u8).setCell ⟨w.heap.size + 3, 9, none⟩ u9).cell? ⟨b, 1, none⟩ = some (.int .i64 k.ep) ∧ ((((((((((W.setCell ⟨w.heap.size + 3, 0, none⟩ u0).setCell ⟨w.heap.size + 3, 1, none⟩ u1).setCell ⟨w.heap.size + 3, 2, none⟩ u2).setCell ⟨w.heap.size + 3, 3, none⟩ u3).setCell ⟨w.heap.size + 3, 4, none⟩ u4).setCell ⟨w.heap.size + 3, 5, none⟩ u5).setCell ⟨w.heap.size + 3, 6, none⟩ u6).setCell ⟨w.heap.size + 3, 7, none⟩ u7).setCell ⟨w.heap.size + 3, 8, none⟩ u8).setCell ⟨w.heap.size + 3, 9, none⟩ u9).cell? ⟨b, 2, none⟩ = some (.bool k.mj) ∧ ((((((((((W.setCell ⟨w.heap.size + 3, 0, none⟩ u0).setCell ⟨w.heap.size + 3, 1, none⟩ u1).setCell ⟨w.heap.size + 3, 2, none⟩ u2).setCell ⟨w.heap.size + 3, 3, none⟩ u3).setCell ⟨w.heap.size + 3, 4, none⟩ u4).setCell ⟨w.heap.size + 3, 5, none⟩ u5).setCell ⟨w.heap.size + 3, 6, none⟩ u6).setCell ⟨w.heap.size + 3, 7, none⟩ u7).setCell ⟨w.heap.size + 3, 8, none⟩ u8).setCell ⟨w.heap.size + 3, 9, none⟩ u9).cell? ⟨b, 3, none⟩ = some (.slice v.a v.n v.c) ∧ ((((((((((W.setCell ⟨w.heap.size + 3, 0, none⟩ u0).setCell ⟨w.heap.size + 3, 1, none⟩ u1).setCell ⟨w.heap.size + 3, 2, none⟩ u2).setCell ⟨w.heap.size + 3, 3, none⟩ u3).setCell ⟨w.heap.size + 3, 4, none⟩ u4).setCell ⟨w.heap.size + 3, 5, none⟩ u5).setCell ⟨w.heap.size + 3, 6, none⟩ u6).setCell ⟨w.heap.size + 3, 7, none⟩ u7).setCell ⟨w.heap.size + 3, 8, none⟩ u8).setCell ⟨w.heap.size + 3, 9, none⟩ u9).cell? ⟨b, 4, none⟩ = some (.bool o) ∧ ((((((((((W.setCell ⟨w.heap.size + 3, 0, none⟩ u0).setCell ⟨w.heap.size + 3, 1, none⟩ u1).setCell ⟨w.heap.size + 3, 2, none⟩ u2).setCell ⟨w.heap.size + 3, 3, none⟩ u3).setCell ⟨w.heap.size + 3, 4, none⟩ u4).setCell ⟨w.heap.size + 3, 5, none⟩ u5).setCell ⟨w.heap.size + 3, 6, none⟩ u6).setCell ⟨w.heap.size + 3, 7, none⟩ u7).setCell ⟨w.heap.size + 3, 8, none⟩ u8).setCell ⟨w.heap.size + 3, 9, none⟩ u9).cell? ⟨b, 5, none⟩ = some (.int .i64 k.pa) ∧ ((((((((((W.setCell ⟨w.heap.size + 3, 0, none⟩ u0).setCell ⟨w.heap.size + 3, 1, none⟩ u1).setCell ⟨w.heap.size + 3, 2, none⟩ u2).setCell ⟨w.heap.size + 3, 3, none⟩ u3).setCell ⟨w.heap.size + 3, 4, none⟩ u4).setCell ⟨w.heap.size + 3, 5, none⟩ u5).setCell ⟨w.heap.size + 3, 6, none⟩ u6).setCell ⟨w.heap.size + 3, 7, none⟩ u7).setCell ⟨w.heap.size + 3, 8, none⟩ u8).setCell ⟨w.heap.size + 3, 9, none⟩ u9).cell? ⟨b, 6, none⟩ = some (.int .i64 k.pf) ∧ ((((((((((W.setCell ⟨w.heap.size + 3, 0, none⟩ u0).setCell ⟨w.heap.size + 3, 1, none⟩ u1).setCell ⟨w.heap.size + 3, 2, none⟩ u2).setCell ⟨w.heap.size + 3, 3, none⟩ u3).setCell ⟨w.heap.size + 3, 4, none⟩ u4).setCell ⟨w.heap.size + 3, 5, none⟩ u5).setCell ⟨w.heap.size + 3, 6, none⟩ u6).setCell ⟨w.heap.size + 3, 7, none⟩ u7).setCell ⟨w.heap.size + 3, 8, none⟩ u8).setCell ⟨w.heap.size + 3, 9, none⟩ u9).cell? ⟨b, 7, none⟩ = some (.int .i64 k.ps) ∧ ((((((((((W.setCell ⟨w.heap.size + 3, 0, none⟩ u0).setCell ⟨w.heap.size + 3, 1, none⟩ u1).setCell ⟨w.heap.size + 3, 2, none⟩ u2).setCell ⟨w.heap.size + 3, 3, none⟩ u3).setCell ⟨w.heap.size + 3, 4, none⟩ u4).setCell ⟨w.heap.size + 3, 5, none⟩ u5).setCell ⟨w.heap.size + 3, 6, none⟩ u6).setCell ⟨w.heap.size + 3, 7, none⟩ u7).setCell ⟨w.heap.size + 3, 8, none⟩ u8).setCell ⟨w.heap.size + 3, 9, none⟩ u9).cell? ⟨b, 8, none⟩ = some (.int .i64 k.pc) ∧ ((((((((((W.setCell ⟨w.heap.size + 3, 0, none⟩ u0).setCell ⟨w.heap.size + 3, 1, none⟩ u1).setCell ⟨w.heap.size + 3, 2, none⟩ u2).setCell ⟨w.heap.size + 3, 3, none⟩ u3).setCell ⟨w.heap.size + 3, 4, none⟩ u4).setCell ⟨w.heap.size + 3, 5, none⟩ u5).setCell ⟨w.heap.size + 3, 6, none⟩ u6).setCell ⟨w.heap.size + 3, 7, none⟩ u7).setCell ⟨w.heap.size + 3, 8, none⟩ u8).setCell ⟨w.heap.size + 3, 9, none⟩ u9).cell? ⟨b, 9, none⟩ = some (.bool k.me) :=
  sk_stay h (fun g _ h2 => put10_other _ _ u0 u1 u2 u3 u4 u5 u6 u7 u8 u9 h2) (put10_size _ _ u0 u1 u2 u3 u4 u5 u6 u7 u8 u9).symm (below_put10 h.1.1.bel (by omega) u0 u1 u2 u3 u4 u5 u6 u7 u8 u9) (h.1.1.rb.same (put10_other _ _ u0 u1 u2 u3 u4 u5 u6 u7 u8 u9 (by omega)) (Nat.le_of_eq (put10_size _ _ u0 u1 u2 u3 u4 u5 u6 u7 u8 u9).symm)) (h.1.1.rt.put u0 u1 u2 u3 u4 u5 u6 u7 u8 u9)
end
section
variable (s : Hs) (d : Hd_) (k : Ks) (xs : List Int) (a : Int) (w : World)
set_option maxHeartbeats 8000000 in
theorem shade_no (u o e : Bool) (n b m : Int) (hn : xs.length ≤ 1000000) (hp : Hp w w.heap.size s d) (hk : WRow w w.heap.size k xs) (hF : ∀ W, Sw w W s d k xs → Calls Tryz.prog 76 #[(.agg #[.slice s.w.a s.w.n s.w.c, .slice s.p.a s.p.n s.p.c, .slice (s.u 0).a (s.u 0).n (s.u 0).c, .slice (s.u 1).a (s.u 1).n (s.u 1).c, .slice (s.u 2).a (s.u 2).n (s.u 2).c, .slice s.c.a s.c.n s.c.c]), (.agg #[.int .i64 k.ph, .int .i64 k.ep, .bool k.mj, .slice k.wk.a k.wk.n k.wk.c, .bool k.ov, .int .i64 k.pa, .int .i64 k.pf, .int .i64 k.ps, .int .i64 k.pc, .bool k.me]), .int .i64 a, .int .i64 1] W (FindOut W (.agg #[.bool u, .bool o, .bool e, .int .i64 n, .int .i64 b, .int .i64 m]) false)) (hC : ∀ W, Sw w W s d k xs → Calls Tryz.prog 41 #[(.agg #[.slice s.w.a s.w.n s.w.c, .slice s.p.a s.p.n s.p.c, .slice (s.u 0).a (s.u 0).n (s.u 0).c, .slice (s.u 1).a (s.u 1).n (s.u 1).c, .slice (s.u 2).a (s.u 2).n (s.u 2).c, .slice s.c.a s.c.n s.c.c])] W (FreshW W s d)) : Calls Tryz.prog 60 #[(.agg #[.slice s.w.a s.w.n s.w.c, .slice s.p.a s.p.n s.p.c, .slice (s.u 0).a (s.u 0).n (s.u 0).c, .slice (s.u 1).a (s.u 1).n (s.u 1).c, .slice (s.u 2).a (s.u 2).n (s.u 2).c, .slice s.c.a s.c.n s.c.c]), (.agg #[.int .i64 k.ph, .int .i64 k.ep, .bool k.mj, .slice k.wk.a k.wk.n k.wk.c, .bool k.ov, .int .i64 k.pa, .int .i64 k.pf, .int .i64 k.ps, .int .i64 k.pc, .bool k.me]), .int .i64 a] w (ShOut w s k d k.ov xs) := by
  have HP := Lib.hid hp
  have HK := Lib.hid hk
  have HF := Lib.hid hF
  have HC := Lib.hid hC
  clear hp hk hF hC
  go_enter Tryz.func60, Tryz.ntmps60
  go_upto_region 1 with fail
  obtain ⟨W0, hW0⟩ : ∃ W0, W0 = (((w.alloc (.cells #[.slice s.w.a s.w.n s.w.c, .slice s.p.a s.p.n s.p.c, .slice (s.u 0).a (s.u 0).n (s.u 0).c, .slice (s.u 1).a (s.u 1).n (s.u 1).c, .slice (s.u 2).a (s.u 2).n (s.u 2).c, .slice s.c.a s.c.n s.c.c] 28)).alloc (.cells #[.int .i64 k.ph, .int .i64 k.ep, .bool k.mj, .slice k.wk.a k.wk.n k.wk.c, .bool k.ov, .int .i64 k.pa, .int .i64 k.pf, .int .i64 k.ps, .int .i64 k.pc, .bool k.me] 30)).alloc (.cells #[.slice none 0 0, .slice none 0 0, .slice none 0 0, .slice none 0 0, .slice none 0 0, .slice none 0 0] 28)).alloc (.cells #[.int .i64 0, .int .i64 0, .bool false, .slice none 0 0, .bool false, .int .i64 0, .int .i64 0, .int .i64 0, .int .i64 0, .bool false] 30) := ⟨_, rfl⟩
  have K0 := Lib.hid (sw_start HP.out HK.out hW0)
  rw [← hW0]
  clear hW0
  have p0 := (K0.out.1.kb).c0
  have p1 := (K0.out.1.kb).c1
  have p2 := (K0.out.1.kb).c2
  have p3 := (K0.out.1.kb).c3
  have p4 := (K0.out.1.kb).c4
  have p5 := (K0.out.1.kb).c5
  have p6 := (K0.out.1.kb).c6
  have p7 := (K0.out.1.kb).c7
  have p8 := (K0.out.1.kb).c8
  have p9 := (K0.out.1.kb).c9
  have pl := (K0.out.1.kb).lt
  go_wp2_with fail
  refine (fcol_any k xs W0 K0.out.1.wr hn).mono ?_
  rintro e9 w1 ⟨v, rfl, ha⟩
  have K1 := Lib.hid (K0.out.1.next (ha.bel.mono (Nat.le_refl _)))
  have A1 := Lib.hid ha
  clear ha
  clear p0 p1 p2 p3 p4 p5 p6 p7 p8 p9 pl
  go_upto_region 2 with fail
  obtain ⟨W2, hW2⟩ : ∃ W2, W2 = w1.alloc (.cells #[.int .i64 k.ph, .int .i64 k.ep, .bool k.mj, .slice v.a v.n v.c, .bool k.ov, .int .i64 k.pa, .int .i64 k.pf, .int .i64 k.ps, .int .i64 k.pc, .bool k.me] 30) := ⟨_, rfl⟩
  obtain ⟨b4, hb4⟩ : ∃ b4, b4 = w1.heap.size := ⟨_, rfl⟩
  have S2 := Lib.hid (so_start K0.out.2 A1.out hW2)
  have K2 : Hid (Sw w W2 s d k xs) := Lib.hid (K1.out.next (by rw [hW2]; exact (Below.refl _ _).alloc (Nat.le_refl _) _))
  rw [← hb4] at S2
  rw [← hW2, ← hb4]
  clear hW2 hb4 K0 K1 A1
  have q0 := (K2.out.hb.box).c0
  have q1 := (K2.out.hb.box).c1
  have q2 := (K2.out.hb.box).c2
  have q3 := (K2.out.hb.box).c3
  have q4 := (K2.out.hb.box).c4
  have q5 := (K2.out.hb.box).c5
  have ql := (K2.out.hb.box).lt
  have p0 := (K2.out.kb).c0
  have p1 := (K2.out.kb).c1
  have p2 := (K2.out.kb).c2
  have p3 := (K2.out.kb).c3
  have p4 := (K2.out.kb).c4
  have p5 := (K2.out.kb).c5
  have p6 := (K2.out.kb).c6
  have p7 := (K2.out.kb).c7
  have p8 := (K2.out.kb).c8
  have p9 := (K2.out.kb).c9
  have pl := (K2.out.kb).lt
  go_wp2_with fail
  refine (HF.out W2 K2.out).mono ?_
  rintro e9 w3 ⟨rfl, hb3⟩
  have B3 := Lib.hid hb3.size
  have K3 := Lib.hid (K2.out.next hb3)
  have S3 := Lib.hid (S2.out.1.next hb3)
  have V3 := Lib.hid (And.intro S2.out.2 (And.intro S2.out.1.cb.lt hb3.size))
  clear hb3 K2 S2
  clear q0 q1 q2 q3 q4 q5 ql
  clear p0 p1 p2 p3 p4 p5 p6 p7 p8 p9 pl
  go_upto_region 4 with fail
  obtain ⟨W4, hW4⟩ : ∃ W4, W4 = w3.alloc (.cells #[.bool u, .bool o, .bool e, .int .i64 n, .int .i64 b, .int .i64 m] 53) := ⟨_, rfl⟩
  have K4 : Hid ((Sw w W4 s d k xs ∧ So w W4 k b4 v k.ov xs) ∧ True) := Lib.hid (by
    have hb : Below w3.heap.size w3 W4 := by rw [hW4]; exact (Below.refl _ _).alloc (Nat.le_refl _) _
    exact ⟨⟨K3.out.next hb, S3.out.next hb⟩, trivial⟩)
  rw [← hW4]
  clear hW4 K3 S3 V3 B3
  go_region_held3 (fun W => ((Sw w W s d k xs ∧ So w W k b4 v k.ov xs) ∧ True) ∧ (w.heap.size < W.heap.size ∧ W.cell? ⟨w.heap.size, 0, none⟩ = some (.slice s.w.a s.w.n s.w.c) ∧ W.cell? ⟨w.heap.size, 1, none⟩ = some (.slice s.p.a s.p.n s.p.c) ∧ W.cell? ⟨w.heap.size, 2, none⟩ = some (.slice (s.u 0).a (s.u 0).n (s.u 0).c) ∧ W.cell? ⟨w.heap.size, 3, none⟩ = some (.slice (s.u 1).a (s.u 1).n (s.u 1).c) ∧ W.cell? ⟨w.heap.size, 4, none⟩ = some (.slice (s.u 2).a (s.u 2).n (s.u 2).c) ∧ W.cell? ⟨w.heap.size, 5, none⟩ = some (.slice s.c.a s.c.n s.c.c)) ∧ b4 < W.heap.size ∧ W.cell? ⟨b4, 0, none⟩ = some (.int .i64 k.ph) ∧ W.cell? ⟨b4, 1, none⟩ = some (.int .i64 k.ep) ∧ W.cell? ⟨b4, 2, none⟩ = some (.bool k.mj) ∧ W.cell? ⟨b4, 3, none⟩ = some (.slice v.a v.n v.c) ∧ W.cell? ⟨b4, 4, none⟩ = some (.bool k.ov) ∧ W.cell? ⟨b4, 5, none⟩ = some (.int .i64 k.pa) ∧ W.cell? ⟨b4, 6, none⟩ = some (.int .i64 k.pf) ∧ W.cell? ⟨b4, 7, none⟩ = some (.int .i64 k.ps) ∧ W.cell? ⟨b4, 8, none⟩ = some (.int .i64 k.pc) ∧ W.cell? ⟨b4, 9, none⟩ = some (.bool k.me)) (first
    | with_reducible exact sk_put6 (‹((Sw w _ s d k xs ∧ _) ∧ _) ∧ _›).1 _ _ _ _ _ _
    | with_reducible exact sk_put10 (‹((Sw w _ s d k xs ∧ _) ∧ _) ∧ _›).1 _ _ _ _ _ _ _ _ _ _
    | with_reducible exact sk_keep (‹((Sw w _ s d k xs ∧ _) ∧ _) ∧ _›).1 ‹Below _ _ _›
    | with_reducible exact sk_keep K4.out (Below.refl _ _)
    | exact sk_keep K4.out (below_drawn' (Below.refl _ _) 1)) (first
    | ((go_at_call 41; refine (HC.out _ (‹((Sw w _ s d k xs ∧ _) ∧ _) ∧ _›).1.1.1).mono ?_; rintro e5 w5 ⟨t, rfl, ht, hl, hw, hb5⟩; have M5 := Lib.hid ((‹((Sw w _ s d k xs ∧ _) ∧ _) ∧ _›).1.1); have T5 := Lib.hid (And.intro ht (And.intro hl hw)); have N5 := Lib.hid (M5.out.1.next hb5); have O5 := Lib.hid (M5.out.2.next hb5); have L5 := Lib.hid (show w.heap.size + 4 ≤ _ from M5.out.1.rt.lt); obtain ⟨x0, h0⟩ := N5.out.rb.has 0 (by decide); obtain ⟨x1, h1⟩ := N5.out.rb.has 1 (by decide); obtain ⟨x2, h2⟩ := N5.out.rb.has 2 (by decide); obtain ⟨x3, h3⟩ := N5.out.rb.has 3 (by decide); obtain ⟨x4, h4⟩ := N5.out.rb.has 4 (by decide); obtain ⟨x5, h5⟩ := N5.out.rb.has 5 (by decide); have xl := N5.out.rb.lt; have y0 := N5.out.rb.free 0; have y1 := N5.out.rb.free 1; have y2 := N5.out.rb.free 2; have y3 := N5.out.rb.free 3; have y4 := N5.out.rb.free 4; have y5 := N5.out.rb.free 5; obtain ⟨z0, i0⟩ := N5.out.rt.has 0 (by decide); obtain ⟨z1, i1⟩ := N5.out.rt.has 1 (by decide); obtain ⟨z2, i2⟩ := N5.out.rt.has 2 (by decide); obtain ⟨z3, i3⟩ := N5.out.rt.has 3 (by decide); obtain ⟨z4, i4⟩ := N5.out.rt.has 4 (by decide); obtain ⟨z5, i5⟩ := N5.out.rt.has 5 (by decide); obtain ⟨z6, i6⟩ := N5.out.rt.has 6 (by decide); obtain ⟨z7, i7⟩ := N5.out.rt.has 7 (by decide); obtain ⟨z8, i8⟩ := N5.out.rt.has 8 (by decide); obtain ⟨z9, i9⟩ := N5.out.rt.has 9 (by decide); have zl := N5.out.rt.lt; have r0 := N5.out.rt.free 0; have r1 := N5.out.rt.free 1; have r2 := N5.out.rt.free 2; have r3 := N5.out.rt.free 3; have r4 := N5.out.rt.free 4; have r5 := N5.out.rt.free 5; have r6 := N5.out.rt.free 6; have r7 := N5.out.rt.free 7; have r8 := N5.out.rt.free 8; have r9 := N5.out.rt.free 9; clear ht hl hw)))
  go_wp2
  refine bodyPost_ret (v := .tuple #[(.agg #[.slice t.w.a t.w.n t.w.c, .slice t.p.a t.p.n t.p.c, .slice (t.u 0).a (t.u 0).n (t.u 0).c, .slice (t.u 1).a (t.u 1).n (t.u 1).c, .slice (t.u 2).a (t.u 2).n (t.u 2).c, .slice t.c.a t.c.n t.c.c]), (.agg #[.int .i64 k.ph, .int .i64 k.ep, .bool k.mj, .slice v.a v.n v.c, .bool k.ov, .int .i64 k.pa, .int .i64 k.pf, .int .i64 k.ps, .int .i64 k.pc, .bool k.me])]) ?_ rfl (sh_end_a _ _ _ _ _ _ _ _ _ _ _ _ _ _ _ _ N5.out.bel T5.out.1 T5.out.2.1 (news_less T5.out.2.2 L5.out) O5.out.own)
  obtain ⟨⟨k0, k1, k2, k3, k4, k5⟩, l0, l1, l2, l3, l4, l5, l6, l7, l8, l9⟩ := ends_a N5.out.rb N5.out.rt (by omega) (.slice t.w.a t.w.n t.w.c) (.slice t.p.a t.p.n t.p.c) (.slice (t.u 0).a (t.u 0).n (t.u 0).c) (.slice (t.u 1).a (t.u 1).n (t.u 1).c) (.slice (t.u 2).a (t.u 2).n (t.u 2).c) (.slice t.c.a t.c.n t.c.c) (.int .i64 k.ph) (.int .i64 k.ep) (.bool k.mj) (.slice v.a v.n v.c) (.bool k.ov) (.int .i64 k.pa) (.int .i64 k.pf) (.int .i64 k.ps) (.int .i64 k.pc) (.bool k.me)
  exact res_shade rfl rfl k0 k1 k2 k3 k4 k5 l0 l1 l2 l3 l4 l5 l6 l7 l8 l9
end
/-- What the end of a walk through Shade stands on. -/
structure Se (w W : World) (t : Hs) (d' : Hd_) (k : Ks) (b : Nat) (v : Ls.Sl) (o : Bool) (xs : List Int) : Prop where
  bel : Below w.heap.size w W
  hb : HBox W w.heap.size t
  rb : T6 W (w.heap.size + 2)
  rt : T10 W (w.heap.size + 3)
  cb : CBox W b (kw k v o)
  ct : T10 W b
  hp : Hp W W.heap.size t d'
  nw : News (w.heap.size + 4) t
  own : W.ownsRow (w.heap.size + 4) 3 1 (.slice v.a v.n v.c) v.n (xs.map (Value.int .i64))
  lo : w.heap.size + 4 ≤ b
/-- .. where t lies behind M, and the work list ahead of it. -/
structure Sy (w W : World) (t : Hs) (d' : Hd_) (k : Ks) (b : Nat) (v : Ls.Sl) (o : Bool) (xs : List Int) (M : Nat) : Prop where
  e : Se w W t d' k b v o xs
  nwM : News M t
  off : ∀ g, (Value.slice v.a v.n v.c).ownBlock = some g → ¬ g = b
  vM : ∀ g, (Value.slice v.a v.n v.c).ownBlock = some g → g < M
  lo : w.heap.size + 4 ≤ b
  bM : b < M
section
variable {w W W' w8 : World} {s t : Hs} {d d' : Hd_} {k : Ks} {xs ys : List Int} {b M : Nat} {v v' : Ls.Sl} {o : Bool}
theorem sy_start (hK : Sw w W s d k xs) (hS : So w W k b v o xs) (hp : Hp W W.heap.size t d') (nM : News M t) (vM : ∀ g, (Value.slice v.a v.n v.c).ownBlock = some g → g < M) (bM : b < M) (hW : W' = put6 W w.heap.size (.slice t.w.a t.w.n t.w.c) (.slice t.p.a t.p.n t.p.c) (.slice (t.u 0).a (t.u 0).n (t.u 0).c) (.slice (t.u 1).a (t.u 1).n (t.u 1).c) (.slice (t.u 2).a (t.u 2).n (t.u 2).c) (.slice t.c.a t.c.n t.c.c)) : Sy w W' t d' k b v o xs M := by
  have hs : ∀ g, ¬ g = w.heap.size → W'.heap[g]? = W.heap[g]? := fun g hg => by rw [hW]; exact put6_other _ _ _ _ _ _ _ _ hg
  have hz : W.heap.size = W'.heap.size := by rw [hW, put6_size]
  have hl := Nat.le_of_eq hz
  have hlo := hS.lo
  obtain ⟨k0, k1, k2, k3, k4, k5⟩ := put6_at hK.hb (.slice t.w.a t.w.n t.w.c) (.slice t.p.a t.p.n t.p.c) (.slice (t.u 0).a (t.u 0).n (t.u 0).c) (.slice (t.u 1).a (t.u 1).n (t.u 1).c) (.slice (t.u 2).a (t.u 2).n (t.u 2).c) (.slice t.c.a t.c.n t.c.c)
  rw [← hW] at k0 k1 k2 k3 k4 k5
  refine ⟨⟨by rw [hW]; exact below_put6 hK.bel (Nat.le_refl _) _ _ _ _ _ _, ⟨k0, k1, k2, k3, k4, k5, by rw [← hz]; exact hK.hb.box.lt⟩, hK.rb.same (hs _ (by omega)) hl, hK.rt.same (hs _ (by omega)) hl, hS.cb.same (hs _ (by omega)) hl, hS.ct.same (hs _ (by omega)) hl, nM.kept hp (fun g h1 _ => hs g (by omega)) hl, news_less nM (by omega), Ls.World.ownsRow.same hS.own fun g hg _ => ?_, hlo⟩, nM, hS.off, vM, hlo, bM⟩
  have := (hS.own.lt g hg).1
  exact hs g (by omega)
theorem sy_full (h : Sy w W t d' k b v o xs M) (o' : Bool) (hW : W' = W.setCell ⟨b, 4, none⟩ (.bool o')) : Se w W' t d' k b v o' xs := by
  have hs : ∀ g, ¬ g = b → W'.heap[g]? = W.heap[g]? := fun g hg => by rw [hW]; exact Below.heap_setCell _ _ _ _ hg
  have hz : W.heap.size = W'.heap.size := by rw [hW]; simp [World.setCell]
  have hl := Nat.le_of_eq hz
  have hlo := h.lo
  have hbM := h.bM
  exact ⟨by rw [hW]; exact h.e.bel.setCell (p := ⟨b, 4, none⟩) (by show w.heap.size ≤ b; omega) _, HBox.same h.e.hb (hs _ (by omega)) hl, h.e.rb.same (hs _ (by omega)) hl, h.e.rt.same (hs _ (by omega)) hl, by rw [hW]; exact h.e.cb.put4 o', by rw [hW]; exact h.e.ct.set 4 _, h.nwM.kept h.e.hp (fun g h1 _ => hs g (by omega)) hl, h.e.nw, Ls.World.ownsRow.same h.e.own fun g hg _ => hs g (h.off g hg), hlo⟩
theorem sy_cat {ob : Obj} (h : Sy w W t d' k b v o xs M) (hc : Ls.Catted (W.alloc ob) (w.heap.size + 4) (.slice v.a v.n v.c) v' ys w8) (hW : W' = w8.setCell ⟨b, 3, none⟩ (.slice v'.a v'.n v'.c)) : Se w W' t d' k b v' o ys := by
  have hg8 : ∀ g, g < W.heap.size → (∀ q, (Value.slice v.a v.n v.c).ownBlock = some q → ¬ g = q) → w8.heap[g]? = W.heap[g]? := fun g hg hn => by
    rw [hc.grown.block g (by simp; omega) (fun e => hn g e.symm rfl)]
    exact Below.heap_alloc _ _ _ hg
  have hs : ∀ g, ¬ g = b → W'.heap[g]? = w8.heap[g]? := fun g hg => by rw [hW]; exact Below.heap_setCell _ _ _ _ hg
  have hz : w8.heap.size = W'.heap.size := by rw [hW]; simp [World.setCell]
  have hz8 := hc.grown.size
  rw [World.size_alloc] at hz8
  have hlo := h.lo
  have hbM := h.bM
  have hbl := h.e.ct.lt
  have hlow : ∀ g, g < w.heap.size + 4 → W'.heap[g]? = W.heap[g]? := fun g hg => (hs g (by omega)).trans (hg8 g (by omega) fun q hq => by have := (h.e.own.lt q hq).1; omega)
  have hb8 : w8.heap[b]? = W.heap[b]? := hg8 b hbl fun q hq => fun e => h.off q hq e.symm
  have b8 : Below w.heap.size w w8 := (h.e.bel.alloc h.e.bel.size ob).grown hc.grown (by have := h.e.bel.size; simp; omega) (fun j hj => by have := (h.e.own.lt j hj).1; omega)
  refine ⟨by rw [hW]; exact b8.setCell (p := ⟨b, 3, none⟩) (by show w.heap.size ≤ b; omega) _, HBox.same h.e.hb (hlow _ (by omega)) (by omega), h.e.rb.same (hlow _ (by omega)) (by omega), h.e.rt.same (hlow _ (by omega)) (by omega), ?_, ?_, h.nwM.kept h.e.hp (fun g h1 h2 => (hs g (by omega)).trans (hg8 g h2 fun q hq => by have := h.vM q hq; omega)) (by omega), h.e.nw, Ls.World.ownsRow.same hc.own fun g hg _ => hs g ?_, hlo⟩
  · rw [hW]
    exact CBox.put3 (k := kw k v o) (h.e.cb.same hb8 (by omega)) v'
  · rw [hW]
    exact (h.e.ct.same hb8 (by omega)).set 3 _
  · intro e
    subst e
    rw [Ls.ownBlock_slice] at hg
    cases hx : v'.a with
    | none => rw [hx] at hg; cases hg
    | some x =>
      rw [hx] at hg
      simp at hg
      rcases hc.lies x hx with h1 | h1
      · exact h.off _ h1 hg
      · rw [World.size_alloc] at h1; omega
theorem se_stay (h : Se w W t d' k b v o xs ∧ True) (hs : ∀ g, ¬ g = w.heap.size + 2 → ¬ g = w.heap.size + 3 → W'.heap[g]? = W.heap[g]?) (hl : W.heap.size ≤ W'.heap.size) (hb : Below w.heap.size w W') (h6 : T6 W' (w.heap.size + 2)) (h10 : T10 W' (w.heap.size + 3)) : (Se w W' t d' k b v o xs ∧ True) ∧ (w.heap.size < W'.heap.size ∧ W'.cell? ⟨w.heap.size, 0, none⟩ = some (.slice t.w.a t.w.n t.w.c) ∧ W'.cell? ⟨w.heap.size, 1, none⟩ = some (.slice t.p.a t.p.n t.p.c) ∧ W'.cell? ⟨w.heap.size, 2, none⟩ = some (.slice (t.u 0).a (t.u 0).n (t.u 0).c) ∧ W'.cell? ⟨w.heap.size, 3, none⟩ = some (.slice (t.u 1).a (t.u 1).n (t.u 1).c) ∧ W'.cell? ⟨w.heap.size, 4, none⟩ = some (.slice (t.u 2).a (t.u 2).n (t.u 2).c) ∧ W'.cell? ⟨w.heap.size, 5, none⟩ = some (.slice t.c.a t.c.n t.c.c)) ∧ b < W'.heap.size ∧ W'.cell? ⟨b, 0, none⟩ = some (.int .i64 k.ph) ∧ W'.cell? ⟨b, 1, none⟩ = some (.int .i64 k.ep) ∧ W'.cell? ⟨b, 2, none⟩ = some (.bool k.mj) ∧ W'.cell? ⟨b, 3, none⟩ = some (.slice v.a v.n v.c) ∧ W'.cell? ⟨b, 4, none⟩ = some (.bool o) ∧ W'.cell? ⟨b, 5, none⟩ = some (.int .i64 k.pa) ∧ W'.cell? ⟨b, 6, none⟩ = some (.int .i64 k.pf) ∧ W'.cell? ⟨b, 7, none⟩ = some (.int .i64 k.ps) ∧ W'.cell? ⟨b, 8, none⟩ = some (.int .i64 k.pc) ∧ W'.cell? ⟨b, 9, none⟩ = some (.bool k.me) := by
  obtain ⟨⟨_, a1, _, _, a4, a5, a6, a7, a8, a9⟩, _⟩ := h
  have g1 : HBox W' w.heap.size t := HBox.same a1 (hs _ (by omega) (by omega)) hl
  have g2 : CBox W' b (kw k v o) := a4.same (hs _ (by omega) (by omega)) hl
  refine ⟨⟨⟨hb, g1, h6, h10, g2, a5.same (hs _ (by omega) (by omega)) hl, a7.kept a6 (fun g h1 _ => hs g (by omega) (by omega)) hl, a7, Ls.World.ownsRow.same a8 fun g hg _ => ?_, a9⟩, trivial⟩, sixh_of g1, kw_of g2⟩
  have := (a8.lt g hg).1
  exact hs g (by omega) (by omega)
theorem se_keep (h : Se w W t d' k b v o xs ∧ True) (hb : Below W.heap.size W W') : (Se w W' t d' k b v o xs ∧ True) ∧ (w.heap.size < W'.heap.size ∧ W'.cell? ⟨w.heap.size, 0, none⟩ = some (.slice t.w.a t.w.n t.w.c) ∧ W'.cell? ⟨w.heap.size, 1, none⟩ = some (.slice t.p.a t.p.n t.p.c) ∧ W'.cell? ⟨w.heap.size, 2, none⟩ = some (.slice (t.u 0).a (t.u 0).n (t.u 0).c) ∧ W'.cell? ⟨w.heap.size, 3, none⟩ = some (.slice (t.u 1).a (t.u 1).n (t.u 1).c) ∧ W'.cell? ⟨w.heap.size, 4, none⟩ = some (.slice (t.u 2).a (t.u 2).n (t.u 2).c) ∧ W'.cell? ⟨w.heap.size, 5, none⟩ = some (.slice t.c.a t.c.n t.c.c)) ∧ b < W'.heap.size ∧ W'.cell? ⟨b, 0, none⟩ = some (.int .i64 k.ph) ∧ W'.cell? ⟨b, 1, none⟩ = some (.int .i64 k.ep) ∧ W'.cell? ⟨b, 2, none⟩ = some (.bool k.mj) ∧ W'.cell? ⟨b, 3, none⟩ = some (.slice v.a v.n v.c) ∧ W'.cell? ⟨b, 4, none⟩ = some (.bool o) ∧ W'.cell? ⟨b, 5, none⟩ = some (.int .i64 k.pa) ∧ W'.cell? ⟨b, 6, none⟩ = some (.int .i64 k.pf) ∧ W'.cell? ⟨b, 7, none⟩ = some (.int .i64 k.ps) ∧ W'.cell? ⟨b, 8, none⟩ = some (.int .i64 k.pc) ∧ W'.cell? ⟨b, 9, none⟩ = some (.bool k.me) := by
  obtain ⟨⟨a0, a1, a2, a3, a4, a5, a6, a7, a8, a9⟩, _⟩ := h
  have g1 := a1.next hb
  have g2 := a4.next hb
  exact ⟨⟨⟨a0.trans (hb.mono a0.size), g1, a2.same (hb.block _ a2.lt) hb.size, a3.next hb, g2, a5.next hb, a6.next hb, a7, own_next a8 hb, a9⟩, trivial⟩, sixh_of g1, kw_of g2⟩
theorem se_drew (h : Se w W t d' k b v o xs ∧ True) : (Se w W.drew t d' k b v o xs ∧ True) ∧ (w.heap.size < W.drew.heap.size ∧ W.drew.cell? ⟨w.heap.size, 0, none⟩ = some (.slice t.w.a t.w.n t.w.c) ∧ W.drew.cell? ⟨w.heap.size, 1, none⟩ = some (.slice t.p.a t.p.n t.p.c) ∧ W.drew.cell? ⟨w.heap.size, 2, none⟩ = some (.slice (t.u 0).a (t.u 0).n (t.u 0).c) ∧ W.drew.cell? ⟨w.heap.size, 3, none⟩ = some (.slice (t.u 1).a (t.u 1).n (t.u 1).c) ∧ W.drew.cell? ⟨w.heap.size, 4, none⟩ = some (.slice (t.u 2).a (t.u 2).n (t.u 2).c) ∧ W.drew.cell? ⟨w.heap.size, 5, none⟩ = some (.slice t.c.a t.c.n t.c.c)) ∧ b < W.drew.heap.size ∧ W.drew.cell? ⟨b, 0, none⟩ = some (.int .i64 k.ph) ∧ W.drew.cell? ⟨b, 1, none⟩ = some (.int .i64 k.ep) ∧ W.drew.cell? ⟨b, 2, none⟩ = some (.bool k.mj) ∧ W.drew.cell? ⟨b, 3, none⟩ = some (.slice v.a v.n v.c) ∧ W.drew.cell? ⟨b, 4, none⟩ = some (.bool o) ∧ W.drew.cell? ⟨b, 5, none⟩ = some (.int .i64 k.pa) ∧ W.drew.cell? ⟨b, 6, none⟩ = some (.int .i64 k.pf) ∧ W.drew.cell? ⟨b, 7, none⟩ = some (.int .i64 k.ps) ∧ W.drew.cell? ⟨b, 8, none⟩ = some (.int .i64 k.pc) ∧ W.drew.cell? ⟨b, 9, none⟩ = some (.bool k.me) := se_keep h (below_drawn' (Below.refl _ _) 1)
theorem se_put6 (h : Se w W t d' k b v o xs ∧ True) (v0 v1 v2 v3 v4 v5 : Value) : Se w (put6 W (w.heap.size + 2) v0 v1 v2 v3 v4 v5) t d' k b v o xs ∧ True :=
  (se_stay h (fun g h1 _ => put6_other _ _ v0 v1 v2 v3 v4 v5 h1) (Nat.le_of_eq (put6_size _ _ v0 v1 v2 v3 v4 v5).symm) (below_put6 h.1.bel (by omega) v0 v1 v2 v3 v4 v5) (h.1.rb.put v0 v1 v2 v3 v4 v5) (h.1.rt.same (put6_other _ _ v0 v1 v2 v3 v4 v5 (by omega)) (Nat.le_of_eq (put6_size _ _ v0 v1 v2 v3 v4 v5).symm))).1
theorem se_put10 (h : Se w W t d' k b v o xs ∧ True) (u0 u1 u2 u3 u4 u5 u6 u7 u8 u9 : Value) : Se w (put10 W (w.heap.size + 3) u0 u1 u2 u3 u4 u5 u6 u7 u8 u9) t d' k b v o xs ∧ True :=
  (se_stay h (fun g _ h2 => put10_other _ _ u0 u1 u2 u3 u4 u5 u6 u7 u8 u9 h2) (Nat.le_of_eq (put10_size _ _ u0 u1 u2 u3 u4 u5 u6 u7 u8 u9).symm) (below_put10 h.1.bel (by omega) u0 u1 u2 u3 u4 u5 u6 u7 u8 u9) (h.1.rb.same (put10_other _ _ u0 u1 u2 u3 u4 u5 u6 u7 u8 u9 (by omega)) (Nat.le_of_eq (put10_size _ _ u0 u1 u2 u3 u4 u5 u6 u7 u8 u9).symm)) (h.1.rt.put u0 u1 u2 u3 u4 u5 u6 u7 u8 u9)).1
theorem se_a (h : Se w W t d' k b v o xs ∧ True) (v0 v1 v2 v3 v4 v5 : Value) : (Se w ((((((W.setCell ⟨w.heap.size + 2, 0, none⟩ v0).setCell ⟨w.heap.size + 2, 1, none⟩ v1).setCell ⟨w.heap.size + 2, 2, none⟩ v2).setCell ⟨w.heap.size + 2, 3, none⟩ v3).setCell ⟨w.heap.size + 2, 4, none⟩ v4).setCell ⟨w.heap.size + 2, 5, none⟩ v5).drew t d' k b v o xs ∧ True) ∧ (w.heap.size < ((((((W.setCell ⟨w.heap.size + 2, 0, none⟩ v0).setCell ⟨w.heap.size + 2, 1, none⟩ v1).setCell ⟨w.heap.size + 2, 2, none⟩ v2).setCell ⟨w.heap.size + 2, 3, none⟩ v3).setCell ⟨w.heap.size + 2, 4, none⟩ v4).setCell ⟨w.heap.size + 2, 5, none⟩ v5).drew.heap.size ∧ ((((((W.setCell ⟨w.heap.size + 2, 0, none⟩ v0).setCell ⟨w.heap.size + 2, 1, none⟩ v1).setCell ⟨w.heap.size + 2, 2, none⟩ v2).setCell ⟨w.heap.size + 2, 3, none⟩ v3).setCell ⟨w.heap.size + 2, 4, none⟩ v4).setCell ⟨w.heap.size + 2, 5, none⟩ v5).drew.cell? ⟨w.heap.size, 0, none⟩ = some (.slice t.w.a t.w.n t.w.c) ∧ ((((((W.setCell ⟨w.heap.size + 2, 0, none⟩ v0).setCell ⟨w.heap.size + 2, 1, none⟩ v1).setCell ⟨w.heap.size + 2, 2, none⟩ v2).setCell ⟨w.heap.size + 2, 3, none⟩ v3).setCell ⟨w.heap.size + 2, 4, none⟩ v4).setCell ⟨w.heap.size + 2, 5, none⟩ v5).drew.cell? ⟨w.heap.size, 1, none⟩ = some (.slice t.p.a t.p.n t.p.c) ∧ ((((((W.setCell ⟨w.heap.size + 2, 0, none⟩ v0).setCell ⟨w.heap.size + 2, 1, none⟩ v1).setCell ⟨w.heap.size + 2, 2, none⟩ v2).setCell ⟨w.heap.size + 2, 3, none⟩ v3).setCell ⟨w.heap.size + 2, 4, none⟩ v4).setCell ⟨w.heap.size + 2, 5, none⟩ v5).drew.cell? ⟨w.heap.size, 2, none⟩ = some (.slice (t.u 0).a (t.u 0).n (t.u 0).c) ∧ ((((((W.setCell ⟨w.heap.size + 2, 0, none⟩ v0).setCell ⟨w.heap.size + 2, 1, none⟩ v1).setCell ⟨w.heap.size + 2, 2, none⟩ v2).setCell ⟨w.heap.size + 2, 3, none⟩ v3).setCell ⟨w.heap.size + 2, 4, none⟩ v4).setCell ⟨w.heap.size + 2, 5, none⟩ v5).drew.cell? ⟨w.heap.size, 3, none⟩ = some (.slice (t.u 1).a (t.u 1).n (t.u 1).c) ∧ ((((((W.setCell ⟨w.heap.size + 2, 0, none⟩ v0).setCell ⟨w.heap.size + 2, 1, none⟩ v1).setCell ⟨w.heap.size + 2, 2, none⟩ v2).setCell ⟨w.heap.size + 2, 3, none⟩ v3).setCell ⟨w.heap.size + 2, 4, none⟩ v4).setCell ⟨w.heap.size + 2, 5, none⟩ v5).drew.cell? ⟨w.heap.size, 4, none⟩ = some (.slice (t.u 2).a (t.u 2).n (t.u 2).c) ∧ ((((((W.setCell ⟨w.heap.size + 2, 0, none⟩ v0).setCell ⟨w.heap.size + 2, 1, none⟩ v1).setCell ⟨w.heap.size + 2, 2, none⟩ v2).setCell ⟨w.heap.size + 2, 3, none⟩ v3).setCell ⟨w.heap.size + 2, 4, none⟩ v4).setCell ⟨w.heap.size + 2, 5, none⟩ v5).drew.cell? ⟨w.heap.size, 5, none⟩ = some (.slice t.c.a t.c.n t.c.c)) ∧ b < ((((((W.setCell ⟨w.heap.size + 2, 0, none⟩ v0).setCell ⟨w.heap.size + 2, 1, none⟩ v1).setCell ⟨w.heap.size + 2, 2, none⟩ v2).setCell ⟨w.heap.size + 2, 3, none⟩ v3).setCell ⟨w.heap.size + 2, 4, none⟩ v4).setCell ⟨w.heap.size + 2, 5, none⟩ v5).drew.heap.size ∧ ((((((W.setCell ⟨w.heap.size + 2, 0, none⟩ v0).setCell ⟨w.heap.size + 2, 1, none⟩ v1).setCell ⟨w.heap.size + 2, 2, none⟩ v2).setCell ⟨w.heap.size + 2, 3, none⟩ v3).setCell ⟨w.heap.size + 2, 4, none⟩ v4).setCell ⟨w.heap.size + 2, 5, none⟩ v5).drew.cell? ⟨b, 0, none⟩ = some (.int .i64 k.ph) ∧ ((((((W.setCell ⟨w.heap.size + 2, 0, none⟩ v0).setCell ⟨w.heap.size + 2, 1, none⟩ v1).setCell ⟨w.heap.size + 2, 2, none⟩ v2).setCell ⟨w.heap.size + 2, 3, none⟩ v3).setCell ⟨w.heap.size + 2, 4, none⟩ v4).setCell ⟨w.heap.size + 2, 5, none⟩ v5).drew.cell? ⟨b, 1, none⟩ = some (.int .i64 k.ep) ∧ ((((((W.setCell ⟨w.heap.size + 2, 0, none⟩ v0).setCell ⟨w.heap.size + 2, 1, none⟩ v1).setCell ⟨w.heap.size + 2, 2, none⟩ v2).setCell ⟨w.heap.size + 2, 3, none⟩ v3).setCell ⟨w.heap.size + 2, 4, none⟩ v4).setCell ⟨w.heap.size + 2, 5, none⟩ v5).drew.cell? ⟨b, 2, none⟩ = some (.bool k.mj) ∧ ((((((W.setCell ⟨w.heap.size + 2, 0, none⟩ v0).setCell ⟨w.heap.size + 2, 1, none⟩ v1).setCell ⟨w.heap.size + 2, 2, none⟩ v2).setCell ⟨w.heap.size + 2, 3, none⟩ v3).setCell ⟨w.heap.size + 2, 4, none⟩ v4).setCell ⟨w.heap.size + 2, 5, none⟩ v5).drew.cell? ⟨b, 3, none⟩ = some (.slice v.a v.n v.c) ∧ ((((((W.setCell ⟨w.heap.size + 2, 0, none⟩ v0).setCell ⟨w.heap.size + 2, 1, none⟩ v1).setCell ⟨w.heap.size + 2, 2, none⟩ v2).setCell ⟨w.heap.size + 2, 3, none⟩ v3).setCell ⟨w.heap.size + 2, 4, none⟩ v4).setCell ⟨w.heap.size + 2, 5, none⟩ v5).drew.cell? ⟨b, 4, none⟩ = some (.bool o) ∧ ((((((W.setCell ⟨w.heap.size + 2, 0, none⟩ v0).setCell ⟨w.heap.size + 2, 1, none⟩ v1).setCell ⟨w.heap.size + 2, 2, none⟩ v2).setCell ⟨w.heap.size + 2, 3, none⟩ v3).setCell ⟨w.heap.size + 2, 4, none⟩ v4).setCell ⟨w.heap.size + 2, 5, none⟩ v5).drew.cell? ⟨b, 5, none⟩ = some (.int .i64 k.pa) ∧ ((((((W.setCell ⟨w.heap.size + 2, 0, none⟩ v0).setCell ⟨w.heap.size + 2, 1, none⟩ v1).setCell ⟨w.heap.size + 2, 2, none⟩ v2).setCell ⟨w.heap.size + 2, 3, none⟩ v3).setCell ⟨w.heap.size + 2, 4, none⟩ v4).setCell ⟨w.heap.size + 2, 5, none⟩ v5).drew.cell? ⟨b, 6, none⟩ = some (.int .i64 k.pf) ∧ ((((((W.setCell ⟨w.heap.size + 2, 0, none⟩ v0).setCell ⟨w.heap.size + 2, 1, none⟩ v1).setCell ⟨w.heap.size + 2, 2, none⟩ v2).setCell ⟨w.heap.size + 2, 3, none⟩ v3).setCell ⟨w.heap.size + 2, 4, none⟩ v4).setCell ⟨w.heap.size + 2, 5, none⟩ v5).drew.cell? ⟨b, 7, none⟩ = some (.int .i64 k.ps) ∧ ((((((W.setCell ⟨w.heap.size + 2, 0, none⟩ v0).setCell ⟨w.heap.size + 2, 1, none⟩ v1).setCell ⟨w.heap.size + 2, 2, none⟩ v2).setCell ⟨w.heap.size + 2, 3, none⟩ v3).setCell ⟨w.heap.size + 2, 4, none⟩ v4).setCell ⟨w.heap.size + 2, 5, none⟩ v5).drew.cell? ⟨b, 8, none⟩ = some (.int .i64 k.pc) ∧ ((((((W.setCell ⟨w.heap.size + 2, 0, none⟩ v0).setCell ⟨w.heap.size + 2, 1, none⟩ v1).setCell ⟨w.heap.size + 2, 2, none⟩ v2).setCell ⟨w.heap.size + 2, 3, none⟩ v3).setCell ⟨w.heap.size + 2, 4, none⟩ v4).setCell ⟨w.heap.size + 2, 5, none⟩ v5).drew.cell? ⟨b, 9, none⟩ = some (.bool k.me) := se_drew (se_put6 h v0 v1 v2 v3 v4 v5)
theorem se_b (h : Se w W t d' k b v o xs ∧ True) (u0 u1 u2 u3 u4 u5 u6 u7 u8 u9 : Value) : (Se w ((((((((((W.setCell ⟨w.heap.size + 3, 0, none⟩ u0).setCell ⟨w.heap.size + 3, 1, none⟩ u1).setCell ⟨w.heap.size + 3, 2, none⟩ u2).setCell ⟨w.heap.size + 3, 3, none⟩ u3).setCell ⟨w.heap.size + 3, 4, none⟩ u4).setCell ⟨w.heap.size + 3, 5, none⟩ u5).setCell ⟨w.heap.size + 3, 6, none⟩ u6).setCell ⟨w.heap.size + 3, 7, none⟩ u7).setCell ⟨w.heap.size + 3, 8, none⟩ u8).setCell ⟨w.heap.size + 3, 9, none⟩ u9).drew t d' k b v o xs ∧ True) ∧ (w.heap.size < ((((((((((W.setCell ⟨w.heap.size + 3, 0, none⟩ u0).setCell ⟨w.heap.size + 3, 1, none⟩ u1).setCell ⟨w.heap.size + 3, 2, none⟩ u2).setCell ⟨w.heap.size + 3, 3, none⟩ u3).setCell ⟨w.heap.size + 3, 4, none⟩ u4).setCell ⟨w.heap.size + 3, 5, none⟩ u5).setCell ⟨w.heap.size + 3, 6, none⟩ u6).setCell ⟨w.heap.size + 3, 7, none⟩ u7).setCell ⟨w.heap.size + 3, 8, none⟩ u8).setCell ⟨w.heap.size + 3, 9, none⟩ u9).drew.heap.size ∧ ((((((((((W.setCell ⟨w.heap.size + 3, 0, none⟩ u0).setCell ⟨w.heap.size + 3, 1, none⟩ u1).setCell ⟨w.heap.size + 3, 2, none⟩ u2).setCell ⟨w.heap.size + 3, 3, none⟩ u3).setCell ⟨w.heap.size + 3, 4, none⟩ u4).setCell ⟨w.heap.size + 3, 5, none⟩ u5).setCell ⟨w.heap.size + 3, 6, none⟩ u6).setCell ⟨w.heap.size + 3, 7, none⟩ u7).setCell ⟨w.heap.size + 3, 8, none⟩ u8).setCell ⟨w.heap.size + 3, 9, none⟩ u9).drew.cell? ⟨w.heap.size, 0, none⟩ = some (.slice t.w.a t.w.n t.w.c) ∧ ((((((((((W.setCell ⟨w.heap.size + 3, 0, none⟩ u0).setCell ⟨w.heap.size + 3, 1, none⟩ u1).setCell ⟨w.heap.size + 3, 2, none⟩ u2).setCell ⟨w.heap.size + 3, 3, none⟩ u3).setCell ⟨w.heap.size + 3, 4, none⟩ u4).setCell ⟨w.heap.size + 3, 5, none⟩ u5).setCell ⟨w.heap.size + 3, 6, none⟩ u6).setCell ⟨w.heap.size + 3, 7, none⟩ u7).setCell ⟨w.heap.size + 3, 8, none⟩ u8).setCell ⟨w.heap.size + 3, 9, none⟩ u9).drew.cell? ⟨w.heap.size, 1, none⟩ = some (.slice t.p.a t.p.n t.p.c) ∧ ((((((((((W.setCell ⟨w.heap.size + 3, 0, none⟩ u0).setCell ⟨w.heap.size + 3, 1, none⟩ u1).setCell ⟨w.heap.size + 3, 2, none⟩ u2).setCell ⟨w.heap.size + 3, 3, none⟩ u3).setCell ⟨w.heap.size + 3, 4, none⟩ u4).setCell ⟨w.heap.size + 3, 5, none⟩ u5).setCell ⟨w.heap.size + 3, 6, none⟩ u6).setCell ⟨w.heap.size + 3, 7, none⟩ u7).setCell ⟨w.heap.size + 3, 8, none⟩ u8).setCell ⟨w.heap.size + 3, 9, none⟩ u9).drew.cell? ⟨w.heap.size, 2, none⟩ = some (.slice (t.u 0).a (t.u 0).n (t.u 0).c) ∧ ((((((((((W.setCell ⟨w.heap.size + 3, 0, none⟩ u0).setCell ⟨w.heap.size + 3, 1, none⟩ u1).setCell ⟨w.heap.size + 3, 2, none⟩ u2).setCell ⟨w.heap.size + 3, 3, none⟩ u3).setCell ⟨w.heap.size + 3, 4, none⟩ u4).setCell ⟨w.heap.size + 3, 5, none⟩ u5).setCell ⟨w.heap.size + 3, 6, none⟩ u6).setCell ⟨w.heap.size + 3, 7, none⟩ u7).setCell ⟨w.heap.size + 3, 8, none⟩ u8).setCell ⟨w.heap.size + 3, 9, none⟩ u9).drew.cell? ⟨w.heap.size, 3, none⟩ = some (.slice (t.u 1).a (t.u 1).n (t.u 1).c) ∧ ((((((((((W.setCell ⟨w.heap.size + 3, 0, none⟩ u0).setCell ⟨w.heap.size + 3, 1, none⟩ u1).setCell ⟨w.heap.size + 3, 2, none⟩ u2).setCell ⟨w.heap.size + 3, 3, none⟩ u3).setCell ⟨w.heap.size + 3, 4, none⟩ u4).setCell ⟨w.heap.size + 3, 5, none⟩ u5).setCell ⟨w.heap.size + 3, 6, none⟩ u6).setCell ⟨w.heap.size + 3, 7, none⟩ u7).setCell ⟨w.heap.size + 3, 8, none⟩ u8).setCell ⟨w.heap.size + 3, 9, none⟩ u9).drew.cell? ⟨w.heap.size, 4, none⟩ = some (.slice (t.u 2).a (t.u 2).n (t.u 2).c) ∧ ((((((((((W.setCell ⟨w.heap.size + 3, 0, none⟩ u0).setCell ⟨w.heap.size + 3, 1, none⟩ u1).setCell ⟨w.heap.size + 3, 2, none⟩ u2).setCell ⟨w.heap.size + 3, 3, none⟩ u3).setCell ⟨w.heap.size + 3, 4, none⟩ u4).setCell ⟨w.heap.size + 3, 5, none⟩ u5).setCell ⟨w.heap.size + 3, 6, none⟩ u6).setCell ⟨w.heap.size + 3, 7, none⟩ u7).setCell ⟨w.heap.size + 3, 8, none⟩ u8).setCell ⟨w.heap.size + 3, 9, none⟩ u9).drew.cell? ⟨w.heap.size, 5, none⟩ = some (.slice t.c.a t.c.n t.c.c)) ∧ b < ((((((((((W.setCell ⟨w.heap.size + 3, 0, none⟩ u0).setCell ⟨w.heap.size + 3, 1, none⟩ u1).setCell ⟨w.heap.size + 3, 2, none⟩ u2).setCell ⟨w.heap.size + 3, 3, none⟩ u3).setCell ⟨w.heap.size + 3, 4, none⟩ u4).setCell ⟨w.heap.size + 3, 5, none⟩ u5).setCell ⟨w.heap.size + 3, 6, none⟩ u6).setCell ⟨w.heap.size + 3, 7, none⟩ u7).setCell ⟨w.heap.size + 3, 8, none⟩ u8).setCell ⟨w.heap.size + 3, 9, none⟩ u9).drew.heap.size ∧ ((((((((((W.setCell ⟨w.heap.size + 3, 0, none⟩ u0).setCell ⟨w.heap.size + 3, 1, none⟩ u1).setCell ⟨w.heap.size + 3, 2, none⟩ u2).setCell ⟨w.heap.size + 3, 3, none⟩ u3).setCell ⟨w.heap.size + 3, 4, none⟩ u4).setCell ⟨w.heap.size + 3, 5, none⟩ u5).setCell ⟨w.heap.size + 3, 6, none⟩ u6).setCell ⟨w.heap.size + 3, 7, none⟩ u7).setCell ⟨w.heap.size + 3, 8, none⟩ u8).setCell ⟨w.heap.size + 3, 9, none⟩ u9).drew.cell? ⟨b, 0, none⟩ = some (.int .i64 k.ph) ∧ ((((((((((W.setCell ⟨w.heap.size + 3, 0, none⟩ u0).setCell ⟨w.heap.size + 3, 1, none⟩ u1).setCell ⟨w.heap.size + 3, 2, none⟩ u2).setCell ⟨w.heap.size + 3, 3, none⟩ u3).setCell ⟨w.heap.size + 3, 4, none⟩ u4).setCell ⟨w.heap.size + 3, 5, none⟩ u5).setCell ⟨w.heap.size + 3, 6, none⟩ u6).setCell ⟨w.heap.size + 3, 7, none⟩ u7).setCell ⟨w.heap.size + 3, 8, none⟩ u8).setCell ⟨w.heap.size + 3, 9, none⟩ u9).drew.cell? ⟨b, 1, none⟩ = some (.int .i64 k.ep) ∧ ((((((((((W.setCell ⟨w.heap.size + 3, 0, none⟩ u0).setCell ⟨w.heap.size + 3, 1, none⟩ u1).setCell ⟨w.heap.size + 3, 2, none⟩ u2).setCell ⟨w.heap.size + 3, 3, none⟩ u3).setCell ⟨w.heap.size + 3, 4, none⟩ u4).setCell ⟨w.heap.size + 3, 5, none⟩ u5).setCell ⟨w.heap.size + 3, 6, none⟩ u6).setCell ⟨w.heap.size + 3, 7, none⟩ u7).setCell ⟨w.heap.size + 3, 8, none⟩ u8).setCell ⟨w.heap.size + 3, 9, none⟩ u9).drew.cell? ⟨b, 2, none⟩ = some (.bool k.mj) ∧ ((((((((((W.setCell ⟨w.heap.size + 3, 0, none⟩ u0).setCell ⟨w.heap.size + 3, 1, none⟩ u1).setCell ⟨w.heap.size + 3, 2, none⟩ u2).setCell ⟨w.heap.size + 3, 3, none⟩ u3).setCell ⟨w.heap.size + 3, 4, none⟩ u4).setCell ⟨w.heap.size + 3, 5, none⟩ u5).setCell ⟨w.heap.size + 3, 6, none⟩ u6).setCell ⟨w.heap.size + 3, 7, none⟩ u7).setCell ⟨w.heap.size + 3, 8, none⟩ u8).setCell ⟨w.heap.size + 3, 9, none⟩ u9).drew.cell? ⟨b, 3, none⟩ = some (.slice v.a v.n v.c) ∧ ((((((((((W.setCell ⟨w.heap.size + 3, 0, none⟩ u0).setCell ⟨w.heap.size + 3, 1, none⟩ u1).setCell ⟨w.heap.size + 3, 2, none⟩ u2).setCell ⟨w.heap.size + 3, 3, none⟩ u3).setCell ⟨w.heap.size + 3, 4, none⟩ u4).setCell ⟨w.heap.size + 3, 5, none⟩ u5).setCell ⟨w.heap.size + 3, 6, none⟩ u6).setCell ⟨w.heap.size + 3, 7, none⟩ u7).setCell ⟨w.heap.size + 3, 8, none⟩ u8).setCell ⟨w.heap.size + 3, 9, none⟩ u9).drew.cell? ⟨b, 4, none⟩ = some (.bool o) ∧ ((((((((((W.setCell ⟨w.heap.size + 3, 0, none⟩ u0).setCell ⟨w.heap.size + 3, 1, none⟩ u1).setCell ⟨w.heap.size + 3, 2, none⟩ u2).setCell ⟨w.heap.size + 3, 3, none⟩ u3).setCell ⟨w.heap.size + 3, 4, none⟩ u4).setCell ⟨w.heap.size + 3, 5, none⟩ u5).setCell ⟨w.heap.size + 3, 6, none⟩ u6).setCell ⟨w.heap.size + 3, 7, none⟩ u7).setCell ⟨w.heap.size + 3, 8, none⟩ u8).setCell ⟨w.heap.size + 3, 9, none⟩ u9).drew.cell? ⟨b, 5, none⟩ = some (.int .i64 k.pa) ∧ ((((((((((W.setCell ⟨w.heap.size + 3, 0, none⟩ u0).setCell ⟨w.heap.size + 3, 1, none⟩ u1).setCell ⟨w.heap.size + 3, 2, none⟩ u2).setCell ⟨w.heap.size + 3, 3, none⟩ u3).setCell ⟨w.heap.size + 3, 4, none⟩ u4).setCell ⟨w.heap.size + 3, 5, none⟩ u5).setCell ⟨w.heap.size + 3, 6, none⟩ u6).setCell ⟨w.heap.size + 3, 7, none⟩ u7).setCell ⟨w.heap.size + 3, 8, none⟩ u8).setCell ⟨w.heap.size + 3, 9, none⟩ u9).drew.cell? ⟨b, 6, none⟩ = some (.int .i64 k.pf) ∧ ((((((((((W.setCell ⟨w.heap.size + 3, 0, none⟩ u0).setCell ⟨w.heap.size + 3, 1, none⟩ u1).setCell ⟨w.heap.size + 3, 2, none⟩ u2).setCell ⟨w.heap.size + 3, 3, none⟩ u3).setCell ⟨w.heap.size + 3, 4, none⟩ u4).setCell ⟨w.heap.size + 3, 5, none⟩ u5).setCell ⟨w.heap.size + 3, 6, none⟩ u6).setCell ⟨w.heap.size + 3, 7, none⟩ u7).setCell ⟨w.heap.size + 3, 8, none⟩ u8).setCell ⟨w.heap.size + 3, 9, none⟩ u9).drew.cell? ⟨b, 7, none⟩ = some (.int .i64 k.ps) ∧ ((((((((((W.setCell ⟨w.heap.size + 3, 0, none⟩ u0).setCell ⟨w.heap.size + 3, 1, none⟩ u1).setCell ⟨w.heap.size + 3, 2, none⟩ u2).setCell ⟨w.heap.size + 3, 3, none⟩ u3).setCell ⟨w.heap.size + 3, 4, none⟩ u4).setCell ⟨w.heap.size + 3, 5, none⟩ u5).setCell ⟨w.heap.size + 3, 6, none⟩ u6).setCell ⟨w.heap.size + 3, 7, none⟩ u7).setCell ⟨w.heap.size + 3, 8, none⟩ u8).setCell ⟨w.heap.size + 3, 9, none⟩ u9).drew.cell? ⟨b, 8, none⟩ = some (.int .i64 k.pc) ∧ ((((((((((W.setCell ⟨w.heap.size + 3, 0, none⟩ u0).setCell ⟨w.heap.size + 3, 1, none⟩ u1).setCell ⟨w.heap.size + 3, 2, none⟩ u2).setCell ⟨w.heap.size + 3, 3, none⟩ u3).setCell ⟨w.heap.size + 3, 4, none⟩ u4).setCell ⟨w.heap.size + 3, 5, none⟩ u5).setCell ⟨w.heap.size + 3, 6, none⟩ u6).setCell ⟨w.heap.size + 3, 7, none⟩ u7).setCell ⟨w.heap.size + 3, 8, none⟩ u8).setCell ⟨w.heap.size + 3, 9, none⟩ u9).drew.cell? ⟨b, 9, none⟩ = some (.bool k.me) := se_drew (se_put10 h u0 u1 u2 u3 u4 u5 u6 u7 u8 u9)
theorem se_ab (h : Se w W t d' k b v o xs ∧ True) (v0 v1 v2 v3 v4 v5 u0 u1 u2 u3 u4 u5 u6 u7 u8 u9 : Value) : (Se w ((((((((((((((((W.setCell ⟨w.heap.size + 2, 0, none⟩ v0).setCell ⟨w.heap.size + 2, 1, none⟩ v1).setCell ⟨w.heap.size + 2, 2, none⟩ v2).setCell ⟨w.heap.size + 2, 3, none⟩ v3).setCell ⟨w.heap.size + 2, 4, none⟩ v4).setCell ⟨w.heap.size + 2, 5, none⟩ v5).setCell ⟨w.heap.size + 3, 0, none⟩ u0).setCell ⟨w.heap.size + 3, 1, none⟩ u1).setCell ⟨w.heap.size + 3, 2, none⟩ u2).setCell ⟨w.heap.size + 3, 3, none⟩ u3).setCell ⟨w.heap.size + 3, 4, none⟩ u4).setCell ⟨w.heap.size + 3, 5, none⟩ u5).setCell ⟨w.heap.size + 3, 6, none⟩ u6).setCell ⟨w.heap.size + 3, 7, none⟩ u7).setCell ⟨w.heap.size + 3, 8, none⟩ u8).setCell ⟨w.heap.size + 3, 9, none⟩ u9).drew t d' k b v o xs ∧ True) ∧ (w.heap.size < ((((((((((((((((W.setCell ⟨w.heap.size + 2, 0, none⟩ v0).setCell ⟨w.heap.size + 2, 1, none⟩ v1).setCell ⟨w.heap.size + 2, 2, none⟩ v2).setCell ⟨w.heap.size + 2, 3, none⟩ v3).setCell ⟨w.heap.size + 2, 4, none⟩ v4).setCell ⟨w.heap.size + 2, 5, none⟩ v5).setCell ⟨w.heap.size + 3, 0, none⟩ u0).setCell ⟨w.heap.size + 3, 1, none⟩ u1).setCell ⟨w.heap.size + 3, 2, none⟩ u2).setCell ⟨w.heap.size + 3, 3, none⟩ u3).setCell ⟨w.heap.size + 3, 4, none⟩ u4).setCell ⟨w.heap.size + 3, 5, none⟩ u5).setCell ⟨w.heap.size + 3, 6, none⟩ u6).setCell ⟨w.heap.size + 3, 7, none⟩ u7).setCell ⟨w.heap.size + 3, 8, none⟩ u8).setCell ⟨w.heap.size + 3, 9, none⟩ u9).drew.heap.size ∧ ((((((((((((((((W.setCell ⟨w.heap.size + 2, 0, none⟩ v0).setCell ⟨w.heap.size + 2, 1, none⟩ v1).setCell ⟨w.heap.size + 2, 2, none⟩ v2).setCell ⟨w.heap.size + 2, 3, none⟩ v3).setCell ⟨w.heap.size + 2, 4, none⟩ v4).setCell ⟨w.heap.size + 2, 5, none⟩ v5).setCell ⟨w.heap.size + 3, 0, none⟩ u0).setCell ⟨w.heap.size + 3, 1, none⟩ u1).setCell ⟨w.heap.size + 3, 2, none⟩ u2).setCell ⟨w.heap.size + 3, 3, none⟩ u3).setCell ⟨w.heap.size + 3, 4, none⟩ u4).setCell ⟨w.heap.size + 3, 5, none⟩ u5).setCell ⟨w.heap.size + 3, 6, none⟩ u6).setCell ⟨w.heap.size + 3, 7, none⟩ u7).setCell ⟨w.heap.size + 3, 8, none⟩ u8).setCell ⟨w.heap.size + 3, 9, none⟩ u9).drew.cell? ⟨w.heap.size, 0, none⟩ = some (.slice t.w.a t.w.n t.w.c) ∧ ((((((((((((((((W.setCell ⟨w.heap.size + 2, 0, none⟩ v0).setCell ⟨w.heap.size + 2, 1, none⟩ v1).setCell ⟨w.heap.size + 2, 2, none⟩ v2).setCell ⟨w.heap.size + 2, 3, none⟩ v3).setCell ⟨w.heap.size + 2, 4, none⟩ v4).setCell ⟨w.heap.size + 2, 5, none⟩ v5).setCell ⟨w.heap.size + 3, 0, none⟩ u0).setCell ⟨w.heap.size + 3, 1, none⟩ u1).setCell ⟨w.heap.size + 3, 2, none⟩ u2).setCell ⟨w.heap.size + 3, 3, none⟩ u3).setCell ⟨w.heap.size + 3, 4, none⟩ u4).setCell ⟨w.heap.size + 3, 5, none⟩ u5).setCell ⟨w.heap.size + 3, 6, none⟩ u6).setCell ⟨w.heap.size + 3, 7, none⟩ u7).setCell ⟨w.heap.size + 3, 8, none⟩ u8).setCell ⟨w.heap.size + 3, 9, none⟩ u9).drew.cell? ⟨w.heap.size, 1, none⟩ = some (.slice t.p.a t.p.n t.p.c) ∧ ((((((((((((((((W.setCell ⟨w.heap.size + 2, 0, none⟩ v0).setCell ⟨w.heap.size + 2, 1, none⟩ v1).setCell ⟨w.heap.size + 2, 2, none⟩ v2).setCell ⟨w.heap.size + 2, 3, none⟩ v3).setCell ⟨w.heap.size + 2, 4, none⟩ v4).setCell ⟨w.heap.size + 2, 5, none⟩ v5).setCell ⟨w.heap.size + 3, 0, none⟩ u0).setCell ⟨w.heap.size + 3, 1, none⟩ u1).setCell ⟨w.heap.size + 3, 2, none⟩ u2).setCell ⟨w.heap.size + 3, 3, none⟩ u3).setCell ⟨w.heap.size + 3, 4, none⟩ u4).setCell ⟨w.heap.size + 3, 5, none⟩ u5).setCell ⟨w.heap.size + 3, 6, none⟩ u6).setCell ⟨w.heap.size + 3, 7, none⟩ u7).setCell ⟨w.heap.size + 3, 8, none⟩ u8).setCell ⟨w.heap.size + 3, 9, none⟩ u9).drew.cell? ⟨w.heap.size, 2, none⟩ = some (.slice (t.u 0).a (t.u 0).n (t.u 0).c) ∧ ((((((((((((((((W.setCell ⟨w.heap.size + 2, 0, none⟩ v0).setCell ⟨w.heap.size + 2, 1, none⟩ v1).setCell ⟨w.heap.size + 2, 2, none⟩ v2).setCell ⟨w.heap.size + 2, 3, none⟩ v3).setCell ⟨w.heap.size + 2, 4, none⟩ v4).setCell ⟨w.heap.size + 2, 5, none⟩ v5).setCell ⟨w.heap.size + 3, 0, none⟩ u0).setCell ⟨w.heap.size + 3, 1, none⟩ u1).setCell ⟨w.heap.size + 3, 2, none⟩ u2).setCell ⟨w.heap.size + 3, 3, none⟩ u3).setCell ⟨w.heap.size + 3, 4, none⟩ u4).setCell ⟨w.heap.size + 3, 5, none⟩ u5).setCell ⟨w.heap.size + 3, 6, none⟩ u6).setCell ⟨w.heap.size + 3, 7, none⟩ u7).setCell ⟨w.heap.size + 3, 8, none⟩ u8).setCell ⟨w.heap.size + 3, 9, none⟩ u9).drew.cell? ⟨w.heap.size, 3, none⟩ = some (.slice (t.u 1).a (t.u 1).n (t.u 1).c) ∧ ((((((((((((((((W.setCell ⟨w.heap.size + 2, 0, none⟩ v0).setCell ⟨w.heap.size + 2, 1, none⟩ v1).setCell ⟨w.heap.size + 2, 2, none⟩ v2).setCell ⟨w.heap.size + 2, 3, none⟩ v3).setCell ⟨w.heap.size + 2, 4, none⟩ v4).setCell ⟨w.heap.size + 2, 5, none⟩ v5).setCell ⟨w.heap.size + 3, 0, none⟩ u0).setCell ⟨w.heap.size + 3, 1, none⟩ u1).setCell ⟨w.heap.size + 3, 2, none⟩ u2).setCell ⟨w.heap.size + 3, 3, none⟩ u3).setCell ⟨w.heap.size + 3, 4, none⟩ u4).setCell ⟨w.heap.size + 3, 5, none⟩ u5).setCell ⟨w.heap.size + 3, 6, none⟩ u6).setCell ⟨w.heap.size + 3, 7, none⟩ u7).setCell ⟨w.heap.size + 3, 8, none⟩ u8).setCell ⟨w.heap.size + 3, 9, none⟩ u9).drew.cell? ⟨w.heap.size, 4, none⟩ = some (.slice (t.u 2).a (t.u 2).n (t.u 2).c) ∧ ((((((((((((((((W.setCell ⟨w.heap.size + 2, 0, none⟩ v0).setCell ⟨w.heap.size + 2, 1, none⟩ v1).setCell ⟨w.heap.size + 2, 2, none⟩ v2).setCell ⟨w.heap.size + 2, 3, none⟩ v3).setCell ⟨w.heap.size + 2, 4, none⟩ v4).setCell ⟨w.heap.size + 2, 5, none⟩ v5).setCell ⟨w.heap.size + 3, 0, none⟩ u0).setCell ⟨w.heap.size + 3, 1, none⟩ u1).setCell ⟨w.heap.size + 3, 2, none⟩ u2).setCell ⟨w.heap.size + 3, 3, none⟩ u3).setCell ⟨w.heap.size + 3, 4, none⟩ u4).setCell ⟨w.heap.size + 3, 5, none⟩ u5).setCell ⟨w.heap.size + 3, 6, none⟩ u6).setCell ⟨w.heap.size + 3, 7, none⟩ u7).setCell ⟨w.heap.size + 3, 8, none⟩ u8).setCell ⟨w.heap.size + 3, 9, none⟩ u9).drew.cell? ⟨w.heap.size, 5, none⟩ = some (.slice t.c.a t.c.n t.c.c)) ∧ b < ((((((((((((((((W.setCell ⟨w.heap.size + 2, 0, none⟩ v0).setCell ⟨w.heap.size + 2, 1, none⟩ v1).setCell ⟨w.heap.size + 2, 2, none⟩ v2).setCell ⟨w.heap.size + 2, 3, none⟩ v3).setCell ⟨w.heap.size + 2, 4, none⟩ v4).setCell ⟨w.heap.size + 2, 5, none⟩ v5).setCell ⟨w.heap.size + 3, 0, none⟩ u0).setCell ⟨w.heap.size + 3, 1, none⟩ u1).setCell ⟨w.heap.size + 3, 2, none⟩ u2).setCell ⟨w.heap.size + 3, 3, none⟩ u3).setCell ⟨w.heap.size + 3, 4, none⟩ u4).setCell ⟨w.heap.size + 3, 5, none⟩ u5).setCell ⟨w.heap.size + 3, 6, none⟩ u6).setCell ⟨w.heap.size + 3, 7, none⟩ u7).setCell ⟨w.heap.size + 3, 8, none⟩ u8).setCell ⟨w.heap.size + 3, 9, none⟩ u9).drew.heap.size ∧ ((((((((((((((((W.setCell ⟨w.heap.size + 2, 0, none⟩ v0).setCell ⟨w.heap.size + 2, 1, none⟩ v1).setCell ⟨w.heap.size + 2, 2, none⟩ v2).setCell ⟨w.heap.size + 2, 3, none⟩ v3).setCell ⟨w.heap.size + 2, 4, none⟩ v4).setCell ⟨w.heap.size + 2, 5, none⟩ v5).setCell ⟨w.heap.size + 3, 0, none⟩ u0).setCell ⟨w.heap.size + 3, 1, none⟩ u1).setCell ⟨w.heap.size + 3, 2, none⟩ u2).setCell ⟨w.heap.size + 3, 3, none⟩ u3).setCell ⟨w.heap.size + 3, 4, none⟩ u4).setCell ⟨w.heap.size + 3, 5, none⟩ u5).setCell ⟨w.heap.size + 3, 6, none⟩ u6).setCell ⟨w.heap.size + 3, 7, none⟩ u7).setCell ⟨w.heap.size + 3, 8, none⟩ u8).setCell ⟨w.heap.size + 3, 9, none⟩ u9).drew.cell? ⟨b, 0, none⟩ = some (.int .i64 k.ph) ∧ ((((((((((((((((W.setCell ⟨w.heap.size + 2, 0, none⟩ v0).setCell ⟨w.heap.size + 2, 1, none⟩ v1).setCell ⟨w.heap.size + 2, 2, none⟩ v2).setCell ⟨w.heap.size + 2, 3, none⟩ v3).setCell ⟨w.heap.size + 2, 4, none⟩ v4).setCell ⟨w.heap.size + 2, 5, none⟩ v5).setCell ⟨w.heap.size + 3, 0, none⟩ u0).setCell ⟨w.heap.size + 3, 1, none⟩ u1).setCell ⟨w.heap.size + 3, 2, none⟩ u2).setCell ⟨w.heap.size + 3, 3, none⟩ u3).setCell ⟨w.heap.size + 3, 4, none⟩ u4).setCell ⟨w.heap.size + 3, 5, none⟩ u5).setCell ⟨w.heap.size + 3, 6, none⟩ u6).setCell ⟨w.heap.size + 3, 7, none⟩ u7).setCell ⟨w.heap.size + 3, 8, none⟩ u8).setCell ⟨w.heap.size + 3, 9, none⟩ u9).drew.cell? ⟨b, 1, none⟩ = some (.int .i64 k.ep) ∧ ((((((((((((((((W.setCell ⟨w.heap.size + 2, 0, none⟩ v0).setCell ⟨w.heap.size + 2, 1, none⟩ v1).setCell ⟨w.heap.size + 2, 2, none⟩ v2).setCell ⟨w.heap.size + 2, 3, none⟩ v3).setCell ⟨w.heap.size + 2, 4, none⟩ v4).setCell ⟨w.heap.size + 2, 5, none⟩ v5).setCell ⟨w.heap.size + 3, 0, none⟩ u0).setCell ⟨w.heap.size + 3, 1, none⟩ u1).setCell ⟨w.heap.size + 3, 2, none⟩ u2).setCell ⟨w.heap.size + 3, 3, none⟩ u3).setCell ⟨w.heap.size + 3, 4, none⟩ u4).setCell ⟨w.heap.size + 3, 5, none⟩ u5).setCell ⟨w.heap.size + 3, 6, none⟩ u6).setCell ⟨w.heap.size + 3, 7, none⟩ u7).setCell ⟨w.heap.size + 3, 8, none⟩ u8).setCell ⟨w.heap.size + 3, 9, none⟩ u9).drew.cell? ⟨b, 2, none⟩ = some (.bool k.mj) ∧ ((((((((((((((((W.setCell ⟨w.heap.size + 2, 0, none⟩ v0).setCell ⟨w.heap.size + 2, 1, none⟩ v1).setCell ⟨w.heap.size + 2, 2, none⟩ v2).setCell ⟨w.heap.size + 2, 3, none⟩ v3).setCell ⟨w.heap.size + 2, 4, none⟩ v4).setCell ⟨w.heap.size + 2, 5, none⟩ v5).setCell ⟨w.heap.size + 3, 0, none⟩ u0).setCell ⟨w.heap.size + 3, 1, none⟩ u1).setCell ⟨w.heap.size + 3, 2, none⟩ u2).setCell ⟨w.heap.size + 3, 3, none⟩ u3).setCell ⟨w.heap.size + 3, 4, none⟩ u4).setCell ⟨w.heap.size + 3, 5, none⟩ u5).setCell ⟨w.heap.size + 3, 6, none⟩ u6).setCell ⟨w.heap.size + 3, 7, none⟩ u7).setCell ⟨w.heap.size + 3, 8, none⟩ u8).setCell ⟨w.heap.size + 3, 9, none⟩ u9).drew.cell? ⟨b, 3, none⟩ = some (.slice v.a v.n v.c) ∧ ((((((((((((((((W.setCell ⟨w.heap.size + 2, 0, none⟩ v0).setCell ⟨w.heap.size + 2, 1, none⟩ v1).setCell ⟨w.heap.size + 2, 2, none⟩ v2).setCell ⟨w.heap.size + 2, 3, none⟩ v3).setCell ⟨w.heap.size + 2, 4, none⟩ v4).setCell ⟨w.heap.size + 2, 5, none⟩ v5).setCell ⟨w.heap.size + 3, 0, none⟩ u0).setCell ⟨w.heap.size + 3, 1, none⟩ u1).setCell ⟨w.heap.size + 3, 2, none⟩ u2).setCell ⟨w.heap.size + 3, 3, none⟩ u3).setCell ⟨w.heap.size + 3, 4, none⟩ u4).setCell ⟨w.heap.size + 3, 5, none⟩ u5).setCell ⟨w.heap.size + 3, 6, none⟩ u6).setCell ⟨w.heap.size + 3, 7, none⟩ u7).setCell ⟨w.heap.size + 3, 8, none⟩ u8).setCell ⟨w.heap.size + 3, 9, none⟩ u9).drew.cell? ⟨b, 4, none⟩ = some (.bool o) ∧ ((((((((((((((((W.setCell ⟨w.heap.size + 2, 0, none⟩ v0).setCell ⟨w.heap.size + 2, 1, none⟩ v1).setCell ⟨w.heap.size + 2, 2, none⟩ v2).setCell ⟨w.heap.size + 2, 3, none⟩ v3).setCell ⟨w.heap.size + 2, 4, none⟩ v4).setCell ⟨w.heap.size + 2, 5, none⟩ v5).setCell ⟨w.heap.size + 3, 0, none⟩ u0).setCell ⟨w.heap.size + 3, 1, none⟩ u1).setCell ⟨w.heap.size + 3, 2, none⟩ u2).setCell ⟨w.heap.size + 3, 3, none⟩ u3).setCell ⟨w.heap.size + 3, 4, none⟩ u4).setCell ⟨w.heap.size + 3, 5, none⟩ u5).setCell ⟨w.heap.size + 3, 6, none⟩ u6).setCell ⟨w.heap.size + 3, 7, none⟩ u7).setCell ⟨w.heap.size + 3, 8, none⟩ u8).setCell ⟨w.heap.size + 3, 9, none⟩ u9).drew.cell? ⟨b, 5, none⟩ = some (.int .i64 k.pa) ∧ ((((((((((((((((W.setCell ⟨w.heap.size + 2, 0, none⟩ v0).setCell ⟨w.heap.size + 2, 1, none⟩ v1).setCell ⟨w.heap.size + 2, 2, none⟩ v2).setCell ⟨w.heap.size + 2, 3, none⟩ v3).setCell ⟨w.heap.size + 2, 4, none⟩ v4).setCell ⟨w.heap.size + 2, 5, none⟩ v5).setCell ⟨w.heap.size + 3, 0, none⟩ u0).setCell ⟨w.heap.size + 3, 1, none⟩ u1).setCell ⟨w.heap.size + 3, 2, none⟩ u2).setCell ⟨w.heap.size + 3, 3, none⟩ u3).setCell ⟨w.heap.size + 3, 4, none⟩ u4).setCell ⟨w.heap.size + 3, 5, none⟩ u5).setCell ⟨w.heap.size + 3, 6, none⟩ u6).setCell ⟨w.heap.size + 3, 7, none⟩ u7).setCell ⟨w.heap.size + 3, 8, none⟩ u8).setCell ⟨w.heap.size + 3, 9, none⟩ u9).drew.cell? ⟨b, 6, none⟩ = some (.int .i64 k.pf) ∧ ((((((((((((((((W.setCell ⟨w.heap.size + 2, 0, none⟩ v0).setCell ⟨w.heap.size + 2, 1, none⟩ v1).setCell ⟨w.heap.size + 2, 2, none⟩ v2).setCell ⟨w.heap.size + 2, 3, none⟩ v3).setCell ⟨w.heap.size + 2, 4, none⟩ v4).setCell ⟨w.heap.size + 2, 5, none⟩ v5).setCell ⟨w.heap.size + 3, 0, none⟩ u0).setCell ⟨w.heap.size + 3, 1, none⟩ u1).setCell ⟨w.heap.size + 3, 2, none⟩ u2).setCell ⟨w.heap.size + 3, 3, none⟩ u3).setCell ⟨w.heap.size + 3, 4, none⟩ u4).setCell ⟨w.heap.size + 3, 5, none⟩ u5).setCell ⟨w.heap.size + 3, 6, none⟩ u6).setCell ⟨w.heap.size + 3, 7, none⟩ u7).setCell ⟨w.heap.size + 3, 8, none⟩ u8).setCell ⟨w.heap.size + 3, 9, none⟩ u9).drew.cell? ⟨b, 7, none⟩ = some (.int .i64 k.ps) ∧ ((((((((((((((((W.setCell ⟨w.heap.size + 2, 0, none⟩ v0).setCell ⟨w.heap.size + 2, 1, none⟩ v1).setCell ⟨w.heap.size + 2, 2, none⟩ v2).setCell ⟨w.heap.size + 2, 3, none⟩ v3).setCell ⟨w.heap.size + 2, 4, none⟩ v4).setCell ⟨w.heap.size + 2, 5, none⟩ v5).setCell ⟨w.heap.size + 3, 0, none⟩ u0).setCell ⟨w.heap.size + 3, 1, none⟩ u1).setCell ⟨w.heap.size + 3, 2, none⟩ u2).setCell ⟨w.heap.size + 3, 3, none⟩ u3).setCell ⟨w.heap.size + 3, 4, none⟩ u4).setCell ⟨w.heap.size + 3, 5, none⟩ u5).setCell ⟨w.heap.size + 3, 6, none⟩ u6).setCell ⟨w.heap.size + 3, 7, none⟩ u7).setCell ⟨w.heap.size + 3, 8, none⟩ u8).setCell ⟨w.heap.size + 3, 9, none⟩ u9).drew.cell? ⟨b, 8, none⟩ = some (.int .i64 k.pc) ∧ ((((((((((((((((W.setCell ⟨w.heap.size + 2, 0, none⟩ v0).setCell ⟨w.heap.size + 2, 1, none⟩ v1).setCell ⟨w.heap.size + 2, 2, none⟩ v2).setCell ⟨w.heap.size + 2, 3, none⟩ v3).setCell ⟨w.heap.size + 2, 4, none⟩ v4).setCell ⟨w.heap.size + 2, 5, none⟩ v5).setCell ⟨w.heap.size + 3, 0, none⟩ u0).setCell ⟨w.heap.size + 3, 1, none⟩ u1).setCell ⟨w.heap.size + 3, 2, none⟩ u2).setCell ⟨w.heap.size + 3, 3, none⟩ u3).setCell ⟨w.heap.size + 3, 4, none⟩ u4).setCell ⟨w.heap.size + 3, 5, none⟩ u5).setCell ⟨w.heap.size + 3, 6, none⟩ u6).setCell ⟨w.heap.size + 3, 7, none⟩ u7).setCell ⟨w.heap.size + 3, 8, none⟩ u8).setCell ⟨w.heap.size + 3, 9, none⟩ u9).drew.cell? ⟨b, 9, none⟩ = some (.bool k.me) := se_drew (se_put10 (se_put6 h v0 v1 v2 v3 v4 v5) u0 u1 u2 u3 u4 u5 u6 u7 u8 u9)
theorem se_ba (h : Se w W t d' k b v o xs ∧ True) (v0 v1 v2 v3 v4 v5 u0 u1 u2 u3 u4 u5 u6 u7 u8 u9 : Value) : (Se w ((((((((((((((((W.setCell ⟨w.heap.size + 3, 0, none⟩ u0).setCell ⟨w.heap.size + 3, 1, none⟩ u1).setCell ⟨w.heap.size + 3, 2, none⟩ u2).setCell ⟨w.heap.size + 3, 3, none⟩ u3).setCell ⟨w.heap.size + 3, 4, none⟩ u4).setCell ⟨w.heap.size + 3, 5, none⟩ u5).setCell ⟨w.heap.size + 3, 6, none⟩ u6).setCell ⟨w.heap.size + 3, 7, none⟩ u7).setCell ⟨w.heap.size + 3, 8, none⟩ u8).setCell ⟨w.heap.size + 3, 9, none⟩ u9).setCell ⟨w.heap.size + 2, 0, none⟩ v0).setCell ⟨w.heap.size + 2, 1, none⟩ v1).setCell ⟨w.heap.size + 2, 2, none⟩ v2).setCell ⟨w.heap.size + 2, 3, none⟩ v3).setCell ⟨w.heap.size + 2, 4, none⟩ v4).setCell ⟨w.heap.size + 2, 5, none⟩ v5).drew t d' k b v o xs ∧ True) ∧ (w.heap.size < ((((((((((((((((W.setCell ⟨w.heap.size + 3, 0, none⟩ u0).setCell ⟨w.heap.size + 3, 1, none⟩ u1).setCell ⟨w.heap.size + 3, 2, none⟩ u2).setCell ⟨w.heap.size + 3, 3, none⟩ u3).setCell ⟨w.heap.size + 3, 4, none⟩ u4).setCell ⟨w.heap.size + 3, 5, none⟩ u5).setCell ⟨w.heap.size + 3, 6, none⟩ u6).setCell ⟨w.heap.size + 3, 7, none⟩ u7).setCell ⟨w.heap.size + 3, 8, none⟩ u8).setCell ⟨w.heap.size + 3, 9, none⟩ u9).setCell ⟨w.heap.size + 2, 0, none⟩ v0).setCell ⟨w.heap.size + 2, 1, none⟩ v1).setCell ⟨w.heap.size + 2, 2, none⟩ v2).setCell ⟨w.heap.size + 2, 3, none⟩ v3).setCell ⟨w.heap.size + 2, 4, none⟩ v4).setCell ⟨w.heap.size + 2, 5, none⟩ v5).drew.heap.size ∧ ((((((((((((((((W.setCell ⟨w.heap.size + 3, 0, none⟩ u0).setCell ⟨w.heap.size + 3, 1, none⟩ u1).setCell ⟨w.heap.size + 3, 2, none⟩ u2).setCell ⟨w.heap.size + 3, 3, none⟩ u3).setCell ⟨w.heap.size + 3, 4, none⟩ u4).setCell ⟨w.heap.size + 3, 5, none⟩ u5).setCell ⟨w.heap.size + 3, 6, none⟩ u6).setCell ⟨w.heap.size + 3, 7, none⟩ u7).setCell ⟨w.heap.size + 3, 8, none⟩ u8).setCell ⟨w.heap.size + 3, 9, none⟩ u9).setCell ⟨w.heap.size + 2, 0, none⟩ v0).setCell ⟨w.heap.size + 2, 1, none⟩ v1).setCell ⟨w.heap.size + 2, 2, none⟩ v2).setCell ⟨w.heap.size + 2, 3, none⟩ v3).setCell ⟨w.heap.size + 2, 4, none⟩ v4).setCell ⟨w.heap.size + 2, 5, none⟩ v5).drew.cell? ⟨w.heap.size, 0, none⟩ = some (.slice t.w.a t.w.n t.w.c) ∧ ((((((((((((((((W.setCell ⟨w.heap.size + 3, 0, none⟩ u0).setCell ⟨w.heap.size + 3, 1, none⟩ u1).setCell ⟨w.heap.size + 3, 2, none⟩ u2).setCell ⟨w.heap.size + 3, 3, none⟩ u3).setCell ⟨w.heap.size + 3, 4, none⟩ u4).setCell ⟨w.heap.size + 3, 5, none⟩ u5).setCell ⟨w.heap.size + 3, 6, none⟩ u6).setCell ⟨w.heap.size + 3, 7, none⟩ u7).setCell ⟨w.heap.size + 3, 8, none⟩ u8).setCell ⟨w.heap.size + 3, 9, none⟩ u9).setCell ⟨w.heap.size + 2, 0, none⟩ v0).setCell ⟨w.heap.size + 2, 1, none⟩ v1).setCell ⟨w.heap.size + 2, 2, none⟩ v2).setCell ⟨w.heap.size + 2, 3, none⟩ v3).setCell ⟨w.heap.size + 2, 4, none⟩ v4).setCell ⟨w.heap.size + 2, 5, none⟩ v5).drew.cell? ⟨w.heap.size, 1, none⟩ = some (.slice t.p.a t.p.n t.p.c) ∧ ((((((((((((((((W.setCell ⟨w.heap.size + 3, 0, none⟩ u0).setCell ⟨w.heap.size + 3, 1, none⟩ u1).setCell ⟨w.heap.size + 3, 2, none⟩ u2).setCell ⟨w.heap.size + 3, 3, none⟩ u3).setCell ⟨w.heap.size + 3, 4, none⟩ u4).setCell ⟨w.heap.size + 3, 5, none⟩ u5).setCell ⟨w.heap.size + 3, 6, none⟩ u6).setCell ⟨w.heap.size + 3, 7, none⟩ u7).setCell ⟨w.heap.size + 3, 8, none⟩ u8).setCell ⟨w.heap.size + 3, 9, none⟩ u9).setCell ⟨w.heap.size + 2, 0, none⟩ v0).setCell ⟨w.heap.size + 2, 1, none⟩ v1).setCell ⟨w.heap.size + 2, 2, none⟩ v2).setCell ⟨w.heap.size + 2, 3, none⟩ v3).setCell ⟨w.heap.size + 2, 4, none⟩ v4).setCell ⟨w.heap.size + 2, 5, none⟩ v5).drew.cell? ⟨w.heap.size, 2, none⟩ = some (.slice (t.u 0).a (t.u 0).n (t.u 0).c) ∧ ((((((((((((((((W.setCell ⟨w.heap.size + 3, 0, none⟩ u0).setCell ⟨w.heap.size + 3, 1, none⟩ u1).setCell ⟨w.heap.size + 3, 2, none⟩ u2).setCell ⟨w.heap.size + 3, 3, none⟩ u3).setCell ⟨w.heap.size + 3, 4, none⟩ u4).setCell ⟨w.heap.size + 3, 5, none⟩ u5).setCell ⟨w.heap.size + 3, 6, none⟩ u6).setCell ⟨w.heap.size + 3, 7, none⟩ u7).setCell ⟨w.heap.size + 3, 8, none⟩ u8).setCell ⟨w.heap.size + 3, 9, none⟩ u9).setCell ⟨w.heap.size + 2, 0, none⟩ v0).setCell ⟨w.heap.size + 2, 1, none⟩ v1).setCell ⟨w.heap.size + 2, 2, none⟩ v2).setCell ⟨w.heap.size + 2, 3, none⟩ v3).setCell ⟨w.heap.size + 2, 4, none⟩ v4).setCell ⟨w.heap.size + 2, 5, none⟩ v5).drew.cell? ⟨w.heap.size, 3, none⟩ = some (.slice (t.u 1).a (t.u 1).n (t.u 1).c) ∧ ((((((((((((((((W.setCell ⟨w.heap.size + 3, 0, none⟩ u0).setCell ⟨w.heap.size + 3, 1, none⟩ u1).setCell ⟨w.heap.size + 3, 2, none⟩ u2).setCell ⟨w.heap.size + 3, 3, none⟩ u3).setCell ⟨w.heap.size + 3, 4, none⟩ u4).setCell ⟨w.heap.size + 3, 5, none⟩ u5).setCell ⟨w.heap.size + 3, 6, none⟩ u6).setCell ⟨w.heap.size + 3, 7, none⟩ u7).setCell ⟨w.heap.size + 3, 8, none⟩ u8).setCell ⟨w.heap.size + 3, 9, none⟩ u9).setCell ⟨w.heap.size + 2, 0, none⟩ v0).setCell ⟨w.heap.size + 2, 1, none⟩ v1).setCell ⟨w.heap.size + 2, 2, none⟩ v2).setCell ⟨w.heap.size + 2, 3, none⟩ v3).setCell ⟨w.heap.size + 2, 4, none⟩ v4).setCell ⟨w.heap.size + 2, 5, none⟩ v5).drew.cell? ⟨w.heap.size, 4, none⟩ = some (.slice (t.u 2).a (t.u 2).n (t.u 2).c) ∧ ((((((((((((((((W.setCell ⟨w.heap.size + 3, 0, none⟩ u0).setCell ⟨w.heap.size + 3, 1, none⟩ u1).setCell ⟨w.heap.size + 3, 2, none⟩ u2).setCell ⟨w.heap.size + 3, 3, none⟩ u3).setCell ⟨w.heap.size + 3, 4, none⟩ u4).setCell ⟨w.heap.size + 3, 5, none⟩ u5).setCell ⟨w.heap.size + 3, 6, none⟩ u6).setCell ⟨w.heap.size + 3, 7, none⟩ u7).setCell ⟨w.heap.size + 3, 8, none⟩ u8).setCell ⟨w.heap.size + 3, 9, none⟩ u9).setCell ⟨w.heap.size + 2, 0, none⟩ v0).setCell ⟨w.heap.size + 2, 1, none⟩ v1).setCell ⟨w.heap.size + 2, 2, none⟩ v2).setCell ⟨w.heap.size + 2, 3, none⟩ v3).setCell ⟨w.heap.size + 2, 4, none⟩ v4).setCell ⟨w.heap.size + 2, 5, none⟩ v5).drew.cell? ⟨w.heap.size, 5, none⟩ = some (.slice t.c.a t.c.n t.c.c)) ∧ b < ((((((((((((((((W.setCell ⟨w.heap.size + 3, 0, none⟩ u0).setCell ⟨w.heap.size + 3, 1, none⟩ u1).setCell ⟨w.heap.size + 3, 2, none⟩ u2).setCell ⟨w.heap.size + 3, 3, none⟩ u3).setCell ⟨w.heap.size + 3, 4, none⟩ u4).setCell ⟨w.heap.size + 3, 5, none⟩ u5).setCell ⟨w.heap.size + 3, 6, none⟩ u6).setCell ⟨w.heap.size + 3, 7, none⟩ u7).setCell ⟨w.heap.size + 3, 8, none⟩ u8).setCell ⟨w.heap.size + 3, 9, none⟩ u9).setCell ⟨w.heap.size + 2, 0, none⟩ v0).setCell ⟨w.heap.size + 2, 1, none⟩ v1).setCell ⟨w.heap.size + 2, 2, none⟩ v2).setCell ⟨w.heap.size + 2, 3, none⟩ v3).setCell ⟨w.heap.size + 2, 4, none⟩ v4).setCell ⟨w.heap.size + 2, 5, none⟩ v5).drew.heap.size ∧ ((((((((((((((((W.setCell ⟨w.heap.size + 3, 0, none⟩ u0).setCell ⟨w.heap.size + 3, 1, none⟩ u1).setCell ⟨w.heap.size + 3, 2, none⟩ u2).setCell ⟨w.heap.size + 3, 3, none⟩ u3).setCell ⟨w.heap.size + 3, 4, none⟩ u4).setCell ⟨w.heap.size + 3, 5, none⟩ u5).setCell ⟨w.heap.size + 3, 6, none⟩ u6).setCell ⟨w.heap.size + 3, 7, none⟩ u7).setCell ⟨w.heap.size + 3, 8, none⟩ u8).setCell ⟨w.heap.size + 3, 9, none⟩ u9).setCell ⟨w.heap.size + 2, 0, none⟩ v0).setCell ⟨w.heap.size + 2, 1, none⟩ v1).setCell ⟨w.heap.size + 2, 2, none⟩ v2).setCell ⟨w.heap.size + 2, 3, none⟩ v3).setCell ⟨w.heap.size + 2, 4, none⟩ v4).setCell ⟨w.heap.size + 2, 5, none⟩ v5).drew.cell? ⟨b, 0, none⟩ = some (.int .i64 k.ph) ∧ ((((((((((((((((W.setCell ⟨w.heap.size + 3, 0, none⟩ u0).setCell ⟨w.heap.size + 3, 1, none⟩ u1).setCell ⟨w.heap.size + 3, 2, none⟩ u2).setCell ⟨w.heap.size + 3, 3, none⟩ u3).setCell ⟨w.heap.size + 3, 4, none⟩ u4).setCell ⟨w.heap.size + 3, 5, none⟩ u5).setCell ⟨w.heap.size + 3, 6, none⟩ u6).setCell ⟨w.heap.size + 3, 7, none⟩ u7).setCell ⟨w.heap.size + 3, 8, none⟩ u8).setCell ⟨w.heap.size + 3, 9, none⟩ u9).setCell ⟨w.heap.size + 2, 0, none⟩ v0).setCell ⟨w.heap.size + 2, 1, none⟩ v1).setCell ⟨w.heap.size + 2, 2, none⟩ v2).setCell ⟨w.heap.size + 2, 3, none⟩ v3).setCell ⟨w.heap.size + 2, 4, none⟩ v4).setCell ⟨w.heap.size + 2, 5, none⟩ v5).drew.cell? ⟨b, 1, none⟩ = some (.int .i64 k.ep) ∧ ((((((((((((((((W.setCell ⟨w.heap.size + 3, 0, none⟩ u0).setCell ⟨w.heap.size + 3, 1, none⟩ u1).setCell ⟨w.heap.size + 3, 2, none⟩ u2).setCell ⟨w.heap.size + 3, 3, none⟩ u3).setCell ⟨w.heap.size + 3, 4, none⟩ u4).setCell ⟨w.heap.size + 3, 5, none⟩ u5).setCell ⟨w.heap.size + 3, 6, none⟩ u6).setCell ⟨w.heap.size + 3, 7, none⟩ u7).setCell ⟨w.heap.size + 3, 8, none⟩ u8).setCell ⟨w.heap.size + 3, 9, none⟩ u9).setCell ⟨w.heap.size + 2, 0, none⟩ v0).setCell ⟨w.heap.size + 2, 1, none⟩ v1).setCell ⟨w.heap.size + 2, 2, none⟩ v2).setCell ⟨w.heap.size + 2, 3, none⟩ v3).setCell ⟨w.heap.size + 2, 4, none⟩ v4).setCell ⟨w.heap.size + 2, 5, none⟩ v5).drew.cell? ⟨b, 2, none⟩ = some (.bool k.mj) ∧ ((((((((((((((((W.setCell ⟨w.heap.size + 3, 0, none⟩ u0).setCell ⟨w.heap.size + 3, 1, none⟩ u1).setCell ⟨w.heap.size + 3, 2, none⟩ u2).setCell ⟨w.heap.size + 3, 3, none⟩ u3).setCell ⟨w.heap.size + 3, 4, none⟩ u4).setCell ⟨w.heap.size + 3, 5, none⟩ u5).setCell ⟨w.heap.size + 3, 6, none⟩ u6).setCell ⟨w.heap.size + 3, 7, none⟩ u7).setCell ⟨w.heap.size + 3, 8, none⟩ u8).setCell ⟨w.heap.size + 3, 9, none⟩ u9).setCell ⟨w.heap.size + 2, 0, none⟩ v0).setCell ⟨w.heap.size + 2, 1, none⟩ v1).setCell ⟨w.heap.size + 2, 2, none⟩ v2).setCell ⟨w.heap.size + 2, 3, none⟩ v3).setCell ⟨w.heap.size + 2, 4, none⟩ v4).setCell ⟨w.heap.size + 2, 5, none⟩ v5).drew.cell? ⟨b, 3, none⟩ = some (.slice v.a v.n v.c) ∧ ((((((((((((((((W.setCell ⟨w.heap.size + 3, 0, none⟩ u0).setCell ⟨w.heap.size + 3, 1, none⟩ u1).setCell ⟨w.heap.size + 3, 2, none⟩ u2).setCell ⟨w.heap.size + 3, 3, none⟩ u3).setCell ⟨w.heap.size + 3, 4, none⟩ u4).setCell ⟨w.heap.size + 3, 5, none⟩ u5).setCell ⟨w.heap.size + 3, 6, none⟩ u6).setCell ⟨w.heap.size + 3, 7, none⟩ u7).setCell ⟨w.heap.size + 3, 8, none⟩ u8).setCell ⟨w.heap.size + 3, 9, none⟩ u9).setCell ⟨w.heap.size + 2, 0, none⟩ v0).setCell ⟨w.heap.size + 2, 1, none⟩ v1).setCell ⟨w.heap.size + 2, 2, none⟩ v2).setCell ⟨w.heap.size + 2, 3, none⟩ v3).setCell ⟨w.heap.size + 2, 4, none⟩ v4).setCell ⟨w.heap.size + 2, 5, none⟩ v5).drew.cell? ⟨b, 4, none⟩ = some (.bool o) ∧ ((((((((((((((((W.setCell ⟨w.heap.size + 3, 0, none⟩ u0).setCell ⟨w.heap.size + 3, 1, none⟩ u1).setCell ⟨w.heap.size + 3, 2, none⟩ u2).setCell ⟨w.heap.size + 3, 3, none⟩ u3).setCell ⟨w.heap.size + 3, 4, none⟩ u4).setCell ⟨w.heap.size + 3, 5, none⟩ u5).setCell ⟨w.heap.size + 3, 6, none⟩ u6).setCell ⟨w.heap.size + 3, 7, none⟩ u7).setCell ⟨w.heap.size + 3, 8, none⟩ u8).setCell ⟨w.heap.size + 3, 9, none⟩ u9).setCell ⟨w.heap.size + 2, 0, none⟩ v0).setCell ⟨w.heap.size + 2, 1, none⟩ v1).setCell ⟨w.heap.size + 2, 2, none⟩ v2).setCell ⟨w.heap.size + 2, 3, none⟩ v3).setCell ⟨w.heap.size + 2, 4, none⟩ v4).setCell ⟨w.heap.size + 2, 5, none⟩ v5).drew.cell? ⟨b, 5, none⟩ = some (.int .i64 k.pa) ∧ ((((((((((((((((W.setCell ⟨w.heap.size + 3, 0, none⟩ u0).setCell ⟨w.heap.size + 3, 1, none⟩ u1).setCell ⟨w.heap.size + 3, 2, none⟩ u2).setCell ⟨w.heap.size + 3, 3, none⟩ u3).setCell ⟨w.heap.size + 3, 4, none⟩ u4).setCell ⟨w.heap.size + 3, 5, none⟩ u5).setCell ⟨w.heap.size + 3, 6, none⟩ u6).setCell ⟨w.heap.size + 3, 7, none⟩ u7).setCell ⟨w.heap.size + 3, 8, none⟩ u8).setCell ⟨w.heap.size + 3, 9, none⟩ u9).setCell ⟨w.heap.size + 2, 0, none⟩ v0).setCell ⟨w.heap.size + 2, 1, none⟩ v1).setCell ⟨w.heap.size + 2, 2, none⟩ v2).setCell ⟨w.heap.size + 2, 3, none⟩ v3).setCell ⟨w.heap.size + 2, 4, none⟩ v4).setCell ⟨w.heap.size + 2, 5, none⟩ v5).drew.cell? ⟨b, 6, none⟩ = some (.int .i64 k.pf) ∧ ((((((((((((((((W.setCell ⟨w.heap.size + 3, 0, none⟩ u0).setCell ⟨w.heap.size + 3, 1, none⟩ u1).setCell ⟨w.heap.size + 3, 2, none⟩ u2).setCell ⟨w.heap.size + 3, 3, none⟩ u3).setCell ⟨w.heap.size + 3, 4, none⟩ u4).setCell ⟨w.heap.size + 3, 5, none⟩ u5).setCell ⟨w.heap.size + 3, 6, none⟩ u6).setCell ⟨w.heap.size + 3, 7, none⟩ u7).setCell ⟨w.heap.size + 3, 8, none⟩ u8).setCell ⟨w.heap.size + 3, 9, none⟩ u9).setCell ⟨w.heap.size + 2, 0, none⟩ v0).setCell ⟨w.heap.size + 2, 1, none⟩ v1).setCell ⟨w.heap.size + 2, 2, none⟩ v2).setCell ⟨w.heap.size + 2, 3, none⟩ v3).setCell ⟨w.heap.size + 2, 4, none⟩ v4).setCell ⟨w.heap.size + 2, 5, none⟩ v5).drew.cell? ⟨b, 7, none⟩ = some (.int .i64 k.ps) ∧ ((((((((((((((((W.setCell ⟨w.heap.size + 3, 0, none⟩ u0).setCell ⟨w.heap.size + 3, 1, none⟩ u1).setCell ⟨w.heap.size + 3, 2, none⟩ u2).setCell ⟨w.heap.size + 3, 3, none⟩ u3).setCell ⟨w.heap.size + 3, 4, none⟩ u4).setCell ⟨w.heap.size + 3, 5, none⟩ u5).setCell ⟨w.heap.size + 3, 6, none⟩ u6).setCell ⟨w.heap.size + 3, 7, none⟩ u7).setCell ⟨w.heap.size + 3, 8, none⟩ u8).setCell ⟨w.heap.size + 3, 9, none⟩ u9).setCell ⟨w.heap.size + 2, 0, none⟩ v0).setCell ⟨w.heap.size + 2, 1, none⟩ v1).setCell ⟨w.heap.size + 2, 2, none⟩ v2).setCell ⟨w.heap.size + 2, 3, none⟩ v3).setCell ⟨w.heap.size + 2, 4, none⟩ v4).setCell ⟨w.heap.size + 2, 5, none⟩ v5).drew.cell? ⟨b, 8, none⟩ = some (.int .i64 k.pc) ∧ ((((((((((((((((W.setCell ⟨w.heap.size + 3, 0, none⟩ u0).setCell ⟨w.heap.size + 3, 1, none⟩ u1).setCell ⟨w.heap.size + 3, 2, none⟩ u2).setCell ⟨w.heap.size + 3, 3, none⟩ u3).setCell ⟨w.heap.size + 3, 4, none⟩ u4).setCell ⟨w.heap.size + 3, 5, none⟩ u5).setCell ⟨w.heap.size + 3, 6, none⟩ u6).setCell ⟨w.heap.size + 3, 7, none⟩ u7).setCell ⟨w.heap.size + 3, 8, none⟩ u8).setCell ⟨w.heap.size + 3, 9, none⟩ u9).setCell ⟨w.heap.size + 2, 0, none⟩ v0).setCell ⟨w.heap.size + 2, 1, none⟩ v1).setCell ⟨w.heap.size + 2, 2, none⟩ v2).setCell ⟨w.heap.size + 2, 3, none⟩ v3).setCell ⟨w.heap.size + 2, 4, none⟩ v4).setCell ⟨w.heap.size + 2, 5, none⟩ v5).drew.cell? ⟨b, 9, none⟩ = some (.bool k.me) := se_drew (se_put6 (se_put10 h u0 u1 u2 u3 u4 u5 u6 u7 u8 u9) v0 v1 v2 v3 v4 v5)
theorem shout_drew {e : Ending} (h : ShOut w s k d' o xs e W) : ShOut w s k d' o xs e W.drew := by
  obtain ⟨t, v, he, hp, hl, nw, ha⟩ := h
  have hb : Below W.heap.size W W.drew := below_drawn' (Below.refl _ _) 1
  exact ⟨t, v, he, hp.next hb, hl, nw, own_next ha.own hb, ha.bel.trans (hb.mono ha.bel.size)⟩
end
section
variable (s : Hs) (d : Hd_) (k : Ks) (xs : List Int) (a : Int) (w : World)
set_option maxHeartbeats 8000000 in
theorem shade_yes (o e : Bool) (n b m : Int) (d' : Hd_) (x' : List Int) (o' : Bool) (hx' : x' = shX true xs a) (ho' : o' = shO true xs k.ov) (hn : xs.length ≤ 1000000) (hp : Hp w w.heap.size s d) (hk : WRow w w.heap.size k xs) (hF : ∀ W, Sw w W s d k xs → Calls Tryz.prog 76 #[(.agg #[.slice s.w.a s.w.n s.w.c, .slice s.p.a s.p.n s.p.c, .slice (s.u 0).a (s.u 0).n (s.u 0).c, .slice (s.u 1).a (s.u 1).n (s.u 1).c, .slice (s.u 2).a (s.u 2).n (s.u 2).c, .slice s.c.a s.c.n s.c.c]), (.agg #[.int .i64 k.ph, .int .i64 k.ep, .bool k.mj, .slice k.wk.a k.wk.n k.wk.c, .bool k.ov, .int .i64 k.pa, .int .i64 k.pf, .int .i64 k.ps, .int .i64 k.pc, .bool k.me]), .int .i64 a, .int .i64 1] W (FindOut W (.agg #[.bool true, .bool o, .bool e, .int .i64 n, .int .i64 b, .int .i64 m]) true)) (hS : ∀ W, Sw w W s d k xs → Calls Tryz.prog 94 #[(.agg #[.slice s.w.a s.w.n s.w.c, .slice s.p.a s.p.n s.p.c, .slice (s.u 0).a (s.u 0).n (s.u 0).c, .slice (s.u 1).a (s.u 1).n (s.u 1).c, .slice (s.u 2).a (s.u 2).n (s.u 2).c, .slice s.c.a s.c.n s.c.c]), .int .i64 a, (.agg #[.bool true, .bool o, .bool false, .int .i64 n, .int .i64 b, .int .i64 k.ep])] W (SetOkN W s d')) : Calls Tryz.prog 60 #[(.agg #[.slice s.w.a s.w.n s.w.c, .slice s.p.a s.p.n s.p.c, .slice (s.u 0).a (s.u 0).n (s.u 0).c, .slice (s.u 1).a (s.u 1).n (s.u 1).c, .slice (s.u 2).a (s.u 2).n (s.u 2).c, .slice s.c.a s.c.n s.c.c]), (.agg #[.int .i64 k.ph, .int .i64 k.ep, .bool k.mj, .slice k.wk.a k.wk.n k.wk.c, .bool k.ov, .int .i64 k.pa, .int .i64 k.pf, .int .i64 k.ps, .int .i64 k.pc, .bool k.me]), .int .i64 a] w (ShOut w s k d' o' x') := by
  have HP := Lib.hid hp
  have HK := Lib.hid hk
  have HF := Lib.hid hF
  have HC := Lib.hid hS
  have HXO := Lib.hid (And.intro hx' ho')
  clear hp hk hF hS hx' ho'
  go_enter Tryz.func60, Tryz.ntmps60
  go_upto_region 1 with fail
  obtain ⟨W0, hW0⟩ : ∃ W0, W0 = (((w.alloc (.cells #[.slice s.w.a s.w.n s.w.c, .slice s.p.a s.p.n s.p.c, .slice (s.u 0).a (s.u 0).n (s.u 0).c, .slice (s.u 1).a (s.u 1).n (s.u 1).c, .slice (s.u 2).a (s.u 2).n (s.u 2).c, .slice s.c.a s.c.n s.c.c] 28)).alloc (.cells #[.int .i64 k.ph, .int .i64 k.ep, .bool k.mj, .slice k.wk.a k.wk.n k.wk.c, .bool k.ov, .int .i64 k.pa, .int .i64 k.pf, .int .i64 k.ps, .int .i64 k.pc, .bool k.me] 30)).alloc (.cells #[.slice none 0 0, .slice none 0 0, .slice none 0 0, .slice none 0 0, .slice none 0 0, .slice none 0 0] 28)).alloc (.cells #[.int .i64 0, .int .i64 0, .bool false, .slice none 0 0, .bool false, .int .i64 0, .int .i64 0, .int .i64 0, .int .i64 0, .bool false] 30) := ⟨_, rfl⟩
  have K0 := Lib.hid (sw_start HP.out HK.out hW0)
  rw [← hW0]
  clear hW0
  have p0 := (K0.out.1.kb).c0
  have p1 := (K0.out.1.kb).c1
  have p2 := (K0.out.1.kb).c2
  have p3 := (K0.out.1.kb).c3
  have p4 := (K0.out.1.kb).c4
  have p5 := (K0.out.1.kb).c5
  have p6 := (K0.out.1.kb).c6
  have p7 := (K0.out.1.kb).c7
  have p8 := (K0.out.1.kb).c8
  have p9 := (K0.out.1.kb).c9
  have pl := (K0.out.1.kb).lt
  go_wp2_with fail
  refine (fcol_any k xs W0 K0.out.1.wr hn).mono ?_
  rintro e9 w1 ⟨v, rfl, ha⟩
  have K1 := Lib.hid (K0.out.1.next (ha.bel.mono (Nat.le_refl _)))
  have A1 := Lib.hid ha
  clear ha
  clear p0 p1 p2 p3 p4 p5 p6 p7 p8 p9 pl
  go_upto_region 2 with fail
  obtain ⟨W2, hW2⟩ : ∃ W2, W2 = w1.alloc (.cells #[.int .i64 k.ph, .int .i64 k.ep, .bool k.mj, .slice v.a v.n v.c, .bool k.ov, .int .i64 k.pa, .int .i64 k.pf, .int .i64 k.ps, .int .i64 k.pc, .bool k.me] 30) := ⟨_, rfl⟩
  obtain ⟨b4, hb4⟩ : ∃ b4, b4 = w1.heap.size := ⟨_, rfl⟩
  have S2 := Lib.hid (so_start K0.out.2 A1.out hW2)
  have K2 : Hid (Sw w W2 s d k xs) := Lib.hid (K1.out.next (by rw [hW2]; exact (Below.refl _ _).alloc (Nat.le_refl _) _))
  rw [← hb4] at S2
  rw [← hW2, ← hb4]
  clear hW2 hb4 K0 K1 A1
  have q0 := (K2.out.hb.box).c0
  have q1 := (K2.out.hb.box).c1
  have q2 := (K2.out.hb.box).c2
  have q3 := (K2.out.hb.box).c3
  have q4 := (K2.out.hb.box).c4
  have q5 := (K2.out.hb.box).c5
  have ql := (K2.out.hb.box).lt
  have p0 := (K2.out.kb).c0
  have p1 := (K2.out.kb).c1
  have p2 := (K2.out.kb).c2
  have p3 := (K2.out.kb).c3
  have p4 := (K2.out.kb).c4
  have p5 := (K2.out.kb).c5
  have p6 := (K2.out.kb).c6
  have p7 := (K2.out.kb).c7
  have p8 := (K2.out.kb).c8
  have p9 := (K2.out.kb).c9
  have pl := (K2.out.kb).lt
  go_wp2_with fail
  refine (HF.out W2 K2.out).mono ?_
  rintro e9 w3 ⟨rfl, hb3⟩
  have B3 := Lib.hid hb3.size
  have K3 := Lib.hid (K2.out.next hb3)
  have S3 := Lib.hid (S2.out.1.next hb3)
  have V3 := Lib.hid (And.intro S2.out.2 (And.intro S2.out.1.cb.lt hb3.size))
  clear hb3 K2 S2
  clear q0 q1 q2 q3 q4 q5 ql
  clear p0 p1 p2 p3 p4 p5 p6 p7 p8 p9 pl
  go_upto_region 5 with fail
  obtain ⟨W4, hW4⟩ : ∃ W4, W4 = w3.alloc (.cells #[.bool true, .bool o, .bool e, .int .i64 n, .int .i64 b, .int .i64 m] 53) := ⟨_, rfl⟩
  have X4 : Hid (X6 W4 w3.heap.size true o e n b m ∧ ∀ j, W4.frozen? ⟨w3.heap.size, j, none⟩ = false) := Lib.hid ⟨by rw [hW4]; exact X6.new w3 true o e n b m _, fun j => by rw [hW4]; simp [go_sem]⟩
  have hb3 : Below w3.heap.size w3 W4 := by rw [hW4]; exact (Below.refl _ _).alloc (Nat.le_refl _) _
  have K4 := Lib.hid (K3.out.next hb3)
  have S4 := Lib.hid (S3.out.next hb3)
  obtain ⟨b5, hb5⟩ : ∃ b5, b5 = w3.heap.size := ⟨_, rfl⟩
  have V4 : Hid ((∀ g, (Value.slice v.a v.n v.c).ownBlock = some g → g < b4) ∧ b4 < b5) := Lib.hid ⟨V3.out.1, by have := V3.out.2; omega⟩
  rw [← hb5] at X4
  rw [← hW4, ← hb5]
  clear hW4 hb3 hb5 K3 S3 V3 B3
  have p1 := K4.out.kb.c1
  have pl := K4.out.kb.lt
  have x0 := (X4.out.1).c0
  have x1 := (X4.out.1).c1
  have x2 := (X4.out.1).c2
  have x3 := (X4.out.1).c3
  have x4 := (X4.out.1).c4
  have x5 := (X4.out.1).c5
  have xl := (X4.out.1).lt
  have y5 := X4.out.2 5
  have y2 := X4.out.2 2
  go_upto_region 6 with fail
  obtain ⟨W5, hW5⟩ : ∃ W5, W5 = (W4.setCell ⟨b5, 5, none⟩ (.int .i64 k.ep)).setCell ⟨b5, 2, none⟩ (.bool false) := ⟨_, rfl⟩
  have hs5 : ∀ g, ¬ g = b5 → W5.heap[g]? = W4.heap[g]? := fun g hg => by rw [hW5]; exact (Below.heap_setCell _ _ _ _ hg).trans (Below.heap_setCell _ _ _ _ hg)
  have hz5 : W4.heap.size = W5.heap.size := by rw [hW5]; simp [World.setCell]
  have hlo : w.heap.size + 4 ≤ b5 := by have h1 := S4.out.lo; have h2 := V4.out.2; omega
  have hbl5 : Below (w.heap.size + 4) W4 W5 := by rw [hW5]; exact ((Below.refl _ _).setCell (p := ⟨b5, 5, none⟩) hlo _).setCell (p := ⟨b5, 2, none⟩) hlo _
  have K5 := Lib.hid (K4.out.same hbl5)
  have S5 := Lib.hid (S4.out.other (b5 := b5) (Nat.le_of_eq hz5) (by have := V4.out.2; omega) (fun g hg => by have h1 := V4.out.1 g hg; have h2 := V4.out.2; omega) hs5)
  have X5 : Hid (X6 W5 b5 true o false n b k.ep) := Lib.hid (by
    rw [hW5]
    have h := X4.out.1
    exact ⟨cell_set (cell_set h.c0 rfl) rfl, cell_set (cell_set h.c1 rfl) rfl, cell_set (cell_set h.c2 rfl) rfl, cell_set (cell_set h.c3 rfl) rfl, cell_set (cell_set h.c4 rfl) rfl, cell_set (cell_set h.c5 rfl) rfl, by simp only [World.size_setCell]; exact h.lt⟩)
  rw [← hW5]
  clear hW5 hs5 hz5 hlo hbl5 p1 pl y5 y2 K4 S4 X4
  clear x0 x1 x2 x3 x4 x5 xl
  have x0 := (X5.out).c0
  have x1 := (X5.out).c1
  have x2 := (X5.out).c2
  have x3 := (X5.out).c3
  have x4 := (X5.out).c4
  have x5 := (X5.out).c5
  have xl := (X5.out).lt
  have q0 := (K5.out.hb.box).c0
  have q1 := (K5.out.hb.box).c1
  have q2 := (K5.out.hb.box).c2
  have q3 := (K5.out.hb.box).c3
  have q4 := (K5.out.hb.box).c4
  have q5 := (K5.out.hb.box).c5
  have ql := (K5.out.hb.box).lt
  go_wp2_with fail
  refine (HC.out W5 K5.out).mono ?_
  rintro e9 w6 ⟨t, rfl, ht, hl, hw, hb6⟩
  have K6 := Lib.hid (K5.out.next hb6)
  have S6 := Lib.hid (S5.out.next hb6)
  have T6 := Lib.hid (And.intro ht (And.intro hl (And.intro (news_less hw (show w.heap.size + 4 ≤ _ from K5.out.rt.lt)) hw)))
  have V6 : Hid ((∀ g, (Value.slice v.a v.n v.c).ownBlock = some g → g < b4) ∧ b4 < W5.heap.size) := Lib.hid ⟨V4.out.1, by have h1 := V4.out.2; have h2 := X5.out.lt; omega⟩
  clear ht hl hw hb6 V4
  clear x0 x1 x2 x3 x4 x5 xl
  clear q0 q1 q2 q3 q4 q5 ql
  have q0 := (K6.out.hb.box).c0
  have q1 := (K6.out.hb.box).c1
  have q2 := (K6.out.hb.box).c2
  have q3 := (K6.out.hb.box).c3
  have q4 := (K6.out.hb.box).c4
  have q5 := (K6.out.hb.box).c5
  have ql := (K6.out.hb.box).lt
  have y0 := (K6.out.hb).free 0
  have y1 := (K6.out.hb).free 1
  have y2 := (K6.out.hb).free 2
  have y3 := (K6.out.hb).free 3
  have y4 := (K6.out.hb).free 4
  have y5 := (K6.out.hb).free 5
  go_upto_region 7 with fail
  obtain ⟨W7, hW7⟩ : ∃ W7, W7 = (((((w6.setCell ⟨w.heap.size, 0, none⟩ (.slice t.w.a t.w.n t.w.c)).setCell ⟨w.heap.size, 1, none⟩ (.slice t.p.a t.p.n t.p.c)).setCell ⟨w.heap.size, 2, none⟩ (.slice (t.u 0).a (t.u 0).n (t.u 0).c)).setCell ⟨w.heap.size, 3, none⟩ (.slice (t.u 1).a (t.u 1).n (t.u 1).c)).setCell ⟨w.heap.size, 4, none⟩ (.slice (t.u 2).a (t.u 2).n (t.u 2).c)).setCell ⟨w.heap.size, 5, none⟩ (.slice t.c.a t.c.n t.c.c) := ⟨_, rfl⟩
  have Y7 : Hid (Sy w W7 t d' k b4 v k.ov xs W5.heap.size) := Lib.hid (sy_start K6.out S6.out T6.out.1 T6.out.2.2.2 (fun g hg => Nat.lt_trans (V6.out.1 g hg) V6.out.2) V6.out.2 hW7)
  have TL := Lib.hid T6.out.2.1
  have hvn : v.n = xs.length := by have h1 := S6.out.own.1; simpa using h1.symm
  rw [← hW7]
  clear hW7 K6 S6 T6 V6 q0 q1 q2 q3 q4 q5 ql y0 y1 y2 y3 y4 y5 K5 S5 X5
  have p3 := Y7.out.e.cb.c3
  have pl := Y7.out.e.cb.lt
  dsimp only [kw] at p3
  by_cases h4 : xs.length < 4
  · have j1 : decide ((v.n : Int) < 4) = true := decide_eq_true (by omega)
    have j2 : decide (v.n < 4) = true := decide_eq_true (by omega)
    obtain ⟨rfl, rfl⟩ : x' = xs ++ [a] ∧ o' = k.ov := ⟨HXO.out.1.trans (if_pos ⟨rfl, h4⟩), HXO.out.2.trans (by unfold shO; rw [decide_eq_false (by omega)]; simp)⟩
    have hle : w.heap.size + 4 ≤ (W7.alloc (.cells #[.int .i64 a] 3)).heap.size := by have h1 := Y7.out.lo; rw [World.size_alloc]; omega
    have htn : v.n + 1 ≤ 4000000 := by omega
    clear h4 hvn HXO
    go_wp2_with (at_builtin; refine Ls.list_cat rfl _ _ rfl rfl rfl (Y7.out.e.own.alloc _) (Ls.row_lit1 _ _) hle htn ?_)
    intro p' cp' w8 hcat
    have HC8 := Lib.hid hcat
    have f3 := (Y7.out.e.ct.free 3)
    have hb8 : w8.heap[b4]? = W7.heap[b4]? := by
      rw [hcat.grown.block b4 (by rw [World.size_alloc]; omega) (fun e => Y7.out.off b4 e.symm rfl)]
      exact Below.heap_alloc _ _ _ pl
    have q3 := (World.cell?_of_block (a := ⟨b4, 3, none⟩) hb8).trans p3
    have r3 := (World.frozen?_of_block (a := ⟨b4, 3, none⟩) hb8).trans f3
    have ql : b4 < w8.heap.size := by have h1 := hcat.grown.size; rw [World.size_alloc] at h1; omega
    clear hcat hb8 p3 pl f3 hle
    go_upto_region 10 with fail
    obtain ⟨W9, hW9⟩ : ∃ W9, W9 = w8.setCell ⟨b4, 3, none⟩ (.slice p' (v.n + 1) cp') := ⟨_, rfl⟩
    have E9 : Hid (Se w W9 t d' k b4 (⟨p', v.n + 1, cp'⟩ : Ls.Sl) k.ov (xs ++ [a])) := Lib.hid (sy_cat Y7.out HC8.out hW9)
    obtain ⟨v9, hv9⟩ : ∃ v9 : Ls.Sl, v9 = (⟨p', v.n + 1, cp'⟩ : Ls.Sl) := ⟨_, rfl⟩
    rw [← hv9] at E9
    clear hv9
    clear q3 r3 ql HC8
    have nb1 : ¬ b4 = w.heap.size + 1 + 1 := by have h1 := Y7.out.lo; omega
    have nb2 : ¬ b4 = w.heap.size + 1 + 1 + 1 := by have h1 := Y7.out.lo; omega
    rw [← hW9]
    clear hW9 Y7
    have q0 := (E9.out.hb).c0
    have q1 := (E9.out.hb).c1
    have q2 := (E9.out.hb).c2
    have q3 := (E9.out.hb).c3
    have q4 := (E9.out.hb).c4
    have q5 := (E9.out.hb).c5
    have ql := (E9.out.hb).lt
    have p0 := (E9.out.cb).c0
    have p1 := (E9.out.cb).c1
    have p2 := (E9.out.cb).c2
    have p3 := (E9.out.cb).c3
    have p4 := (E9.out.cb).c4
    have p5 := (E9.out.cb).c5
    have p6 := (E9.out.cb).c6
    have p7 := (E9.out.cb).c7
    have p8 := (E9.out.cb).c8
    have p9 := (E9.out.cb).c9
    have pl := (E9.out.cb).lt
    dsimp only [kw] at p0 p1 p2 p3 p4 p5 p6 p7 p8 p9
    obtain ⟨x0, h0⟩ := E9.out.rb.has 0 (by decide)
    obtain ⟨x1, h1⟩ := E9.out.rb.has 1 (by decide)
    obtain ⟨x2, h2⟩ := E9.out.rb.has 2 (by decide)
    obtain ⟨x3, h3⟩ := E9.out.rb.has 3 (by decide)
    obtain ⟨x4, h4⟩ := E9.out.rb.has 4 (by decide)
    obtain ⟨x5, h5⟩ := E9.out.rb.has 5 (by decide)
    have xl := E9.out.rb.lt
    have y0 := E9.out.rb.free 0
    have y1 := E9.out.rb.free 1
    have y2 := E9.out.rb.free 2
    have y3 := E9.out.rb.free 3
    have y4 := E9.out.rb.free 4
    have y5 := E9.out.rb.free 5
    obtain ⟨z0, i0⟩ := E9.out.rt.has 0 (by decide)
    obtain ⟨z1, i1⟩ := E9.out.rt.has 1 (by decide)
    obtain ⟨z2, i2⟩ := E9.out.rt.has 2 (by decide)
    obtain ⟨z3, i3⟩ := E9.out.rt.has 3 (by decide)
    obtain ⟨z4, i4⟩ := E9.out.rt.has 4 (by decide)
    obtain ⟨z5, i5⟩ := E9.out.rt.has 5 (by decide)
    obtain ⟨z6, i6⟩ := E9.out.rt.has 6 (by decide)
    obtain ⟨z7, i7⟩ := E9.out.rt.has 7 (by decide)
    obtain ⟨z8, i8⟩ := E9.out.rt.has 8 (by decide)
    obtain ⟨z9, i9⟩ := E9.out.rt.has 9 (by decide)
    have zl := E9.out.rt.lt
    have r0 := E9.out.rt.free 0
    have r1 := E9.out.rt.free 1
    have r2 := E9.out.rt.free 2
    have r3 := E9.out.rt.free 3
    have r4 := E9.out.rt.free 4
    have r5 := E9.out.rt.free 5
    have r6 := E9.out.rt.free 6
    have r7 := E9.out.rt.free 7
    have r8 := E9.out.rt.free 8
    have r9 := E9.out.rt.free 9
    have KE : Hid (Se w W9 t d' k b4 v9 k.ov (xs ++ [a]) ∧ True) := Lib.hid ⟨E9.out, trivial⟩
    go_region_held3 (fun W => (Se w W t d' k b4 v9 k.ov (xs ++ [a]) ∧ True) ∧ (w.heap.size < W.heap.size ∧ W.cell? ⟨w.heap.size, 0, none⟩ = some (.slice t.w.a t.w.n t.w.c) ∧ W.cell? ⟨w.heap.size, 1, none⟩ = some (.slice t.p.a t.p.n t.p.c) ∧ W.cell? ⟨w.heap.size, 2, none⟩ = some (.slice (t.u 0).a (t.u 0).n (t.u 0).c) ∧ W.cell? ⟨w.heap.size, 3, none⟩ = some (.slice (t.u 1).a (t.u 1).n (t.u 1).c) ∧ W.cell? ⟨w.heap.size, 4, none⟩ = some (.slice (t.u 2).a (t.u 2).n (t.u 2).c) ∧ W.cell? ⟨w.heap.size, 5, none⟩ = some (.slice t.c.a t.c.n t.c.c)) ∧ b4 < W.heap.size ∧ W.cell? ⟨b4, 0, none⟩ = some (.int .i64 k.ph) ∧ W.cell? ⟨b4, 1, none⟩ = some (.int .i64 k.ep) ∧ W.cell? ⟨b4, 2, none⟩ = some (.bool k.mj) ∧ W.cell? ⟨b4, 3, none⟩ = some (.slice v9.a v9.n v9.c) ∧ W.cell? ⟨b4, 4, none⟩ = some (.bool k.ov) ∧ W.cell? ⟨b4, 5, none⟩ = some (.int .i64 k.pa) ∧ W.cell? ⟨b4, 6, none⟩ = some (.int .i64 k.pf) ∧ W.cell? ⟨b4, 7, none⟩ = some (.int .i64 k.ps) ∧ W.cell? ⟨b4, 8, none⟩ = some (.int .i64 k.pc) ∧ W.cell? ⟨b4, 9, none⟩ = some (.bool k.me)) (first
      | with_reducible exact se_drew KE.out
      | with_reducible exact se_a KE.out _ _ _ _ _ _
      | with_reducible exact se_b KE.out _ _ _ _ _ _ _ _ _ _
      | with_reducible exact se_ab KE.out _ _ _ _ _ _ _ _ _ _ _ _ _ _ _ _
      | with_reducible exact se_ba KE.out _ _ _ _ _ _ _ _ _ _ _ _ _ _ _ _) (fail)
    go_wp2
    refine bodyPost_ret (v := .tuple #[(.agg #[.slice t.w.a t.w.n t.w.c, .slice t.p.a t.p.n t.p.c, .slice (t.u 0).a (t.u 0).n (t.u 0).c, .slice (t.u 1).a (t.u 1).n (t.u 1).c, .slice (t.u 2).a (t.u 2).n (t.u 2).c, .slice t.c.a t.c.n t.c.c]), (.agg #[.int .i64 k.ph, .int .i64 k.ep, .bool k.mj, .slice v9.a v9.n v9.c, .bool k.ov, .int .i64 k.pa, .int .i64 k.pf, .int .i64 k.ps, .int .i64 k.pc, .bool k.me])]) ?_ rfl (shout_drew (sh_end_a _ _ _ _ _ _ _ _ _ _ _ _ _ _ _ _ E9.out.bel E9.out.hp TL.out E9.out.nw E9.out.own))
    obtain ⟨⟨k0, k1, k2, k3, k4, k5⟩, l0, l1, l2, l3, l4, l5, l6, l7, l8, l9⟩ := ends_a E9.out.rb E9.out.rt (by omega) (.slice t.w.a t.w.n t.w.c) (.slice t.p.a t.p.n t.p.c) (.slice (t.u 0).a (t.u 0).n (t.u 0).c) (.slice (t.u 1).a (t.u 1).n (t.u 1).c) (.slice (t.u 2).a (t.u 2).n (t.u 2).c) (.slice t.c.a t.c.n t.c.c) (.int .i64 k.ph) (.int .i64 k.ep) (.bool k.mj) (.slice v9.a v9.n v9.c) (.bool k.ov) (.int .i64 k.pa) (.int .i64 k.pf) (.int .i64 k.ps) (.int .i64 k.pc) (.bool k.me)
    exact res_shade_drew rfl rfl k0 k1 k2 k3 k4 k5 l0 l1 l2 l3 l4 l5 l6 l7 l8 l9
  · have j1 : decide ((v.n : Int) < 4) = false := decide_eq_false (by omega)
    have j2 : decide (v.n < 4) = false := decide_eq_false (by omega)
    obtain ⟨rfl, rfl⟩ : xs = x' ∧ o' = true := ⟨(HXO.out.1.trans (if_neg (fun hh => h4 hh.2))).symm, HXO.out.2.trans (by unfold shO; rw [decide_eq_true (by omega)]; simp)⟩
    have p4 := Y7.out.e.cb.c4
    dsimp only [kw] at p4
    have f4 := Y7.out.e.ct.free 4
    clear h4 hvn HXO
    go_upto_region 10 with fail
    obtain ⟨W9, hW9⟩ : ∃ W9, W9 = W7.setCell ⟨b4, 4, none⟩ (.bool true) := ⟨_, rfl⟩
    have E9 : Hid (Se w W9 t d' k b4 v true xs) := Lib.hid (sy_full Y7.out true hW9)
    clear p3 p4 pl f4
    have nb1 : ¬ b4 = w.heap.size + 1 + 1 := by have h1 := Y7.out.lo; omega
    have nb2 : ¬ b4 = w.heap.size + 1 + 1 + 1 := by have h1 := Y7.out.lo; omega
    rw [← hW9]
    clear hW9 Y7
    have q0 := (E9.out.hb).c0
    have q1 := (E9.out.hb).c1
    have q2 := (E9.out.hb).c2
    have q3 := (E9.out.hb).c3
    have q4 := (E9.out.hb).c4
    have q5 := (E9.out.hb).c5
    have ql := (E9.out.hb).lt
    have p0 := (E9.out.cb).c0
    have p1 := (E9.out.cb).c1
    have p2 := (E9.out.cb).c2
    have p3 := (E9.out.cb).c3
    have p4 := (E9.out.cb).c4
    have p5 := (E9.out.cb).c5
    have p6 := (E9.out.cb).c6
    have p7 := (E9.out.cb).c7
    have p8 := (E9.out.cb).c8
    have p9 := (E9.out.cb).c9
    have pl := (E9.out.cb).lt
    dsimp only [kw] at p0 p1 p2 p3 p4 p5 p6 p7 p8 p9
    obtain ⟨x0, h0⟩ := E9.out.rb.has 0 (by decide)
    obtain ⟨x1, h1⟩ := E9.out.rb.has 1 (by decide)
    obtain ⟨x2, h2⟩ := E9.out.rb.has 2 (by decide)
    obtain ⟨x3, h3⟩ := E9.out.rb.has 3 (by decide)
    obtain ⟨x4, h4⟩ := E9.out.rb.has 4 (by decide)
    obtain ⟨x5, h5⟩ := E9.out.rb.has 5 (by decide)
    have xl := E9.out.rb.lt
    have y0 := E9.out.rb.free 0
    have y1 := E9.out.rb.free 1
    have y2 := E9.out.rb.free 2
    have y3 := E9.out.rb.free 3
    have y4 := E9.out.rb.free 4
    have y5 := E9.out.rb.free 5
    obtain ⟨z0, i0⟩ := E9.out.rt.has 0 (by decide)
    obtain ⟨z1, i1⟩ := E9.out.rt.has 1 (by decide)
    obtain ⟨z2, i2⟩ := E9.out.rt.has 2 (by decide)
    obtain ⟨z3, i3⟩ := E9.out.rt.has 3 (by decide)
    obtain ⟨z4, i4⟩ := E9.out.rt.has 4 (by decide)
    obtain ⟨z5, i5⟩ := E9.out.rt.has 5 (by decide)
    obtain ⟨z6, i6⟩ := E9.out.rt.has 6 (by decide)
    obtain ⟨z7, i7⟩ := E9.out.rt.has 7 (by decide)
    obtain ⟨z8, i8⟩ := E9.out.rt.has 8 (by decide)
    obtain ⟨z9, i9⟩ := E9.out.rt.has 9 (by decide)
    have zl := E9.out.rt.lt
    have r0 := E9.out.rt.free 0
    have r1 := E9.out.rt.free 1
    have r2 := E9.out.rt.free 2
    have r3 := E9.out.rt.free 3
    have r4 := E9.out.rt.free 4
    have r5 := E9.out.rt.free 5
    have r6 := E9.out.rt.free 6
    have r7 := E9.out.rt.free 7
    have r8 := E9.out.rt.free 8
    have r9 := E9.out.rt.free 9
    have KE : Hid (Se w W9 t d' k b4 v true xs ∧ True) := Lib.hid ⟨E9.out, trivial⟩
    go_region_held3 (fun W => (Se w W t d' k b4 v true xs ∧ True) ∧ (w.heap.size < W.heap.size ∧ W.cell? ⟨w.heap.size, 0, none⟩ = some (.slice t.w.a t.w.n t.w.c) ∧ W.cell? ⟨w.heap.size, 1, none⟩ = some (.slice t.p.a t.p.n t.p.c) ∧ W.cell? ⟨w.heap.size, 2, none⟩ = some (.slice (t.u 0).a (t.u 0).n (t.u 0).c) ∧ W.cell? ⟨w.heap.size, 3, none⟩ = some (.slice (t.u 1).a (t.u 1).n (t.u 1).c) ∧ W.cell? ⟨w.heap.size, 4, none⟩ = some (.slice (t.u 2).a (t.u 2).n (t.u 2).c) ∧ W.cell? ⟨w.heap.size, 5, none⟩ = some (.slice t.c.a t.c.n t.c.c)) ∧ b4 < W.heap.size ∧ W.cell? ⟨b4, 0, none⟩ = some (.int .i64 k.ph) ∧ W.cell? ⟨b4, 1, none⟩ = some (.int .i64 k.ep) ∧ W.cell? ⟨b4, 2, none⟩ = some (.bool k.mj) ∧ W.cell? ⟨b4, 3, none⟩ = some (.slice v.a v.n v.c) ∧ W.cell? ⟨b4, 4, none⟩ = some (.bool true) ∧ W.cell? ⟨b4, 5, none⟩ = some (.int .i64 k.pa) ∧ W.cell? ⟨b4, 6, none⟩ = some (.int .i64 k.pf) ∧ W.cell? ⟨b4, 7, none⟩ = some (.int .i64 k.ps) ∧ W.cell? ⟨b4, 8, none⟩ = some (.int .i64 k.pc) ∧ W.cell? ⟨b4, 9, none⟩ = some (.bool k.me)) (first
      | with_reducible exact se_drew KE.out
      | with_reducible exact se_a KE.out _ _ _ _ _ _
      | with_reducible exact se_b KE.out _ _ _ _ _ _ _ _ _ _
      | with_reducible exact se_ab KE.out _ _ _ _ _ _ _ _ _ _ _ _ _ _ _ _
      | with_reducible exact se_ba KE.out _ _ _ _ _ _ _ _ _ _ _ _ _ _ _ _) (fail)
    go_wp2
    refine bodyPost_ret (v := .tuple #[(.agg #[.slice t.w.a t.w.n t.w.c, .slice t.p.a t.p.n t.p.c, .slice (t.u 0).a (t.u 0).n (t.u 0).c, .slice (t.u 1).a (t.u 1).n (t.u 1).c, .slice (t.u 2).a (t.u 2).n (t.u 2).c, .slice t.c.a t.c.n t.c.c]), (.agg #[.int .i64 k.ph, .int .i64 k.ep, .bool k.mj, .slice v.a v.n v.c, .bool true, .int .i64 k.pa, .int .i64 k.pf, .int .i64 k.ps, .int .i64 k.pc, .bool k.me])]) ?_ rfl (shout_drew (sh_end_a _ _ _ _ _ _ _ _ _ _ _ _ _ _ _ _ E9.out.bel E9.out.hp TL.out E9.out.nw E9.out.own))
    obtain ⟨⟨k0, k1, k2, k3, k4, k5⟩, l0, l1, l2, l3, l4, l5, l6, l7, l8, l9⟩ := ends_a E9.out.rb E9.out.rt (by omega) (.slice t.w.a t.w.n t.w.c) (.slice t.p.a t.p.n t.p.c) (.slice (t.u 0).a (t.u 0).n (t.u 0).c) (.slice (t.u 1).a (t.u 1).n (t.u 1).c) (.slice (t.u 2).a (t.u 2).n (t.u 2).c) (.slice t.c.a t.c.n t.c.c) (.int .i64 k.ph) (.int .i64 k.ep) (.bool k.mj) (.slice v.a v.n v.c) (.bool true) (.int .i64 k.pa) (.int .i64 k.pf) (.int .i64 k.ps) (.int .i64 k.pc) (.bool k.me)
    exact res_shade_drew rfl rfl k0 k1 k2 k3 k4 k5 l0 l1 l2 l3 l4 l5 l6 l7 l8 l9
end
end Go.Proofs.YtccjelpfmkbmiaaGreatDoor.Sh
