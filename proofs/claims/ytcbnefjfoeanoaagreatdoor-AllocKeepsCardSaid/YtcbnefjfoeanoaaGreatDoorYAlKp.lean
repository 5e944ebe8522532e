/-
  What lies in memory behind 'k, c, a, e := alloc.Take(h, l[0], x)', whose two boxes are laid before or behind the call.
-/
import Derived.Test.YtcbnefjfoeanoaaGreatDoorHpYD
import Derived.Test.YtcbnefjfoeanoaaGreatDoorHpYC
import Derived.Test.YtcbnefjfoeanoaaGreatDoorHpZJ
namespace Go.Proofs.YtcbnefjfoeanoaaGreatDoor.Al
open Go.Proofs.YtcbnefjfoeanoaaGreatDoor
open Go.RowKit
set_option maxRecDepth 100000

theorem slices6_new (w : World) (ty : TypeId) : Slices (w.alloc (.cells #[.slice none 0 0, .slice none 0 0, .slice none 0 0, .slice none 0 0, .slice none 0 0, .slice none 0 0] ty)) w.heap.size := fun j v hv => by
  rcases j with _ | _ | _ | _ | _ | _ | j
  · simp [go_sem] at hv; exact ⟨_, _, _, hv.symm⟩
  · simp [go_sem] at hv; exact ⟨_, _, _, hv.symm⟩
  · simp [go_sem] at hv; exact ⟨_, _, _, hv.symm⟩
  · simp [go_sem] at hv; exact ⟨_, _, _, hv.symm⟩
  · simp [go_sem] at hv; exact ⟨_, _, _, hv.symm⟩
  · simp [go_sem] at hv; exact ⟨_, _, _, hv.symm⟩
  · simp [go_sem] at hv
theorem slices3_new (w : World) (ty : TypeId) : Slices (w.alloc (.cells #[.slice none 0 0, .slice none 0 0, .slice none 0 0] ty)) w.heap.size := fun j v hv => by
  rcases j with _ | _ | _ | j
  · simp [go_sem] at hv; exact ⟨_, _, _, hv.symm⟩
  · simp [go_sem] at hv; exact ⟨_, _, _, hv.symm⟩
  · simp [go_sem] at hv; exact ⟨_, _, _, hv.symm⟩
  · simp [go_sem] at hv
/-- A box of a heap, laid before the call, that nothing is in yet. -/
structure Old6 (W : World) (b : Nat) : Prop where
  box : Box6 W b noHs
  sl : Slices W b
structure Old3 (W : World) (b : Nat) : Prop where
  box : Ls.Box3 W b Ls.noSl
  sl : Slices W b
theorem Old6.next {W W' : World} {b : Nat} (h : Old6 W b) (hb : Below W.heap.size W W') : Old6 W' b := ⟨h.box.next hb, h.sl.same (hb.block b h.box.box.lt)⟩
theorem Old3.next {W W' : World} {b : Nat} (h : Old3 W b) (hb : Below W.heap.size W W') : Old3 W' b := ⟨h.box.next hb, h.sl.same (hb.block b h.box.lt)⟩
theorem Old6.same {W W' : World} {b : Nat} (h : Old6 W b) (hs : W'.heap[b]? = W.heap[b]?) (hl : W.heap.size ≤ W'.heap.size) : Old6 W' b := ⟨h.box.same hs hl, h.sl.same hs⟩
theorem Old3.same {W W' : World} {b : Nat} (h : Old3 W b) (hs : W'.heap[b]? = W.heap[b]?) (hl : W.heap.size ≤ W'.heap.size) : Old3 W' b := ⟨h.box.same hs hl, h.sl.same hs⟩
theorem Old6.new (w : World) (ty : TypeId) : Old6 (w.alloc (.cells #[.slice none 0 0, .slice none 0 0, .slice none 0 0, .slice none 0 0, .slice none 0 0, .slice none 0 0] ty)) w.heap.size := by
  refine ⟨⟨⟨?_, ?_, ?_, ?_, ?_, ?_, by simp⟩, fun j => by simp [go_sem]⟩, slices6_new w ty⟩ <;> simp [go_sem, noHs, Ls.noSl]
theorem Old3.new (w : World) (ty : TypeId) : Old3 (w.alloc (.cells #[.slice none 0 0, .slice none 0 0, .slice none 0 0] ty)) w.heap.size := ⟨Ls.Box3.new w Ls.noSl ty, slices3_new w ty⟩
section
variable {w W : World} {t1 t2 : TypeId}
theorem kold6 (h : Below (w.alloc (.cells #[.slice none 0 0, .slice none 0 0, .slice none 0 0, .slice none 0 0, .slice none 0 0, .slice none 0 0] t1)).drew.heap.size (w.alloc (.cells #[.slice none 0 0, .slice none 0 0, .slice none 0 0, .slice none 0 0, .slice none 0 0, .slice none 0 0] t1)).drew W) : Old6 W w.heap.size :=
  (Old6.new w t1).next (bl_call (bl_drew (Below.refl _ _)) h)
theorem kold3 (h : Below (w.alloc (.cells #[.slice none 0 0, .slice none 0 0, .slice none 0 0] t1)).drew.heap.size (w.alloc (.cells #[.slice none 0 0, .slice none 0 0, .slice none 0 0] t1)).drew W) : Old3 W w.heap.size :=
  (Old3.new w t1).next (bl_call (bl_drew (Below.refl _ _)) h)
theorem kold63 (h : Below ((w.alloc (.cells #[.slice none 0 0, .slice none 0 0, .slice none 0 0, .slice none 0 0, .slice none 0 0, .slice none 0 0] t1)).alloc (.cells #[.slice none 0 0, .slice none 0 0, .slice none 0 0] t2)).drew.heap.size ((w.alloc (.cells #[.slice none 0 0, .slice none 0 0, .slice none 0 0, .slice none 0 0, .slice none 0 0, .slice none 0 0] t1)).alloc (.cells #[.slice none 0 0, .slice none 0 0, .slice none 0 0] t2)).drew W) : Old6 W w.heap.size ∧ Old3 W (w.heap.size + 1) := by
  have h1 := bl_call (bl_drew (Below.refl _ _)) h
  have h2 := (Old3.new (w.alloc (.cells #[.slice none 0 0, .slice none 0 0, .slice none 0 0, .slice none 0 0, .slice none 0 0, .slice none 0 0] t1)) t2).next h1
  rw [World.size_alloc] at h2
  exact ⟨(Old6.new w t1).next (bl_call (bl_alloc (Below.refl _ _) _) h1), h2⟩
theorem kold36 (h : Below ((w.alloc (.cells #[.slice none 0 0, .slice none 0 0, .slice none 0 0] t2)).alloc (.cells #[.slice none 0 0, .slice none 0 0, .slice none 0 0, .slice none 0 0, .slice none 0 0, .slice none 0 0] t1)).drew.heap.size ((w.alloc (.cells #[.slice none 0 0, .slice none 0 0, .slice none 0 0] t2)).alloc (.cells #[.slice none 0 0, .slice none 0 0, .slice none 0 0, .slice none 0 0, .slice none 0 0, .slice none 0 0] t1)).drew W) : Old3 W w.heap.size ∧ Old6 W (w.heap.size + 1) := by
  have h1 := bl_call (bl_drew (Below.refl _ _)) h
  have h2 := (Old6.new (w.alloc (.cells #[.slice none 0 0, .slice none 0 0, .slice none 0 0] t2)) t1).next h1
  rw [World.size_alloc] at h2
  exact ⟨(Old3.new w t2).next (bl_call (bl_alloc (Below.refl _ _) _) h1), h2⟩
end
/-- A heap and a cache in their boxes, behind w3. -/
structure K2 (w3 W : World) (bk bc : Nat) (t : Hs) (v : Nat → Ls.Sl) (d : Hd_) (G : Nat → List Int) : Prop where
  bel : Below w3.heap.size w3 W
  hi : w3.heap.size ≤ bk ∧ w3.heap.size ≤ bc ∧ ¬ bk = bc
  kb : HBox W bk t
  cb : Ls.Box3 W bc v
  hp : Hp W W.heap.size t d
  l3 : Ls.L3 W W.heap.size v G
/-- The heap's box alone: what is stored there. -/
structure K1 (w3 W : World) (bk : Nat) (t : Hs) (v : Nat → Ls.Sl) (d : Hd_) (G : Nat → List Int) : Prop where
  bel : Below w3.heap.size w3 W
  hi : w3.heap.size ≤ bk
  kb : HBox W bk t
  hp : Hp W W.heap.size t d
  l3 : Ls.L3 W W.heap.size v G
structure C1 (w3 W : World) (bc : Nat) (t : Hs) (v : Nat → Ls.Sl) (d : Hd_) (G : Nat → List Int) : Prop where
  bel : Below w3.heap.size w3 W
  hi : w3.heap.size ≤ bc
  cb : Ls.Box3 W bc v
  hp : Hp W W.heap.size t d
  l3 : Ls.L3 W W.heap.size v G
section
variable {w3 W W' : World} {bk bc : Nat} {t : Hs} {v : Nat → Ls.Sl} {d : Hd_} {G : Nat → List Int} {ty : TypeId}
theorem K2.next (h : K2 w3 W bk bc t v d G) (hb : Below W.heap.size W W') : K2 w3 W' bk bc t v d G := ⟨bl_call h.bel hb, h.hi, h.kb.next hb, h.cb.next hb, h.hp.next hb, h.l3.next hb⟩
theorem k1_new (bel : Below w3.heap.size w3 W) (hp : Hp W W.heap.size t d) (l3 : Ls.L3 W W.heap.size v G) : K1 w3 (W.alloc (.cells #[.slice t.w.a t.w.n t.w.c, .slice t.p.a t.p.n t.p.c, .slice (t.u 0).a (t.u 0).n (t.u 0).c, .slice (t.u 1).a (t.u 1).n (t.u 1).c, .slice (t.u 2).a (t.u 2).n (t.u 2).c, .slice t.c.a t.c.n t.c.c] ty)) W.heap.size t v d G := by
  have b2 : Below W.heap.size W (W.alloc (.cells #[.slice t.w.a t.w.n t.w.c, .slice t.p.a t.p.n t.p.c, .slice (t.u 0).a (t.u 0).n (t.u 0).c, .slice (t.u 1).a (t.u 1).n (t.u 1).c, .slice (t.u 2).a (t.u 2).n (t.u 2).c, .slice t.c.a t.c.n t.c.c] ty)) := (Below.refl _ _).alloc (Nat.le_refl _) _
  exact ⟨bl_call bel b2, bel.size, HBox.new W t ty, hp.next b2, l3.next b2⟩
theorem c1_new (bel : Below w3.heap.size w3 W) (hp : Hp W W.heap.size t d) (l3 : Ls.L3 W W.heap.size v G) : C1 w3 (W.alloc (.cells #[.slice (v 0).a (v 0).n (v 0).c, .slice (v 1).a (v 1).n (v 1).c, .slice (v 2).a (v 2).n (v 2).c] ty)) W.heap.size t v d G := by
  have b2 : Below W.heap.size W (W.alloc (.cells #[.slice (v 0).a (v 0).n (v 0).c, .slice (v 1).a (v 1).n (v 1).c, .slice (v 2).a (v 2).n (v 2).c] ty)) := (Below.refl _ _).alloc (Nat.le_refl _) _
  exact ⟨bl_call bel b2, bel.size, Ls.Box3.new W v ty, hp.next b2, l3.next b2⟩
theorem k1_put (bel : Below w3.heap.size w3 W) (hp : Hp W W.heap.size t d) (l3 : Ls.L3 W W.heap.size v G) (hb : w3.heap.size ≤ bk) (ho : Old6 W bk) :
    K1 w3 (put6 W bk (.slice t.w.a t.w.n t.w.c) (.slice t.p.a t.p.n t.p.c) (.slice (t.u 0).a (t.u 0).n (t.u 0).c) (.slice (t.u 1).a (t.u 1).n (t.u 1).c) (.slice (t.u 2).a (t.u 2).n (t.u 2).c) (.slice t.c.a t.c.n t.c.c)) bk t v d G := by
  obtain ⟨X, hX⟩ : ∃ X, X = put6 W bk (.slice t.w.a t.w.n t.w.c) (.slice t.p.a t.p.n t.p.c) (.slice (t.u 0).a (t.u 0).n (t.u 0).c) (.slice (t.u 1).a (t.u 1).n (t.u 1).c) (.slice (t.u 2).a (t.u 2).n (t.u 2).c) (.slice t.c.a t.c.n t.c.c) := ⟨_, rfl⟩
  have hn : ∀ i, ¬ i = bk → X.heap[i]? = W.heap[i]? := fun i hi => by rw [hX]; exact put6_other _ _ _ _ _ _ _ _ hi
  have hz : W.heap.size = X.heap.size := by rw [hX, put6_size]
  obtain ⟨k0, k1, k2, k3, k4, k5⟩ := put6_at ho.box (.slice t.w.a t.w.n t.w.c) (.slice t.p.a t.p.n t.p.c) (.slice (t.u 0).a (t.u 0).n (t.u 0).c) (.slice (t.u 1).a (t.u 1).n (t.u 1).c) (.slice (t.u 2).a (t.u 2).n (t.u 2).c) (.slice t.c.a t.c.n t.c.c)
  rw [← hX] at k0 k1 k2 k3 k4 k5 ⊢
  have bX : Below w3.heap.size w3 X := by rw [hX]; exact below_put6 bel hb _ _ _ _ _ _
  exact ⟨bX, hb, ⟨k0, k1, k2, k3, k4, k5, by rw [← hz]; exact ho.box.box.lt⟩, hp_turn ho.sl hp hn hz, l3_turn ho.sl l3 hn hz⟩
theorem c1_put (bel : Below w3.heap.size w3 W) (hp : Hp W W.heap.size t d) (l3 : Ls.L3 W W.heap.size v G) (hb : w3.heap.size ≤ bc) (ho : Old3 W bc) : C1 w3 (Ls.put3 W bc v) bc t v d G := by
  have hn : ∀ i, ¬ i = bc → (Ls.put3 W bc v).heap[i]? = W.heap[i]? := fun i hi => Ls.put3_other W v hi
  have hz : W.heap.size = (Ls.put3 W bc v).heap.size := (Ls.put3_size W bc v).symm
  exact ⟨Ls.below_put3 bel hb v, hb, ho.box.put v, hp_turn ho.sl hp hn hz, l3_turn ho.sl l3 hn hz⟩
theorem way1 (bel : Below w3.heap.size w3 W) (hp : Hp W W.heap.size t d) (l3 : Ls.L3 W W.heap.size v G) {t2 : TypeId} : K2 w3 ((W.alloc (.cells #[.slice t.w.a t.w.n t.w.c, .slice t.p.a t.p.n t.p.c, .slice (t.u 0).a (t.u 0).n (t.u 0).c, .slice (t.u 1).a (t.u 1).n (t.u 1).c, .slice (t.u 2).a (t.u 2).n (t.u 2).c, .slice t.c.a t.c.n t.c.c] ty)).alloc (.cells #[.slice (v 0).a (v 0).n (v 0).c, .slice (v 1).a (v 1).n (v 1).c, .slice (v 2).a (v 2).n (v 2).c] t2)) W.heap.size (W.heap.size + 1) t v d G := by
  have k := k1_new (ty := ty) bel hp l3
  have c := c1_new (ty := t2) k.bel k.hp k.l3
  rw [World.size_alloc] at c
  exact ⟨c.bel, ⟨k.hi, c.hi, by omega⟩, k.kb.next ((Below.refl _ _).alloc (Nat.le_refl _) _), c.cb, c.hp, c.l3⟩
theorem way2 (bel : Below w3.heap.size w3 W) (hp : Hp W W.heap.size t d) (l3 : Ls.L3 W W.heap.size v G) {t2 : TypeId} : K2 w3 ((W.alloc (.cells #[.slice (v 0).a (v 0).n (v 0).c, .slice (v 1).a (v 1).n (v 1).c, .slice (v 2).a (v 2).n (v 2).c] t2)).alloc (.cells #[.slice t.w.a t.w.n t.w.c, .slice t.p.a t.p.n t.p.c, .slice (t.u 0).a (t.u 0).n (t.u 0).c, .slice (t.u 1).a (t.u 1).n (t.u 1).c, .slice (t.u 2).a (t.u 2).n (t.u 2).c, .slice t.c.a t.c.n t.c.c] ty)) (W.heap.size + 1) W.heap.size t v d G := by
  have c := c1_new (ty := t2) bel hp l3
  have k := k1_new (ty := ty) c.bel c.hp c.l3
  rw [World.size_alloc] at k
  exact ⟨k.bel, ⟨k.hi, c.hi, by omega⟩, k.kb, c.cb.next ((Below.refl _ _).alloc (Nat.le_refl _) _), k.hp, k.l3⟩
theorem way3 (bel : Below w3.heap.size w3 W) (hp : Hp W W.heap.size t d) (l3 : Ls.L3 W W.heap.size v G) (hb : w3.heap.size ≤ bk) (ho : Old6 W bk) {t2 : TypeId} : K2 w3 ((put6 W bk (.slice t.w.a t.w.n t.w.c) (.slice t.p.a t.p.n t.p.c) (.slice (t.u 0).a (t.u 0).n (t.u 0).c) (.slice (t.u 1).a (t.u 1).n (t.u 1).c) (.slice (t.u 2).a (t.u 2).n (t.u 2).c) (.slice t.c.a t.c.n t.c.c)).alloc (.cells #[.slice (v 0).a (v 0).n (v 0).c, .slice (v 1).a (v 1).n (v 1).c, .slice (v 2).a (v 2).n (v 2).c] t2)) bk W.heap.size t v d G := by
  have k := k1_put bel hp l3 hb ho
  have c := c1_new (ty := t2) k.bel k.hp k.l3
  rw [put6_size] at c
  have := ho.box.box.lt
  exact ⟨c.bel, ⟨k.hi, c.hi, by omega⟩, k.kb.next ((Below.refl _ _).alloc (Nat.le_refl _) _), c.cb, c.hp, c.l3⟩
theorem way4 (bel : Below w3.heap.size w3 W) (hp : Hp W W.heap.size t d) (l3 : Ls.L3 W W.heap.size v G) (hb : w3.heap.size ≤ bk) (ho : Old6 W bk) (hc : w3.heap.size ≤ bc) (hq : Old3 W bc) (hne : ¬ bk = bc) : K2 w3 (Ls.put3 (put6 W bk (.slice t.w.a t.w.n t.w.c) (.slice t.p.a t.p.n t.p.c) (.slice (t.u 0).a (t.u 0).n (t.u 0).c) (.slice (t.u 1).a (t.u 1).n (t.u 1).c) (.slice (t.u 2).a (t.u 2).n (t.u 2).c) (.slice t.c.a t.c.n t.c.c)) bc v) bk bc t v d G := by
  have k := k1_put bel hp l3 hb ho
  have q := hq.same (put6_other W bk (.slice t.w.a t.w.n t.w.c) (.slice t.p.a t.p.n t.p.c) (.slice (t.u 0).a (t.u 0).n (t.u 0).c) (.slice (t.u 1).a (t.u 1).n (t.u 1).c) (.slice (t.u 2).a (t.u 2).n (t.u 2).c) (.slice t.c.a t.c.n t.c.c) (fun e => hne e.symm)) (Nat.le_of_eq (put6_size _ _ _ _ _ _ _ _).symm)
  have c := c1_put k.bel k.hp k.l3 hc q
  exact ⟨c.bel, ⟨k.hi, c.hi, hne⟩, hbox_same k.kb (Ls.put3_other _ v hne) (Nat.le_of_eq (Ls.put3_size _ _ _).symm), c.cb, c.hp, c.l3⟩
theorem way5 (bel : Below w3.heap.size w3 W) (hp : Hp W W.heap.size t d) (l3 : Ls.L3 W W.heap.size v G) (hc : w3.heap.size ≤ bc) (hq : Old3 W bc) : K2 w3 ((Ls.put3 W bc v).alloc (.cells #[.slice t.w.a t.w.n t.w.c, .slice t.p.a t.p.n t.p.c, .slice (t.u 0).a (t.u 0).n (t.u 0).c, .slice (t.u 1).a (t.u 1).n (t.u 1).c, .slice (t.u 2).a (t.u 2).n (t.u 2).c, .slice t.c.a t.c.n t.c.c] ty)) W.heap.size bc t v d G := by
  have c := c1_put bel hp l3 hc hq
  have k := k1_new (ty := ty) c.bel c.hp c.l3
  rw [Ls.put3_size] at k
  have := hq.box.lt
  exact ⟨k.bel, ⟨k.hi, c.hi, by omega⟩, k.kb, c.cb.next ((Below.refl _ _).alloc (Nat.le_refl _) _), k.hp, k.l3⟩
theorem way3r (bel : Below w3.heap.size w3 W) (hp : Hp W W.heap.size t d) (l3 : Ls.L3 W W.heap.size v G) (ho : Old6 W w3.heap.size) {t2 : TypeId} : K2 w3 (((((((W.setCell ⟨w3.heap.size, 0, none⟩ (.slice t.w.a t.w.n t.w.c)).setCell ⟨w3.heap.size, 1, none⟩ (.slice t.p.a t.p.n t.p.c)).setCell ⟨w3.heap.size, 2, none⟩ (.slice (t.u 0).a (t.u 0).n (t.u 0).c)).setCell ⟨w3.heap.size, 3, none⟩ (.slice (t.u 1).a (t.u 1).n (t.u 1).c)).setCell ⟨w3.heap.size, 4, none⟩ (.slice (t.u 2).a (t.u 2).n (t.u 2).c)).setCell ⟨w3.heap.size, 5, none⟩ (.slice t.c.a t.c.n t.c.c)).alloc (.cells #[.slice (v 0).a (v 0).n (v 0).c, .slice (v 1).a (v 1).n (v 1).c, .slice (v 2).a (v 2).n (v 2).c] t2)) w3.heap.size W.heap.size t v d G := way3 bel hp l3 (Nat.le_refl _) ho
theorem way5r (bel : Below w3.heap.size w3 W) (hp : Hp W W.heap.size t d) (l3 : Ls.L3 W W.heap.size v G) (ho : Old3 W w3.heap.size) : K2 w3 ((((W.setCell ⟨w3.heap.size, 0, none⟩ (.slice (v 0).a (v 0).n (v 0).c)).setCell ⟨w3.heap.size, 1, none⟩ (.slice (v 1).a (v 1).n (v 1).c)).setCell ⟨w3.heap.size, 2, none⟩ (.slice (v 2).a (v 2).n (v 2).c)).alloc (.cells #[.slice t.w.a t.w.n t.w.c, .slice t.p.a t.p.n t.p.c, .slice (t.u 0).a (t.u 0).n (t.u 0).c, .slice (t.u 1).a (t.u 1).n (t.u 1).c, .slice (t.u 2).a (t.u 2).n (t.u 2).c, .slice t.c.a t.c.n t.c.c] ty)) W.heap.size w3.heap.size t v d G := way5 bel hp l3 (Nat.le_refl _) ho
theorem way4r (bel : Below w3.heap.size w3 W) (hp : Hp W W.heap.size t d) (l3 : Ls.L3 W W.heap.size v G) (ho : Old6 W w3.heap.size ∧ Old3 W (w3.heap.size + 1)) : K2 w3 (((((((((W.setCell ⟨w3.heap.size, 0, none⟩ (.slice t.w.a t.w.n t.w.c)).setCell ⟨w3.heap.size, 1, none⟩ (.slice t.p.a t.p.n t.p.c)).setCell ⟨w3.heap.size, 2, none⟩ (.slice (t.u 0).a (t.u 0).n (t.u 0).c)).setCell ⟨w3.heap.size, 3, none⟩ (.slice (t.u 1).a (t.u 1).n (t.u 1).c)).setCell ⟨w3.heap.size, 4, none⟩ (.slice (t.u 2).a (t.u 2).n (t.u 2).c)).setCell ⟨w3.heap.size, 5, none⟩ (.slice t.c.a t.c.n t.c.c)).setCell ⟨(w3.heap.size + 1), 0, none⟩ (.slice (v 0).a (v 0).n (v 0).c)).setCell ⟨(w3.heap.size + 1), 1, none⟩ (.slice (v 1).a (v 1).n (v 1).c)).setCell ⟨(w3.heap.size + 1), 2, none⟩ (.slice (v 2).a (v 2).n (v 2).c)) w3.heap.size (w3.heap.size + 1) t v d G := way4 bel hp l3 (Nat.le_refl _) ho.1 (Nat.le_succ _) ho.2 (by omega)
theorem way6r (bel : Below w3.heap.size w3 W) (hp : Hp W W.heap.size t d) (l3 : Ls.L3 W W.heap.size v G) (ho : Old3 W w3.heap.size ∧ Old6 W (w3.heap.size + 1)) : K2 w3 (((((((((W.setCell ⟨(w3.heap.size + 1), 0, none⟩ (.slice t.w.a t.w.n t.w.c)).setCell ⟨(w3.heap.size + 1), 1, none⟩ (.slice t.p.a t.p.n t.p.c)).setCell ⟨(w3.heap.size + 1), 2, none⟩ (.slice (t.u 0).a (t.u 0).n (t.u 0).c)).setCell ⟨(w3.heap.size + 1), 3, none⟩ (.slice (t.u 1).a (t.u 1).n (t.u 1).c)).setCell ⟨(w3.heap.size + 1), 4, none⟩ (.slice (t.u 2).a (t.u 2).n (t.u 2).c)).setCell ⟨(w3.heap.size + 1), 5, none⟩ (.slice t.c.a t.c.n t.c.c)).setCell ⟨w3.heap.size, 0, none⟩ (.slice (v 0).a (v 0).n (v 0).c)).setCell ⟨w3.heap.size, 1, none⟩ (.slice (v 1).a (v 1).n (v 1).c)).setCell ⟨w3.heap.size, 2, none⟩ (.slice (v 2).a (v 2).n (v 2).c)) (w3.heap.size + 1) w3.heap.size t v d G := way4 bel hp l3 (Nat.le_succ _) ho.2 (Nat.le_refl _) ho.1 (by omega)
end
/-- A heap, a head in their boxes, and a slice of caches. -/
structure Lq (w W : World) (s : Hs) (d : Hd_) (A : Option Addr) (n : Nat) (U : Nat → Nat → Ls.Sl) (F : Nat → Nat → List Int) (us o e : Bool) (N b m : Int) : Prop where
  lh : Lh w W s d A n U F
  x : X6 W (w.heap.size + 1) us o e N b m
section
variable {w W W' : World} {s : Hs} {d : Hd_} {A : Option Addr} {n : Nat} {U : Nat → Nat → Ls.Sl} {F : Nat → Nat → List Int} {us o e : Bool} {N b m : Int}
theorem Lq.next (h : Lq w W s d A n U F us o e N b m) (hb : Below W.heap.size W W') : Lq w W' s d A n U F us o e N b m := ⟨h.lh.next hb, h.x.next hb⟩
theorem lq_start (hp : Hp w w.heap.size s d) (hl : Ls.LRow w w.heap.size A n U F) (h : W = (w.alloc (.cells #[.slice s.w.a s.w.n s.w.c, .slice s.p.a s.p.n s.p.c, .slice (s.u 0).a (s.u 0).n (s.u 0).c, .slice (s.u 1).a (s.u 1).n (s.u 1).c, .slice (s.u 2).a (s.u 2).n (s.u 2).c, .slice s.c.a s.c.n s.c.c] 28)).alloc (.cells #[.bool us, .bool o, .bool e, .int .i64 N, .int .i64 b, .int .i64 m] 30)) : Lq w W s d A n U F us o e N b m := by
  obtain ⟨W1, h1⟩ : ∃ W1, W1 = w.alloc (.cells #[.slice s.w.a s.w.n s.w.c, .slice s.p.a s.p.n s.p.c, .slice (s.u 0).a (s.u 0).n (s.u 0).c, .slice (s.u 1).a (s.u 1).n (s.u 1).c, .slice (s.u 2).a (s.u 2).n (s.u 2).c, .slice s.c.a s.c.n s.c.c] 28) := ⟨_, rfl⟩
  rw [← h1] at h
  have L1 := lh_start hp hl h1
  have z1 : W1.heap.size = w.heap.size + 1 := by rw [h1]; simp
  have X1 := X6.new W1 us o e N b m 30
  rw [h]
  exact ⟨L1.next ((Below.refl _ _).alloc (Nat.le_refl _) _), by rw [← z1]; exact X1⟩
theorem lq_keep {w3 : World} {bb off : Nat} (u : Nat → Ls.Sl) (L : Lq w w3 s d (some ⟨bb, off, none⟩) n U F us o e N b m) (hn : 0 < n) (hu : U 0 = u) (hb : Below w3.heap.size w3 W) :
    ((Below w3.heap.size w3 W ∧ True) ∧ w.heap.size < W.heap.size ∧ W.cell? ⟨w.heap.size, 0, none⟩ = some (.slice s.w.a s.w.n s.w.c) ∧ W.cell? ⟨w.heap.size, 1, none⟩ = some (.slice s.p.a s.p.n s.p.c) ∧ W.cell? ⟨w.heap.size, 2, none⟩ = some (.slice (s.u 0).a (s.u 0).n (s.u 0).c) ∧ W.cell? ⟨w.heap.size, 3, none⟩ = some (.slice (s.u 1).a (s.u 1).n (s.u 1).c) ∧ W.cell? ⟨w.heap.size, 4, none⟩ = some (.slice (s.u 2).a (s.u 2).n (s.u 2).c) ∧ W.cell? ⟨w.heap.size, 5, none⟩ = some (.slice s.c.a s.c.n s.c.c) ∧ bb < W.heap.size ∧ W.cell? ⟨bb, off, none⟩ = some (.slice (u 0).a (u 0).n (u 0).c) ∧ W.cell? ⟨bb, off + 1, none⟩ = some (.slice (u 1).a (u 1).n (u 1).c) ∧ W.cell? ⟨bb, off + 2, none⟩ = some (.slice (u 2).a (u 2).n (u 2).c)) ∧
    w.heap.size + 1 < W.heap.size ∧ W.cell? ⟨w.heap.size + 1, 0, none⟩ = some (.bool us) ∧ W.cell? ⟨w.heap.size + 1, 1, none⟩ = some (.bool o) ∧ W.cell? ⟨w.heap.size + 1, 2, none⟩ = some (.bool e) ∧ W.cell? ⟨w.heap.size + 1, 3, none⟩ = some (.int .i64 N) ∧ W.cell? ⟨w.heap.size + 1, 4, none⟩ = some (.int .i64 b) ∧ W.cell? ⟨w.heap.size + 1, 5, none⟩ = some (.int .i64 m) := by
  have M := L.x.next hb
  exact ⟨full_keep u L.lh hn hu hb, M.lt, M.c0, M.c1, M.c2, M.c3, M.c4, M.c5⟩
end
end Go.Proofs.YtcbnefjfoeanoaaGreatDoor.Al
