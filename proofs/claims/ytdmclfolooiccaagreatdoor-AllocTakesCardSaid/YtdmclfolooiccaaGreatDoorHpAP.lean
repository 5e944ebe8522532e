/-
  Merged texts: AlOwn, FrHeap.
-/
import Derived.Test.YtdmclfolooiccaaGreatDoorHpAA
import Derived.Test.YtdmclfolooiccaaGreatDoorHpAJ
import Derived.Test.YtdmclfolooiccaaGreatDoorHpAK
import Derived.Test.YtdmclfolooiccaaGreatDoorHpAM
import Derived.Deep.RegionHeld3
section
namespace Go.Proofs.YtdmclfolooiccaaGreatDoor.Ls
open Go.Proofs.YtdmclfolooiccaaGreatDoor
open Go.RowKit
set_option maxRecDepth 100000

structure AOwn (w wr : World) (f : Nat → List Int) (k : Nat) (v : Nat → Sl) : Prop where
  box : Box3 wr w.heap.size v
  res : Box3 wr (w.heap.size + 1) noSl
  own : OwnTo wr (w.heap.size + 2) k v f
  bel : Below w.heap.size w wr
theorem AOwn.size {w wr : World} {v : Nat → Sl} {f : Nat → List Int} {k : Nat} (h : AOwn w wr f k v) : w.heap.size + 2 ≤ wr.heap.size := by have := h.res.lt; omega
theorem AOwn.step {w wr w1 w2 : World} {v : Nat → Sl} {f : Nat → List Int} {k : Nat} (h : AOwn w wr f k v) (hk : k < 3) (s : Sl)
    (ho : w1.ownsRow wr.heap.size 3 1 (.slice s.a s.n s.c) s.n ((f k).map (Value.int .i64))) (b1 : Below wr.heap.size wr w1) (e2 : w2 = w1.setCell ⟨w.heap.size, k, none⟩ (.slice s.a s.n s.c)) : AOwn w w2 f (k + 1) (upd v k s) := by
  have hs := h.size
  subst e2
  refine ⟨(h.box.next b1).set hk s, (h.res.next b1).other (by simp) _, ?_, (h.bel.trans (b1.mono h.bel.size)).setCell (p := ⟨w.heap.size, k, none⟩) (by simp) _⟩
  refine h.own.step hs s (World.ownsRow.same ho (fun g hg' _ => Below.heap_setCell _ _ _ _ ?_)) (fun j hj hlt => (Below.heap_setCell _ _ _ _ (by show ¬ j = w.heap.size; omega)).trans (b1.block j hlt))
  have := (ho.lt g hg').1
  show ¬ g = w.heap.size
  omega
theorem aown_any (B : Nat) (u : Nat → Sl) (f : Nat → List Int) (w : World) (h : L3 w B u f) (hB : B ≤ w.heap.size) (hn : ∀ j, j < 3 → (u j).n ≤ 2000000) :
    Calls Tryz.prog 21 #[(.agg #[.slice (u 0).a (u 0).n (u 0).c, .slice (u 1).a (u 1).n (u 1).c, .slice (u 2).a (u 2).n (u 2).c])] w (COut w f) := by
  have C4 := Lib.hid (fun j (hj : j < 3) W (hb : Below w.heap.size w W) => iclone_any B (u j).a (u j).n (u j).c (f j) W (hn j hj) (Nat.le_trans hB hb.size) ((h j hj).1.over hb hB))
  clear h hn
  go_enter Tryz.func21, Tryz.ntmps21
  go_wp2
  go_loopw [6] (fun i wr => ∃ (k : Nat) (v : Nat → Sl), k ≤ 3 ∧ i = .int .i64 k ∧ Hid (AOwn w wr f k v)) (fun i _ => 3 - (intOf i).toNat)
  case atStart =>
    refine ⟨0, u, by omega, rfl, Lib.hid ⟨(Box3.new w u 25).alloc _, ?_, OwnTo.start _ _ _ _, ((Below.refl _ _).alloc (Nat.le_refl _) _).alloc (by simp) _⟩⟩
    have := Box3.new (w.alloc (.cells #[.slice (u 0).a (u 0).n (u 0).c, .slice (u 1).a (u 1).n (u 1).c, .slice (u 2).a (u 2).n (u 2).c] 25)) noSl 25
    rw [World.size_alloc] at this
    exact this
  case round =>
    obtain ⟨k, v, hk, rfl, HC⟩ := hrel
    by_cases hlt : k < 3
    · have hix := index_of u k hlt
      go_wp2_with fail
      refine (C4.out k hlt _ HC.out.bel).mono ?_
      rintro e w1 ⟨s, rfl, ho, hb1⟩
      have hB1 := HC.out.box.next hb1
      have hc1 := hB1.cell k hlt
      have hf1 := hB1.free k
      have hl1 := hB1.lt
      have S1 := Lib.hid (HC.out.step hlt s ho hb1 rfl)
      clear ho hb1 hB1
      go_wp2
      go_roundw
      case rel => exact ⟨k + 1, _, by omega, by go_num, S1⟩
      case measure => simp [intOf]; omega
    · obtain rfl : k = 3 := by omega
      have r0 := HC.out.box.cell 0 (by decide)
      have r1 := HC.out.box.cell 1 (by decide)
      have r2 := HC.out.box.cell 2 (by decide)
      have rl := HC.out.box.lt
      have x0 := HC.out.res.cell 0 (by decide)
      have x1 := HC.out.res.cell 1 (by decide)
      have x2 := HC.out.res.cell 2 (by decide)
      have y0 := HC.out.res.free 0
      have y1 := HC.out.res.free 1
      have y2 := HC.out.res.free 2
      have xl := HC.out.res.lt
      go_wp2
      refine bodyPost_ret (v := (.agg #[.slice (v 0).a (v 0).n (v 0).c, .slice (v 1).a (v 1).n (v 1).c, .slice (v 2).a (v 2).n (v 2).c])) ?_ rfl ⟨v, rfl, (HC.out.own.own3.put (b := w.heap.size + 1) (fun j x hj hx => by have := (HC.out.own.own3.block j hj hx).1; omega) v).less (by omega), below_put3 HC.out.bel (by omega) v⟩
      simp [results, Tryz.results21, go_sem, x0, x1, x2]
end Go.Proofs.YtdmclfolooiccaaGreatDoor.Ls
end
section
namespace Go.Proofs.YtdmclfolooiccaaGreatDoor
open Go.RowKit
set_option maxRecDepth 100000

/-- A slice is not in that block. -/
def Out (g : Nat) (v : Ls.Sl) : Prop := 0 < v.n → ∀ x, v.a = some x → ¬ x.block = g
/-- A copy was returned; its cards are in a block of their own. -/
def FreshOut (w : World) (s : Hs) (d : Hd_) (e : Ending) (w' : World) : Prop :=
  ∃ t : Hs, e = .returned (.agg #[.slice t.w.a t.w.n t.w.c, .slice t.p.a t.p.n t.p.c, .slice (t.u 0).a (t.u 0).n (t.u 0).c, .slice (t.u 1).a (t.u 1).n (t.u 1).c, .slice (t.u 2).a (t.u 2).n (t.u 2).c, .slice t.c.a t.c.n t.c.c]) ∧ Hp w' w'.heap.size t d ∧ Lens s t ∧ News w.heap.size t ∧ t.p.n ≤ t.p.c ∧ Below w.heap.size w w' ∧
    ∃ g c, t.c = ⟨some ⟨g, 0, none⟩, s.c.n, c⟩ ∧ (∀ i, w'.frozen? ⟨g, i, none⟩ = false) ∧ w.heap.size + 2 ≤ g ∧ g < w'.heap.size ∧ Out g t.w ∧ Out g t.p ∧ ∀ j, j < 3 → Out g (t.u j)
/-- The boxes of the argument and of the result. -/
structure Fr (w W : World) (s : Hs) : Prop where
  bel : Below w.heap.size w W
  box : HBox W w.heap.size s
  res : ∀ j, j < 6 → ∃ v, W.cell? ⟨w.heap.size + 1, j, none⟩ = some v
  free : ∀ j, W.frozen? ⟨w.heap.size + 1, j, none⟩ = false
  lt : w.heap.size + 1 < W.heap.size
section
variable {w W W' : World} {s : Hs} {d : Hd_}
theorem Fr.next (h : Fr w W s) (hb : Below W.heap.size W W') : Fr w W' s :=
  ⟨h.bel.trans (hb.mono h.bel.size), h.box.next hb, fun j hj => by obtain ⟨v, e⟩ := h.res j hj; exact ⟨v, (hb.cell (p := ⟨w.heap.size + 1, j, none⟩) h.lt).trans e⟩, fun j => (hb.frozen (p := ⟨w.heap.size + 1, j, none⟩) h.lt).trans (h.free j), Nat.lt_of_lt_of_le h.lt hb.size⟩
theorem fr_start {t1 t2 : TypeId} (hW : W = (w.alloc (.cells #[.slice s.w.a s.w.n s.w.c, .slice s.p.a s.p.n s.p.c, .slice (s.u 0).a (s.u 0).n (s.u 0).c, .slice (s.u 1).a (s.u 1).n (s.u 1).c, .slice (s.u 2).a (s.u 2).n (s.u 2).c, .slice s.c.a s.c.n s.c.c] t1)).alloc (.cells #[.slice none 0 0, .slice none 0 0, .slice none 0 0, .slice none 0 0, .slice none 0 0, .slice none 0 0] t2)) : Fr w W s := by
  have b1 := HBox.new w s t1
  have b2 : Below (w.alloc (.cells #[.slice s.w.a s.w.n s.w.c, .slice s.p.a s.p.n s.p.c, .slice (s.u 0).a (s.u 0).n (s.u 0).c, .slice (s.u 1).a (s.u 1).n (s.u 1).c, .slice (s.u 2).a (s.u 2).n (s.u 2).c, .slice s.c.a s.c.n s.c.c] t1)).heap.size (w.alloc (.cells #[.slice s.w.a s.w.n s.w.c, .slice s.p.a s.p.n s.p.c, .slice (s.u 0).a (s.u 0).n (s.u 0).c, .slice (s.u 1).a (s.u 1).n (s.u 1).c, .slice (s.u 2).a (s.u 2).n (s.u 2).c, .slice s.c.a s.c.n s.c.c] t1)) W := by rw [hW]; exact (Below.refl _ _).alloc (Nat.le_refl _) _
  refine ⟨by rw [hW]; exact ((Below.refl _ _).alloc (Nat.le_refl _) _).alloc (by simp) _, b1.next b2, fun j hj => ?_, fun j => by rw [hW]; simp [go_sem], by rw [hW]; simp⟩
  match j, hj with
  | 0, _ => exact ⟨_, by rw [hW]; simp [go_sem]; rfl⟩
  | 1, _ => exact ⟨_, by rw [hW]; simp [go_sem]; rfl⟩
  | 2, _ => exact ⟨_, by rw [hW]; simp [go_sem]; rfl⟩
  | 3, _ => exact ⟨_, by rw [hW]; simp [go_sem]; rfl⟩
  | 4, _ => exact ⟨_, by rw [hW]; simp [go_sem]; rfl⟩
  | 5, _ => exact ⟨_, by rw [hW]; simp [go_sem]; rfl⟩
theorem fr_keep (h : Fr w W s ∧ True) (hb : Below W.heap.size W W') : (Fr w W' s ∧ True) ∧ w.heap.size < W'.heap.size ∧ W'.cell? ⟨w.heap.size, 0, none⟩ = some (.slice s.w.a s.w.n s.w.c) ∧ W'.cell? ⟨w.heap.size, 1, none⟩ = some (.slice s.p.a s.p.n s.p.c) ∧ W'.cell? ⟨w.heap.size, 2, none⟩ = some (.slice (s.u 0).a (s.u 0).n (s.u 0).c) ∧ W'.cell? ⟨w.heap.size, 3, none⟩ = some (.slice (s.u 1).a (s.u 1).n (s.u 1).c) ∧ W'.cell? ⟨w.heap.size, 4, none⟩ = some (.slice (s.u 2).a (s.u 2).n (s.u 2).c) ∧ W'.cell? ⟨w.heap.size, 5, none⟩ = some (.slice s.c.a s.c.n s.c.c) := by
  have g := h.1.next hb
  exact ⟨⟨g, trivial⟩, g.box.lt, g.box.c0, g.box.c1, g.box.c2, g.box.c3, g.box.c4, g.box.c5⟩
theorem Fr.put (h : Fr w W s) (v0 v1 v2 v3 v4 v5 : Value) : Fr w (put6 W (w.heap.size + 1) v0 v1 v2 v3 v4 v5) s := by
  have hz := put6_size W (w.heap.size + 1) v0 v1 v2 v3 v4 v5
  obtain ⟨x0, h0⟩ := h.res 0 (by decide)
  obtain ⟨x1, h1⟩ := h.res 1 (by decide)
  obtain ⟨x2, h2⟩ := h.res 2 (by decide)
  obtain ⟨x3, h3⟩ := h.res 3 (by decide)
  obtain ⟨x4, h4⟩ := h.res 4 (by decide)
  obtain ⟨x5, h5⟩ := h.res 5 (by decide)
  refine ⟨below_put6 h.bel (by omega) _ _ _ _ _ _, h.box.same (put6_other _ _ _ _ _ _ _ _ (by omega)) (by rw [hz]; exact Nat.le_refl _), fun j hj => ?_, fun j => ?_, by rw [hz]; exact h.lt⟩
  · match j, hj with
    | 0, _ => exact ⟨v0, by simp [put6, go_sem, h0]⟩
    | 1, _ => exact ⟨v1, by simp [put6, go_sem, h1]⟩
    | 2, _ => exact ⟨v2, by simp [put6, go_sem, h2]⟩
    | 3, _ => exact ⟨v3, by simp [put6, go_sem, h3]⟩
    | 4, _ => exact ⟨v4, by simp [put6, go_sem, h4]⟩
    | 5, _ => exact ⟨v5, by simp [put6, go_sem, h5]⟩
  · unfold put6
    simp only [World.frozen?_setCell]
    exact h.free j
theorem fr_put (h : Fr w W s ∧ True) (v0 v1 v2 v3 v4 v5 : Value) : (Fr w ((((((W.setCell ⟨w.heap.size + 1, 0, none⟩ v0).setCell ⟨w.heap.size + 1, 1, none⟩ v1).setCell ⟨w.heap.size + 1, 2, none⟩ v2).setCell ⟨w.heap.size + 1, 3, none⟩ v3).setCell ⟨w.heap.size + 1, 4, none⟩ v4).setCell ⟨w.heap.size + 1, 5, none⟩ v5) s ∧ True) ∧ w.heap.size < ((((((W.setCell ⟨w.heap.size + 1, 0, none⟩ v0).setCell ⟨w.heap.size + 1, 1, none⟩ v1).setCell ⟨w.heap.size + 1, 2, none⟩ v2).setCell ⟨w.heap.size + 1, 3, none⟩ v3).setCell ⟨w.heap.size + 1, 4, none⟩ v4).setCell ⟨w.heap.size + 1, 5, none⟩ v5).heap.size ∧ ((((((W.setCell ⟨w.heap.size + 1, 0, none⟩ v0).setCell ⟨w.heap.size + 1, 1, none⟩ v1).setCell ⟨w.heap.size + 1, 2, none⟩ v2).setCell ⟨w.heap.size + 1, 3, none⟩ v3).setCell ⟨w.heap.size + 1, 4, none⟩ v4).setCell ⟨w.heap.size + 1, 5, none⟩ v5).cell? ⟨w.heap.size, 0, none⟩ = some (.slice s.w.a s.w.n s.w.c) ∧ ((((((W.setCell ⟨w.heap.size + 1, 0, none⟩ v0).setCell ⟨w.heap.size + 1, 1, none⟩ v1).setCell ⟨w.heap.size + 1, 2, none⟩ v2).setCell ⟨w.heap.size + 1, 3, none⟩ v3).setCell ⟨w.heap.size + 1, 4, none⟩ v4).setCell ⟨w.heap.size + 1, 5, none⟩ v5).cell? ⟨w.heap.size, 1, none⟩ = some (.slice s.p.a s.p.n s.p.c) ∧ ((((((W.setCell ⟨w.heap.size + 1, 0, none⟩ v0).setCell ⟨w.heap.size + 1, 1, none⟩ v1).setCell ⟨w.heap.size + 1, 2, none⟩ v2).setCell ⟨w.heap.size + 1, 3, none⟩ v3).setCell ⟨w.heap.size + 1, 4, none⟩ v4).setCell ⟨w.heap.size + 1, 5, none⟩ v5).cell? ⟨w.heap.size, 2, none⟩ = some (.slice (s.u 0).a (s.u 0).n (s.u 0).c) ∧ ((((((W.setCell ⟨w.heap.size + 1, 0, none⟩ v0).setCell ⟨w.heap.size + 1, 1, none⟩ v1).setCell ⟨w.heap.size + 1, 2, none⟩ v2).setCell ⟨w.heap.size + 1, 3, none⟩ v3).setCell ⟨w.heap.size + 1, 4, none⟩ v4).setCell ⟨w.heap.size + 1, 5, none⟩ v5).cell? ⟨w.heap.size, 3, none⟩ = some (.slice (s.u 1).a (s.u 1).n (s.u 1).c) ∧ ((((((W.setCell ⟨w.heap.size + 1, 0, none⟩ v0).setCell ⟨w.heap.size + 1, 1, none⟩ v1).setCell ⟨w.heap.size + 1, 2, none⟩ v2).setCell ⟨w.heap.size + 1, 3, none⟩ v3).setCell ⟨w.heap.size + 1, 4, none⟩ v4).setCell ⟨w.heap.size + 1, 5, none⟩ v5).cell? ⟨w.heap.size, 4, none⟩ = some (.slice (s.u 2).a (s.u 2).n (s.u 2).c) ∧ ((((((W.setCell ⟨w.heap.size + 1, 0, none⟩ v0).setCell ⟨w.heap.size + 1, 1, none⟩ v1).setCell ⟨w.heap.size + 1, 2, none⟩ v2).setCell ⟨w.heap.size + 1, 3, none⟩ v3).setCell ⟨w.heap.size + 1, 4, none⟩ v4).setCell ⟨w.heap.size + 1, 5, none⟩ v5).cell? ⟨w.heap.size, 5, none⟩ = some (.slice s.c.a s.c.n s.c.c) := by
  have g := h.1.put v0 v1 v2 v3 v4 v5
  exact ⟨⟨g, trivial⟩, g.box.lt, g.box.c0, g.box.c1, g.box.c2, g.box.c3, g.box.c4, g.box.c5⟩
/-- What has been copied so far, slice by slice. -/
def RowN (w W : World) (v : Ls.Sl) (xs : List Int) : Prop := Row W W.heap.size v.a v.n xs ∧ v.n ≤ v.c ∧ v.c ≤ maxLen ∧ New (w.heap.size + 2) v
theorem RowN.next {v : Ls.Sl} {xs : List Int} (h : RowN w W v xs) (hb : Below W.heap.size W W') : RowN w W' v xs := ⟨(h.1.below hb).more hb.size, h.2⟩
theorem rown_of {v : Ls.Sl} {xs : List Int} (h : Fr w W s) (ho : W'.ownsRow W.heap.size 3 1 (.slice v.a v.n v.c) v.n (xs.map (Value.int .i64))) : RowN w W' v xs := by
  have hl := h.lt
  obtain ⟨h1, h2, h3, _, _⟩ := own_off ho (b := w.heap.size) (by omega)
  refine ⟨h1, h2, h3, fun _ x hx => ?_⟩
  have := (ho.lt x.block (by rw [Ls.ownBlock_slice, hx]; rfl)).1
  omega
def PgN (w W : World) (g n c : Nat) (f : Nat → Int × Int) : Prop := Cl.PRow W W.heap.size (some ⟨g, 0, none⟩) n f ∧ w.heap.size + 2 ≤ g ∧ n ≤ c
theorem PgN.next {g n c : Nat} {f : Nat → Int × Int} (h : PgN w W g n c f) (hb : Below W.heap.size W W') : PgN w W' g n c f := ⟨prow_more (h.1.below hb) hb.size, h.2⟩
theorem pgn_of {g n c : Nat} {f : Nat → Int × Int} {ty : TypeId} (h : Fr w W s) (hm : Cl.PMine W' W.heap.size ty g n c f) : PgN w W' g n c f := by
  have hl := h.lt
  exact ⟨hm.row, by have := hm.2.1; omega, hm.2.2.2.1⟩
def LsN (w W : World) (v : Nat → Ls.Sl) (F : Nat → List Int) : Prop := Ls.L3 W W.heap.size v F ∧ ∀ j, j < 3 → New (w.heap.size + 2) (v j)
theorem LsN.next {v : Nat → Ls.Sl} {F : Nat → List Int} (h : LsN w W v F) (hb : Below W.heap.size W W') : LsN w W' v F := ⟨h.1.next hb, h.2⟩
theorem lsn_of {v : Nat → Ls.Sl} {F : Nat → List Int} (h : Fr w W s) (ho : Ls.Own3 W' W.heap.size v F) : LsN w W' v F := by
  have hl := h.lt
  exact ⟨ho.l3, fun j hj _ x hx => by have := (ho.block j hj hx).1; omega⟩
theorem row_out {n g : Nat} {v : Ls.Sl} {xs : List Int} (h : Row W n v.a v.n xs) (hg : n ≤ g) : Out g v := fun h0 x hx => by
  obtain ⟨b', off, e, hlt, _⟩ := h.2 h0
  rw [hx] at e
  cases e
  show ¬ b' = g
  omega
theorem fresh_end {V : World} {v : Ls.Sl} {vu : Nat → Ls.Sl} {g6 c6 g8 c8 : Nat} (v0 v1 v2 v3 v4 v5 : Value) (hl : Hid (Lens s s ∧ s.w.n = d.ws.length ∧ ∀ j, j < 3 → (s.u j).n = (d.F j).length)) (hF : Fr w W s) (hV : Fr w V s) (hr' : RowN w V v d.ws) (hp' : PgN w V g6 s.p.n c6 d.f) (hu' : LsN w V vu d.F) (hb : Below V.heap.size V W) (hc : ∀ i, i < s.c.n → W.cell? ⟨g8, i, none⟩ = some (.bool (d.cs i))) (hz : ∀ i, W.frozen? ⟨g8, i, none⟩ = false) (hg8 : V.heap.size ≤ g8 ∧ g8 < W.heap.size) :
    FreshOut w s d (.returned (.agg #[.slice (⟨v, ⟨some ⟨g6, 0, none⟩, s.p.n, c6⟩, vu, ⟨some ⟨g8, 0, none⟩, s.c.n, c8⟩⟩ : Hs).w.a (⟨v, ⟨some ⟨g6, 0, none⟩, s.p.n, c6⟩, vu, ⟨some ⟨g8, 0, none⟩, s.c.n, c8⟩⟩ : Hs).w.n (⟨v, ⟨some ⟨g6, 0, none⟩, s.p.n, c6⟩, vu, ⟨some ⟨g8, 0, none⟩, s.c.n, c8⟩⟩ : Hs).w.c, .slice (⟨v, ⟨some ⟨g6, 0, none⟩, s.p.n, c6⟩, vu, ⟨some ⟨g8, 0, none⟩, s.c.n, c8⟩⟩ : Hs).p.a (⟨v, ⟨some ⟨g6, 0, none⟩, s.p.n, c6⟩, vu, ⟨some ⟨g8, 0, none⟩, s.c.n, c8⟩⟩ : Hs).p.n (⟨v, ⟨some ⟨g6, 0, none⟩, s.p.n, c6⟩, vu, ⟨some ⟨g8, 0, none⟩, s.c.n, c8⟩⟩ : Hs).p.c, .slice ((⟨v, ⟨some ⟨g6, 0, none⟩, s.p.n, c6⟩, vu, ⟨some ⟨g8, 0, none⟩, s.c.n, c8⟩⟩ : Hs).u 0).a ((⟨v, ⟨some ⟨g6, 0, none⟩, s.p.n, c6⟩, vu, ⟨some ⟨g8, 0, none⟩, s.c.n, c8⟩⟩ : Hs).u 0).n ((⟨v, ⟨some ⟨g6, 0, none⟩, s.p.n, c6⟩, vu, ⟨some ⟨g8, 0, none⟩, s.c.n, c8⟩⟩ : Hs).u 0).c, .slice ((⟨v, ⟨some ⟨g6, 0, none⟩, s.p.n, c6⟩, vu, ⟨some ⟨g8, 0, none⟩, s.c.n, c8⟩⟩ : Hs).u 1).a ((⟨v, ⟨some ⟨g6, 0, none⟩, s.p.n, c6⟩, vu, ⟨some ⟨g8, 0, none⟩, s.c.n, c8⟩⟩ : Hs).u 1).n ((⟨v, ⟨some ⟨g6, 0, none⟩, s.p.n, c6⟩, vu, ⟨some ⟨g8, 0, none⟩, s.c.n, c8⟩⟩ : Hs).u 1).c, .slice ((⟨v, ⟨some ⟨g6, 0, none⟩, s.p.n, c6⟩, vu, ⟨some ⟨g8, 0, none⟩, s.c.n, c8⟩⟩ : Hs).u 2).a ((⟨v, ⟨some ⟨g6, 0, none⟩, s.p.n, c6⟩, vu, ⟨some ⟨g8, 0, none⟩, s.c.n, c8⟩⟩ : Hs).u 2).n ((⟨v, ⟨some ⟨g6, 0, none⟩, s.p.n, c6⟩, vu, ⟨some ⟨g8, 0, none⟩, s.c.n, c8⟩⟩ : Hs).u 2).c, .slice (⟨v, ⟨some ⟨g6, 0, none⟩, s.p.n, c6⟩, vu, ⟨some ⟨g8, 0, none⟩, s.c.n, c8⟩⟩ : Hs).c.a (⟨v, ⟨some ⟨g6, 0, none⟩, s.p.n, c6⟩, vu, ⟨some ⟨g8, 0, none⟩, s.c.n, c8⟩⟩ : Hs).c.n (⟨v, ⟨some ⟨g6, 0, none⟩, s.p.n, c6⟩, vu, ⟨some ⟨g8, 0, none⟩, s.c.n, c8⟩⟩ : Hs).c.c])) (put6 W (w.heap.size + 1) v0 v1 v2 v3 v4 v5) := by
  have hr := hr'.next hb
  have hp := hp'.next hb
  have hu := hu'.next hb
  have hg2 : w.heap.size + 2 ≤ g8 := by have := hV.lt; omega
  have hn : News (w.heap.size + 2) ⟨v, ⟨some ⟨g6, 0, none⟩, s.p.n, c6⟩, vu, ⟨some ⟨g8, 0, none⟩, s.c.n, c8⟩⟩ := ⟨hr.2.2.2, fun _ x hx => by cases hx; exact hp.2.1, hu.2, fun _ x hx => by cases hx; exact hg2⟩
  have hW : Hp W W.heap.size ⟨v, ⟨some ⟨g6, 0, none⟩, s.p.n, c6⟩, vu, ⟨some ⟨g8, 0, none⟩, s.c.n, c8⟩⟩ d := ⟨hr.1, hp.1, hu.1, fun _ => ⟨g8, 0, rfl, hg8.2, fun i hi => by rw [Nat.zero_add]; exact hc i hi⟩⟩
  refine ⟨⟨v, ⟨some ⟨g6, 0, none⟩, s.p.n, c6⟩, vu, ⟨some ⟨g8, 0, none⟩, s.c.n, c8⟩⟩, rfl, hn.kept hW (fun k h1 _ => put6_other _ _ _ _ _ _ _ _ (by omega)) (by rw [put6_size]; exact Nat.le_refl _), ⟨?_, rfl, fun j hj => ?_, rfl⟩, ?_, hp.2.2, below_put6 hF.bel (by omega) _ _ _ _ _ _, g8, c8, rfl, fun i => (World.frozen?_of_block (a := ⟨g8, i, none⟩) (put6_other _ _ _ _ _ _ _ _ (show ¬ g8 = w.heap.size + 1 by omega))).trans (hz i), hg2, by rw [put6_size]; exact hg8.2, row_out hr'.1 hg8.1, ?_, fun j hj => row_out (hu'.1 j hj).1 hg8.1⟩
  · have h1 := hr.1.1
    have h2 := hl.out.2.1
    show v.n = _
    omega
  · have h1 := hu.1.len j hj
    have h2 := hl.out.2.2 j hj
    show (vu j).n = _
    omega
  · exact ⟨fun h0 x hx => by have := hn.w h0 x hx; omega, fun h0 x hx => by have := hn.p h0 x hx; omega, fun j hj h0 x hx => by have := hn.u j hj h0 x hx; omega, fun h0 x hx => by have := hn.c h0 x hx; omega⟩
  · intro h0 x hx
    obtain ⟨b', off, e, hlt, _⟩ := hp'.1 h0
    dsimp only at hx
    rw [hx] at e
    cases e
    show ¬ b' = g8
    omega
end
theorem res_fresh {W : World} {b : Nat} {tm : Array Value} {v0 v1 v2 v3 v4 v5 : Value} (ht : tm[2]? = some (.pointer (some ⟨b, 0, none⟩))) (k0 : W.cell? ⟨b, 0, none⟩ = some v0) (k1 : W.cell? ⟨b, 1, none⟩ = some v1) (k2 : W.cell? ⟨b, 2, none⟩ = some v2) (k3 : W.cell? ⟨b, 3, none⟩ = some v3) (k4 : W.cell? ⟨b, 4, none⟩ = some v4) (k5 : W.cell? ⟨b, 5, none⟩ = some v5) :
    (results Tryz.f20 tm).run Tryz.prog W = .ok (.agg #[v0, v1, v2, v3, v4, v5]) W := by
  simp [results, Tryz.results20, go_sem, ht, k0, k1, k2, k3, k4, k5]
theorem put6_ex {w W : World} {s : Hs} (h : Fr w W s) (v0 v1 v2 v3 v4 v5 : Value) :
    (put6 W (w.heap.size + 1) v0 v1 v2 v3 v4 v5).cell? ⟨w.heap.size + 1, 0, none⟩ = some v0 ∧ (put6 W (w.heap.size + 1) v0 v1 v2 v3 v4 v5).cell? ⟨w.heap.size + 1, 1, none⟩ = some v1 ∧ (put6 W (w.heap.size + 1) v0 v1 v2 v3 v4 v5).cell? ⟨w.heap.size + 1, 2, none⟩ = some v2 ∧
    (put6 W (w.heap.size + 1) v0 v1 v2 v3 v4 v5).cell? ⟨w.heap.size + 1, 3, none⟩ = some v3 ∧ (put6 W (w.heap.size + 1) v0 v1 v2 v3 v4 v5).cell? ⟨w.heap.size + 1, 4, none⟩ = some v4 ∧ (put6 W (w.heap.size + 1) v0 v1 v2 v3 v4 v5).cell? ⟨w.heap.size + 1, 5, none⟩ = some v5 := by
  obtain ⟨x0, h0⟩ := h.res 0 (by decide)
  obtain ⟨x1, h1⟩ := h.res 1 (by decide)
  obtain ⟨x2, h2⟩ := h.res 2 (by decide)
  obtain ⟨x3, h3⟩ := h.res 3 (by decide)
  obtain ⟨x4, h4⟩ := h.res 4 (by decide)
  obtain ⟨x5, h5⟩ := h.res 5 (by decide)
  exact ⟨by simp [put6, go_sem, h0], by simp [put6, go_sem, h1], by simp [put6, go_sem, h2], by simp [put6, go_sem, h3], by simp [put6, go_sem, h4], by simp [put6, go_sem, h5]⟩
set_option maxHeartbeats 4000000 in
theorem fresh_any (s : Hs) (d : Hd_) (w : World) (hp : Hp w w.heap.size s d) (hf : Fine s d) (hfb : firstB s d = true) : Calls Tryz.prog 20 #[(.agg #[.slice s.w.a s.w.n s.w.c, .slice s.p.a s.p.n s.p.c, .slice (s.u 0).a (s.u 0).n (s.u 0).c, .slice (s.u 1).a (s.u 1).n (s.u 1).c, .slice (s.u 2).a (s.u 2).n (s.u 2).c, .slice s.c.a s.c.n s.c.c])] w (FreshOut w s d) := by
  have hpos : 0 < s.p.n ∧ 0 < s.c.n := by
    unfold firstB at hfb
    simp only [Bool.and_eq_true, decide_eq_true_eq] at hfb
    have := ((Cl.mayB_iff _ _).1 hfb.2.1).1
    omega
  have hun : ∀ j, j < 3 → (s.u j).n ≤ 2000000 := fun j hj => by
    have h1 := hf.len
    rw [show (Ls.upTo d.F 3).length = (d.F 0).length + (d.F 1).length + (d.F 2).length by simp [Ls.upTo, List.range_succ]; omega] at h1
    have h2 := hp.free.len j hj
    rcases (show j = 0 ∨ j = 1 ∨ j = 2 by omega) with rfl | rfl | rfl <;> omega
  have C1 := Lib.hid (fun W (h : Below w.heap.size w W) => iclone_any w.heap.size s.w.a s.w.n s.w.c d.ws W (by have := hf.wn; omega) h.size (hp.words.below h))
  have C2 := Lib.hid (fun W (h : Below w.heap.size w W) => Cl.pclone_ok w.heap.size s.p.a s.p.n s.p.c d.f W hpos.1 (by have := hf.pn; omega) (hp.pages.below h))
  have C3 := Lib.hid (fun W (h : Below w.heap.size w W) => Ls.aown_any w.heap.size s.u d.F W (hp.free.below h) h.size hun)
  have C4 := Lib.hid (fun W (h : Below w.heap.size w W) => bclone_ok w.heap.size s.c.a s.c.n s.c.c d.cs W hpos.2 (by have := hf.cn; omega) (hp.cards.below h))
  have HL : Hid (Lens s s ∧ s.w.n = d.ws.length ∧ ∀ j, j < 3 → (s.u j).n = (d.F j).length) := Lib.hid ⟨⟨rfl, rfl, fun _ _ => rfl, rfl⟩, hp.words.1.symm, hp.free.len⟩
  clear hp hf hfb hpos hun
  go_enter Tryz.func20, Tryz.ntmps20
  go_wp2_with fail
  obtain ⟨W0, hW0⟩ : ∃ W0, W0 = (w.alloc (.cells #[.slice s.w.a s.w.n s.w.c, .slice s.p.a s.p.n s.p.c, .slice (s.u 0).a (s.u 0).n (s.u 0).c, .slice (s.u 1).a (s.u 1).n (s.u 1).c, .slice (s.u 2).a (s.u 2).n (s.u 2).c, .slice s.c.a s.c.n s.c.c] 28)).alloc (.cells #[.slice none 0 0, .slice none 0 0, .slice none 0 0, .slice none 0 0, .slice none 0 0, .slice none 0 0] 28) := ⟨_, rfl⟩
  have K0 := Lib.hid (And.intro (fr_start hW0) True.intro)
  rw [← hW0]
  clear hW0
  go_region_held3 (fun W => (Fr w W s ∧ True) ∧ w.heap.size < W.heap.size ∧ W.cell? ⟨w.heap.size, 0, none⟩ = some (.slice s.w.a s.w.n s.w.c) ∧ W.cell? ⟨w.heap.size, 1, none⟩ = some (.slice s.p.a s.p.n s.p.c) ∧ W.cell? ⟨w.heap.size, 2, none⟩ = some (.slice (s.u 0).a (s.u 0).n (s.u 0).c) ∧ W.cell? ⟨w.heap.size, 3, none⟩ = some (.slice (s.u 1).a (s.u 1).n (s.u 1).c) ∧ W.cell? ⟨w.heap.size, 4, none⟩ = some (.slice (s.u 2).a (s.u 2).n (s.u 2).c) ∧ W.cell? ⟨w.heap.size, 5, none⟩ = some (.slice s.c.a s.c.n s.c.c)) (first
    | with_reducible exact fr_put (‹(Fr w _ s ∧ _) ∧ _›).1 _ _ _ _ _ _
    | with_reducible exact fr_keep (‹(Fr w _ s ∧ _) ∧ _›).1 ‹Below _ _ _›
    | with_reducible exact fr_keep K0.out (Below.refl _ _)
    | exact fr_keep K0.out (below_drawn' (Below.refl _ _) 1)) (first
    | ((go_at_call 50; refine (C1.out _ (‹(Fr w _ s ∧ _) ∧ _›).1.1.bel).mono ?_; rintro e w5 ⟨v5, rfl, ho5, hb5⟩; have R5 := Lib.hid (rown_of (‹(Fr w _ s ∧ _) ∧ _›).1.1 ho5); clear ho5))
    | ((go_at_call 51; refine (C2.out _ (‹(Fr w _ s ∧ _) ∧ _›).1.1.bel).mono ?_; rintro e w6 ⟨g6, c6, rfl, hm6, hb6⟩; have R6 := Lib.hid (And.intro (R5.out.next hb6) (pgn_of (‹(Fr w _ s ∧ _) ∧ _›).1.1 hm6)); clear hm6))
    | ((go_at_call 21; refine (C3.out _ (‹(Fr w _ s ∧ _) ∧ _›).1.1.bel).mono ?_; rintro e w7 ⟨v7, rfl, ho7, hb7⟩; have R7 := Lib.hid (And.intro (R6.out.1.next hb7) (And.intro (R6.out.2.next hb7) (lsn_of (‹(Fr w _ s ∧ _) ∧ _›).1.1 ho7))); clear ho7))
    | ((go_at_call 52; refine (C4.out _ (‹(Fr w _ s ∧ _) ∧ _›).1.1.bel).mono ?_; rintro e w8 ⟨g8, c8, rfl, hm8, hz8, hg8, hl8, hb8⟩; have F8 := Lib.hid ((‹(Fr w _ s ∧ _) ∧ _›).1.1.next hb8); have F7 := Lib.hid (‹(Fr w w7 s ∧ _) ∧ _›).1.1; have R8 := Lib.hid (And.intro R7.out (And.intro hb8 (And.intro hm8 (And.intro hz8 (And.intro hg8 hl8))))); obtain ⟨x0, h0⟩ := F8.out.res 0 (by decide); obtain ⟨x1, h1⟩ := F8.out.res 1 (by decide); obtain ⟨x2, h2⟩ := F8.out.res 2 (by decide); obtain ⟨x3, h3⟩ := F8.out.res 3 (by decide); obtain ⟨x4, h4⟩ := F8.out.res 4 (by decide); obtain ⟨x5, h5⟩ := F8.out.res 5 (by decide); have y0 := F8.out.free 0; have y1 := F8.out.free 1; have y2 := F8.out.free 2; have y3 := F8.out.free 3; have y4 := F8.out.free 4; have y5 := F8.out.free 5; have yl := F8.out.lt; clear hm8 hz8 hg8 hl8)))
  go_wp2
  refine bodyPost_ret (v := (.agg #[.slice (⟨v5, ⟨some ⟨g6, 0, none⟩, s.p.n, c6⟩, v7, ⟨some ⟨g8, 0, none⟩, s.c.n, c8⟩⟩ : Hs).w.a (⟨v5, ⟨some ⟨g6, 0, none⟩, s.p.n, c6⟩, v7, ⟨some ⟨g8, 0, none⟩, s.c.n, c8⟩⟩ : Hs).w.n (⟨v5, ⟨some ⟨g6, 0, none⟩, s.p.n, c6⟩, v7, ⟨some ⟨g8, 0, none⟩, s.c.n, c8⟩⟩ : Hs).w.c, .slice (⟨v5, ⟨some ⟨g6, 0, none⟩, s.p.n, c6⟩, v7, ⟨some ⟨g8, 0, none⟩, s.c.n, c8⟩⟩ : Hs).p.a (⟨v5, ⟨some ⟨g6, 0, none⟩, s.p.n, c6⟩, v7, ⟨some ⟨g8, 0, none⟩, s.c.n, c8⟩⟩ : Hs).p.n (⟨v5, ⟨some ⟨g6, 0, none⟩, s.p.n, c6⟩, v7, ⟨some ⟨g8, 0, none⟩, s.c.n, c8⟩⟩ : Hs).p.c, .slice ((⟨v5, ⟨some ⟨g6, 0, none⟩, s.p.n, c6⟩, v7, ⟨some ⟨g8, 0, none⟩, s.c.n, c8⟩⟩ : Hs).u 0).a ((⟨v5, ⟨some ⟨g6, 0, none⟩, s.p.n, c6⟩, v7, ⟨some ⟨g8, 0, none⟩, s.c.n, c8⟩⟩ : Hs).u 0).n ((⟨v5, ⟨some ⟨g6, 0, none⟩, s.p.n, c6⟩, v7, ⟨some ⟨g8, 0, none⟩, s.c.n, c8⟩⟩ : Hs).u 0).c, .slice ((⟨v5, ⟨some ⟨g6, 0, none⟩, s.p.n, c6⟩, v7, ⟨some ⟨g8, 0, none⟩, s.c.n, c8⟩⟩ : Hs).u 1).a ((⟨v5, ⟨some ⟨g6, 0, none⟩, s.p.n, c6⟩, v7, ⟨some ⟨g8, 0, none⟩, s.c.n, c8⟩⟩ : Hs).u 1).n ((⟨v5, ⟨some ⟨g6, 0, none⟩, s.p.n, c6⟩, v7, ⟨some ⟨g8, 0, none⟩, s.c.n, c8⟩⟩ : Hs).u 1).c, .slice ((⟨v5, ⟨some ⟨g6, 0, none⟩, s.p.n, c6⟩, v7, ⟨some ⟨g8, 0, none⟩, s.c.n, c8⟩⟩ : Hs).u 2).a ((⟨v5, ⟨some ⟨g6, 0, none⟩, s.p.n, c6⟩, v7, ⟨some ⟨g8, 0, none⟩, s.c.n, c8⟩⟩ : Hs).u 2).n ((⟨v5, ⟨some ⟨g6, 0, none⟩, s.p.n, c6⟩, v7, ⟨some ⟨g8, 0, none⟩, s.c.n, c8⟩⟩ : Hs).u 2).c, .slice (⟨v5, ⟨some ⟨g6, 0, none⟩, s.p.n, c6⟩, v7, ⟨some ⟨g8, 0, none⟩, s.c.n, c8⟩⟩ : Hs).c.a (⟨v5, ⟨some ⟨g6, 0, none⟩, s.p.n, c6⟩, v7, ⟨some ⟨g8, 0, none⟩, s.c.n, c8⟩⟩ : Hs).c.n (⟨v5, ⟨some ⟨g6, 0, none⟩, s.p.n, c6⟩, v7, ⟨some ⟨g8, 0, none⟩, s.c.n, c8⟩⟩ : Hs).c.c])) ?_ rfl (fresh_end _ _ _ _ _ _ HL F8.out F7.out R8.out.1.1 R8.out.1.2.1 R8.out.1.2.2 R8.out.2.1 R8.out.2.2.1 R8.out.2.2.2.1 R8.out.2.2.2.2)
  obtain ⟨k0, k1, k2, k3, k4, k5⟩ := put6_ex F8.out (.slice v5.a v5.n v5.c) (.slice (some ⟨g6, 0, none⟩) s.p.n c6) (.slice (v7 0).a (v7 0).n (v7 0).c) (.slice (v7 1).a (v7 1).n (v7 1).c) (.slice (v7 2).a (v7 2).n (v7 2).c) (.slice (some ⟨g8, 0, none⟩) s.c.n c8)
  exact res_fresh rfl k0 k1 k2 k3 k4 k5
end Go.Proofs.YtdmclfolooiccaaGreatDoor
end
