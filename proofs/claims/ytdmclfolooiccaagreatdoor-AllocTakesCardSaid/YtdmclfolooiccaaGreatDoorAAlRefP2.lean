/-
  While the reference's Take makes cells of a page.
-/
import Derived.Test.YtdmclfolooiccaaGreatDoorHpAV
namespace Go.Proofs.YtdmclfolooiccaaGreatDoor.Rp
open Go.Proofs.YtdmclfolooiccaaGreatDoor
open Go.RowKit
set_option maxRecDepth 100000

def OnNew (w : World) (on : List Int) (nn : Nat) (e : Ending) (w' : World) : Prop :=
  ∃ xb off c, e = .returned (.slice (some ⟨xb, off, none⟩) nn c) ∧ (∀ i, i < nn → w'.cell? ⟨xb, off + i, none⟩ = some (.int .i64 (on.getD i 0))) ∧ w.heap.size ≤ xb ∧ xb < w'.heap.size ∧ Below w.heap.size w w'
theorem onNew_of {w w' : World} {on : List Int} {nn : Nat} {e : Ending} (h : Cl.ListedO w on e w') (hn : nn = on.length) (h0 : 0 < nn) : OnNew w on nn e w' := by
  subst hn
  obtain ⟨a, c, rfl, ho, hb⟩ := h
  obtain ⟨a', c', e', hr, _, _⟩ := Ls.owns_row ho
  simp only [Value.slice.injEq, true_and] at e'
  obtain ⟨rfl, rfl⟩ := e'
  obtain ⟨xb, off, rfl, hlt, hc⟩ := hr.2 h0
  exact ⟨xb, off, c, rfl, hc, (ho.lt xb (by rw [Ls.ownBlock_slice]; rfl)).1, hlt, hb⟩
structure Sp (w W0 W : World) (bo bc g : Nat) (t : Hs) (D : Hd_) (v : Nat → Ls.Sl) (G : Nat → List Int) (xb off : Nat) (on : List Int) (nn : Nat) : Prop where
  tw : Tw w W0 W bo bc g t D v G
  on : ∀ i, i < nn → W.cell? ⟨xb, off + i, none⟩ = some (.int .i64 (on.getD i 0))
  lt : xb < W.heap.size
  ap : ¬ xb = g ∧ ¬ xb = bo ∧ ∀ j, j < 3 → ∀ x, (t.u j).a = some x → ¬ x.block = xb
section
variable {w W0 W W' : World} {bo bc g k xb off nn : Nat} {t t' : Hs} {D D' : Hd_} {v v' : Nat → Ls.Sl} {G G' : Nat → List Int} {on : List Int}
theorem Sp.start (h : Tw w W0 W bo bc g t D v G) (hb : Below W.heap.size W W') (hc : ∀ i, i < nn → W'.cell? ⟨xb, off + i, none⟩ = some (.int .i64 (on.getD i 0))) (h1 : W.heap.size ≤ xb) (h2 : xb < W'.heap.size) : Sp w W0 W' bo bc g t D v G xb off on nn :=
  ⟨h.next hb, hc, h2, by have := h.z.m.2.2.1; omega, by have := h.z.o.box.box.lt; omega, fun j hj x hx => by have := (h.o3.block j hj hx).2; omega⟩
theorem Sp.next (h : Sp w W0 W bo bc g t D v G xb off on nn) (hb : Below W.heap.size W W') : Sp w W0 W' bo bc g t D v G xb off on nn :=
  ⟨h.tw.next hb, fun i hi => (World.cell?_of_block (a := ⟨xb, off + i, none⟩) (hb.block xb h.lt)).trans (h.on i hi), Nat.lt_of_lt_of_le h.lt hb.size, h.ap⟩
theorem Sp.word (h : Sp w W0 W bo bc g t D v G xb off on nn) (i : Nat) (x : Int) : Sp w W0 (W.setCell ⟨g, i, none⟩ (.int .i64 x)) bo bc g t ⟨D.ws.set i x, D.f, D.F, D.cs⟩ v G xb off on nn :=
  ⟨h.tw.word i x, fun i hi => (World.cell?_of_block (a := ⟨xb, off + i, none⟩) (set_others _ h.ap.1)).trans (h.on i hi), by rw [set_size]; exact h.lt, h.ap⟩
theorem Sp.cat (h : Sp w W0 W bo bc g t D v G xb off on nn) (hk : k < 3) {sl : Ls.Sl} {xs : List Int} {w2 : World} (hc : Ls.Catted W W0.heap.size (.slice (t.u k).a (t.u k).n (t.u k).c) sl xs w2) :
    Rm w2 bo t ∧ Sp w W0 (w2.setCell ⟨bo, 2 + k, none⟩ (.slice sl.a sl.n sl.c)) bo bc g ⟨t.w, t.p, Ls.upd t.u k sl, t.c⟩ ⟨D.ws, D.f, Ls.upd D.F k xs, D.cs⟩ v G xb off on nn := by
  obtain ⟨h1, h2, h3⟩ := h.tw.cat hk hc
  have hl := h.lt
  have hb2 : w2.heap[xb]? = W.heap[xb]? := hc.grown.block xb h.lt (by
    rw [Ls.ownBlock_slice]
    cases hx : (t.u k).a with
    | none => simp
    | some x =>
      have := h.ap.2.2 k hk x hx
      simp
      exact fun e => this e.symm)
  refine ⟨h1, h3, fun i hi => (World.cell?_of_block (a := ⟨xb, off + i, none⟩) ((set_others _ h.ap.2.1).trans hb2)).trans (h.on i hi), by rw [set_size]; omega, h.ap.1, h.ap.2.1, fun j hj x hx => ?_⟩
  by_cases e : j = k
  · subst e
    change (Ls.upd t.u j sl j).a = some x at hx
    rw [Ls.upd_same] at hx
    rcases hc.lies x hx with g | g
    · rw [Ls.ownBlock_slice] at g
      cases hy : (t.u j).a with
      | none => rw [hy] at g; cases g
      | some y =>
        rw [hy] at g
        simp at g
        rw [← g]
        exact h.ap.2.2 j hj y hy
    · omega
  · change (Ls.upd t.u k sl j).a = some x at hx
    rw [Ls.upd_other _ _ e] at hx
    exact h.ap.2.2 j hj x hx
end
/-- What is there while i cells are left. -/
def spD (d : Hd_) (f : Nat → Int × Int) (k : Nat) (on : List Int) (i : Nat) : Hd_ := ⟨zeroAt d.ws (on.drop i).reverse, f, Ls.upd d.F k (d.F k ++ (on.drop i).reverse), d.cs⟩
theorem drop_rev {on : List Int} {j : Nat} (h : j < on.length) : (on.drop j).reverse = (on.drop (j + 1)).reverse ++ [on.getD j 0] := by
  rw [List.drop_eq_getElem_cons h, List.reverse_cons]
  simp [List.getD, List.getElem?_eq_getElem h]
theorem spD_step (d : Hd_) (f : Nat → Int × Int) (k : Nat) {on : List Int} {j : Nat} (h : j < on.length) : spD d f k on j = ⟨(spD d f k on (j + 1)).ws.set (on.getD j 0 - 16).toNat 0, f, Ls.upd (spD d f k on (j + 1)).F k ((spD d f k on (j + 1)).F k ++ [on.getD j 0]), d.cs⟩ := by
  unfold spD
  rw [drop_rev h, zeroAt_snoc]
  simp only [Ls.upd_upd, Ls.upd_same, List.append_assoc]
theorem spD_none (d : Hd_) (f : Nat → Int × Int) (k : Nat) {on : List Int} : spD d f k on on.length = ⟨d.ws, f, d.F, d.cs⟩ := by
  unfold spD
  rw [List.drop_length]
  simp only [List.reverse_nil, List.append_nil]
  refine congrArg (fun F => Hd_.mk d.ws f F d.cs) ?_
  funext i
  unfold Ls.upd
  split
  · next e => rw [e]
  · rfl
theorem spD_all (d : Hd_) {n k p : Nat} : spD d (Cl.put d.f p (1, (k : Int))) k (Cl.onS (Cl.put d.f p (1, (k : Int))) n p) 0 = splitD d n k p := by
  unfold spD splitD
  rw [List.drop_zero, zeroAt_rev]
  exact fun y hy => (cell_end (mem_on.1 hy).1).1
end Go.Proofs.YtdmclfolooiccaaGreatDoor.Rp
