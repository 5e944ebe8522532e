/-
  Merged texts: LsRes, LsSep, LsBack, LsMoveR, LsMove, LsAll.
-/
import Derived.Test.YtmalopciboikhaaGreatDoorHpRA
import Derived.RangeFuncNested
import Derived.RangeFuncBound
import Derived.RangeFuncCalls
import Derived.RangeFuncLeaves
import Derived.Below
import Derived.Shelf.Abstract
import Derived.OwnWalkIn
import Derived.TacticsInMore
import Derived.LoopNIn
import Derived.LoopIn
import Derived.Deep.CutRange
import Derived.Sort.CutIn
import Derived.Deep.LoopGhost
section
namespace Go.Proofs.YtmalopciboikhaaGreatDoor.Ls
open Go.Proofs.YtmalopciboikhaaGreatDoor
set_option maxRecDepth 100000
open Go.RowKit

structure Thing where
  blk : Nat → Prop
  ok : World → Prop
  stab : ∀ w w' : World, ok w → w.heap.size ≤ w'.heap.size → (∀ b, blk b → w'.heap[b]? = w.heap[b]?) → ok w'
def tOwn (base : Nat) (U : Nat → Sl) (f : Nat → List Int) : Thing :=
  ⟨fun b => ∃ j x, j < 3 ∧ (U j).a = some x ∧ x.block = b, fun w => Own3 w base U f, fun _ _ h _ hs => h.same (fun j x hj hx => hs _ ⟨j, x, hj, hx, rfl⟩)⟩
def tBox (d : Nat) (z : Nat → Sl) : Thing := ⟨fun b => b = d, fun w => Box3 w d z, fun _ _ h hl hs => h.same (hs d rfl) hl⟩

structure Res (base : Nat) (W w : World) (R : Nat → Option Thing) : Prop where
  bel : Below base W w
  ok : ∀ r t, R r = some t → t.ok w ∧ ∀ b, t.blk b → base ≤ b ∧ b < w.heap.size
  apart : ∀ r s t t', R r = some t → R s = some t' → ¬ r = s → ∀ b, t.blk b → ¬ t'.blk b
section
variable {base : Nat} {W w w' : World} {R : Nat → Option Thing}
theorem Res.none_ (W : World) (base : Nat) : Res base W W (fun _ => none) := ⟨Below.refl _ _, (fun _ _ h => by cases h), (fun _ _ _ _ h => by cases h)⟩
theorem Res.next (h : Res base W w R) (hw : base ≤ w.heap.size) (hb : Below w.heap.size w w') : Res base W w' R :=
  ⟨h.bel.trans (hb.mono hw), fun r t hr => ⟨t.stab w w' (h.ok r t hr).1 hb.size (fun b hbk => hb.block b ((h.ok r t hr).2 b hbk).2), fun b hbk => ⟨((h.ok r t hr).2 b hbk).1, Nat.lt_of_lt_of_le ((h.ok r t hr).2 b hbk).2 hb.size⟩⟩, h.apart⟩
theorem Res.drewN (h : Res base W w R) (k : Nat) : Res base W (w.drewN k) R :=
  ⟨below_drawn h.bel k, fun r t hr => ⟨t.stab w _ (h.ok r t hr).1 (Nat.le_refl _) (fun _ _ => rfl), (h.ok r t hr).2⟩, h.apart⟩
/-- One more thing, in new memory. -/
theorem Res.add (h : Res base W w R) (hw : base ≤ w.heap.size) (hb : Below w.heap.size w w') (r : Nat) (t : Thing) (ht : t.ok w') (hn : ∀ b, t.blk b → w.heap.size ≤ b ∧ b < w'.heap.size) : Res base W w' (upd R r (some t)) := by
  have h' := h.next hw hb
  refine ⟨h'.bel, fun s t' hs => ?_, fun s s' t1 t2 h1 h2 hne b hb1 hb2 => ?_⟩
  · by_cases e : s = r
    · subst e
      rw [upd_same] at hs
      cases hs
      exact ⟨ht, fun b hbk => ⟨Nat.le_trans hw (hn b hbk).1, (hn b hbk).2⟩⟩
    · rw [upd_other _ _ e] at hs
      exact h'.ok s t' hs
  · by_cases e : s = r
    · subst e
      rw [upd_same] at h1
      cases h1
      rw [upd_other _ _ (fun e => hne e.symm)] at h2
      have := (hn b hb1).1
      have := ((h.ok s' t2 h2).2 b hb2).2
      omega
    · rw [upd_other _ _ e] at h1
      by_cases e' : s' = r
      · subst e'
        rw [upd_same] at h2
        cases h2
        have := (hn b hb2).1
        have := ((h.ok s t1 h1).2 b hb1).2
        omega
      · rw [upd_other _ _ e'] at h2
        exact h.apart s s' t1 t2 h1 h2 hne b hb1 hb2
/-- One thing is turned: where it lay, or in new memory; all else is as it was. -/
theorem Res.change (h : Res base W w R) (hw : base ≤ w.heap.size) {r : Nat} {t : Thing} (hr : R r = some t) (h1 : w'.os = w.os) (h2 : w'.tape = w.tape) (h3 : w'.output = w.output) (h4 : w.heap.size ≤ w'.heap.size)
    (hs : ∀ b, b < w.heap.size → ¬ t.blk b → w'.heap[b]? = w.heap[b]?) (t' : Thing) (ht : t'.ok w') (hn : ∀ b, t'.blk b → (t.blk b ∨ w.heap.size ≤ b) ∧ b < w'.heap.size) : Res base W w' (upd R r (some t')) := by
  have old := h.ok r t hr
  refine ⟨h.bel.trans ⟨h1, h2, h3, h4, fun b hb => hs b (by omega) (fun hbk => by have := (old.2 b hbk).1; omega)⟩, fun s t1 h1 => ?_, fun s s' t1 t2 h1 h2 hne b hb1 hb2 => ?_⟩
  · by_cases e : s = r
    · subst e
      rw [upd_same] at h1
      cases h1
      refine ⟨ht, fun b hbk => ⟨?_, (hn b hbk).2⟩⟩
      rcases (hn b hbk).1 with hb | hb
      · exact (old.2 b hb).1
      · exact Nat.le_trans hw hb
    · rw [upd_other _ _ e] at h1
      have o1 := h.ok s t1 h1
      exact ⟨t1.stab w w' o1.1 h4 (fun b hbk => hs b (o1.2 b hbk).2 (h.apart s r t1 t h1 hr e b hbk)), fun b hbk => ⟨(o1.2 b hbk).1, Nat.lt_of_lt_of_le (o1.2 b hbk).2 h4⟩⟩
  · by_cases e : s = r
    · subst e
      rw [upd_same] at h1
      cases h1
      rw [upd_other _ _ (fun e => hne e.symm)] at h2
      rcases (hn b hb1).1 with hb | hb
      · exact h.apart s s' t t2 hr h2 hne b hb hb2
      · have := ((h.ok s' t2 h2).2 b hb2).2
        omega
    · rw [upd_other _ _ e] at h1
      by_cases e' : s' = r
      · subst e'
        rw [upd_same] at h2
        cases h2
        rcases (hn b hb2).1 with hb | hb
        · exact h.apart s s' t1 t h1 hr hne b hb1 hb
        · have := ((h.ok s t1 h1).2 b hb1).2
          omega
      · rw [upd_other _ _ e'] at h2
        exact h.apart s s' t1 t2 h1 h2 hne b hb1 hb2
theorem Res.own {r : Nat} {b0 : Nat} {U : Nat → Sl} {f : Nat → List Int} (h : Res base W w R) (hr : R r = some (tOwn b0 U f)) : Own3 w b0 U f := (h.ok r _ hr).1
theorem Res.box {r : Nat} {d : Nat} {z : Nat → Sl} (h : Res base W w R) (hr : R r = some (tBox d z)) : Box3 w d z := (h.ok r _ hr).1
/-- New lists of one's own. -/
theorem Res.copied {U : Nat → Sl} {f : Nat → List Int} (h : Res base W w R) (hw : base ≤ w.heap.size) (ho : Own3 w' w.heap.size U f) (hb : Below w.heap.size w w') (r : Nat) : Res base W w' (upd R r (some (tOwn base U f))) :=
  h.add hw hb r _ (ho.less hw) (by rintro b ⟨j, x, hj, hx, rfl⟩; exact ho.block j hj hx)
/-- A new box. -/
theorem Res.boxed (h : Res base W w R) (hw : base ≤ w.heap.size) (z : Nat → Sl) (r : Nat) : Res base W (w.alloc (.cells #[.slice (z 0).a (z 0).n (z 0).c, .slice (z 1).a (z 1).n (z 1).c, .slice (z 2).a (z 2).n (z 2).c] 25)) (upd R r (some (tBox w.heap.size z))) :=
  h.add hw ((Below.refl _ _).alloc (Nat.le_refl _) _) r _ (Box3.new w z 25) (fun b e => by cases e; simp)
/-- A whole value is stored into a box. -/
theorem Res.put {r d : Nat} {z : Nat → Sl} (h : Res base W w R) (hw : base ≤ w.heap.size) (hr : R r = some (tBox d z)) (z' : Nat → Sl) : Res base W (put3 w d z') (upd R r (some (tBox d z'))) :=
  h.change (w' := put3 w d z') hw hr rfl rfl rfl (by rw [put3_size]; exact Nat.le_refl _) (fun b _ (hb : ¬ b = d) => put3_other w z' hb) (tBox d z') ((h.box hr).put z') (fun b (e : b = d) => ⟨.inl e, by rw [put3_size, e]; exact (h.box hr).lt⟩)
/-- One slice is stored into a box. -/
theorem Res.set {r d k : Nat} {z : Nat → Sl} (h : Res base W w R) (hw : base ≤ w.heap.size) (hr : R r = some (tBox d z)) (hk : k < 3) (s : Sl) : Res base W (w.setCell ⟨d, k, none⟩ (.slice s.a s.n s.c)) (upd R r (some (tBox d (upd z k s)))) :=
  h.change (w' := w.setCell ⟨d, k, none⟩ (.slice s.a s.n s.c)) hw hr rfl rfl rfl (by simp [World.setCell]) (fun b _ (hb : ¬ b = d) => Below.heap_setCell _ _ _ _ hb) (tBox d (upd z k s)) ((h.box hr).set hk s) (fun b (e : b = d) => ⟨.inl e, by have := (h.box hr).lt; simpa [World.setCell, e] using this⟩)
/-- One of three slices is appended to. -/
theorem Res.catted {r k b0 : Nat} {U : Nat → Sl} {f : Nat → List Int} {s : Sl} {xs : List Int} {o : Obj} (h : Res base W w R) (hw : base ≤ w.heap.size) (hr : R r = some (tOwn base U f)) (hk : k < 3)
    (hc : Catted (w.alloc o) b0 (.slice (U k).a (U k).n (U k).c) s xs w') (ho : w'.ownsRow base 3 1 (.slice s.a s.n s.c) s.n (xs.map (Value.int .i64))) : Res base W w' (upd R r (some (tOwn base (upd U k s) (upd f k xs)))) := by
  have O := h.own hr
  have hs : (w.alloc o).heap.size = w.heap.size + 1 := by simp
  refine h.change hw hr (hc.grown.os.trans rfl) (hc.grown.tape.trans rfl) (hc.grown.output.trans rfl) (by have := hc.grown.size; omega) (fun b hb hbk => ?_) _ ((O.alloc o).appended hk s ho hc.grown hc.lies) (fun b ⟨j, x, hj, hx, e⟩ => ?_)
  · refine (hc.grown.block b (by omega) (fun e => hbk ?_)).trans (Below.heap_alloc _ _ _ hb)
    rw [ownBlock_slice] at e
    cases hx : (U k).a with
    | none => rw [hx] at e; cases e
    | some x =>
      rw [hx] at e
      simp at e
      exact ⟨k, x, hk, hx, e.symm⟩
  · have hlt := (((O.alloc o).appended hk s ho hc.grown hc.lies).block j hj hx).2
    subst e
    refine ⟨?_, hlt⟩
    by_cases e : j = k
    · subst e
      rw [upd_same] at hx
      rcases hc.lies x hx with e | e
      · left
        rw [ownBlock_slice] at e
        cases hy : (U j).a with
        | none => rw [hy] at e; cases e
        | some y =>
          rw [hy] at e
          simp at e
          exact ⟨j, y, hj, hy, e⟩
      · right
        omega
    · rw [upd_other _ _ e] at hx
      exact .inl ⟨j, x, hj, hx, rfl⟩
end
end Go.Proofs.YtmalopciboikhaaGreatDoor.Ls
end
section
namespace Go.Proofs.YtmalopciboikhaaGreatDoor.Ls
open Go.Proofs.YtmalopciboikhaaGreatDoor
set_option maxRecDepth 100000
open Go.RowKit

/-- The blocks of Z are as they were; the streams too. -/
structure Hold (Z : Nat → Prop) (w w' : World) : Prop where
  os : w'.os = w.os
  tape : w'.tape = w.tape
  output : w'.output = w.output
  size : w.heap.size ≤ w'.heap.size
  block : ∀ k, Z k → k < w.heap.size → w'.heap[k]? = w.heap[k]?
theorem Hold.refl (Z : Nat → Prop) (w : World) : Hold Z w w := ⟨rfl, rfl, rfl, Nat.le_refl _, fun _ _ _ => rfl⟩
theorem Hold.trans {Z : Nat → Prop} {a b c : World} (h : Hold Z a b) (k : Hold Z b c) : Hold Z a c :=
  ⟨k.os.trans h.os, k.tape.trans h.tape, k.output.trans h.output, Nat.le_trans h.size k.size, fun i hi hl => (k.block i hi (Nat.lt_of_lt_of_le hl h.size)).trans (h.block i hi hl)⟩
theorem hold_of_below {Z : Nat → Prop} {w w' : World} (h : Below w.heap.size w w') : Hold Z w w' := ⟨h.os, h.tape, h.output, h.size, fun k _ hl => h.block k hl⟩

section
variable {α : Type}
/-- What is said of M and what has come abides whatever turns blocks of M, and lays new ones. -/
def BidesZ (Z : Nat → Prop) (J : (Nat → Prop) → List α → World → Prop) : Prop :=
  ∀ M M' pre W W', J M pre W → Hold Z W W' → (∀ k, k < W.heap.size → ¬ M k → W'.heap[k]? = W.heap[k]?) → (∀ k, M' k → M k ∨ (W.heap.size ≤ k ∧ k < W'.heap.size)) → J M' pre W'
/-- The blocks of Z, and the blocks of M, are as they were. -/
def KeptZ (Z : Nat → Prop) (M : Nat → Prop) (W W' : World) : Prop := Hold Z W W' ∧ ∀ k, M k → k < W.heap.size → W'.heap[k]? = W.heap[k]?
theorem KeptZ.refl (Z : Nat → Prop) (M : Nat → Prop) (W : World) : KeptZ Z M W W := ⟨Hold.refl _ _, fun _ _ _ => rfl⟩
theorem KeptZ.trans {Z : Nat → Prop} {M : Nat → Prop} {A B C : World} (h : KeptZ Z M A B) (k : KeptZ Z M B C) : KeptZ Z M A C :=
  ⟨h.1.trans k.1, fun i hi hl => (k.2 i hi (Nat.lt_of_lt_of_le hl h.1.size)).trans (h.2 i hi hl)⟩
theorem KeptZ.less {Z : Nat → Prop} {M M' : Nat → Prop} {A B : World} (h : KeptZ Z M A B) (hm : ∀ k, M' k → M k) : KeptZ Z M' A B := ⟨h.1, fun i hi hl => h.2 i (hm i hi) hl⟩

/-- An iterator's value: it hands on the elements of L in their order, till a round says 'no more'. C: the blocks that it reads. -/
def GivesZ (P : Program) (g : Nat) (lb : Array Value) (encs : α → Array Value) (Z : Nat → Prop) (C : Nat → Prop) (L : List α) (w : World) : Prop :=
  ∀ (l : Nat) (J Jx : (Nat → Prop) → List α → World → Prop) (M : Nat → Prop) (W : World), Below w.heap.size w W → (∀ k, C k → M k ∨ Z k) → BidesZ Z J → BidesZ Z Jx →
    (∀ M pre x W1, pre ++ [x] <+: L → J M pre W1 → YieldAt Fence.wide 0 P l (encs x) W1 fun e W' => KeptZ Z M W1 W' ∧
      ((e = .returned (.bool true) ∧ J M (pre ++ [x]) W') ∨ (e = .returned (.bool false) ∧ Jx M (pre ++ [x]) W'))) →
    J M [] W →
    Calls P g (#[.func (.yield l) #[] #[]] ++ lb) W fun e W' => (∃ v, e = .returned v) ∧ ∃ M', J M' L W' ∨ ∃ pre, Jx M' pre W'
theorem GivesZ.later {P : Program} {g : Nat} {lb : Array Value} {encs : α → Array Value} {Z : Nat → Prop} {C : Nat → Prop} {L : List α} {w w' : World}
    (h : GivesZ P g lb encs Z C L w) (hb : Below w.heap.size w w') : GivesZ P g lb encs Z C L w' :=
  fun l J Jx M W hW => h l J Jx M W (hb.trans (hW.mono hb.size))

theorem roundIn_anyZ {P : Program} {n m l : Nat} {f : FuncId} {tmps : Array Value} {assign body : Code} {w : World} {R : Ending → World → Prop}
    (h : RoundIn Fence.wide n P l f tmps assign body w R) : RoundIn Fence.wide m P l f tmps assign body w R := ⟨h.1, fun c cs _ => h.2 c cs (room_wide _)⟩
/-- How a round's body may be left. -/
def EndsZ (Z : Nat → Prop) (M : Nat → Prop) (I : (Nat → Prop) → List α → World → Prop) (Ix : Code → (Nat → Prop) → List α → World → Prop) (xs : List α) (W : World) : Exit → Act → World → Prop
  | .normal, _, W' => KeptZ Z M W W' ∧ I M xs W'
  | .ret, _, W' => KeptZ Z M W W' ∧ Ix .ret M xs W'
  | .exit id, _, W' => KeptZ Z M W W' ∧ Ix (.exit id) M xs W'
  | .goto t, _, W' => KeptZ Z M W W' ∧ Ix (.goto t) M xs W'
  | .panic _, _, _ => False
  | .outgrown, _, _ => False

theorem hold_turned {Z : Nat → Prop} {W : World} {l : Nat} (o : Obj) (h : ¬ Z l) : Hold Z W (W.putObj l o) :=
  ⟨rfl, rfl, rfl, by simp, fun k hk _ => World.putObj_heap_other (by rintro rfl; exact h hk)⟩
theorem kept_turnedZ {Z : Nat → Prop} {M : Nat → Prop} {W : World} {l : Nat} (o : Obj) (h : ¬ Z l) (hM : ¬ M l) : KeptZ Z M W (W.putObj l o) :=
  ⟨hold_turned o h, fun _ hk _ => World.putObj_heap_other (fun e => hM (e ▸ hk))⟩
theorem BidesZ.turned {Z : Nat → Prop} {J : (Nat → Prop) → List α → World → Prop} (h : BidesZ Z J) {M : Nat → Prop} {pre : List α} {W : World} {l : Nat} (o : Obj) (hj : J M pre W) (hn : ¬ Z l) (hM : M l) : J M pre (W.putObj l o) :=
  h M M pre W _ hj (hold_turned o hn) (fun _ _ hk => World.putObj_heap_other (fun e => hk (e ▸ hM))) (fun _ hk => .inl hk)
theorem BidesZ.more {Z : Nat → Prop} {J : (Nat → Prop) → List α → World → Prop} (h : BidesZ Z J) {M M' : Nat → Prop} {pre : List α} {W W' : World} (hj : J M pre W) (hb : Below W.heap.size W W')
    (hM : ∀ k, M' k → M k ∨ (W.heap.size ≤ k ∧ k < W'.heap.size)) : J M' pre W' :=
  h M M' pre W W' hj (hold_of_below hb) (fun k hk _ => hb.block k hk) hM

set_option maxHeartbeats 1000000 in
/-- A loop over an iterator's value, in a function's own frame. -/
theorem range_givesZ {P : Program} {n : Nat} {g : Operand} {ps : Array Tmp} {assign body : Code} {Q : Exit → Act → World → Prop} {a : Act} {w : World}
    {gf : Nat} {lb : Array Value} (hg : a.eval g = .func (.func gf) #[] lb) (eg : ∀ args w, (callFunc gf args).run P w = .ok (.enter gf args) w)
    {encs : α → Array Value} {Z : Nat → Prop} {C : Nat → Prop} {L : List α} (hseq : GivesZ P gf lb encs Z C L w) (hps : ∀ x, (encs x).size = ps.size) (hZ : ∀ k, Z k → k < w.heap.size)
    (M₀ : Nat → Prop) (hC : ∀ k, C k → M₀ k ∨ Z k) (hM₀ : ∀ k, M₀ k → k < w.heap.size)
    (I : (Nat → Prop) → List α → World → Prop) (Ix : Code → (Nat → Prop) → List α → World → Prop) (hI : BidesZ Z I) (hIx : ∀ c, BidesZ Z (Ix c)) (h0 : I M₀ [] w)
    (hround : ∀ (l : Nat) (M : Nat → Prop) (pre : List α) (x : α) (W : World), w.heap.size ≤ l → M l → l < W.heap.size → pre ++ [x] <+: L → I M pre W →
      assign.wpIn (Fence.wide.inRound l) n P (Exit.then (fun a' W' => KeptZ Z M W W' ∧ ∀ o, body.wpIn (Fence.wide.inRound l) n P (EndsZ Z M I Ix (pre ++ [x]) (W'.putObj l o)) a' (W'.putObj l o)) (fun _ _ _ => False))
        { tmps := (ps.zip (encs x)).foldl (fun t (p, v) => t.setIfInBounds p v) a.tmps, defers := [] } W)
    (hdone : ∀ (D : Nat) (M : Nat → Prop) (W : World), w.heap.size ≤ D → D < W.heap.size → M D → I M L W → W.heap[D]? = some (.deferred (some [])) → Q .normal { a with defers := { target := .collected D, args := #[] } :: a.defers } W)
    (hstop : ∀ (D : Nat) (c : Code) (M : Nat → Prop) (pre : List α) (W : World), w.heap.size ≤ D → D < W.heap.size → M D → Ix c M pre W → W.heap[D]? = some (.deferred (some [])) → c.wpIn Fence.wide n P Q { a with defers := { target := .collected D, args := #[] } :: a.defers } W) :
    (Code.rangeFunc g ps assign body).wpIn Fence.wide n P Q a w := by
  refine wpIn_rangeFunc fun fn hfn => ?_
  obtain ⟨rc, hrc⟩ : ∃ rc : LoopState → Option Code → Loop, rc = fun st pe => { state := st, pending := pe, fn, tmps := a.tmps, params := ps, assign, body, defers := w.heap.size } := ⟨_, rfl⟩
  obtain ⟨l, hl⟩ : ∃ l, l = w.heap.size + 1 := ⟨_, rfl⟩
  obtain ⟨D, hD⟩ : ∃ D, D = w.heap.size := ⟨_, rfl⟩
  obtain ⟨V, hV⟩ : ∃ V, V = (w.alloc (.deferred (some []))).alloc (.loop (rc .ready none)) := ⟨_, rfl⟩
  have hVs : V.heap.size = w.heap.size + 2 := by rw [hV]; simp
  have hVl : V.heap[l]? = some (.loop (rc .ready none)) := by
    rw [hV, hl]; have := World.alloc_heap_new (w.alloc (.deferred (some []))) (.loop (rc .ready none)); rwa [World.size_alloc] at this
  have hVD : V.heap[D]? = some (.deferred (some [])) := by
    rw [hV, hD]; exact (Below.heap_alloc _ _ _ (by simp)).trans (World.alloc_heap_new w _)
  have hVw : Below w.heap.size w V := by rw [hV]; exact ((Below.refl _ w).alloc (Nat.le_refl _) _).alloc (by simp) _
  have hDl : D < l := by omega
  have hZl : ¬ Z l := fun h => by have := hZ l h; omega
  -- what the iterator is told of M, and what the body is told
  let U : (Nat → Prop) → Nat → Prop := fun M k => M k ∨ k = D ∨ k = l
  let Book : (Nat → Prop) → Loop → World → Prop := fun M r W => ¬ M D ∧ ¬ M l ∧ l < W.heap.size ∧ W.heap[l]? = some (.loop r) ∧ W.heap[D]? = some (.deferred (some []))
  have book : ∀ {M M' : Nat → Prop} {r : Loop} {W W' : World}, Book M r W → Hold Z W W' → (∀ k, k < W.heap.size → ¬ M k → W'.heap[k]? = W.heap[k]?) → (∀ k, M' k → M k ∨ (W.heap.size ≤ k ∧ k < W'.heap.size)) → Book M' r W' := by
    rintro M M' r W W' ⟨b1, b2, b3, b4, b5⟩ hb hs hm
    refine ⟨fun h => ?_, fun h => ?_, Nat.lt_of_lt_of_le b3 hb.size, (hs l b3 b2).trans b4, (hs D (by omega) b1).trans b5⟩
    · rcases hm D h with h | h
      · exact b1 h
      · omega
    · rcases hm l h with h | h
      · exact b2 h
      · omega
  have up : ∀ {M M' : Nat → Prop} {W W' : World}, (∀ k, M' k → M k ∨ (W.heap.size ≤ k ∧ k < W'.heap.size)) → ∀ k, U M' k → U M k ∨ (W.heap.size ≤ k ∧ k < W'.heap.size) := by
    rintro M M' W W' h k (hk | hk)
    · exact (h k hk).imp .inl id
    · exact .inl (.inr hk)
  have call := hseq l (fun M pre W => I (U M) pre W ∧ Book M (rc .ready none) W) (fun M pre W => ∃ c, Ix c (U M) pre W ∧ Book M (rc .done (some c)) W) M₀ V hVw hC
    (fun M M' pre W W' hj hb hs hm => ⟨hI _ _ pre W W' hj.1 hb (fun k hk hn => hs k hk (fun h => hn (.inl h))) (up hm), book hj.2 hb hs hm⟩)
    (fun M M' pre W W' hj hb hs hm => by
      obtain ⟨c, hc, hk⟩ := hj
      exact ⟨c, hIx c _ _ pre W W' hc hb (fun k hk hn => hs k hk (fun h => hn (.inl h))) (up hm), book hk hb hs hm⟩)
    (by
      rintro M pre x W hpre ⟨hi, b1, b2, b3, b4, b5⟩
      have hy := run_yield (P := P) (args := encs x) b4 (by rw [hrc]; exact hps x)
      rw [hrc] at hy
      refine ⟨fn, _, assign, body, hy, roundIn_anyZ (n := n) (roundIn_of_wpIn hfn (wpIn_mono (hround l (U M) pre x W (by omega) (.inr (.inr rfl)) b3 hpre hi) ?_))⟩
      clear hy
      intro e1 a1 W1 h1
      cases e1 with
      | normal =>
        obtain ⟨hk1, hbody⟩ := h1
        have l1 := (hk1.2 l (.inr (.inr rfl)) b3).trans b4
        have d1 := (hk1.2 D (.inr (.inl rfl)) (by omega)).trans b5
        refine ⟨_, run_beginRound l1 (by rw [hrc]), ?_⟩
        have s1 : l < W1.heap.size := Nat.lt_of_lt_of_le b3 hk1.1.size
        refine wpIn_mono (hbody _) ?_
        have fin : ∀ (jump : Option Code) (W3 : World), KeptZ Z (U M) (W1.putObj l (.loop { rc .ready none with state := .busy })) W3 →
            (Instr.endRound l jump).run P W3 = .ok (.bool jump.isNone) (W3.putObj l (.loop (rc (if jump.isNone then .ready else .done) jump))) ∧
            KeptZ Z M W (W3.putObj l (.loop (rc (if jump.isNone then .ready else .done) jump))) ∧ Book M (rc (if jump.isNone then .ready else .done) jump) (W3.putObj l (.loop (rc (if jump.isNone then .ready else .done) jump))) := by
          intro jump W3 hk3
          have l2 : (W1.putObj l (.loop { rc .ready none with state := .busy })).heap[l]? = some (.loop { rc .ready none with state := .busy }) := World.putObj_heap_same s1
          have l3 := (hk3.2 l (.inr (.inr rfl)) (by simpa using s1)).trans l2
          have d3 := (hk3.2 D (.inr (.inl rfl)) (by simp; omega)).trans ((World.putObj_heap_other (by omega)).trans d1)
          have s3 : l < W3.heap.size := Nat.lt_of_lt_of_le s1 (by have := hk3.1.size; simpa using this)
          have r3 := run_endRound (P := P) jump l3
          rw [hrc] at r3 ⊢
          refine ⟨r3, ?_, b1, b2, by simpa using s3, World.putObj_heap_same s3, (World.putObj_heap_other (by omega)).trans d3⟩
          exact ((hk1.less (fun _ h => .inl h)).trans (kept_turnedZ _ hZl b2)).trans ((hk3.less (fun _ h => .inl h)).trans (kept_turnedZ _ hZl b2))
        rintro e a3 W3 hp
        cases e with
        | normal =>
          obtain ⟨hk3, hi3⟩ := hp
          obtain ⟨hr, hk, hbk⟩ := fin none W3 hk3
          exact ⟨_, _, hr, hk, .inl ⟨rfl, hI.turned _ hi3 hZl (.inr (.inr rfl)), hbk⟩⟩
        | ret =>
          obtain ⟨hk3, hi3⟩ := hp
          obtain ⟨hr, hk, hbk⟩ := fin (some .ret) W3 hk3
          exact ⟨_, _, hr, hk, .inr ⟨rfl, .ret, (hIx _).turned _ hi3 hZl (.inr (.inr rfl)), hbk⟩⟩
        | exit id =>
          obtain ⟨hk3, hi3⟩ := hp
          obtain ⟨hr, hk, hbk⟩ := fin (some (.exit id)) W3 hk3
          exact ⟨_, _, hr, hk, .inr ⟨rfl, .exit id, (hIx _).turned _ hi3 hZl (.inr (.inr rfl)), hbk⟩⟩
        | goto t =>
          obtain ⟨hk3, hi3⟩ := hp
          obtain ⟨hr, hk, hbk⟩ := fin (some (.goto t)) W3 hk3
          exact ⟨_, _, hr, hk, .inr ⟨rfl, .goto t, (hIx _).turned _ hi3 hZl (.inr (.inr rfl)), hbk⟩⟩
        | panic ch => exact hp.elim
        | outgrown => exact hp.elim
      | ret => exact h1.elim
      | exit id => exact h1.elim
      | goto t => exact h1.elim
      | panic ch => exact h1.elim
      | outgrown => exact h1.elim)
    ⟨hI.more h0 hVw (fun k hk => by
        rcases hk with hk | hk | hk
        · exact .inl hk
        · exact .inr (by omega)
        · exact .inr (by omega)),
      fun h => by have := hM₀ D h; omega, fun h => by have := hM₀ l h; omega, by omega, hVl, hVD⟩
  refine ⟨l, [{ target := .collected D, args := #[] }], V, { target := .fn (.func gf) lb, args := #[.func (.yield l) #[] #[]] }, V, gf, #[.func (.yield l) #[] #[]] ++ lb, V, ?_, ?_, ?_, ?_, fun h => by simp [Fence.wide] at h, ?_⟩
  · rw [hV, hD, hl, hrc]; exact run_enterLoop_outer _ _ _ _ _
  · simp only [resolve, hg]
    simp [go_sem]
  · intro f' _; exact trivial
  · simp [invoke, go_sem, eg]
  · refine callsIn_wide.2 (call.mono ?_)
    rintro e W2 ⟨⟨v, rfl⟩, M, (⟨hi, b1, b2, b3, b4, b5⟩ | ⟨pre, c, hi, b1, b2, b3, b4, b5⟩)⟩
    · refine ⟨none, _, by have := run_endLoop (P := P) b4 (by rw [hrc]; simp); rw [hrc] at this; exact this, hdone D (U M) _ (by omega) (by simp; omega) (.inr (.inl rfl)) (hI.turned _ hi hZl (.inr (.inr rfl))) ((World.putObj_heap_other (by omega)).trans b5)⟩
    · refine ⟨some c, _, by have := run_endLoop (P := P) b4 (by rw [hrc]; simp); rw [hrc] at this; exact this, hstop D c (U M) pre _ (by omega) (by simp; omega) (.inr (.inl rfl)) ((hIx c).turned _ hi hZl (.inr (.inr rfl))) ((World.putObj_heap_other (by omega)).trans b5)⟩

/-- At a function's return: the marks of its loops are taken off, each block shut. -/
theorem leave_marksZ {F : Fence} {n : Nat} {P : Program} {fn : Func} {tmps : Array Value} {R : Ending → World → Prop} :
    ∀ (ds : List Nat) (W : World), ds.Nodup → (∀ D ∈ ds, W.heap[D]? = some (.deferred (some []))) →
      (∀ W', W'.os = W.os → W'.tape = W.tape → W'.output = W.output → W'.heap.size = W.heap.size → (∀ k, k ∉ ds → W'.heap[k]? = W.heap[k]?) → LeavesIn F n P fn tmps R [] .returning W') →
      LeavesInM F n P fn tmps R (ds.map fun D => { target := .collected D, args := #[] }) .returning W
  | [], W, _, _, h => h W rfl rfl rfl rfl (fun _ _ => rfl)
  | D :: ds, W, hnd, hd, h => by
    refine ⟨by simp, .inl ⟨D, _, rfl, run_takeDeferred (hd D (by simp)), ?_⟩⟩
    have hn := List.nodup_cons.1 hnd
    refine leave_marksZ ds _ hn.2 (fun E hE => (World.putObj_heap_other (by rintro rfl; exact hn.1 hE)).trans (hd E (by simp [hE]))) (fun W' h1 h2 h3 h4 h5 => ?_)
    refine h W' (h1.trans rfl) (h2.trans rfl) (h3.trans rfl) (h4.trans (by simp)) (fun k hk => ?_)
    simp only [List.mem_cons, not_or] at hk
    exact (h5 k hk.2).trans (World.putObj_heap_other hk.1)
end
end Go.Proofs.YtmalopciboikhaaGreatDoor.Ls
end
section
namespace Go.Proofs.YtmalopciboikhaaGreatDoor.Ls
open Go.Proofs.YtmalopciboikhaaGreatDoor
set_option maxRecDepth 100000
open Go.RowKit Go.Shelf
attribute [local go_sem] Oper.semAt_some

theorem backward_any (A : Option Addr) (n c : Nat) (w : World) :
    Calls Tryz.prog 173 #[.slice A n c] w fun e w' => e = .returned (.func (.func 177) #[] #[.pointer (some ⟨w.heap.size, 0, none⟩)]) ∧ w' = w.alloc (.cells #[.slice A n c] 22) := by
  have hmf : ∀ (fn : Fn) (first cap : Array Value) (w : World), (Instr.makeFunc fn first cap).run Tryz.prog w = .ok (.func fn first cap) w := fun _ _ _ _ => rfl
  go_enter Tryz.func173, Tryz.ntmps173
  go_wp2
  go_ret
  exact ⟨rfl, rfl⟩

/-- The places of n numbers, the last one first. -/
def downL (n : Nat) : List Nat := (List.range n).reverse
theorem downL_length (n : Nat) : (downL n).length = n := by simp [downL]
theorem downL_get (n q : Nat) (h : q < n) : (downL n)[n - (q + 1)]? = some q := by
  unfold downL
  rw [List.getElem?_reverse (by simp; omega)]
  rw [List.getElem?_eq_getElem (by simp; omega)]
  simp
  omega
theorem next_at {L : List Nat} {j : Nat} {x : Nat} (h : L[j]? = some x) : L.take (j + 1) = L.take j ++ [x] := by
  obtain ⟨hj, hx⟩ := List.getElem?_eq_some_iff.1 h
  rw [List.take_succ_eq_append_getElem hj, hx]
theorem pre_at {L : List Nat} {j : Nat} {x : Nat} (h : L[j]? = some x) : L.take j ++ [x] <+: L := by
  rw [← next_at h]
  exact List.take_prefix _ _
def encB (xs : List Int) (i : Nat) : Array Value := #[.int .i64 i, .int .i64 (xs[i]?.getD 0)]

theorem Hold.cell {Z : Nat → Prop} {w w' : World} (h : Hold Z w w') {b o : Nat} {v : Value} (hb : Z b) (hc : w.cell? ⟨b, o, none⟩ = some v) : w'.cell? ⟨b, o, none⟩ = some v :=
  (World.cell?_of_block (a := ⟨b, o, none⟩) (h.block b hb (World.block_lt_of_cell? w _ hc))).trans hc
theorem Hold.row {Z : Nat → Prop} {w w' : World} (h : Hold Z w w') {B n : Nat} {A : Option Addr} {xs : List Int} (hr : Row w B A n xs) (hz : ∀ x, A = some x → Z x.block) : Row w' B A n xs :=
  ⟨hr.1, fun hn => by
    obtain ⟨b, off, rfl, hlt, hc⟩ := hr.2 hn
    exact ⟨b, off, rfl, hlt, fun i hi => h.cell (hz _ rfl) (hc i hi)⟩⟩

set_option maxRecDepth 100000 in
set_option maxHeartbeats 1000000 in
theorem back_gives (Z C : Nat → Prop) (c0 B : Nat) (A : Option Addr) (n c : Nat) (xs : List Int) (w : World) (hn : n ≤ 2000000) (h0 : w.cell? ⟨c0, 0, none⟩ = some (.slice A n c)) (hr : Row w B A n xs) (hB : B ≤ w.heap.size) (hz : Z c0) (hzA : ∀ x, A = some x → Z x.block) :
    GivesZ Tryz.prog 177 #[.pointer (some ⟨c0, 0, none⟩)] (encB xs) Z C (downL n) w := by
  intro l J Jx M W hW _ _ _ hY hJ0
  have l0 : c0 < w.heap.size := World.block_lt_of_cell? w _ h0
  have c0' : W.cell? ⟨c0, 0, none⟩ = some (.slice A n c) := (hW.cell (p := ⟨c0, 0, none⟩) l0).trans h0
  have r0 : Row W B A n xs := hr.over hW hB
  have HY := Lib.hid hY
  have HJ := Lib.hid hJ0
  have HZ := Lib.hid hz
  have HA := Lib.hid hzA
  have HR := Lib.hid r0
  clear hY hJ0 hW h0 l0 hz hzA hr r0 hB
  refine (callsIn_wide (n := 1)).1 ?_
  refine callsIn_of_wp Tryz.func177 rfl trivial ?_ rfl
  simp only [Tryz.ntmps177, List.size_toArray, List.length_cons, List.length_nil, Nat.reduceAdd, Nat.reduceSub, Array.replicate_succ, Array.replicate_zero, List.push_toArray, List.append_toArray, List.nil_append, List.cons_append]
  gi_wp2
  gi_loopw [3] (fun i wr => ∃ p : Nat, p ≤ n ∧ i = .int .i64 ((p : Int) - 1) ∧ Hid (J M ((downL n).take (n - p)) wr) ∧ wr.cell? ⟨c0, 0, none⟩ = some (.slice A n c) ∧ Hid (Row wr B A n xs))
    (fun i _ => (intOf i + 1).toNat)
  case atStart => exact ⟨n, Nat.le_refl _, rfl, Lib.hid (by simpa using HJ.out), c0', HR⟩
  case round =>
    clear c0' HJ HR
    obtain ⟨p, hp, rfl, HJ, c1, HR⟩ := hrel
    cases p with
    | zero =>
      have e : ((0 : Nat) : Int) - 1 = -1 := by omega
      rw [e]
      have HT := Lib.hid (List.take_of_length_le (l := downL n) (i := n - 0) (by rw [downL_length]; omega))
      clear c1
      gi_wp2
      go_end0
      exact ⟨⟨_, rfl⟩, M, .inl (by have := HJ.out; rwa [HT.out] at this)⟩
    | succ q =>
      have e : ((q + 1 : Nat) : Int) - 1 = q := by omega
      rw [e]
      have hq : q < n := by omega
      obtain ⟨b, off, hA, hbl, hc⟩ := HR.out.2 (by omega)
      have hcq := hc q hq
      have hg := downL_get n q hq
      have HN := Lib.hid (next_at hg)
      obtain ⟨fn, tmps, assign, body, hy, hRd⟩ := HY.out M _ q wr (pre_at hg) HJ.out
      have HRd := Lib.hid hRd
      dsimp only [encB] at hy
      clear hg hRd hc e
      subst hA
      gi_wp2
      refine (roundIn_anyZ HRd.out).mono ?_
      rintro e W3 ⟨hk3, (⟨rfl, hJ3⟩ | ⟨rfl, hx3⟩)⟩
      · have c3 := hk3.1.cell HZ.out c1
        have R3 := Lib.hid (hk3.1.row HR.out HA.out)
        have HJ3 := Lib.hid hJ3
        have en : n - (q + 1) + 1 = n - q := by omega
        have HE := Lib.hid en
        clear hk3 hJ3 c1 HRd hy hcq en
        gi_wp2
        go_roundw
        case rel => exact ⟨q, by omega, by go_num, Lib.hid (by rw [← HE.out, HN.out]; exact HJ3.out), c3, R3⟩
        case measure => simp [intOf]
      · have HX := Lib.hid hx3
        clear hk3 hx3 c1 HRd hy hcq
        gi_wp2
        refine bodyPost_ret (results_none rfl _ _ _) rfl ?_
        exact ⟨⟨_, rfl⟩, M, .inr ⟨_, HX.out⟩⟩
end Go.Proofs.YtmalopciboikhaaGreatDoor.Ls
end
section
namespace Go.Proofs.YtmalopciboikhaaGreatDoor.Ls
open Go.Proofs.YtmalopciboikhaaGreatDoor
set_option maxRecDepth 100000
open Go.RowKit Go.Shelf

theorem upd_upd {α : Type} (u : Nat → α) (k : Nat) (a b : α) : upd (upd u k a) k b = upd u k b := by
  funext j
  by_cases e : j = k
  · rw [e, upd_same, upd_same]
  · rw [upd_other _ _ e, upd_other _ _ e, upd_other _ _ e]

/-- Append, as a step of a region that draws its order, inside a fence. -/
theorem stepIn_cat {F : Fence} {n' : Nat} {w : World} {ops : Array Oper} {o : Oper} {a : Act} {K : Act → World → Prop} {Q : Exit → Act → World → Prop} {E : Prop} (hgd : o.guard = none) (s x : Operand)
    (ho : o.op = .call { callee := .builtin .append, args := #[s, x], argTypes := #[22, 22] }) {base B m cp n c : Nat} {p A : Option Addr} {xs ys : List Int}
    (hs : a.eval s = .slice p m cp) (hx : a.eval x = .slice A n c) (h : w.ownsRow base 3 1 (.slice p m cp) m (xs.map (Value.int .i64))) (hr : Row w B A n ys) (hb : base ≤ w.heap.size) (hlen : m + n ≤ 4000000)
    (hK : ∀ p' cp' w', Catted w base (.slice p m cp) ⟨p', m + n, cp'⟩ (xs ++ ys) w' → K (a.put o.dst (.slice p' (m + n) cp')) w') : if Region.wanted o (yielded ops a.tmps) then o.wpIn F n' Tryz.prog a w K Q else E := by
  have hw : Region.wanted o (yielded ops a.tmps) = true := by simp [Region.wanted, hgd]
  rw [if_pos hw]
  obtain ⟨p', cp', w', hrun, h1, h2, h3⟩ := run_cat (c := c) o.type h hr hb hlen
  refine ⟨?_, ?_⟩
  · simp [Oper.about, ho, resolve, Target.leads, Sem.run_pure]
  · rw [Oper.semAt_plain F _ _ (by rw [ho]; intro c hc'; cases hc')]
    simp only [execOp, ho, resolve, invoke, builtin, Sem.run_bind, Sem.run_pure, Result.andThen_ok, List.map_toArray, List.map_cons, List.map_nil, hs, hx, hrun]
    exact hK p' cp' w' ⟨h1, h2, h3⟩

theorem wpOpIn_cat {F : Fence} {n' i : Nat} {w : World} {ops : Array Oper} {o : Oper} {a : Act} {K : Act → World → Prop} {Q : Exit → Act → World → Prop} (hi : ops[i]? = some o) (hgd : o.guard = none) (s x : Operand)
    (ho : o.op = .call { callee := .builtin .append, args := #[s, x], argTypes := #[22, 22] }) {base B m cp n c : Nat} {p A : Option Addr} {xs ys : List Int}
    (hs : a.eval s = .slice p m cp) (hx : a.eval x = .slice A n c) (h : w.ownsRow base 3 1 (.slice p m cp) m (xs.map (Value.int .i64))) (hr : Row w B A n ys) (hb : base ≤ w.heap.size) (hlen : m + n ≤ 4000000)
    (hK : ∀ p' cp' w', Catted w base (.slice p m cp) ⟨p', m + n, cp'⟩ (xs ++ ys) w' → K (a.put o.dst (.slice p' (m + n) cp')) w') : wpOpIn F n' Tryz.prog ops Q i K a w :=
  wpOpIn_of hi (stepIn_cat hgd s x ho hs hx h hr hb hlen hK)
theorem Res.same {base : Nat} {W w w' : World} {R : Nat → Option Thing} (h : Res base W w R) (hb : Below base w w') (hs : ∀ r t, R r = some t → ∀ b, t.blk b → w'.heap[b]? = w.heap[b]?) : Res base W w' R :=
  ⟨h.bel.trans hb, fun r t hr => ⟨t.stab w w' (h.ok r t hr).1 hb.size (hs r t hr), fun b hbk => ⟨((h.ok r t hr).2 b hbk).1, Nat.lt_of_lt_of_le ((h.ok r t hr).2 b hbk).2 hb.size⟩⟩, h.apart⟩

/-- Between two rounds: xs has been moved. -/
structure MvL (base : Nat) (W5 wl : World) (Z : Nat → Prop) (g : Nat → List Int) (k d2 : Nat) (xs : List Int) (M : Nat → Prop) (W : World) (V : Nat → Sl) (R : Nat → Option Thing) : Prop where
  hold : Hold Z wl W
  res : Res base W5 W R
  r1 : R 1 = some (tOwn base V (upd g k (g k ++ xs)))
  r3 : R 3 = some (tBox d2 V)
  off : ∀ r t, R r = some t → ∀ b, t.blk b → ¬ Z b ∧ ¬ M b
  fit : ∀ b, M b → b < W.heap.size
  zfit : ∀ b, Z b → b < wl.heap.size
  low : ∀ b, b < base → Z b
  big : base ≤ W.heap.size
section
variable {base k d2 : Nat} {W5 wl W W' : World} {Z M M' : Nat → Prop} {g : Nat → List Int} {xs : List Int} {V : Nat → Sl} {R : Nat → Option Thing}
theorem MvL.bides (h : MvL base W5 wl Z g k d2 xs M W V R) (hz : Hold Z W W') (hs : ∀ j, j < W.heap.size → ¬ M j → W'.heap[j]? = W.heap[j]?) (hm : ∀ j, M' j → M j ∨ (W.heap.size ≤ j ∧ j < W'.heap.size)) : MvL base W5 wl Z g k d2 xs M' W' V R := by
  refine ⟨h.hold.trans hz, h.res.same ⟨hz.os, hz.tape, hz.output, hz.size, fun b hb => hz.block b (h.low b hb) (Nat.lt_of_lt_of_le hb h.big)⟩ (fun r t hr b hb => hs b ((h.res.ok r t hr).2 b hb).2 (h.off r t hr b hb).2), h.r1, h.r3, fun r t hr b hb => ⟨(h.off r t hr b hb).1, fun hM => ?_⟩, fun b hb => ?_, h.zfit, h.low, Nat.le_trans h.big hz.size⟩
  · rcases hm b hM with hm | hm
    · exact (h.off r t hr b hb).2 hm
    · have := ((h.res.ok r t hr).2 b hb).2
      omega
  · rcases hm b hb with hm | hm
    · exact Nat.lt_of_lt_of_le (h.fit b hm) hz.size
    · exact hm.2
theorem MvL.own (h : MvL base W5 wl Z g k d2 xs M W V R) : Own3 W base V (upd g k (g k ++ xs)) := h.res.own h.r1
theorem MvL.box (h : MvL base W5 wl Z g k d2 xs M W V R) : Box3 W d2 V := h.res.box h.r3

/-- A round's end: one number more. -/
theorem MvL.moved (h : MvL base W5 wl Z g k d2 xs M W V R) (hk : k < 3) {s : Sl} {a : Int} {o : Obj} {w2 : World} (hc : Catted (W.drew.alloc o) base (.slice (V k).a (V k).n (V k).c) s (g k ++ xs ++ [a]) w2) :
    KeptZ Z M W (w2.setCell ⟨d2, k, none⟩ (.slice s.a s.n s.c)) ∧ ∃ V' R', MvL base W5 wl Z g k d2 (xs ++ [a]) M (w2.setCell ⟨d2, k, none⟩ (.slice s.a s.n s.c)) V' R' := by
  have hbig := h.big
  have RD : Res base W5 W.drew R := h.res.drewN 1
  have R1 := RD.catted (b0 := base) h.big h.r1 hk (s := s) (xs := g k ++ xs ++ [a]) hc hc.own
  have hsz : (W.drew.alloc o).heap.size = W.heap.size + 1 := by simp
  have hs2 : W.heap.size + 1 ≤ w2.heap.size := by have := hc.grown.size; omega
  have R2 := R1.set (by omega) (r := 3) (d := d2) (k := k) (z := V) (by rw [upd_other _ _ (by decide)]; exact h.r3) hk s
  have lies : ∀ q, (Value.slice (V k).a (V k).n (V k).c).ownBlock = some q → (tOwn base V (upd g k (g k ++ xs))).blk q := fun q hq => by
    rw [ownBlock_slice] at hq
    cases hx : (V k).a with
    | none => rw [hx] at hq; cases hq
    | some x =>
      rw [hx] at hq
      simp at hq
      exact ⟨k, x, hk, hx, hq⟩
  have keep : ∀ b, b < W.heap.size → (Z b ∨ M b) → (w2.setCell ⟨d2, k, none⟩ (.slice s.a s.n s.c)).heap[b]? = W.heap[b]? := fun b hb hzm => by
    have n1 : ¬ (tOwn base V (upd g k (g k ++ xs))).blk b := fun hbk => by
      have := h.off 1 _ h.r1 b hbk
      rcases hzm with hz | hz
      · exact this.1 hz
      · exact this.2 hz
    have n2 : ¬ b = d2 := fun e => by
      have := h.off 3 _ h.r3 b e
      rcases hzm with hz | hz
      · exact this.1 hz
      · exact this.2 hz
    refine (Below.heap_setCell _ _ _ _ n2).trans ((hc.grown.block b (by omega) (fun e => n1 (lies b e.symm))).trans (Below.heap_alloc _ _ _ hb))
  have hH : Hold Z W (w2.setCell ⟨d2, k, none⟩ (.slice s.a s.n s.c)) :=
    ⟨hc.grown.os, hc.grown.tape, hc.grown.output, by simp [World.setCell]; omega, fun b hz hb => keep b hb (.inl hz)⟩
  refine ⟨⟨hH, fun b hM hb => keep b hb (.inr hM)⟩, upd V k s, _, h.hold.trans hH, R2, ?_, upd_same _ _ _, ?_, fun b hM => ?_, h.zfit, h.low, by simp [World.setCell]; omega⟩
  · rw [upd_other _ _ (by decide), upd_same, upd_upd, List.append_assoc]
  · intro r t hr b hb
    have old : ∀ b, (tOwn base V (upd g k (g k ++ xs))).blk b ∨ W.heap.size ≤ b → ¬ Z b ∧ ¬ M b := fun b hb => by
      rcases hb with hb | hb
      · exact h.off 1 _ h.r1 b hb
      · refine ⟨fun hz => ?_, fun hM => ?_⟩
        · have := h.zfit b hz
          have := h.hold.size
          omega
        · have := h.fit b hM
          omega
    by_cases e3 : r = 3
    · subst e3
      rw [upd_same] at hr
      cases hr
      exact h.off 3 _ h.r3 b hb
    · rw [upd_other _ _ e3] at hr
      by_cases e1 : r = 1
      · subst e1
        rw [upd_same] at hr
        cases hr
        obtain ⟨j, x, hj, hx, rfl⟩ := hb
        by_cases ej : j = k
        · subst ej
          rw [upd_same] at hx
          rcases hc.lies x hx with e | e
          · exact old _ (.inl (lies _ e))
          · exact old _ (.inr (by omega))
        · rw [upd_other _ _ ej] at hx
          exact old _ (.inl ⟨j, x, hj, hx, rfl⟩)
      · rw [upd_other _ _ e1] at hr
        exact h.off r t hr b hb
  · have := h.fit b hM
    simp [World.setCell]
    omega
end

/-- In a round's region: what has been carried out. -/
structure MvRd (V0 : World) (base k d2 : Nat) (s0 : Sl) (ys : List Int) (a : Int) (l : Nat → Bool) (x48 x49 x50 x51 x52 x53 x54 x55 : Value) (w : World) (s : Sl) : Prop where
  s0_ : l 0 = true → x48 = .int .i64 k
  s1 : l 1 = true → x49 = .int .i64 k
  s2 : l 2 = true → x50 = .pointer (some ⟨d2, k, none⟩)
  s3 : l 3 = true → x51 = .slice s0.a s0.n s0.c
  s4 : l 4 = true → x52 = .int .i64 a
  s7 : l 7 = true → x55 = .pointer (some ⟨d2, k, none⟩)
  p0 : l 5 = false → w = V0.drew
  p1 : l 5 = true → l 6 = false → w = V0.drew.alloc (.cells #[.int .i64 a] 3) ∧ x53 = .slice (some ⟨V0.heap.size, 0, none⟩) 1 1
  p2 : l 6 = true → l 8 = false → Catted (V0.drew.alloc (.cells #[.int .i64 a] 3)) base (.slice s0.a s0.n s0.c) s ys w ∧ x54 = .slice s.a s.n s.c
  p3 : l 8 = true → ∃ w2, Catted (V0.drew.alloc (.cells #[.int .i64 a] 3)) base (.slice s0.a s0.n s0.c) s ys w2 ∧ w = w2.setCell ⟨d2, k, none⟩ (.slice s.a s.n s.c)
  o6 : l 6 = true → l 5 = true
  o8 : l 8 = true → ∀ j, j < 8 → l j = true
section
variable {V0 w w' : World} {base k d2 : Nat} {s0 s : Sl} {ys : List Int} {a : Int} {l : Nat → Bool} {x48 x49 x50 x51 x52 x53 x54 x55 : Value}
theorem MvRd.start (x48 x49 x50 x51 x52 x53 x54 x55 : Value) (s : Sl) : MvRd V0 base k d2 s0 ys a (fun _ => false) x48 x49 x50 x51 x52 x53 x54 x55 V0.drew s :=
  ⟨(fun h => by cases h), (fun h => by cases h), (fun h => by cases h), (fun h => by cases h), (fun h => by cases h), (fun h => by cases h), fun _ => rfl, (fun h => by cases h), (fun h => by cases h), (fun h => by cases h), (fun h => by cases h), (fun h => by cases h)⟩
/-- Old blocks are as they were, but for the one that is appended to. -/
theorem MvRd.old (h : MvRd V0 base k d2 s0 ys a l x48 x49 x50 x51 x52 x53 x54 x55 w s) (h8 : l 8 = false) {b : Nat} (hb : b < V0.heap.size) (hne : ∀ x, s0.a = some x → ¬ b = x.block) : w.heap[b]? = V0.heap[b]? ∧ V0.heap.size ≤ w.heap.size := by
  cases h5 : l 5
  · rw [h.p0 h5]
    exact ⟨rfl, Nat.le_refl _⟩
  · cases h6 : l 6
    · rw [(h.p1 h5 h6).1]
      exact ⟨Below.heap_alloc _ _ _ hb, by simp⟩
    · have hc := (h.p2 h6 h8).1
      have hsz : (V0.drew.alloc (.cells #[.int .i64 a] 3)).heap.size = V0.heap.size + 1 := by simp
      refine ⟨(hc.grown.block b (by omega) (fun e => ?_)).trans (Below.heap_alloc _ _ _ hb), by have := hc.grown.size; omega⟩
      rw [ownBlock_slice] at e
      cases hx : s0.a with
      | none => rw [hx] at e; cases e
      | some x =>
        rw [hx] at e
        simp at e
        exact hne x hx e
theorem MvRd.no8 (h : MvRd V0 base k d2 s0 ys a l x48 x49 x50 x51 x52 x53 x54 x55 w s) {i : Nat} (hi : i < 8) (hl : l i = false) : l 8 = false := by
  cases e : l 8
  · rfl
  · rw [h.o8 e i hi] at hl; cases hl
theorem MvRd.no6 (h : MvRd V0 base k d2 s0 ys a l x48 x49 x50 x51 x52 x53 x54 x55 w s) (hl : l 5 = false) : l 6 = false := by
  cases e : l 6
  · rfl
  · rw [h.o6 e] at hl; cases hl
theorem o8_upd {i : Nat} (h : l 8 = true → ∀ j, j < 8 → l j = true) (hi : ¬ i = 8) : upd l i true 8 = true → ∀ j, j < 8 → upd l i true j = true := fun h8 j hj => by
  rw [upd_other _ _ (fun e => hi e.symm)] at h8
  by_cases e : j = i
  · rw [e, upd_same]
  · rw [upd_other _ _ e]; exact h h8 j hj
theorem MvRd.did0 (h : MvRd V0 base k d2 s0 ys a l x48 x49 x50 x51 x52 x53 x54 x55 w s) : MvRd V0 base k d2 s0 ys a (upd l 0 true) (.int .i64 k) x49 x50 x51 x52 x53 x54 x55 w s :=
  ⟨fun _ => rfl, h.s1, h.s2, h.s3, h.s4, h.s7, h.p0, h.p1, h.p2, h.p3, h.o6, o8_upd h.o8 (by decide)⟩
theorem MvRd.did1 (h : MvRd V0 base k d2 s0 ys a l x48 x49 x50 x51 x52 x53 x54 x55 w s) : MvRd V0 base k d2 s0 ys a (upd l 1 true) x48 (.int .i64 k) x50 x51 x52 x53 x54 x55 w s :=
  ⟨h.s0_, fun _ => rfl, h.s2, h.s3, h.s4, h.s7, h.p0, h.p1, h.p2, h.p3, h.o6, o8_upd h.o8 (by decide)⟩
theorem MvRd.did2 (h : MvRd V0 base k d2 s0 ys a l x48 x49 x50 x51 x52 x53 x54 x55 w s) : MvRd V0 base k d2 s0 ys a (upd l 2 true) x48 x49 (.pointer (some ⟨d2, k, none⟩)) x51 x52 x53 x54 x55 w s :=
  ⟨h.s0_, h.s1, fun _ => rfl, h.s3, h.s4, h.s7, h.p0, h.p1, h.p2, h.p3, h.o6, o8_upd h.o8 (by decide)⟩
theorem MvRd.did3 (h : MvRd V0 base k d2 s0 ys a l x48 x49 x50 x51 x52 x53 x54 x55 w s) : MvRd V0 base k d2 s0 ys a (upd l 3 true) x48 x49 x50 (.slice s0.a s0.n s0.c) x52 x53 x54 x55 w s :=
  ⟨h.s0_, h.s1, h.s2, fun _ => rfl, h.s4, h.s7, h.p0, h.p1, h.p2, h.p3, h.o6, o8_upd h.o8 (by decide)⟩
theorem MvRd.did4 (h : MvRd V0 base k d2 s0 ys a l x48 x49 x50 x51 x52 x53 x54 x55 w s) : MvRd V0 base k d2 s0 ys a (upd l 4 true) x48 x49 x50 x51 (.int .i64 a) x53 x54 x55 w s :=
  ⟨h.s0_, h.s1, h.s2, h.s3, fun _ => rfl, h.s7, h.p0, h.p1, h.p2, h.p3, h.o6, o8_upd h.o8 (by decide)⟩
theorem MvRd.did7 (h : MvRd V0 base k d2 s0 ys a l x48 x49 x50 x51 x52 x53 x54 x55 w s) : MvRd V0 base k d2 s0 ys a (upd l 7 true) x48 x49 x50 x51 x52 x53 x54 (.pointer (some ⟨d2, k, none⟩)) w s :=
  ⟨h.s0_, h.s1, h.s2, h.s3, h.s4, fun _ => rfl, h.p0, h.p1, h.p2, h.p3, h.o6, o8_upd h.o8 (by decide)⟩
theorem MvRd.did5 (h : MvRd V0 base k d2 s0 ys a l x48 x49 x50 x51 x52 x53 x54 x55 w s) (hl : l 5 = false) :
    MvRd V0 base k d2 s0 ys a (upd l 5 true) x48 x49 x50 x51 x52 (.slice (some ⟨V0.heap.size, 0, none⟩) 1 1) x54 x55 (V0.drew.alloc (.cells #[.int .i64 a] 3)) s := by
  have h6 := h.no6 hl
  exact ⟨h.s0_, h.s1, h.s2, h.s3, h.s4, h.s7, (fun e => by cases e), fun _ _ => ⟨rfl, rfl⟩, (fun e => by rw [show upd l 5 true 6 = l 6 from rfl, h6] at e; cases e), fun e => (by rw [show upd l 5 true 8 = l 8 from rfl] at e; have := h.o8 e 5 (by decide); rw [hl] at this; cases this), fun _ => rfl, o8_upd h.o8 (by decide)⟩
theorem MvRd.did6 (h : MvRd V0 base k d2 s0 ys a l x48 x49 x50 x51 x52 x53 x54 x55 w s) (h5 : l 5 = true) (h8 : l 8 = false) {s' : Sl} (hc : Catted (V0.drew.alloc (.cells #[.int .i64 a] 3)) base (.slice s0.a s0.n s0.c) s' ys w') :
    MvRd V0 base k d2 s0 ys a (upd l 6 true) x48 x49 x50 x51 x52 x53 (.slice s'.a s'.n s'.c) x55 w' s' :=
  ⟨h.s0_, h.s1, h.s2, h.s3, h.s4, h.s7, (fun e => by rw [show upd l 6 true 5 = l 5 from rfl, h5] at e; cases e), (fun _ e => by cases e), fun _ _ => ⟨hc, rfl⟩, (fun e => by rw [show upd l 6 true 8 = l 8 from rfl, h8] at e; cases e), fun _ => h5, o8_upd h.o8 (by decide)⟩
theorem MvRd.did8 (h : MvRd V0 base k d2 s0 ys a l x48 x49 x50 x51 x52 x53 x54 x55 w s) (hall : ∀ j, j < 8 → l j = true) (h8 : l 8 = false) :
    MvRd V0 base k d2 s0 ys a (upd l 8 true) x48 x49 x50 x51 x52 x53 x54 x55 (w.setCell ⟨d2, k, none⟩ (.slice s.a s.n s.c)) s :=
  ⟨h.s0_, h.s1, h.s2, h.s3, h.s4, h.s7, (fun e => by rw [show upd l 8 true 5 = l 5 from rfl, hall 5 (by decide)] at e; cases e), (fun _ e => by rw [show upd l 8 true 6 = l 6 from rfl, hall 6 (by decide)] at e; cases e), (fun _ e => by cases e), fun _ => ⟨w, (h.p2 (hall 6 (by decide)) h8).1, rfl⟩, h.o6, fun _ j hj => by rw [upd_other _ _ (by omega)]; exact hall j hj⟩
end
/-- The blocks that Move's loop keeps: what was there, the list that is gone through, its box, the iterator's. -/
def MvZ (base : Nat) (U : Nat → Sl) (d1 c0 b : Nat) : Prop := b < base ∨ (tOwn base U noLists).blk b ∨ b = d1 ∨ b = c0
def MvI (base : Nat) (W5 wl : World) (Z : Nat → Prop) (g : Nat → List Int) (k d2 : Nat) (xs : List Int) (M : Nat → Prop) (pre : List Nat) (W : World) : Prop := ∃ V R, MvL base W5 wl Z g k d2 (pre.map fun i => xs[i]?.getD 0) M W V R
theorem MvI.bides (base : Nat) (W5 wl : World) (Z : Nat → Prop) (g : Nat → List Int) (k d2 : Nat) (xs : List Int) : BidesZ Z (MvI base W5 wl Z g k d2 xs) :=
  fun _ _ _ _ _ ⟨V, R, h⟩ hz hs hm => ⟨V, R, h.bides hz hs hm⟩
theorem MvI.start {base k d1 d2 c0 : Nat} {W5 wl : World} {U V : Nat → Sl} {f g : Nat → List Int} {R : Nat → Option Thing} (h : Res base W5 wl R) (r0 : R 0 = some (tOwn base U f)) (r1 : R 1 = some (tOwn base V g)) (r2 : R 2 = some (tBox d1 U)) (r3 : R 3 = some (tBox d2 V))
    (hc : ∀ r t, R r = some t → ∀ b, t.blk b → b < c0) (hl : c0 < wl.heap.size) (hb : base ≤ wl.heap.size) (xs : List Int) : MvI base W5 wl (MvZ base U d1 c0) g k d2 xs (fun _ => False) [] wl := by
  refine ⟨V, fun r => if r = 1 ∨ r = 3 then R r else none, Hold.refl _ _, ⟨h.bel, fun r t hr => ?_, fun r s t t' hr hs hne => ?_⟩, ?_, ?_, fun r t hr b hbk => ⟨?_, fun h => h⟩, fun _ h => h.elim, fun b hz => ?_, fun b hz => .inl hz, hb⟩
  · split at hr
    · exact h.ok r t hr
    · cases hr
  · split at hr
    · split at hs
      · exact h.apart r s t t' hr hs hne
      · cases hs
    · cases hr
  · have e : upd g k (g k ++ ([] : List Nat).map fun i => xs[i]?.getD 0) = g := by
      funext j
      by_cases e : j = k
      · rw [e, upd_same]; simp
      · rw [upd_other _ _ e]
    simp only [true_or, if_true]
    rw [e]
    exact r1
  · simp only [or_true, if_true]
    exact r3
  · split at hr
    · rename_i hor
      have n0 : ¬ r = 0 := by omega
      have n2 : ¬ r = 2 := by omega
      rintro (hz | hz | hz | hz)
      · have := ((h.ok r t hr).2 b hbk).1
        omega
      · exact h.apart r 0 t _ hr r0 n0 b hbk hz
      · exact h.apart r 2 t _ hr r2 n2 b hbk hz
      · have := hc r t hr b hbk
        omega
    · cases hr
  · rcases hz with hz | hz | hz | hz
    · omega
    · exact ((h.ok 0 _ r0).2 b hz).2
    · exact ((h.ok 2 _ r2).2 b hz).2
    · omega

theorem down_map (xs : List Int) : (downL xs.length).map (fun i => xs[i]?.getD 0) = xs.reverse := by
  unfold downL
  rw [List.map_reverse]
  congr 1
  apply List.ext_getElem (by simp)
  intro i h1 h2
  simp [List.getElem?_eq_getElem h2]

/-- The tail of a slice, from a place on. -/
theorem tail_some {w : World} {base k st : Nat} {U : Nat → Sl} {f : Nat → List Int} (ho : Own3 w base U f) (hk : k < 3) (hs : st ≤ (U k).n) :
    Row w w.heap.size (Option.map (fun x => x.add st) (U k).a) ((U k).n - st) ((f k).drop st) ∧ ∀ x, Option.map (fun x => x.add st) (U k).a = some x → (tOwn base U f).blk x.block := by
  have hr := (ho.l3 k hk).1
  refine ⟨⟨by have := hr.1; simp; omega, fun hn => ?_⟩, fun x hx => ?_⟩
  · obtain ⟨b, off, e, hlt, hc⟩ := hr.2 (by omega)
    refine ⟨b, off + st, by rw [e]; simp [Addr.add], hlt, fun i hi => ?_⟩
    have := hc (st + i) (by omega)
    rw [← Nat.add_assoc] at this
    rw [this]
    simp [List.getD]
  · cases hy : (U k).a with
    | none => rw [hy] at hx; cases hx
    | some y =>
      rw [hy] at hx
      simp only [Option.map_some, Option.some.injEq] at hx
      refine ⟨k, y, hk, hy, ?_⟩
      rw [← hx]
      unfold Addr.add
      split <;> rfl
theorem tail_none {w : World} {base k st : Nat} {U : Nat → Sl} {f : Nat → List Int} (ho : Own3 w base U f) (hk : k < 3) (hc : (U k).c = st) (hs : st ≤ (U k).n) :
    Row w w.heap.size (U k).a ((U k).n - st) ((f k).drop st) ∧ ∀ x, (U k).a = some x → (tOwn base U f).blk x.block := by
  have hr := ho.l3 k hk
  refine ⟨⟨by have := hr.1.1; simp; omega, fun hn => by have := hr.2.1; omega⟩, fun x hx => ⟨k, x, hk, hx, rfl⟩⟩

def MoveOut (w : World) (F G : Nat → List Int) (er : Int) (e : Ending) (w' : World) : Prop := ∃ u v, e = .returned (.tuple #[(.agg #[.slice (u 0).a (u 0).n (u 0).c, .slice (u 1).a (u 1).n (u 1).c, .slice (u 2).a (u 2).n (u 2).c]), (.agg #[.slice (v 0).a (v 0).n (v 0).c, .slice (v 1).a (v 1).n (v 1).c, .slice (v 2).a (v 2).n (v 2).c]), .int .i64 er]) ∧ L3 w' w'.heap.size u F ∧ L3 w' w'.heap.size v G ∧ Below w.heap.size w w'
theorem cut_box {W W3 : World} {d k st q : Nat} {U : Nat → Sl} (h : Box3 W d U) (hk : k < 3) (e : W3 = (W.setCell ⟨d, k, none⟩ (.slice (U k).a st (U k).c)).drewN q) : Box3 W3 d (upd U k ⟨(U k).a, st, (U k).c⟩) := by
  rw [e]
  have := h.set hk ⟨(U k).a, st, (U k).c⟩
  exact this.drewN q
theorem cut_other {W W3 : World} {d k st q : Nat} {U : Nat → Sl} (e : W3 = (W.setCell ⟨d, k, none⟩ (.slice (U k).a st (U k).c)).drewN q) : W3.heap.size = W.heap.size ∧ ∀ b, ¬ b = d → W3.heap[b]? = W.heap[b]? := by
  rw [e]
  exact ⟨by simp [World.setCell], fun b hb => Below.heap_setCell _ _ _ _ hb⟩
theorem cut_same {W W3 : World} {d k st q : Nat} {U : Nat → Sl} (e : W3 = (W.setCell ⟨d, k, none⟩ (.slice (U k).a st (U k).c)).drewN q) : W3.os = W.os ∧ W3.tape = W.tape ∧ W3.output = W.output := by
  rw [e]
  exact ⟨rfl, rfl, rfl⟩
/-- What Move leaves: behind the cut of the list that was gone through, and behind the stores of both results. -/
structure MvEnd (w W5 W : World) (D d1 d2 : Nat) (U2 V : Nat → Sl) (F G : Nat → List Int) (W3 : World) : Prop where
  e1 : Box3 W3 d1 U2
  e2 : Box3 W3 d2 V
  e8 : Box3 W3 (w.heap.size + 1 + 1 + 1) noSl
  e9 : Box3 W3 (w.heap.size + 1 + 1 + 1 + 1) noSl
  def_ : W3.heap[D]? = some (.deferred (some []))
  far : w.heap.size + 5 ≤ D
  fin : ∀ W' : World, W'.os = W3.os → W'.tape = W3.tape → W'.output = W3.output → W'.heap.size = W3.heap.size → (∀ b, ¬ b = D → ¬ b = w.heap.size + 1 + 1 + 1 → ¬ b = w.heap.size + 1 + 1 + 1 + 1 → W'.heap[b]? = W3.heap[b]?) →
    L3 W' W'.heap.size U2 F ∧ L3 W' W'.heap.size V G ∧ Below w.heap.size w W'
theorem move_end {k d1 d2 D q3 st : Nat} {w W5 wl W W3 : World} {Z M : Nat → Prop} {U V : Nat → Sl} {f g : Nat → List Int} {xs : List Int} {R : Nat → Option Thing}
    (hL : MvL W5.heap.size W5 wl Z g k d2 xs M W V R) (hk : k < 3) (hU : Own3 W W5.heap.size U f) (hb1 : Box3 W d1 U) (hz1 : Z d1) (h1 : W5.heap.size ≤ d1) (hzU : ∀ j x, j < 3 → (U j).a = some x → Z x.block ∧ ¬ x.block = d1) (hst : st ≤ (U k).n)
    (h5 : W5.heap.size = w.heap.size + 5) (hw : Below w.heap.size w W5) (h8 : Box3 W5 (w.heap.size + 1 + 1 + 1) noSl) (h9 : Box3 W5 (w.heap.size + 1 + 1 + 1 + 1) noSl) (hdef : W.heap[D]? = some (.deferred (some []))) (hDM : M D) (hDZ : ¬ Z D)
    (e3 : W3 = (W.setCell ⟨d1, k, none⟩ (.slice (U k).a st (U k).c)).drewN q3) :
    MvEnd w W5 W D d1 d2 (upd U k ⟨(U k).a, st, (U k).c⟩) V (upd f k ((f k).take st)) (upd g k (g k ++ xs)) W3 := by
  have hb2 := hL.box
  have hV := hL.own
  have hDs : W5.heap.size ≤ D := Nat.le_of_not_lt fun h => hDZ (hL.low D h)
  have bel := hL.res.bel
  have b8 : Box3 W (w.heap.size + 1 + 1 + 1) noSl := h8.below bel (by omega)
  have b9 : Box3 W (w.heap.size + 1 + 1 + 1 + 1) noSl := h9.below bel (by omega)
  have n2 : ¬ d2 = d1 := fun e => (hL.off 3 _ hL.r3 d2 rfl).1 (e ▸ hz1)
  have n2s : W5.heap.size ≤ d2 := ((hL.res.ok 3 _ hL.r3).2 d2 rfl).1
  have nV : ∀ j x, j < 3 → (V j).a = some x → ¬ x.block = d1 ∧ ¬ x.block = D := fun j x hj hx =>
    ⟨fun e => (hL.off 1 _ hL.r1 x.block ⟨j, x, hj, hx, rfl⟩).1 (e ▸ hz1), fun e => (hL.off 1 _ hL.r1 x.block ⟨j, x, hj, hx, rfl⟩).2 (e ▸ hDM)⟩
  have nD1 : ¬ D = d1 := fun e => hDZ (e ▸ hz1)
  obtain ⟨s3, k3⟩ := cut_other e3
  obtain ⟨o1, o2, o3⟩ := cut_same e3
  refine ⟨cut_box hb1 hk e3, hb2.same (k3 _ n2) (by omega), b8.same (k3 _ (by omega)) (by omega), b9.same (k3 _ (by omega)) (by omega), (k3 D nD1).trans hdef, by omega, fun W' g1 g2 g3 g4 g5 => ?_⟩
  have k5 : ∀ b, ¬ b = D → ¬ b = d1 → ¬ b = w.heap.size + 1 + 1 + 1 → ¬ b = w.heap.size + 1 + 1 + 1 + 1 → W'.heap[b]? = W.heap[b]? := fun b e1 e2 e3 e4 => (g5 b e1 e3 e4).trans (k3 b e2)
  have U' : Own3 W' W5.heap.size U f := hU.same (fun j x hj hx => k5 _ (fun e => hDZ (e ▸ (hzU j x hj hx).1)) (hzU j x hj hx).2 (by have := (hU.block j hj hx).1; omega) (by have := (hU.block j hj hx).1; omega))
  have V' : Own3 W' W5.heap.size V (upd g k (g k ++ xs)) := hV.same (fun j x hj hx => k5 _ (nV j x hj hx).2 (nV j x hj hx).1 (by have := (hV.block j hj hx).1; omega) (by have := (hV.block j hj hx).1; omega))
  refine ⟨U'.l3.cut hk hst, V'.l3, ?_⟩
  refine ⟨g1.trans (o1.trans (bel.os.trans hw.os)), g2.trans (o2.trans (bel.tape.trans hw.tape)), g3.trans (o3.trans (bel.output.trans hw.output)), ?_, fun b hb => ?_⟩
  · have h6 := bel.size
    omega
  · exact (k5 b (by omega) (by omega) (by omega) (by omega)).trans ((bel.block b (by omega)).trans (hw.block b hb))
theorem drewN_heap (w : World) (q : Nat) : (w.drewN q).heap = w.heap := rfl
theorem drewN_os (w : World) (q : Nat) : (w.drewN q).os = w.os ∧ (w.drewN q).tape = w.tape ∧ (w.drewN q).output = w.output := ⟨rfl, rfl, rfl⟩
theorem put3_os (w : World) (b : Nat) (v : Nat → Sl) : (put3 w b v).os = w.os ∧ (put3 w b v).tape = w.tape ∧ (put3 w b v).output = w.output := ⟨rfl, rfl, rfl⟩
/-- .. and at the return. -/
theorem MvEnd.done {w W5 W W3 W4 W' : World} {D d1 d2 q : Nat} {U2 V : Nat → Sl} {F G : Nat → List Int} (h : MvEnd w W5 W D d1 d2 U2 V F G W3) (e : W4 = (put3 (put3 W3 (w.heap.size + 1 + 1 + 1) U2) (w.heap.size + 1 + 1 + 1 + 1) V).drewN q)
    (g1 : W'.os = W4.os) (g2 : W'.tape = W4.tape) (g3 : W'.output = W4.output) (g4 : W'.heap.size = W4.heap.size) (g5 : ∀ b, ¬ b = D → W'.heap[b]? = W4.heap[b]?) :
    (L3 W' W'.heap.size U2 F ∧ L3 W' W'.heap.size V G ∧ Below w.heap.size w W') ∧ Box3 W' (w.heap.size + 1 + 1 + 1) U2 ∧ Box3 W' (w.heap.size + 1 + 1 + 1 + 1) V := by
  have hfar := h.far
  have s4 : W4.heap.size = W3.heap.size := by
    rw [e, drewN_heap, put3_size, put3_size]
  have k4 : ∀ b, ¬ b = w.heap.size + 1 + 1 + 1 → ¬ b = w.heap.size + 1 + 1 + 1 + 1 → W4.heap[b]? = W3.heap[b]? := fun b e1 e2 => by
    rw [e, drewN_heap]
    exact (put3_other _ _ e2).trans (put3_other _ _ e1)
  have e8 : Box3 W4 (w.heap.size + 1 + 1 + 1) U2 := by
    rw [e]
    exact ((h.e8.put U2).putOther (by omega) V).drewN q
  have e9 : Box3 W4 (w.heap.size + 1 + 1 + 1 + 1) V := by
    rw [e]
    exact ((h.e9.putOther (by omega) U2).put V).drewN q
  have o4 : W4.os = W3.os ∧ W4.tape = W3.tape ∧ W4.output = W3.output := by
    rw [e, (drewN_os _ _).1, (drewN_os _ _).2.1, (drewN_os _ _).2.2, (put3_os _ _ _).1, (put3_os _ _ _).2.1, (put3_os _ _ _).2.2, (put3_os _ _ _).1, (put3_os _ _ _).2.1, (put3_os _ _ _).2.2]
    exact ⟨rfl, rfl, rfl⟩
  exact ⟨h.fin W' (g1.trans o4.1) (g2.trans o4.2.1) (g3.trans o4.2.2) (by omega) (fun b b1 b2 b3 => (g5 b b1).trans (k4 b b2 b3)), e8.same (g5 _ (by omega)) (by omega), e9.same (g5 _ (by omega)) (by omega)⟩
theorem MvEnd.def4 {w W5 W W3 W4 : World} {D d1 d2 q : Nat} {U2 V : Nat → Sl} {F G : Nat → List Int} (h : MvEnd w W5 W D d1 d2 U2 V F G W3) (e : W4 = (put3 (put3 W3 (w.heap.size + 1 + 1 + 1) U2) (w.heap.size + 1 + 1 + 1 + 1) V).drewN q) : W4.heap[D]? = some (.deferred (some [])) := by
  have hfar := h.far
  rw [e, drewN_heap]
  exact ((put3_other _ _ (by omega)).trans (put3_other _ _ (by omega))).trans h.def_

def Put8 (a : Act) (x48 x49 x50 x51 x52 x53 x54 x55 : Value) : Act := (((((((a.put (some 48) x48).put (some 49) x49).put (some 50) x50).put (some 51) x51).put (some 52) x52).put (some 53) x53).put (some 54) x54).put (some 55) x55
def MvRI (V0 : World) (base k d2 : Nat) (s0 : Sl) (ys : List Int) (z : Int) (a0 : Act) (l : Nat → Bool) (a : Act) (w : World) : Prop :=
  ∃ x48 x49 x50 x51 x52 x53 x54 x55 s, a = Put8 a0 x48 x49 x50 x51 x52 x53 x54 x55 ∧ MvRd V0 base k d2 s0 ys z l x48 x49 x50 x51 x52 x53 x54 x55 w s
end Go.Proofs.YtmalopciboikhaaGreatDoor.Ls
end
section
namespace Go.Proofs.YtmalopciboikhaaGreatDoor.Ls
open Go.Proofs.YtmalopciboikhaaGreatDoor
set_option maxRecDepth 100000
open Go.RowKit Go.Shelf
attribute [local go_sem] Oper.semAt_some

/-- The frame of 'less, more := copied(from), copied(to)'. -/
def Put6 (a : Act) (x11 x12 x25 x26 x27 x28 : Value) : Act := (((((a.put (some 11) x11).put (some 12) x12).put (some 25) x25).put (some 26) x26).put (some 27) x27).put (some 28) x28
structure MvSt (base : Nat) (W5 : World) (u v : Nat → Sl) (f g : Nat → List Int) (l : Nat → Bool) (x11 x12 x25 x26 x27 x28 : Value) (U V : Nat → Sl) (d1 d2 : Nat) (wc : World) (R : Nat → Option Thing) : Prop where
  res : Res base W5 wc R
  s0 : l 0 = true → x25 = (.agg #[.slice (u 0).a (u 0).n (u 0).c, .slice (u 1).a (u 1).n (u 1).c, .slice (u 2).a (u 2).n (u 2).c])
  s1 : l 1 = true → x26 = (.agg #[.slice (U 0).a (U 0).n (U 0).c, .slice (U 1).a (U 1).n (U 1).c, .slice (U 2).a (U 2).n (U 2).c]) ∧ R 0 = some (tOwn base U f)
  s2 : l 2 = true → x27 = (.agg #[.slice (v 0).a (v 0).n (v 0).c, .slice (v 1).a (v 1).n (v 1).c, .slice (v 2).a (v 2).n (v 2).c])
  s3 : l 3 = true → x28 = (.agg #[.slice (V 0).a (V 0).n (V 0).c, .slice (V 1).a (V 1).n (V 1).c, .slice (V 2).a (V 2).n (V 2).c]) ∧ R 1 = some (tOwn base V g)
  s4 : l 4 = true → x11 = .pointer (some ⟨d1, 0, none⟩) ∧ R 2 = some (tBox d1 (if l 6 then U else noSl))
  s5 : l 5 = true → x12 = .pointer (some ⟨d2, 0, none⟩) ∧ R 3 = some (tBox d2 (if l 7 then V else noSl))
  o6 : l 6 = true → l 1 = true
  o7 : l 7 = true → l 3 = true
  o4 : l 6 = true → l 4 = true
  o5 : l 7 = true → l 5 = true
section
variable {base : Nat} {W5 wc wc' : World} {u v : Nat → Sl} {f g : Nat → List Int} {l : Nat → Bool} {x11 x12 x25 x26 x27 x28 : Value} {U V : Nat → Sl} {d1 d2 : Nat} {R : Nat → Option Thing}
theorem MvSt.start (x11 x12 x25 x26 x27 x28 : Value) : MvSt base W5 u v f g (fun _ => false) x11 x12 x25 x26 x27 x28 noSl noSl 0 0 W5.drew (fun _ => none) :=
  ⟨(Res.none_ W5 base).drewN 1, (fun h => by cases h), (fun h => by cases h), (fun h => by cases h), (fun h => by cases h), (fun h => by cases h), (fun h => by cases h), (fun h => by cases h), (fun h => by cases h), (fun h => by cases h), (fun h => by cases h)⟩
theorem MvSt.size (h : MvSt base W5 u v f g l x11 x12 x25 x26 x27 x28 U V d1 d2 wc R) (hb : base ≤ W5.heap.size) : base ≤ wc.heap.size := Nat.le_trans hb h.res.bel.size
theorem MvSt.did0 (h : MvSt base W5 u v f g l x11 x12 x25 x26 x27 x28 U V d1 d2 wc R) : MvSt base W5 u v f g (upd l 0 true) x11 x12 (.agg #[.slice (u 0).a (u 0).n (u 0).c, .slice (u 1).a (u 1).n (u 1).c, .slice (u 2).a (u 2).n (u 2).c]) x26 x27 x28 U V d1 d2 wc R :=
  ⟨h.res, fun _ => rfl, h.s1, h.s2, h.s3, h.s4, h.s5, h.o6, h.o7, h.o4, h.o5⟩
theorem MvSt.did2 (h : MvSt base W5 u v f g l x11 x12 x25 x26 x27 x28 U V d1 d2 wc R) : MvSt base W5 u v f g (upd l 2 true) x11 x12 x25 x26 (.agg #[.slice (v 0).a (v 0).n (v 0).c, .slice (v 1).a (v 1).n (v 1).c, .slice (v 2).a (v 2).n (v 2).c]) x28 U V d1 d2 wc R :=
  ⟨h.res, h.s0, h.s1, fun _ => rfl, h.s3, h.s4, h.s5, h.o6, h.o7, h.o4, h.o5⟩
theorem MvSt.did1 (h : MvSt base W5 u v f g l x11 x12 x25 x26 x27 x28 U V d1 d2 wc R) (hb : base ≤ W5.heap.size) (hl : l 6 = false) {U' : Nat → Sl} (ho : Own3 wc' wc.heap.size U' f) (hk : Below wc.heap.size wc wc') :
    MvSt base W5 u v f g (upd l 1 true) x11 x12 x25 (.agg #[.slice (U' 0).a (U' 0).n (U' 0).c, .slice (U' 1).a (U' 1).n (U' 1).c, .slice (U' 2).a (U' 2).n (U' 2).c]) x27 x28 U' V d1 d2 wc' (upd R 0 (some (tOwn base U' f))) :=
  ⟨h.res.copied (h.size hb) ho hk 0, h.s0, fun _ => ⟨rfl, rfl⟩, h.s2, h.s3, fun h4 => by
    have := h.s4 h4
    rw [hl] at this
    simp only [upd]
    simpa [hl] using this, h.s5, fun _ => rfl, h.o7, h.o4, h.o5⟩
theorem MvSt.did3 (h : MvSt base W5 u v f g l x11 x12 x25 x26 x27 x28 U V d1 d2 wc R) (hb : base ≤ W5.heap.size) (hl : l 7 = false) {V' : Nat → Sl} (ho : Own3 wc' wc.heap.size V' g) (hk : Below wc.heap.size wc wc') :
    MvSt base W5 u v f g (upd l 3 true) x11 x12 x25 x26 x27 (.agg #[.slice (V' 0).a (V' 0).n (V' 0).c, .slice (V' 1).a (V' 1).n (V' 1).c, .slice (V' 2).a (V' 2).n (V' 2).c]) U V' d1 d2 wc' (upd R 1 (some (tOwn base V' g))) :=
  ⟨h.res.copied (h.size hb) ho hk 1, h.s0, h.s1, h.s2, fun _ => ⟨rfl, rfl⟩, h.s4, fun h4 => by
    have := h.s5 h4
    rw [hl] at this
    simp only [upd]
    simpa [hl] using this, h.o6, fun _ => rfl, h.o4, h.o5⟩
theorem MvSt.did4 (h : MvSt base W5 u v f g l x11 x12 x25 x26 x27 x28 U V d1 d2 wc R) (hb : base ≤ W5.heap.size) (hl : l 6 = false) :
    MvSt base W5 u v f g (upd l 4 true) (.pointer (some ⟨wc.heap.size, 0, none⟩)) x12 x25 x26 x27 x28 U V wc.heap.size d2 (wc.alloc (.cells #[.slice (noSl 0).a (noSl 0).n (noSl 0).c, .slice (noSl 1).a (noSl 1).n (noSl 1).c, .slice (noSl 2).a (noSl 2).n (noSl 2).c] 25)) (upd R 2 (some (tBox wc.heap.size noSl))) :=
  ⟨h.res.boxed (h.size hb) noSl 2, h.s0, h.s1, h.s2, h.s3, fun _ => ⟨rfl, by simp [upd, hl]⟩, h.s5, (fun h6 => by rw [show upd l 4 true 6 = l 6 from rfl, hl] at h6; cases h6), h.o7, fun _ => rfl, h.o5⟩
theorem MvSt.did5 (h : MvSt base W5 u v f g l x11 x12 x25 x26 x27 x28 U V d1 d2 wc R) (hb : base ≤ W5.heap.size) (hl : l 7 = false) :
    MvSt base W5 u v f g (upd l 5 true) x11 (.pointer (some ⟨wc.heap.size, 0, none⟩)) x25 x26 x27 x28 U V d1 wc.heap.size (wc.alloc (.cells #[.slice (noSl 0).a (noSl 0).n (noSl 0).c, .slice (noSl 1).a (noSl 1).n (noSl 1).c, .slice (noSl 2).a (noSl 2).n (noSl 2).c] 25)) (upd R 3 (some (tBox wc.heap.size noSl))) :=
  ⟨h.res.boxed (h.size hb) noSl 3, h.s0, h.s1, h.s2, h.s3, h.s4, fun _ => ⟨rfl, by simp [upd, hl]⟩, h.o6, (fun h7 => by rw [show upd l 5 true 7 = l 7 from rfl, hl] at h7; cases h7), h.o4, fun _ => rfl⟩
theorem MvSt.did6 (h : MvSt base W5 u v f g l x11 x12 x25 x26 x27 x28 U V d1 d2 wc R) (hb : base ≤ W5.heap.size) (h1 : l 1 = true) (h4 : l 4 = true) :
    MvSt base W5 u v f g (upd l 6 true) x11 x12 x25 x26 x27 x28 U V d1 d2 (put3 wc d1 U) (upd R 2 (some (tBox d1 U))) :=
  ⟨h.res.put (h.size hb) (h.s4 h4).2 U, h.s0, h.s1, h.s2, h.s3, fun _ => ⟨(h.s4 h4).1, rfl⟩, h.s5, fun _ => h1, h.o7, fun _ => h4, h.o5⟩
theorem MvSt.did7 (h : MvSt base W5 u v f g l x11 x12 x25 x26 x27 x28 U V d1 d2 wc R) (hb : base ≤ W5.heap.size) (h3 : l 3 = true) (h5 : l 5 = true) :
    MvSt base W5 u v f g (upd l 7 true) x11 x12 x25 x26 x27 x28 U V d1 d2 (put3 wc d2 V) (upd R 3 (some (tBox d2 V))) :=
  ⟨h.res.put (h.size hb) (h.s5 h5).2 V, h.s0, h.s1, h.s2, h.s3, h.s4, fun _ => ⟨(h.s5 h5).1, rfl⟩, h.o6, fun _ => h3, h.o4, fun _ => h5⟩
end
def MvInv (base : Nat) (W5 : World) (u v : Nat → Sl) (f g : Nat → List Int) (a0 : Act) (l : Nat → Bool) (a : Act) (wc : World) : Prop :=
  ∃ x11 x12 x25 x26 x27 x28 U V d1 d2 R, a = Put6 a0 x11 x12 x25 x26 x27 x28 ∧ MvSt base W5 u v f g l x11 x12 x25 x26 x27 x28 U V d1 d2 wc R

theorem five_on {w W5 : World} {u v : Nat → Sl} {k : Nat} (h : W5 = (((((w.alloc (.cells #[.slice (u 0).a (u 0).n (u 0).c, .slice (u 1).a (u 1).n (u 1).c, .slice (u 2).a (u 2).n (u 2).c] 25)).alloc (.cells #[.slice (v 0).a (v 0).n (v 0).c, .slice (v 1).a (v 1).n (v 1).c, .slice (v 2).a (v 2).n (v 2).c] 25)).alloc (.cells #[.int .i64 k] 3)).alloc (.cells #[.slice none 0 0, .slice none 0 0, .slice none 0 0] 25)).alloc (.cells #[.slice none 0 0, .slice none 0 0, .slice none 0 0] 25))) :
    Box3 W5 w.heap.size u ∧ Box3 W5 (w.heap.size + 1) v ∧ W5.cell? ⟨w.heap.size + 1 + 1, 0, none⟩ = some (.int .i64 k) ∧ Box3 W5 (w.heap.size + 1 + 1 + 1) noSl ∧ Box3 W5 (w.heap.size + 1 + 1 + 1 + 1) noSl ∧ Below w.heap.size w W5 ∧ W5.heap.size = w.heap.size + 5 := by
  have b5 := Box3.new (w.alloc (.cells #[.slice (u 0).a (u 0).n (u 0).c, .slice (u 1).a (u 1).n (u 1).c, .slice (u 2).a (u 2).n (u 2).c] 25)) v 25
  have c6 := World.alloc_heap_new ((w.alloc (.cells #[.slice (u 0).a (u 0).n (u 0).c, .slice (u 1).a (u 1).n (u 1).c, .slice (u 2).a (u 2).n (u 2).c] 25)).alloc (.cells #[.slice (v 0).a (v 0).n (v 0).c, .slice (v 1).a (v 1).n (v 1).c, .slice (v 2).a (v 2).n (v 2).c] 25)) (.cells #[.int .i64 k] 3)
  have b8 := Box3.new (((w.alloc (.cells #[.slice (u 0).a (u 0).n (u 0).c, .slice (u 1).a (u 1).n (u 1).c, .slice (u 2).a (u 2).n (u 2).c] 25)).alloc (.cells #[.slice (v 0).a (v 0).n (v 0).c, .slice (v 1).a (v 1).n (v 1).c, .slice (v 2).a (v 2).n (v 2).c] 25)).alloc (.cells #[.int .i64 k] 3)) noSl 25
  have b9 := Box3.new ((((w.alloc (.cells #[.slice (u 0).a (u 0).n (u 0).c, .slice (u 1).a (u 1).n (u 1).c, .slice (u 2).a (u 2).n (u 2).c] 25)).alloc (.cells #[.slice (v 0).a (v 0).n (v 0).c, .slice (v 1).a (v 1).n (v 1).c, .slice (v 2).a (v 2).n (v 2).c] 25)).alloc (.cells #[.int .i64 k] 3)).alloc (.cells #[.slice (noSl 0).a (noSl 0).n (noSl 0).c, .slice (noSl 1).a (noSl 1).n (noSl 1).c, .slice (noSl 2).a (noSl 2).n (noSl 2).c] 25)) noSl 25
  simp only [World.size_alloc] at b5 c6 b8 b9
  have d6 := cell_of_row _ _ 0 _ _ _ c6
  rw [h]
  refine ⟨((((Box3.new w u 25).alloc _).alloc _).alloc _).alloc _, ((b5.alloc _).alloc _).alloc _, ?_, b8.alloc _, b9, ((((two_below w _ _).alloc (by simp; omega) _).alloc (by simp; omega) _).alloc (by simp; omega) _), by simp⟩
  refine (World.cell?_of_block (a := ⟨w.heap.size + 1 + 1, 0, none⟩) ((Below.heap_alloc _ _ _ (by simp)).trans (Below.heap_alloc _ _ _ (by simp)))).trans d6

set_option maxRecDepth 100000 in
set_option maxHeartbeats 4000000 in
theorem move_ok (B : Nat) (u v : Nat → Sl) (f g : Nat → List Int) (k m : Nat) (hk : k < 3) (w : World) (h : L3 w B u f) (h' : L3 w B v g) (hB : B ≤ w.heap.size) (hn : ∀ j, j < 3 → (u j).n ≤ 2000000) (hn' : ∀ j, j < 3 → (v j).n ≤ 2000000) (hm : m ≤ 9223372036854775807) :
    Calls Tryz.prog 160 #[(.agg #[.slice (u 0).a (u 0).n (u 0).c, .slice (u 1).a (u 1).n (u 1).c, .slice (u 2).a (u 2).n (u 2).c]), (.agg #[.slice (v 0).a (v 0).n (v 0).c, .slice (v 1).a (v 1).n (v 1).c, .slice (v 2).a (v 2).n (v 2).c]), .int .i64 k, .int .i64 m] w (MoveOut w (upd f k ((f k).take ((f k).length - m))) (upd g k (g k ++ ((f k).drop ((f k).length - m)).reverse)) 0) := by
  have h0 : (0 : Int) ≤ k := by omega
  have h3 : (k : Int) < 3 := by omega
  have hm0 : decide ((m : Int) < 0) = false := by simp
  refine (callsIn_wide (n := 1)).1 ?_
  refine callsIn_of_wp_marks Tryz.func160 rfl trivial ?_ rfl
  simp only [Tryz.ntmps160, List.size_toArray, List.length_cons, List.length_nil, Nat.reduceAdd, Nat.reduceSub, Array.replicate_succ, Array.replicate_zero, List.push_toArray, List.append_toArray, List.nil_append, List.cons_append]
  gi_wp2_with fail
  refine ⟨trivial, (callsIn_wide.2 (class_yes _ _ h0 h3)).mono ?_⟩
  rintro e w' ⟨rfl, rfl⟩
  gi_wp2_with fail
  obtain ⟨W5, hW5⟩ : ∃ W5, W5 = (((((w.alloc (.cells #[.slice (u 0).a (u 0).n (u 0).c, .slice (u 1).a (u 1).n (u 1).c, .slice (u 2).a (u 2).n (u 2).c] 25)).alloc (.cells #[.slice (v 0).a (v 0).n (v 0).c, .slice (v 1).a (v 1).n (v 1).c, .slice (v 2).a (v 2).n (v 2).c] 25)).alloc (.cells #[.int .i64 k] 3)).alloc (.cells #[.slice none 0 0, .slice none 0 0, .slice none 0 0] 25)).alloc (.cells #[.slice none 0 0, .slice none 0 0, .slice none 0 0] 25)) := ⟨_, rfl⟩
  rw [← hW5]
  obtain ⟨B4, B5, B6, B8, B9, BW0, HS5⟩ := five_on hW5
  have BW := Lib.hid BW0
  have HL : Hid (∀ W, Below W5.heap.size W5 W → Calls Tryz.prog 112 #[(.agg #[.slice (u 0).a (u 0).n (u 0).c, .slice (u 1).a (u 1).n (u 1).c, .slice (u 2).a (u 2).n (u 2).c])] W (COut W f)) := Lib.hid fun W hW => copied_any B u f W (h.over (BW.out.trans (hW.mono BW.out.size)) hB) (by have := BW.out.size; have := hW.size; omega) hn
  have HL' : Hid (∀ W, Below W5.heap.size W5 W → Calls Tryz.prog 112 #[(.agg #[.slice (v 0).a (v 0).n (v 0).c, .slice (v 1).a (v 1).n (v 1).c, .slice (v 2).a (v 2).n (v 2).c])] W (COut W g)) := Lib.hid fun W hW => copied_any B v g W (h'.over (BW.out.trans (hW.mono BW.out.size)) hB) (by have := BW.out.size; have := hW.size; omega) hn'
  clear BW0
  clear hW5
  refine wpIn_region_from (by kernel_rfl) (MvInv W5.heap.size W5 u v f g) ?dag ?start ?step ?done
  case dag => exact dag_of (by kernel_rfl)
  case start => exact ⟨undef, undef, undef, undef, undef, undef, noSl, noSl, 0, 0, _, (by simp only [Put6, Act.put, List.setIfInBounds_toArray, List.set_cons_succ, List.set_cons_zero]), MvSt.start _ _ _ _ _ _⟩
  case step =>
    rintro i o l a wc ho ⟨x11, x12, x25, x26, x27, x28, U, V, d1, d2, R, rfl, hs⟩ hl haft K hK
    have hi : i < 8 := (Array.getElem?_eq_some_iff.1 ho).1
    refine wpOpIn_of ho ?_
    rcases (show i = 0 ∨ i = 1 ∨ i = 2 ∨ i = 3 ∨ i = 4 ∨ i = 5 ∨ i = 6 ∨ i = 7 by omega) with rfl | rfl | rfl | rfl | rfl | rfl | rfl | rfl
    · obtain rfl := Option.some.inj ho
      have b4 := B4.below hs.res.bel B4.lt
      have c0 := b4.cell 0 (by decide)
      have c1 := b4.cell 1 (by decide)
      have c2 := b4.cell 2 (by decide)
      clear b4 ho haft hi B4 B5
      simp only [Put6, Act.put]
      go_simp
      exact hK _ _ ⟨x11, x12, (.agg #[.slice (u 0).a (u 0).n (u 0).c, .slice (u 1).a (u 1).n (u 1).c, .slice (u 2).a (u 2).n (u 2).c]), x26, x27, x28, U, V, d1, d2, R, (by simp only [Put6, Act.put, List.setIfInBounds_toArray, List.set_cons_succ, List.set_cons_zero]), hs.did0⟩
    · obtain rfl := Option.some.inj ho
      have e0 := hs.s0 (haft ⟨0, .data⟩ (by simp) rfl)
      subst e0
      have hl6 : l 6 = false := by
        cases e : l 6
        · rfl
        · rw [hs.o6 e] at hl; cases hl
      clear ho haft hi B4 B5
      simp only [Put6, Act.put]
      go_simp
      refine ⟨trivial, (callsIn_wide.2 (HL.out wc hs.res.bel)).mono ?_⟩
      rintro e w2 ⟨U', rfl, ho, hb⟩
      exact hK _ _ ⟨x11, x12, (.agg #[.slice (u 0).a (u 0).n (u 0).c, .slice (u 1).a (u 1).n (u 1).c, .slice (u 2).a (u 2).n (u 2).c]), (.agg #[.slice (U' 0).a (U' 0).n (U' 0).c, .slice (U' 1).a (U' 1).n (U' 1).c, .slice (U' 2).a (U' 2).n (U' 2).c]), x27, x28, U', V, d1, d2, _, (by simp only [Put6, Act.put, List.setIfInBounds_toArray, List.set_cons_succ, List.set_cons_zero]), hs.did1 (Nat.le_refl _) hl6 ho hb⟩
    · obtain rfl := Option.some.inj ho
      have b5 := B5.below hs.res.bel B5.lt
      have c0 := b5.cell 0 (by decide)
      have c1 := b5.cell 1 (by decide)
      have c2 := b5.cell 2 (by decide)
      clear b5 ho haft hi B4 B5
      simp only [Put6, Act.put]
      go_simp
      exact hK _ _ ⟨x11, x12, x25, x26, (.agg #[.slice (v 0).a (v 0).n (v 0).c, .slice (v 1).a (v 1).n (v 1).c, .slice (v 2).a (v 2).n (v 2).c]), x28, U, V, d1, d2, R, (by simp only [Put6, Act.put, List.setIfInBounds_toArray, List.set_cons_succ, List.set_cons_zero]), hs.did2⟩
    · obtain rfl := Option.some.inj ho
      have e0 := hs.s2 (haft ⟨2, .data⟩ (by simp) rfl)
      subst e0
      have hl7 : l 7 = false := by
        cases e : l 7
        · rfl
        · rw [hs.o7 e] at hl; cases hl
      clear ho haft hi B4 B5
      simp only [Put6, Act.put]
      go_simp
      refine ⟨trivial, (callsIn_wide.2 (HL'.out wc hs.res.bel)).mono ?_⟩
      rintro e w2 ⟨V', rfl, ho, hb⟩
      exact hK _ _ ⟨x11, x12, x25, x26, (.agg #[.slice (v 0).a (v 0).n (v 0).c, .slice (v 1).a (v 1).n (v 1).c, .slice (v 2).a (v 2).n (v 2).c]), (.agg #[.slice (V' 0).a (V' 0).n (V' 0).c, .slice (V' 1).a (V' 1).n (V' 1).c, .slice (V' 2).a (V' 2).n (V' 2).c]), U, V', d1, d2, _, (by simp only [Put6, Act.put, List.setIfInBounds_toArray, List.set_cons_succ, List.set_cons_zero]), hs.did3 (Nat.le_refl _) hl7 ho hb⟩
    · obtain rfl := Option.some.inj ho
      have hl6 : l 6 = false := by
        cases e : l 6
        · rfl
        · rw [hs.o4 e] at hl; cases hl
      clear ho haft hi B4 B5
      simp only [Put6, Act.put]
      go_simp
      exact hK _ _ ⟨.pointer (some ⟨wc.heap.size, 0, none⟩), x12, x25, x26, x27, x28, U, V, _, d2, _, (by simp only [Put6, Act.put, List.setIfInBounds_toArray, List.set_cons_succ, List.set_cons_zero]), hs.did4 (Nat.le_refl _) hl6⟩
    · obtain rfl := Option.some.inj ho
      have hl7 : l 7 = false := by
        cases e : l 7
        · rfl
        · rw [hs.o5 e] at hl; cases hl
      clear ho haft hi B4 B5
      simp only [Put6, Act.put]
      go_simp
      exact hK _ _ ⟨x11, .pointer (some ⟨wc.heap.size, 0, none⟩), x25, x26, x27, x28, U, V, d1, _, _, (by simp only [Put6, Act.put, List.setIfInBounds_toArray, List.set_cons_succ, List.set_cons_zero]), hs.did5 (Nat.le_refl _) hl7⟩
    · obtain rfl := Option.some.inj ho
      have l1 : l 1 = true := haft ⟨1, .data⟩ (by simp) rfl
      have l4 : l 4 = true := haft ⟨4, .data⟩ (by simp) rfl
      obtain ⟨e1, r1⟩ := hs.s1 l1
      obtain ⟨e4, r4⟩ := hs.s4 l4
      rw [hl] at r4
      have b := hs.res.box r4
      have c0 := b.cell 0 (by decide)
      have c1 := b.cell 1 (by decide)
      have c2 := b.cell 2 (by decide)
      have f0 := b.free 0
      have f1 := b.free 1
      have f2 := b.free 2
      have bl := b.lt
      have HS := Lib.hid (hs.did6 (Nat.le_refl _) l1 l4)
      subst e1 e4
      clear ho haft hi B4 B5 b
      simp only [Put6, Act.put]
      go_simp
      exact hK _ _ ⟨.pointer (some ⟨d1, 0, none⟩), x12, x25, (.agg #[.slice (U 0).a (U 0).n (U 0).c, .slice (U 1).a (U 1).n (U 1).c, .slice (U 2).a (U 2).n (U 2).c]), x27, x28, U, V, d1, d2, _, (by simp only [Put6, Act.put, List.setIfInBounds_toArray, List.set_cons_succ, List.set_cons_zero]), HS.out⟩
    · obtain rfl := Option.some.inj ho
      have l3 : l 3 = true := haft ⟨3, .data⟩ (by simp) rfl
      have l5 : l 5 = true := haft ⟨5, .data⟩ (by simp) rfl
      obtain ⟨e3, r3⟩ := hs.s3 l3
      obtain ⟨e5, r5⟩ := hs.s5 l5
      rw [hl] at r5
      have b := hs.res.box r5
      have c0 := b.cell 0 (by decide)
      have c1 := b.cell 1 (by decide)
      have c2 := b.cell 2 (by decide)
      have f0 := b.free 0
      have f1 := b.free 1
      have f2 := b.free 2
      have bl := b.lt
      have HS := Lib.hid (hs.did7 (Nat.le_refl _) l3 l5)
      subst e3 e5
      clear ho haft hi B4 B5 b
      simp only [Put6, Act.put]
      go_simp
      exact hK _ _ ⟨x11, .pointer (some ⟨d2, 0, none⟩), x25, x26, x27, (.agg #[.slice (V 0).a (V 0).n (V 0).c, .slice (V 1).a (V 1).n (V 1).c, .slice (V 2).a (V 2).n (V 2).c]), U, V, d1, d2, _, (by simp only [Put6, Act.put, List.setIfInBounds_toArray, List.set_cons_succ, List.set_cons_zero]), HS.out⟩
  case done =>
    rintro l a wc ⟨x11, x12, x25, x26, x27, x28, U, V, d1, d2, R, rfl, hs⟩ hall
    obtain ⟨e1, r1⟩ := hs.s1 (hall 1 (by simp))
    obtain ⟨e3, r3⟩ := hs.s3 (hall 3 (by simp))
    obtain ⟨e4, r4⟩ := hs.s4 (hall 4 (by simp))
    obtain ⟨e5, r5⟩ := hs.s5 (hall 5 (by simp))
    rw [if_pos (hall 6 (by simp))] at r4
    rw [if_pos (hall 7 (by simp))] at r5
    have HRS := Lib.hid hs.res
    have R1 := Lib.hid r1
    have R3 := Lib.hid r3
    have R4 := Lib.hid r4
    have R5 := Lib.hid r5
    have cc : wc.cell? ⟨w.heap.size + 1 + 1, 0, none⟩ = some (.int .i64 k) := (hs.res.bel.cell (p := ⟨w.heap.size + 1 + 1, 0, none⟩) (by rw [HS5]; show w.heap.size + 1 + 1 < _; omega)).trans B6
    have cu := (hs.res.box r4).cell k hk
    have zl1 := (hs.res.box r4).lt
    have zl2 : w.heap.size + 1 + 1 < wc.heap.size := by have := hs.res.bel.size; omega
    have hUn : (U k).n ≤ 2000000 := by
      have h1 := (hs.res.own r1).l3.len k hk
      have h2 := h.len k hk
      have h3 := hn k hk
      omega
    subst e1 e3 e4 e5
    clear hs hall r1 r3 r4 r5 B4 B5 B6
    simp only [Put6, Act.put, List.setIfInBounds_toArray, List.set_cons_succ, List.set_cons_zero]
    gi_wp2_with fail
    refine wpIn_wide.2 ?_
    obtain ⟨st, hst⟩ : ∃ st, st = (U k).n - m := ⟨_, rfl⟩
    have HT := Lib.hid hst
    have hsn : st ≤ (U k).n := by omega
    clear hst
    go_cut [13] from 29 to 39 (fun v wx => v = .int .i64 st ∧ ∃ q, wx = wc.drewN q)
    case first =>
      by_cases hmn : m ≤ (U k).n
      · have he : ((U k).n : Int) - m = st := by have := HT.out; omega
        go_quiet (fail)
        go_wp2_with fail
        go_meet
        exact ⟨rfl, _, rfl⟩
      · have he : (st : Int) = 0 := by have := HT.out; omega
        have he' : ((U k).n : Int) - (U k).n = 0 := by omega
        go_quiet (fail)
        go_wp2_with fail
        go_meet
        exact ⟨by rw [he], _, rfl⟩
    case rest =>
      obtain ⟨rfl, q, rfl⟩ := hcut
      gi_upto_region 5 with (fail)
      refine wpIn_wide.2 ?_
      go_cut [45] from 40 to 45 (fun v wx => v = .func (.func 177) #[] #[.pointer (some ⟨wc.heap.size, 0, none⟩)] ∧ ∃ (A : Option Addr) (c : Nat), wx = (wc.drewN q).alloc (.cells #[.slice A ((U k).n - st) c] 22) ∧ Hid (Row wc wc.heap.size A ((U k).n - st) ((f k).drop st) ∧ ∀ x, A = some x → (tOwn W5.heap.size U f).blk x.block))
      case first =>
        go_wp2_with fail
        · refine (backward_any _ _ _ _).mono ?_
          rintro e w2 ⟨rfl, rfl⟩
          go_wp2_with fail
          go_meet
          exact ⟨rfl, _, _, rfl, Lib.hid (tail_none (HRS.out.own R1.out) hk ‹(U k).c = st› hsn)⟩
        · refine (backward_any _ _ _ _).mono ?_
          rintro e w2 ⟨rfl, rfl⟩
          go_wp2_with fail
          go_meet
          exact ⟨rfl, _, _, rfl, Lib.hid (tail_some (HRS.out.own R1.out) hk hsn)⟩
      case rest =>
        obtain ⟨rfl, A, c, rfl, HA⟩ := hcut
        obtain ⟨xs, hxs⟩ : ∃ xs, xs = (f k).drop st := ⟨_, rfl⟩
        rw [← hxs] at HA
        have HXS := Lib.hid hxs
        clear hxs
        obtain ⟨wl, hwl⟩ : ∃ wl, wl = (wc.drewN q).alloc (.cells #[.slice A ((U k).n - st) c] 22) := ⟨_, rfl⟩
        have hlw : wl.heap.size = wc.heap.size + 1 := by rw [hwl]; simp
        have hbl : Below wc.heap.size wc wl := by rw [hwl]; exact (below_drawn (Below.refl _ _) q).alloc (Nat.le_refl _) _
        have hcl : wl.cell? ⟨wc.heap.size, 0, none⟩ = some (.slice A ((U k).n - st) c) := by
          rw [hwl]
          exact cell_of_row _ _ 0 _ _ _ (World.alloc_heap_new (wc.drewN q) (.cells #[.slice A ((U k).n - st) c] 22))
        have hb5 : W5.heap.size ≤ wc.heap.size := HRS.out.bel.size
        have RL := Lib.hid (HRS.out.next hb5 hbl)
        have hcb : ∀ r t, R r = some t → ∀ b, t.blk b → b < wc.heap.size := fun r t hr b hb => ((HRS.out.ok r t hr).2 b hb).2
        have ST := Lib.hid (MvI.start (k := k) RL.out R1.out R3.out R4.out R5.out hcb (by omega) (by omega) xs)
        have hzf : ∀ b, MvZ W5.heap.size U d1 wc.heap.size b → b < wl.heap.size := fun b hz => by
          rcases hz with hz | hz | hz | hz
          · omega
          · have := hcb 0 _ R1.out b hz; omega
          · have := hcb 2 _ R4.out b hz; omega
          · omega
        have HZF := Lib.hid hzf
        have CCL := Lib.hid ((hbl.cell (p := ⟨w.heap.size + 1 + 1, 0, none⟩) zl2).trans cc)
        rw [← hwl]
        have BG := Lib.hid (back_gives (MvZ W5.heap.size U d1 wc.heap.size) (fun _ => False) wc.heap.size wc.heap.size A ((U k).n - st) c xs wl (by omega) hcl (HA.out.1.below hbl) (by omega) (.inr (.inr (.inr rfl))) (fun x hx => .inr (.inl (HA.out.2 x hx))))
        clear hwl hcl hzf hcb
        gi_wp2_with fail
        refine range_givesZ (gf := 177) (lb := #[.pointer (some ⟨wc.heap.size, 0, none⟩)]) rfl (enters_of Tryz.func177 (by kernel_rfl) rfl) BG.out (fun _ => rfl) HZF.out (fun _ => False) (fun _ h => h.elim) (fun _ h => h.elim)
          (MvI W5.heap.size W5 wl (MvZ W5.heap.size U d1 wc.heap.size) g k d2 xs) (fun _ _ _ _ => False) (MvI.bides _ _ _ _ _ _ _ _) (fun _ _ _ _ _ _ h _ _ _ => h) ST.out ?round ?done ?stop
        case stop =>
          rintro D c M pre W _ _ _ h _
          exact h.elim
        case done =>
          rintro D M W hD hDW hM ⟨V', R', hL⟩ hdef
          have hnt : (U k).n - st = xs.length := by rw [HA.out.1.1]
          have hmv : ((downL ((U k).n - st)).map fun i => xs[i]?.getD 0) = xs.reverse := by rw [hnt]; exact down_map xs
          have hL' : MvL W5.heap.size W5 wl (MvZ W5.heap.size U d1 wc.heap.size) g k d2 xs.reverse M W V' R' := hmv ▸ hL
          have hU : Own3 W W5.heap.size U f := (RL.out.own R1.out).same (fun j x hj hx => hL'.hold.block _ (.inr (.inl ⟨j, x, hj, hx, rfl⟩)) ((RL.out.own R1.out).block j hj hx).2)
          have hb1 : Box3 W d1 U := (RL.out.box R4.out).same (hL'.hold.block d1 (.inr (.inr (.inl rfl))) (RL.out.box R4.out).lt) hL'.hold.size
          have cc : W.cell? ⟨w.heap.size + 1 + 1, 0, none⟩ = some (.int .i64 k) := hL'.hold.cell (.inl (by rw [HS5]; omega)) CCL.out
          have zl2 : w.heap.size + 1 + 1 < W.heap.size := by have := hL'.res.bel.size; omega
          have c1 := hb1.cell k hk
          have f1 := hb1.free k
          have l1 := hb1.lt
          have hcap : st ≤ (U k).c := by have := (hU.l3 k hk).2.1; omega
          have hcap2 : (U k).c ≤ 9223372036854775807 := by have := (hU.l3 k hk).2.2; unfold maxLen at this; omega
          have HL2 := Lib.hid hL'
          have HU := Lib.hid hU
          have HB1 := Lib.hid hb1
          have HD := Lib.hid hdef
          clear hL hL' hmv hU hb1 hdef
          dsimp only
          gi_upto_region 8 with (fail)
          refine wpIn_wide.2 ?_
          go_cut [] from 56 to 62 (fun wx => ∃ q, wx = (W.setCell ⟨d1, k, none⟩ (.slice (U k).a st (U k).c)).drewN q)
          case first =>
            go_region
            go_wp2_with fail
            go_meet
            exact ⟨1, rfl⟩
          case rest =>
            obtain ⟨q3, rfl⟩ := hcut
            have hDZ : ¬ MvZ W5.heap.size U d1 wc.heap.size D := fun hz => by have := HZF.out D hz; omega
            have hd1 : W5.heap.size ≤ d1 := ((HRS.out.ok 2 _ R4.out).2 d1 rfl).1
            obtain ⟨W3, hW3⟩ : ∃ W3, W3 = (W.setCell ⟨d1, k, none⟩ (.slice (U k).a st (U k).c)).drewN q3 := ⟨_, rfl⟩
            have ME := Lib.hid (move_end HL2.out hk HU.out HB1.out (.inr (.inr (.inl rfl))) hd1 (fun j x hj hx => ⟨.inr (.inl ⟨j, x, hj, hx, rfl⟩), fun e => HRS.out.apart 0 2 _ _ R1.out R4.out (by decide) x.block ⟨j, x, hj, hx, rfl⟩ e⟩) hsn HS5 BW.out B8 B9 HD.out hM hDZ hW3)
            rw [← hW3]
            have E1 := ME.out.e1
            have E2 := ME.out.e2
            have E8 := ME.out.e8
            have E9 := ME.out.e9
            have hsF : (f k).length - m = st := by
              have e1 := HU.out.l3.len k hk
              have e2 := HT.out
              omega
            have HSF := Lib.hid hsF
            have a0 := E1.cell 0 (by decide)
            have a1 := E1.cell 1 (by decide)
            have a2 := E1.cell 2 (by decide)
            have al := E1.lt
            have b0 := E2.cell 0 (by decide)
            have b1 := E2.cell 1 (by decide)
            have b2 := E2.cell 2 (by decide)
            have bl := E2.lt
            have p0 := E8.cell 0 (by decide)
            have p1 := E8.cell 1 (by decide)
            have p2 := E8.cell 2 (by decide)
            have pf0 := E8.free 0
            have pf1 := E8.free 1
            have pf2 := E8.free 2
            have pl := E8.lt
            have r0 := E9.cell 0 (by decide)
            have r1 := E9.cell 1 (by decide)
            have r2 := E9.cell 2 (by decide)
            have rf0 := E9.free 0
            have rf1 := E9.free 1
            have rf2 := E9.free 2
            have rl := E9.lt
            have hd2 : W5.heap.size ≤ d2 := ((HRS.out.ok 3 _ R5.out).2 d2 rfl).1
            have m1 : ¬ d2 = w.heap.size + 1 + 1 + 1 := by omega
            have m2 : ¬ d2 = w.heap.size + 1 + 1 + 1 + 1 := by omega
            have m3 : ¬ d1 = w.heap.size + 1 + 1 + 1 := by omega
            have m4 : ¬ d1 = w.heap.size + 1 + 1 + 1 + 1 := by omega
            clear E1 E2 E8 E9 hW3 c1 f1 l1 cc hsF hd2 hd1
            gi_upto_region 9 with (fail)
            refine wpIn_wide.2 ?_
            go_cut [10] from 63 to 64 (fun v wx => v = .int .i64 0 ∧ ∃ q, wx = (put3 (put3 W3 (w.heap.size + 1 + 1 + 1) (upd U k ⟨(U k).a, st, (U k).c⟩)) (w.heap.size + 1 + 1 + 1 + 1) V').drewN q)
            case first =>
              go_region
              go_wp2_with fail
              go_meet
              exact ⟨rfl, 1, rfl⟩
            case rest =>
              obtain ⟨rfl, q4, rfl⟩ := hcut
              gi_wp2_with fail
              refine leave_marksZ [D] _ (by simp) (fun E hE => by rw [List.mem_singleton.1 hE]; exact ME.out.def4 rfl) (fun W' g1 g2 g3 g4 g5 => ?_)
              obtain ⟨z1, z2, z3⟩ := ME.out.done rfl g1 g2 g3 g4 (fun b hb => g5 b (by simpa using hb))
              have y0 := z2.cell 0 (by decide)
              have y1 := z2.cell 1 (by decide)
              have y2 := z2.cell 2 (by decide)
              have x0 := z3.cell 0 (by decide)
              have x1 := z3.cell 1 (by decide)
              have x2 := z3.cell 2 (by decide)
              refine ⟨.tuple #[(.agg #[.slice (upd U k ⟨(U k).a, st, (U k).c⟩ 0).a (upd U k ⟨(U k).a, st, (U k).c⟩ 0).n (upd U k ⟨(U k).a, st, (U k).c⟩ 0).c, .slice (upd U k ⟨(U k).a, st, (U k).c⟩ 1).a (upd U k ⟨(U k).a, st, (U k).c⟩ 1).n (upd U k ⟨(U k).a, st, (U k).c⟩ 1).c, .slice (upd U k ⟨(U k).a, st, (U k).c⟩ 2).a (upd U k ⟨(U k).a, st, (U k).c⟩ 2).n (upd U k ⟨(U k).a, st, (U k).c⟩ 2).c]), (.agg #[.slice (V' 0).a (V' 0).n (V' 0).c, .slice (V' 1).a (V' 1).n (V' 1).c, .slice (V' 2).a (V' 2).n (V' 2).c]), .int .i64 0], ?_, upd U k ⟨(U k).a, st, (U k).c⟩, V', rfl, ?_⟩
              · clear a0 a1 a2 b0 b1 b2 p0 p1 p2 r0 r1 r2
                simp [results, Tryz.results160, go_sem, y0, y1, y2, x0, x1, x2]
              · rw [HSF.out, ← HXS.out]
                exact z1
        case round =>
          intro l M pre x W hl hM hlt hpre hI
          dsimp only [encB]
          gi_wp2_with fail
          refine ⟨KeptZ.refl _ _ _, fun o => ?_⟩
          obtain ⟨V', R', hL⟩ := hI
          have hlz : ¬ MvZ W5.heap.size U d1 wc.heap.size l := fun hz => by have := HZF.out l hz; omega
          have hL0 := hL.bides (hold_turned (W := W) o hlz) (fun j _ hj => World.putObj_heap_other (fun e => hj (e ▸ hM))) (fun j hj => .inl hj)
          obtain ⟨V0, hV0⟩ : ∃ V0, V0 = W.putObj l o := ⟨_, rfl⟩
          rw [← hV0] at hL0 ⊢
          have hplen : pre.length + 1 ≤ (U k).n - st := by have := hpre.length_le; rw [downL_length] at this; simpa using this
          have hvn : (V' k).n + 1 ≤ 4000000 := by
            have h1 := hL0.own.l3.len k hk
            rw [upd_same, List.length_append, List.length_map] at h1
            have h2 := h'.len k hk
            have h3 := hn' k hk
            omega
          obtain ⟨z, hz⟩ : ∃ z, z = xs[x]?.getD 0 := ⟨_, rfl⟩
          rw [← hz]
          have HZ' := Lib.hid hz
          have cc : V0.cell? ⟨w.heap.size + 1 + 1, 0, none⟩ = some (.int .i64 k) := hL0.hold.cell (.inl (by rw [HS5]; omega)) CCL.out
          have hcl : w.heap.size + 1 + 1 < W5.heap.size := by omega
          have X3 := hL0.box
          have far : ∀ x, (V' k).a = some x → ¬ (w.heap.size + 1 + 1 = x.block) ∧ ¬ (d2 = x.block) := fun x hx => by
            have h1 := (hL0.own.block k hk hx).1
            refine ⟨by omega, fun e => ?_⟩
            exact hL0.res.apart 1 3 _ _ hL0.r1 hL0.r3 (by decide) x.block ⟨k, x, hk, hx, rfl⟩ e.symm
          have hbig := hL0.big
          have HL0 := Lib.hid hL0
          clear hL hL0 hz hV0
          apply wpIn_block
          refine wpIn_region_from (by kernel_rfl) (MvRI V0 W5.heap.size k d2 (V' k) (g k ++ (pre.map fun i => xs[i]?.getD 0) ++ [z]) z) ?rdag ?rstart ?rstep ?rdone
          case rdag => exact dag_of (by kernel_rfl)
          case rstart => 
            refine ⟨undef, undef, undef, undef, undef, undef, undef, undef, ⟨none, 0, 0⟩, ?_, MvRd.start _ _ _ _ _ _ _ _ _⟩
            simp only [Put8, Act.put, List.setIfInBounds_toArray, List.set_cons_succ, List.set_cons_zero]
          case rdone =>
            rintro l' a' w' ⟨x48, x49, x50, x51, x52, x53, x54, x55, s, rfl, hs⟩ hall
            obtain ⟨w2, hc, rfl⟩ := hs.p3 (hall 8 (by simp))
            obtain ⟨hk1, V2, R2, hL2⟩ := HL0.out.moved hk hc
            refine ⟨hk1, V2, R2, ?_⟩
            rw [List.map_append, List.map_cons, List.map_nil, ← HZ'.out]
            exact hL2
          case rstep =>
            rintro i o' l' a' w' ho ⟨x48, x49, x50, x51, x52, x53, x54, x55, s, rfl, hs⟩ hl' haft K hK
            have hi : i < 9 := (Array.getElem?_eq_some_iff.1 ho).1
            rcases (show i = 0 ∨ i = 1 ∨ i = 2 ∨ i = 3 ∨ i = 4 ∨ i = 5 ∨ i = 6 ∨ i = 7 ∨ i = 8 by omega) with rfl | rfl | rfl | rfl | rfl | rfl | rfl | rfl | rfl
            · refine wpOpIn_of ho ?_
              obtain rfl := Option.some.inj ho
              have c1 : w'.cell? ⟨w.heap.size + 1 + 1, 0, none⟩ = some (.int .i64 k) := (World.cell?_of_block (a := ⟨w.heap.size + 1 + 1, 0, none⟩) (hs.old (hs.no8 (by decide) hl') (by omega) (fun x hx => (far x hx).1)).1).trans cc
              clear ho haft hi cc
              simp only [Put8, Act.put]
              go_simp
              exact hK _ _ ⟨.int .i64 k, x49, x50, x51, x52, x53, x54, x55, s, (by simp only [Put8, Act.put, List.setIfInBounds_toArray, List.set_cons_succ, List.set_cons_zero]), hs.did0⟩
            · refine wpOpIn_of ho ?_
              obtain rfl := Option.some.inj ho
              have c1 : w'.cell? ⟨w.heap.size + 1 + 1, 0, none⟩ = some (.int .i64 k) := (World.cell?_of_block (a := ⟨w.heap.size + 1 + 1, 0, none⟩) (hs.old (hs.no8 (by decide) hl') (by omega) (fun x hx => (far x hx).1)).1).trans cc
              clear ho haft hi cc
              simp only [Put8, Act.put]
              go_simp
              exact hK _ _ ⟨x48, .int .i64 k, x50, x51, x52, x53, x54, x55, s, (by simp only [Put8, Act.put, List.setIfInBounds_toArray, List.set_cons_succ, List.set_cons_zero]), hs.did1⟩
            · refine wpOpIn_of ho ?_
              obtain rfl := Option.some.inj ho
              have e1 := hs.s1 (haft ⟨1, .data⟩ (by simp) rfl)
              subst e1
              clear ho haft hi cc
              simp only [Put8, Act.put]
              go_simp
              exact hK _ _ ⟨x48, .int .i64 k, .pointer (some ⟨d2, k, none⟩), x51, x52, x53, x54, x55, s, (by simp only [Put8, Act.put, List.setIfInBounds_toArray, List.set_cons_succ, List.set_cons_zero]), hs.did2⟩
            · refine wpOpIn_of ho ?_
              obtain rfl := Option.some.inj ho
              have e2 := hs.s2 (haft ⟨2, .data⟩ (by simp) rfl)
              subst e2
              have c1 : w'.cell? ⟨d2, k, none⟩ = some (.slice (V' k).a (V' k).n (V' k).c) := (World.cell?_of_block (a := ⟨d2, k, none⟩) (hs.old (hs.no8 (by decide) hl') X3.lt (fun x hx => (far x hx).2)).1).trans (X3.cell k hk)
              clear ho haft hi cc
              simp only [Put8, Act.put]
              go_simp
              exact hK _ _ ⟨x48, x49, .pointer (some ⟨d2, k, none⟩), .slice (V' k).a (V' k).n (V' k).c, x52, x53, x54, x55, s, (by simp only [Put8, Act.put, List.setIfInBounds_toArray, List.set_cons_succ, List.set_cons_zero]), hs.did3⟩
            · refine wpOpIn_of ho ?_
              obtain rfl := Option.some.inj ho
              clear ho haft hi cc
              simp only [Put8, Act.put]
              go_simp
              exact hK _ _ ⟨x48, x49, x50, x51, .int .i64 z, x53, x54, x55, s, (by simp only [Put8, Act.put, List.setIfInBounds_toArray, List.set_cons_succ, List.set_cons_zero]), hs.did4⟩
            · refine wpOpIn_of ho ?_
              obtain rfl := Option.some.inj ho
              have e4 := hs.s4 (haft ⟨4, .data⟩ (by simp) rfl)
              have ew := hs.p0 hl'
              subst e4
              subst ew
              clear ho haft hi cc
              simp only [Put8, Act.put]
              go_simp
              exact hK _ _ ⟨x48, x49, x50, x51, .int .i64 z, .slice (some ⟨V0.heap.size, 0, none⟩) 1 1, x54, x55, s, (by simp only [Put8, Act.put, List.setIfInBounds_toArray, List.set_cons_succ, List.set_cons_zero]), hs.did5 hl'⟩
            · have eo := (Option.some.inj ho).symm
              have e3 := hs.s3 (haft ⟨3, .data⟩ (by rw [eo]; simp) rfl)
              have l5 := haft ⟨5, .data⟩ (by rw [eo]; simp) rfl
              obtain ⟨ew, e5⟩ := hs.p1 l5 hl'
              have h8 : l' 8 = false := hs.no8 (by decide) hl'
              subst e3 e5
              subst ew
              have RD : Res W5.heap.size W5 V0.drew R' := HL0.out.res.drewN 1
              have O1 := ((RD.own HL0.out.r1).alloc (.cells #[.int .i64 z] 3)).own k hk
              have L1 : Row (V0.drew.alloc (.cells #[.int .i64 z] 3)) (V0.heap.size + 1) (some ⟨V0.heap.size, 0, none⟩) 1 [z] := row_lit1 V0.drew z
              rw [upd_same] at O1
              refine wpOpIn_cat (c := 1) ho ?_ (.tmp 51) (.tmp 53) ?_ ?_ ?_ O1 L1 ?_ hvn ?_
              · rw [eo]
                rfl
              · rw [eo]
                rfl
              · simp only [Put8, Act.put, List.setIfInBounds_toArray, List.set_cons_succ, List.set_cons_zero]
                rfl
              · simp only [Put8, Act.put, List.setIfInBounds_toArray, List.set_cons_succ, List.set_cons_zero]
                rfl
              · simp
                omega
              · intro p' cp' w2 hc
                rw [eo]
                refine hK _ _ ⟨x48, x49, x50, .slice (V' k).a (V' k).n (V' k).c, x52, .slice (some ⟨V0.heap.size, 0, none⟩) 1 1, .slice p' ((V' k).n + 1) cp', x55, ⟨p', (V' k).n + 1, cp'⟩, ?_, hs.did6 l5 h8 hc⟩
                simp only [Put8, Act.put, List.setIfInBounds_toArray, List.set_cons_succ, List.set_cons_zero, List.getElem_toArray, List.getElem_cons_succ, List.getElem_cons_zero]
            · refine wpOpIn_of ho ?_
              obtain rfl := Option.some.inj ho
              have e0 := hs.s0_ (haft ⟨0, .data⟩ (by simp) rfl)
              subst e0
              clear ho haft hi cc
              simp only [Put8, Act.put]
              go_simp
              exact hK _ _ ⟨.int .i64 k, x49, x50, x51, x52, x53, x54, .pointer (some ⟨d2, k, none⟩), s, (by simp only [Put8, Act.put, List.setIfInBounds_toArray, List.set_cons_succ, List.set_cons_zero]), hs.did7⟩
            · refine wpOpIn_of ho ?_
              obtain rfl := Option.some.inj ho
              have hall : ∀ j, j < 8 → l' j = true := fun j hj => by
                match j, hj with
                | 0, _ => exact haft ⟨0, .phase⟩ (by simp) rfl
                | 1, _ => exact haft ⟨1, .phase⟩ (by simp) rfl
                | 2, _ => exact haft ⟨2, .phase⟩ (by simp) rfl
                | 3, _ => exact haft ⟨3, .phase⟩ (by simp) rfl
                | 4, _ => exact haft ⟨4, .phase⟩ (by simp) rfl
                | 5, _ => exact haft ⟨5, .phase⟩ (by simp) rfl
                | 6, _ => exact haft ⟨6, .phase⟩ (by simp) rfl
                | 7, _ => exact haft ⟨7, .data⟩ (by simp) rfl
              have e7 := hs.s7 (hall 7 (by decide))
              have e6 := (hs.p2 (hall 6 (by decide)) hl').2
              have hold := hs.old hl' X3.lt (fun x hx => (far x hx).2)
              have X4 := X3.same hold.1 hold.2
              have c1 := X4.cell k hk
              have f1 := X4.free k
              have l1 := X4.lt
              subst e7 e6
              clear ho haft hi cc hold X4
              simp only [Put8, Act.put]
              go_simp
              exact hK _ _ ⟨x48, x49, x50, x51, x52, x53, .slice s.a s.n s.c, .pointer (some ⟨d2, k, none⟩), s, (by simp only [Put8, Act.put, List.setIfInBounds_toArray, List.set_cons_succ, List.set_cons_zero]), hs.did8 hall hl'⟩
end Go.Proofs.YtmalopciboikhaaGreatDoor.Ls
end
section
namespace Go.Proofs.YtmalopciboikhaaGreatDoor.Ls
open Go.Proofs.YtmalopciboikhaaGreatDoor
set_option maxRecDepth 100000
open Go.RowKit

/-- A slice of lists: each element's three cells hold slices, which are rows. -/
def LRow (w : World) (B : Nat) (A : Option Addr) (n : Nat) (u : Nat → Nat → Sl) (f : Nat → Nat → List Int) : Prop :=
  0 < n → ∃ b off, A = some ⟨b, off, none⟩ ∧ b < B ∧ ∀ i, i < n → (∀ j, j < 3 → w.cell? ⟨b, off + i * 3 + j, none⟩ = some (.slice (u i j).a (u i j).n (u i j).c)) ∧ L3 w B (u i) (f i)
theorem LRow.below {w w' : World} {B n : Nat} {A : Option Addr} {u : Nat → Nat → Sl} {f : Nat → Nat → List Int} (h : LRow w B A n u f) (hb : Below B w w') : LRow w' B A n u f := fun hn => by
  obtain ⟨b, off, e, hlt, hc⟩ := h hn
  exact ⟨b, off, e, hlt, fun i hi => ⟨fun j hj => (hb.cell (p := ⟨b, off + i * 3 + j, none⟩) hlt).trans ((hc i hi).1 j hj), (hc i hi).2.below hb⟩⟩
theorem LRow.over {w w' : World} {B C n : Nat} {A : Option Addr} {u : Nat → Nat → Sl} {f : Nat → Nat → List Int} (h : LRow w B A n u f) (hb : Below C w w') (hB : B ≤ C) : LRow w' B A n u f := h.below (hb.mono hB)

def upTo (g : Nat → List Int) (j : Nat) : List Int := (List.range j).flatMap g
theorem upTo_succ (g : Nat → List Int) (j : Nat) : upTo g (j + 1) = upTo g j ++ g j := by simp [upTo, List.range_succ, List.flatMap_append]
def allOf (f : Nat → Nat → List Int) (n : Nat) : List Int := (List.range n).flatMap fun i => upTo (f i) 3
theorem allOf_succ (f : Nat → Nat → List Int) (n : Nat) : allOf f (n + 1) = allOf f n ++ upTo (f n) 3 := by simp [allOf, List.range_succ, List.flatMap_append]
theorem upTo_le (g : Nat → List Int) : ∀ {j k : Nat}, j ≤ k → (upTo g j).length ≤ (upTo g k).length
  | j, k, h => by
    induction k with
    | zero => have : j = 0 := by omega
              rw [this]; exact Nat.le_refl _
    | succ k ih =>
      by_cases e : j = k + 1
      · rw [e]; exact Nat.le_refl _
      · have := ih (by omega)
        rw [upTo_succ, List.length_append]
        omega
theorem allOf_le (f : Nat → Nat → List Int) : ∀ {j k : Nat}, j ≤ k → (allOf f j).length ≤ (allOf f k).length
  | j, k, h => by
    induction k with
    | zero => have : j = 0 := by omega
              rw [this]; exact Nat.le_refl _
    | succ k ih =>
      by_cases e : j = k + 1
      · rw [e]; exact Nat.le_refl _
      · have := ih (by omega)
        rw [allOf_succ, List.length_append]
        omega
theorem part_len (f : Nat → Nat → List Int) {n k j : Nat} (hk : k < n) (hj : j < 3) : (allOf f k).length + (upTo (f k) j).length + (f k j).length ≤ (allOf f n).length := by
  have h1 := allOf_le f (show k + 1 ≤ n by omega)
  have h2 := upTo_le (f k) (show j + 1 ≤ 3 by omega)
  rw [allOf_succ, List.length_append] at h1
  rw [upTo_succ, List.length_append] at h2
  omega

/-- A list of the call's own was returned. -/
def AllOut (w : World) (xs : List Int) (e : Ending) (w' : World) : Prop := ∃ s : Sl, e = .returned (.slice s.a s.n s.c) ∧ w'.ownsRow w.heap.size 3 1 (.slice s.a s.n s.c) s.n (xs.map (Value.int .i64)) ∧ Below w.heap.size w w'
structure Alling (w wr : World) (s : Sl) (xs : List Int) : Prop where
  own : wr.ownsRow w.heap.size 3 1 (.slice s.a s.n s.c) s.n (xs.map (Value.int .i64))
  bel : Below w.heap.size w wr
theorem Alling.len {w wr : World} {s : Sl} {xs : List Int} (h : Alling w wr s xs) : s.n = xs.length := by have := h.own.1; simpa using this.symm
theorem Alling.alloc {w wr : World} {s : Sl} {xs : List Int} (h : Alling w wr s xs) (o : Obj) : Alling w (wr.alloc o) s xs := ⟨h.own.alloc o, h.bel.alloc h.bel.size o⟩
theorem Alling.cat {w wr w2 : World} {s t : Sl} {xs ys : List Int} (h : Alling w wr s xs) (hc : Catted wr w.heap.size (.slice s.a s.n s.c) t ys w2) : Alling w w2 t ys :=
  ⟨hc.own, h.bel.grown hc.grown h.bel.size (fun k hk => (h.own.lt k hk).1)⟩

set_option maxHeartbeats 1000000 in
theorem all_any (B : Nat) (A : Option Addr) (n c : Nat) (u : Nat → Nat → Sl) (f : Nat → Nat → List Int) (w : World) (h : LRow w B A n u f) (hB : B ≤ w.heap.size) (hn : n ≤ 1000000) (hlen : (allOf f n).length ≤ 2000000) :
    Calls Tryz.prog 77 #[.slice A n c] w (AllOut w (allOf f n)) := by
  have HL := Lib.hid h
  have HN := Lib.hid hlen
  clear h hlen
  go_enter Tryz.func77, Tryz.ntmps77
  go_wp2
  go_loopw [3, 10] (fun a i wr => ∃ (s : Sl) (k : Nat), k ≤ n ∧ a = .slice s.a s.n s.c ∧ i = .int .i64 k ∧ Hid (Alling w wr s (allOf f k))) (fun _ i _ => n - (intOf i).toNat)
  case atStart => exact ⟨⟨none, 0, 0⟩, 0, Nat.zero_le _, rfl, rfl, Lib.hid ⟨World.ownsRow_nil _ _ _ _, Below.refl _ _⟩⟩
  case round =>
    obtain ⟨s, k, hk, rfl, rfl, HA⟩ := hrel
    by_cases hlt : k < n
    · obtain ⟨b, off, rfl, hbB, hc⟩ := HL.out.over HA.out.bel hB (by omega)
      obtain ⟨hcell, hl3⟩ := hc k hlt
      have c0 := hcell 0 (by decide)
      have c1 := hcell 1 (by decide)
      have c2 := hcell 2 (by decide)
      rw [Nat.add_zero] at c0
      have hbs : b < wr.heap.size := by have := HA.out.bel.size; omega
      have HR3 := Lib.hid hl3
      have hwr := HA.out.bel.size
      clear hc hcell hl3
      obtain ⟨wo, rfl⟩ : ∃ wo : World, wo = wr := ⟨_, rfl⟩
      go_wp2
      go_loopw [3, 15] (fun a i wr => ∃ (s : Sl) (j : Nat), j ≤ 3 ∧ a = .slice s.a s.n s.c ∧ i = .int .i64 j ∧ Hid (Alling w wr s (allOf f k ++ upTo (f k) j) ∧ Below B wo wr)) (fun _ i _ => 3 - (intOf i).toNat)
      case atStart =>
        refine ⟨s, 0, by omega, rfl, rfl, Lib.hid ⟨?_, (Below.refl _ _).alloc (by omega) _⟩⟩
        have := HA.out.alloc (.cells #[.slice (u k 0).a (u k 0).n (u k 0).c, .slice (u k 1).a (u k 1).n (u k 1).c, .slice (u k 2).a (u k 2).n (u k 2).c] 25)
        simpa [upTo] using this
      case round =>
        obtain ⟨t, j, hj, rfl, rfl, HI⟩ := hrel
        by_cases hlt3 : j < 3
        · have hix := index_of (u k) j hlt3
          have hsum : t.n + (u k j).n ≤ 4000000 := by
            have h1 := HI.out.1.len
            have h2 := HR3.out.len j hlt3
            have h3 := part_len f hlt hlt3
            have h4 := HN.out
            rw [List.length_append] at h1
            omega
          go_wp2_with (at_builtin; refine list_cat rfl _ _ rfl rfl rfl HI.out.1.own ((HR3.out j hlt3).1.below HI.out.2) HI.out.1.bel.size hsum ?_)
          intro p' cp' w2 hcat
          have hA2 := HI.out.1.cat hcat
          have B2 : Below B wr w2 := (Below.refl _ _).grown hcat.grown (by have := HI.out.1.bel.size; omega) (fun q hq => by have := (HI.out.1.own.lt q hq).1; omega)
          rw [← upTo_succ] at hA2
          have H2 := Lib.hid (And.intro hA2 (HI.out.2.trans B2))
          clear hcat hA2 B2
          go_wp2
          go_roundw
          case rel => exact ⟨⟨p', t.n + (u k j).n, cp'⟩, j + 1, by omega, rfl, by go_num, H2⟩
          case measure => simp [intOf]; omega
        · obtain rfl : j = 3 := by omega
          have H3 := HI.out.1
          rw [← allOf_succ] at H3
          have H4 := Lib.hid H3
          clear H3
          go_wp2
          go_roundw
          case rel => exact ⟨t, k + 1, by omega, rfl, by go_num, H4⟩
          case measure => simp [intOf]; omega
    · obtain rfl : k = n := by omega
      go_wp2
      go_ret
      exact ⟨s, rfl, HA.out.own, HA.out.bel⟩
theorem upTo_take (g : Nat → List Int) (j : Nat) : upTo g j ++ (g j).take (g j).length = upTo g (j + 1) := by rw [List.take_length, upTo_succ]

set_option maxHeartbeats 1000000 in
theorem rall_any (B : Nat) (A : Option Addr) (n c : Nat) (u : Nat → Nat → Sl) (f : Nat → Nat → List Int) (w : World) (h : LRow w B A n u f) (hB : B ≤ w.heap.size) (hn : n ≤ 1000000) (hlen : (allOf f n).length ≤ 2000000) :
    Calls Tryz.prog 138 #[.slice A n c] w (AllOut w (allOf f n)) := by
  have HL := Lib.hid h
  have HN := Lib.hid hlen
  clear h hlen
  go_enter Tryz.func138, Tryz.ntmps138
  go_wp2
  go_loopw [3, 4] (fun a i wr => ∃ (s : Sl) (k : Nat), k ≤ n ∧ a = .slice s.a s.n s.c ∧ i = .int .i64 k ∧ Hid (Alling w wr s (allOf f k))) (fun _ i _ => n - (intOf i).toNat)
  case atStart => exact ⟨⟨none, 0, 0⟩, 0, Nat.zero_le _, rfl, rfl, Lib.hid ⟨World.ownsRow_nil _ _ _ _, Below.refl _ _⟩⟩
  case round =>
    obtain ⟨s, k, hk, rfl, rfl, HA⟩ := hrel
    by_cases hlt : k < n
    · obtain ⟨b, off, rfl, hbB, hc⟩ := HL.out (by omega)
      have HC := Lib.hid (hc k hlt)
      clear hc
      obtain ⟨wo, rfl⟩ : ∃ wo : World, wo = wr := ⟨_, rfl⟩
      go_wp2
      go_loopw [3, 5] (fun a i wr => ∃ (s : Sl) (j : Nat), j ≤ 3 ∧ a = .slice s.a s.n s.c ∧ i = .int .i64 j ∧ Hid (Alling w wr s (allOf f k ++ upTo (f k) j))) (fun _ i _ => 3 - (intOf i).toNat)
      case atStart => exact ⟨s, 0, by omega, rfl, rfl, Lib.hid (by have := HA.out; simpa [upTo] using this)⟩
      case round =>
        obtain ⟨t, j, hj, rfl, rfl, HI⟩ := hrel
        by_cases hlt3 : j < 3
        · have HX := Lib.hid (part_len f hlt hlt3)
          obtain ⟨wi, rfl⟩ : ∃ wi : World, wi = wr := ⟨_, rfl⟩
          have hlt3' : (j : Int) < 3 := by omega
          go_wp2
          have J3 := Lib.hid hlt3
          go_loopw [3, 6] (fun a i wr => ∃ (s : Sl) (q : Nat), q ≤ (u k j).n ∧ a = .slice s.a s.n s.c ∧ i = .int .i64 q ∧ Hid (Alling w wr s (allOf f k ++ (upTo (f k) j ++ (f k j).take q)))) (fun _ i _ => (u k j).n - (intOf i).toNat)
          case atStart => exact ⟨t, 0, Nat.zero_le _, rfl, rfl, Lib.hid (by have := HI.out; simpa using this)⟩
          case round =>
            obtain ⟨p, q, hq, rfl, rfl, HQ⟩ := hrel
            have hl3 := (HC.out.2.over HQ.out.bel hB) j J3.out
            have hcj := ((HQ.out.bel.mono hB).cell (p := ⟨b, off + k * 3 + j, none⟩) hbB).trans (HC.out.1 j J3.out)
            have hbs : b < wr.heap.size := by have := HQ.out.bel.size; omega
            have hlen' := hl3.1.1.symm
            by_cases hltq : q < (u k j).n
            · obtain ⟨b2, off2, e2, hb2, hc2⟩ := hl3.1.2 (by omega)
              have hnum := hc2 q hltq
              have hbs2 : b2 < wr.heap.size := by have := HQ.out.bel.size; omega
              clear hc2 hl3
              have hq2 : q < 2000000 := by
                have h2 := HX.out
                have h4 := HN.out
                omega
              have hsum : p.n + 1 ≤ 4000000 := by
                have h1 := HQ.out.len
                have h2 := HX.out
                have h4 := HN.out
                rw [List.length_append, List.length_append, List.length_take] at h1
                omega
              go_wp2_with (at_builtin; refine list_cat rfl _ _ rfl rfl rfl (HQ.out.alloc _).own (row_lit1 _ _) (HQ.out.alloc _).bel.size hsum ?_)
              intro p' cp' w2 hcat
              have hA2 := (HQ.out.alloc _).cat hcat
              have H2 := Lib.hid hA2
              clear hcat hA2
              go_wp2
              go_roundw
              case rel =>
                exact ⟨⟨p', p.n + 1, cp'⟩, q + 1, by omega, rfl, by go_num, H2⟩
              case measure => simp [intOf]; omega
            · obtain rfl : q = (u k j).n := by omega
              have H2 := HQ.out
              rw [hlen', upTo_take] at H2
              have H3 := Lib.hid H2
              clear H2 hlen' hl3
              go_wp2
              go_roundw
              case rel => exact ⟨p, j + 1, J3.out, rfl, by go_num, H3⟩
              case measure => simp [intOf]; omega
        · obtain rfl : j = 3 := by omega
          have H3 := HI.out
          rw [← allOf_succ] at H3
          have H4 := Lib.hid H3
          clear H3
          go_wp2
          go_roundw
          case rel => exact ⟨t, k + 1, by omega, rfl, by go_num, H4⟩
          case measure => simp [intOf]; omega
    · obtain rfl : k = n := by omega
      go_wp2
      go_ret
      exact ⟨s, rfl, HA.out.own, HA.out.bel⟩
end Go.Proofs.YtmalopciboikhaaGreatDoor.Ls
end
