/-
  What a walk holds in memory of its own: things, each in blocks of its own, apart from one another; kept while others are made or turned.
-/
import Derived.Test.YtegggfghocicaaaLsInv
namespace Go.Proofs.Ytegggfghocicaaa
open Go.RowKit

structure Thing where
  blk : Nat → Prop
  ok : World → Prop
  stab : ∀ w w' : World, ok w → w.heap.size ≤ w'.heap.size → (∀ b, blk b → w'.heap[b]? = w.heap[b]?) → ok w'
def tOwn (base : Nat) (U : Nat → Sl) (f : Nat → List Int) : Thing :=
  ⟨fun b => ∃ j x, j < 3 ∧ (U j).a = some x ∧ x.block = b, fun w => Own3 w base U f, fun _ _ h _ hs => h.same (fun j x hj hx => hs _ ⟨j, x, hj, hx, rfl⟩)⟩
def tBox (d : Nat) (z : Nat → Sl) : Thing := ⟨fun b => b = d, fun w => Box3 w d z, fun _ _ h hl hs => h.same (hs d rfl) hl⟩

structure Res (base : Nat) (W w : World) (R : Nat → Option Thing) : Prop where
  bel : Below base W w
  ok : ∀ r t, R r = some t → t.ok w ∧ ∀ b, t.blk b → base ≤ b ∧ b < w.heap.size
  apart : ∀ r s t t', R r = some t → R s = some t' → ¬ r = s → ∀ b, t.blk b → ¬ t'.blk b
section
variable {base : Nat} {W w w' : World} {R : Nat → Option Thing}
theorem Res.none_ (W : World) (base : Nat) : Res base W W (fun _ => none) := ⟨Below.refl _ _, (fun _ _ h => by cases h), (fun _ _ _ _ h => by cases h)⟩
theorem Res.next (h : Res base W w R) (hw : base ≤ w.heap.size) (hb : Below w.heap.size w w') : Res base W w' R :=
  ⟨h.bel.trans (hb.mono hw), fun r t hr => ⟨t.stab w w' (h.ok r t hr).1 hb.size (fun b hbk => hb.block b ((h.ok r t hr).2 b hbk).2), fun b hbk => ⟨((h.ok r t hr).2 b hbk).1, Nat.lt_of_lt_of_le ((h.ok r t hr).2 b hbk).2 hb.size⟩⟩, h.apart⟩
theorem Res.drewN (h : Res base W w R) (k : Nat) : Res base W (w.drewN k) R :=
  ⟨below_drawn h.bel k, fun r t hr => ⟨t.stab w _ (h.ok r t hr).1 (Nat.le_refl _) (fun _ _ => rfl), (h.ok r t hr).2⟩, h.apart⟩
/-- One more thing, in new memory. -/
theorem Res.add (h : Res base W w R) (hw : base ≤ w.heap.size) (hb : Below w.heap.size w w') (r : Nat) (t : Thing) (ht : t.ok w') (hn : ∀ b, t.blk b → w.heap.size ≤ b ∧ b < w'.heap.size) : Res base W w' (upd R r (some t)) := by
  have h' := h.next hw hb
  refine ⟨h'.bel, fun s t' hs => ?_, fun s s' t1 t2 h1 h2 hne b hb1 hb2 => ?_⟩
  · by_cases e : s = r
    · subst e
      rw [upd_same] at hs
      cases hs
      exact ⟨ht, fun b hbk => ⟨Nat.le_trans hw (hn b hbk).1, (hn b hbk).2⟩⟩
    · rw [upd_other _ _ e] at hs
      exact h'.ok s t' hs
  · by_cases e : s = r
    · subst e
      rw [upd_same] at h1
      cases h1
      rw [upd_other _ _ (fun e => hne e.symm)] at h2
      have := (hn b hb1).1
      have := ((h.ok s' t2 h2).2 b hb2).2
      omega
    · rw [upd_other _ _ e] at h1
      by_cases e' : s' = r
      · subst e'
        rw [upd_same] at h2
        cases h2
        have := (hn b hb2).1
        have := ((h.ok s t1 h1).2 b hb1).2
        omega
      · rw [upd_other _ _ e'] at h2
        exact h.apart s s' t1 t2 h1 h2 hne b hb1 hb2
/-- One thing is turned: where it lay, or in new memory; all else is as it was. -/
theorem Res.change (h : Res base W w R) (hw : base ≤ w.heap.size) {r : Nat} {t : Thing} (hr : R r = some t) (h1 : w'.os = w.os) (h2 : w'.tape = w.tape) (h3 : w'.output = w.output) (h4 : w.heap.size ≤ w'.heap.size)
    (hs : ∀ b, b < w.heap.size → ¬ t.blk b → w'.heap[b]? = w.heap[b]?) (t' : Thing) (ht : t'.ok w') (hn : ∀ b, t'.blk b → (t.blk b ∨ w.heap.size ≤ b) ∧ b < w'.heap.size) : Res base W w' (upd R r (some t')) := by
  have old := h.ok r t hr
  refine ⟨h.bel.trans ⟨h1, h2, h3, h4, fun b hb => hs b (by omega) (fun hbk => by have := (old.2 b hbk).1; omega)⟩, fun s t1 h1 => ?_, fun s s' t1 t2 h1 h2 hne b hb1 hb2 => ?_⟩
  · by_cases e : s = r
    · subst e
      rw [upd_same] at h1
      cases h1
      refine ⟨ht, fun b hbk => ⟨?_, (hn b hbk).2⟩⟩
      rcases (hn b hbk).1 with hb | hb
      · exact (old.2 b hb).1
      · exact Nat.le_trans hw hb
    · rw [upd_other _ _ e] at h1
      have o1 := h.ok s t1 h1
      exact ⟨t1.stab w w' o1.1 h4 (fun b hbk => hs b (o1.2 b hbk).2 (h.apart s r t1 t h1 hr e b hbk)), fun b hbk => ⟨(o1.2 b hbk).1, Nat.lt_of_lt_of_le (o1.2 b hbk).2 h4⟩⟩
  · by_cases e : s = r
    · subst e
      rw [upd_same] at h1
      cases h1
      rw [upd_other _ _ (fun e => hne e.symm)] at h2
      rcases (hn b hb1).1 with hb | hb
      · exact h.apart s s' t t2 hr h2 hne b hb hb2
      · have := ((h.ok s' t2 h2).2 b hb2).2
        omega
    · rw [upd_other _ _ e] at h1
      by_cases e' : s' = r
      · subst e'
        rw [upd_same] at h2
        cases h2
        rcases (hn b hb2).1 with hb | hb
        · exact h.apart s s' t1 t h1 hr hne b hb1 hb
        · have := ((h.ok s t1 h1).2 b hb1).2
          omega
      · rw [upd_other _ _ e'] at h2
        exact h.apart s s' t1 t2 h1 h2 hne b hb1 hb2
theorem Res.own {r : Nat} {b0 : Nat} {U : Nat → Sl} {f : Nat → List Int} (h : Res base W w R) (hr : R r = some (tOwn b0 U f)) : Own3 w b0 U f := (h.ok r _ hr).1
theorem Res.box {r : Nat} {d : Nat} {z : Nat → Sl} (h : Res base W w R) (hr : R r = some (tBox d z)) : Box3 w d z := (h.ok r _ hr).1
/-- New lists of one's own. -/
theorem Res.copied {U : Nat → Sl} {f : Nat → List Int} (h : Res base W w R) (hw : base ≤ w.heap.size) (ho : Own3 w' w.heap.size U f) (hb : Below w.heap.size w w') (r : Nat) : Res base W w' (upd R r (some (tOwn base U f))) :=
  h.add hw hb r _ (ho.less hw) (by rintro b ⟨j, x, hj, hx, rfl⟩; exact ho.block j hj hx)
/-- A new box. -/
theorem Res.boxed (h : Res base W w R) (hw : base ≤ w.heap.size) (z : Nat → Sl) (r : Nat) : Res base W (w.alloc (.cells #[.slice (z 0).a (z 0).n (z 0).c, .slice (z 1).a (z 1).n (z 1).c, .slice (z 2).a (z 2).n (z 2).c] 24)) (upd R r (some (tBox w.heap.size z))) :=
  h.add hw ((Below.refl _ _).alloc (Nat.le_refl _) _) r _ (Box3.new w z 24) (fun b e => by cases e; simp)
/-- A whole value is stored into a box. -/
theorem Res.put {r d : Nat} {z : Nat → Sl} (h : Res base W w R) (hw : base ≤ w.heap.size) (hr : R r = some (tBox d z)) (z' : Nat → Sl) : Res base W (put3 w d z') (upd R r (some (tBox d z'))) :=
  h.change (w' := put3 w d z') hw hr rfl rfl rfl (by rw [put3_size]; exact Nat.le_refl _) (fun b _ (hb : ¬ b = d) => put3_other w z' hb) (tBox d z') ((h.box hr).put z') (fun b (e : b = d) => ⟨.inl e, by rw [put3_size, e]; exact (h.box hr).lt⟩)
/-- One slice is stored into a box. -/
theorem Res.set {r d k : Nat} {z : Nat → Sl} (h : Res base W w R) (hw : base ≤ w.heap.size) (hr : R r = some (tBox d z)) (hk : k < 3) (s : Sl) : Res base W (w.setCell ⟨d, k, none⟩ (.slice s.a s.n s.c)) (upd R r (some (tBox d (upd z k s)))) :=
  h.change (w' := w.setCell ⟨d, k, none⟩ (.slice s.a s.n s.c)) hw hr rfl rfl rfl (by simp [World.setCell]) (fun b _ (hb : ¬ b = d) => Below.heap_setCell _ _ _ _ hb) (tBox d (upd z k s)) ((h.box hr).set hk s) (fun b (e : b = d) => ⟨.inl e, by have := (h.box hr).lt; simpa [World.setCell, e] using this⟩)
/-- One of three slices is appended to. -/
theorem Res.catted {r k b0 : Nat} {U : Nat → Sl} {f : Nat → List Int} {s : Sl} {xs : List Int} {o : Obj} (h : Res base W w R) (hw : base ≤ w.heap.size) (hr : R r = some (tOwn base U f)) (hk : k < 3)
    (hc : Catted (w.alloc o) b0 (.slice (U k).a (U k).n (U k).c) s xs w') (ho : w'.ownsRow base 3 1 (.slice s.a s.n s.c) s.n (xs.map (Value.int .i64))) : Res base W w' (upd R r (some (tOwn base (upd U k s) (upd f k xs)))) := by
  have O := h.own hr
  have hs : (w.alloc o).heap.size = w.heap.size + 1 := by simp
  refine h.change hw hr (hc.grown.os.trans rfl) (hc.grown.tape.trans rfl) (hc.grown.output.trans rfl) (by have := hc.grown.size; omega) (fun b hb hbk => ?_) _ ((O.alloc o).appended hk s ho hc.grown hc.lies) (fun b ⟨j, x, hj, hx, e⟩ => ?_)
  · refine (hc.grown.block b (by omega) (fun e => hbk ?_)).trans (Below.heap_alloc _ _ _ hb)
    rw [ownBlock_slice] at e
    cases hx : (U k).a with
    | none => rw [hx] at e; cases e
    | some x =>
      rw [hx] at e
      simp at e
      exact ⟨k, x, hk, hx, e.symm⟩
  · have hlt := (((O.alloc o).appended hk s ho hc.grown hc.lies).block j hj hx).2
    subst e
    refine ⟨?_, hlt⟩
    by_cases e : j = k
    · subst e
      rw [upd_same] at hx
      rcases hc.lies x hx with e | e
      · left
        rw [ownBlock_slice] at e
        cases hy : (U j).a with
        | none => rw [hy] at e; cases e
        | some y =>
          rw [hy] at e
          simp at e
          exact ⟨j, y, hj, hy, e⟩
      · right
        omega
    · rw [upd_other _ _ e] at hx
      exact .inl ⟨j, x, hj, hx, rfl⟩
end
end Go.Proofs.Ytegggfghocicaaa
