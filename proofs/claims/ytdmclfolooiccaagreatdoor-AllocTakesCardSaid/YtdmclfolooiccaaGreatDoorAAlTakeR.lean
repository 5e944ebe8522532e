/-
  A region 's := store{copied(h), own(c)}': what has been carried out, in whatever order.
-/
import Derived.Test.YtdmclfolooiccaaGreatDoorAAlTakeA
import Derived.Test.YtdmclfolooiccaaGreatDoorHpAQ
namespace Go.Proofs.YtdmclfolooiccaaGreatDoor
open Go.RowKit
set_option maxRecDepth 100000

structure TR (W7 wc : World) (l : Nat → Bool) (x10 x30 x31 x32 x33 x34 : Value) (s : Hs) (u : Nat → Ls.Sl) (d : Hd_) (G : Nat → List Int) (t : Hs) (v : Nat → Ls.Sl) (b9 : Nat) : Prop where
  bel : Below W7.heap.size W7 wc
  s0 : l 0 = true → x30 = (.agg #[.slice s.w.a s.w.n s.w.c, .slice s.p.a s.p.n s.p.c, .slice (s.u 0).a (s.u 0).n (s.u 0).c, .slice (s.u 1).a (s.u 1).n (s.u 1).c, .slice (s.u 2).a (s.u 2).n (s.u 2).c, .slice s.c.a s.c.n s.c.c])
  s1 : l 1 = true → x31 = (.agg #[.slice t.w.a t.w.n t.w.c, .slice t.p.a t.p.n t.p.c, .slice (t.u 0).a (t.u 0).n (t.u 0).c, .slice (t.u 1).a (t.u 1).n (t.u 1).c, .slice (t.u 2).a (t.u 2).n (t.u 2).c, .slice t.c.a t.c.n t.c.c]) ∧ Hp wc wc.heap.size t d ∧ Lens s t ∧ t.p.n ≤ t.p.c
  s2 : l 2 = true → x32 = (.agg #[.slice (u 0).a (u 0).n (u 0).c, .slice (u 1).a (u 1).n (u 1).c, .slice (u 2).a (u 2).n (u 2).c])
  s3 : l 3 = true → x33 = (.agg #[.slice (v 0).a (v 0).n (v 0).c, .slice (v 1).a (v 1).n (v 1).c, .slice (v 2).a (v 2).n (v 2).c]) ∧ Ls.L3 wc wc.heap.size v G
  s4 : l 4 = true → x34 = .agg #[.slice t.w.a t.w.n t.w.c, .slice t.p.a t.p.n t.p.c, .slice (t.u 0).a (t.u 0).n (t.u 0).c, .slice (t.u 1).a (t.u 1).n (t.u 1).c, .slice (t.u 2).a (t.u 2).n (t.u 2).c, .slice t.c.a t.c.n t.c.c, .slice (v 0).a (v 0).n (v 0).c, .slice (v 1).a (v 1).n (v 1).c, .slice (v 2).a (v 2).n (v 2).c]
  s5 : l 5 = true → x10 = .pointer (some ⟨b9, 0, none⟩) ∧ W7.heap.size ≤ b9 ∧ (l 6 = false → Box9 wc b9 noHs Ls.noSl)
  s6 : l 6 = true → Sto wc b9 t v d G
  o6 : l 6 = true → ∀ j, j < 6 → l j = true
  o3 : l 3 = true → l 1 = true
  o4 : l 4 = true → l 3 = true
section
variable {W7 wc wc' : World} {l : Nat → Bool} {x10 x30 x31 x32 x33 x34 : Value} {s : Hs} {u : Nat → Ls.Sl} {d : Hd_} {G : Nat → List Int} {t : Hs} {v : Nat → Ls.Sl} {b9 : Nat}
theorem TR.start (x10 x30 x31 x32 x33 x34 : Value) : TR W7 W7.drew (fun _ => false) x10 x30 x31 x32 x33 x34 s u d G noHs Ls.noSl 0 :=
  ⟨below_drew0 W7, (fun h => by cases h), (fun h => by cases h), (fun h => by cases h), (fun h => by cases h), (fun h => by cases h), (fun h => by cases h), (fun h => by cases h), (fun h => by cases h), (fun h => by cases h), (fun h => by cases h)⟩
theorem TR.not6 (h : TR W7 wc l x10 x30 x31 x32 x33 x34 s u d G t v b9) {i : Nat} (hi : i < 6) (hl : l i = false) : l 6 = false := by
  cases e : l 6
  · rfl
  · rw [h.o6 e i hi] at hl; cases hl
theorem TR.did0 (h : TR W7 wc l x10 x30 x31 x32 x33 x34 s u d G t v b9) (hl : l 0 = false) : TR W7 wc (Ls.upd l 0 true) x10 (.agg #[.slice s.w.a s.w.n s.w.c, .slice s.p.a s.p.n s.p.c, .slice (s.u 0).a (s.u 0).n (s.u 0).c, .slice (s.u 1).a (s.u 1).n (s.u 1).c, .slice (s.u 2).a (s.u 2).n (s.u 2).c, .slice s.c.a s.c.n s.c.c]) x31 x32 x33 x34 s u d G t v b9 :=
  ⟨h.bel, fun _ => rfl, h.s1, h.s2, h.s3, h.s4, h.s5, h.s6, fun e => absurd e (by show ¬ l 6 = true; rw [h.not6 (by decide) hl]; decide), h.o3, h.o4⟩
theorem TR.did2 (h : TR W7 wc l x10 x30 x31 x32 x33 x34 s u d G t v b9) (hl : l 2 = false) : TR W7 wc (Ls.upd l 2 true) x10 x30 x31 (.agg #[.slice (u 0).a (u 0).n (u 0).c, .slice (u 1).a (u 1).n (u 1).c, .slice (u 2).a (u 2).n (u 2).c]) x33 x34 s u d G t v b9 :=
  ⟨h.bel, h.s0, h.s1, fun _ => rfl, h.s3, h.s4, h.s5, h.s6, fun e => absurd e (by show ¬ l 6 = true; rw [h.not6 (by decide) hl]; decide), h.o3, h.o4⟩
theorem TR.did4 (h : TR W7 wc l x10 x30 x31 x32 x33 x34 s u d G t v b9) (hl : l 4 = false) (hl3 : l 3 = true) : TR W7 wc (Ls.upd l 4 true) x10 x30 x31 x32 x33 (.agg #[.slice t.w.a t.w.n t.w.c, .slice t.p.a t.p.n t.p.c, .slice (t.u 0).a (t.u 0).n (t.u 0).c, .slice (t.u 1).a (t.u 1).n (t.u 1).c, .slice (t.u 2).a (t.u 2).n (t.u 2).c, .slice t.c.a t.c.n t.c.c, .slice (v 0).a (v 0).n (v 0).c, .slice (v 1).a (v 1).n (v 1).c, .slice (v 2).a (v 2).n (v 2).c]) s u d G t v b9 :=
  ⟨h.bel, h.s0, h.s1, h.s2, h.s3, fun _ => rfl, h.s5, h.s6, fun e => absurd e (by show ¬ l 6 = true; rw [h.not6 (by decide) hl]; decide), h.o3, fun _ => hl3⟩
theorem TR.did1 (h : TR W7 wc l x10 x30 x31 x32 x33 x34 s u d G t v b9) (hl : l 1 = false) {t' : Hs} (hb : Below wc.heap.size wc wc') (hp : Hp wc' wc'.heap.size t' d) (hn : Lens s t') (pc : t'.p.n ≤ t'.p.c) : TR W7 wc' (Ls.upd l 1 true) x10 x30 (.agg #[.slice t'.w.a t'.w.n t'.w.c, .slice t'.p.a t'.p.n t'.p.c, .slice (t'.u 0).a (t'.u 0).n (t'.u 0).c, .slice (t'.u 1).a (t'.u 1).n (t'.u 1).c, .slice (t'.u 2).a (t'.u 2).n (t'.u 2).c, .slice t'.c.a t'.c.n t'.c.c]) x32 x33 x34 s u d G t' v b9 := by
  have h6 := h.not6 (by decide) hl
  have hl3 : l 3 = false := by
    cases e : l 3
    · rfl
    · rw [h.o3 e] at hl; cases hl
  have hl4 : l 4 = false := by
    cases e : l 4
    · rfl
    · rw [h.o4 e] at hl3; cases hl3
  exact ⟨h.bel.trans (hb.mono h.bel.size), h.s0, fun _ => ⟨rfl, hp, hn, pc⟩, h.s2, fun e => absurd e (by show ¬ l 3 = true; rw [hl3]; decide), fun e => absurd e (by show ¬ l 4 = true; rw [hl4]; decide), fun e => ⟨(h.s5 e).1, (h.s5 e).2.1, fun _ => ((h.s5 e).2.2 h6).next hb⟩, fun e => absurd e (by show ¬ l 6 = true; rw [h6]; decide), fun e => absurd e (by show ¬ l 6 = true; rw [h6]; decide), fun e => absurd e (by show ¬ l 3 = true; rw [hl3]; decide), fun e => absurd e (by show ¬ l 4 = true; rw [hl4]; decide)⟩
theorem TR.did3 (h : TR W7 wc l x10 x30 x31 x32 x33 x34 s u d G t v b9) (hl : l 3 = false) (hl1 : l 1 = true) {v' : Nat → Ls.Sl} (hb : Below wc.heap.size wc wc') (hp : Ls.L3 wc' wc'.heap.size v' G) : TR W7 wc' (Ls.upd l 3 true) x10 x30 x31 x32 (.agg #[.slice (v' 0).a (v' 0).n (v' 0).c, .slice (v' 1).a (v' 1).n (v' 1).c, .slice (v' 2).a (v' 2).n (v' 2).c]) x34 s u d G t v' b9 := by
  have h6 := h.not6 (by decide) hl
  have hl4 : l 4 = false := by
    cases e : l 4
    · rfl
    · rw [h.o4 e] at hl; cases hl
  exact ⟨h.bel.trans (hb.mono h.bel.size), h.s0, fun e => ⟨(h.s1 e).1, (h.s1 e).2.1.next hb, (h.s1 e).2.2⟩, h.s2, fun _ => ⟨rfl, hp⟩, fun e => absurd e (by show ¬ l 4 = true; rw [hl4]; decide), fun e => ⟨(h.s5 e).1, (h.s5 e).2.1, fun _ => ((h.s5 e).2.2 h6).next hb⟩, fun e => absurd e (by show ¬ l 6 = true; rw [h6]; decide), fun e => absurd e (by show ¬ l 6 = true; rw [h6]; decide), fun _ => hl1, fun e => absurd e (by show ¬ l 4 = true; rw [hl4]; decide)⟩
theorem box9_none (wc : World) (ty : TypeId) : Box9 (wc.alloc (.cells #[.slice none 0 0, .slice none 0 0, .slice none 0 0, .slice none 0 0, .slice none 0 0, .slice none 0 0, .slice none 0 0, .slice none 0 0, .slice none 0 0] ty)) wc.heap.size noHs Ls.noSl := by
  refine ⟨⟨?_, ?_, ?_, ?_, ?_, ?_, by simp⟩, ?_, ?_, ?_, fun j => by simp [go_sem], slices9_new wc noHs Ls.noSl ty⟩ <;> simp [go_sem, noHs, Ls.noSl]
theorem TR.did5 (h : TR W7 wc l x10 x30 x31 x32 x33 x34 s u d G t v b9) (hl : l 5 = false) (ty : TypeId) : TR W7 (wc.alloc (.cells #[.slice none 0 0, .slice none 0 0, .slice none 0 0, .slice none 0 0, .slice none 0 0, .slice none 0 0, .slice none 0 0, .slice none 0 0, .slice none 0 0] ty)) (Ls.upd l 5 true) (.pointer (some ⟨wc.heap.size, 0, none⟩)) x30 x31 x32 x33 x34 s u d G t v wc.heap.size := by
  have h6 := h.not6 (by decide) hl
  have hb : Below wc.heap.size wc (wc.alloc (.cells #[.slice none 0 0, .slice none 0 0, .slice none 0 0, .slice none 0 0, .slice none 0 0, .slice none 0 0, .slice none 0 0, .slice none 0 0, .slice none 0 0] ty)) := (Below.refl _ _).alloc (Nat.le_refl _) _
  exact ⟨h.bel.trans (hb.mono h.bel.size), h.s0, fun e => ⟨(h.s1 e).1, (h.s1 e).2.1.next hb, (h.s1 e).2.2⟩, h.s2, fun e => ⟨(h.s3 e).1, (h.s3 e).2.next hb⟩, h.s4, fun _ => ⟨rfl, h.bel.size, fun _ => box9_none wc ty⟩, fun e => absurd e (by show ¬ l 6 = true; rw [h6]; decide), fun e => absurd e (by show ¬ l 6 = true; rw [h6]; decide), h.o3, h.o4⟩
theorem TR.did6 (h : TR W7 wc l x10 x30 x31 x32 x33 x34 s u d G t v b9) (hl : l 6 = false) (hall : ∀ j, j < 6 → l j = true) : TR W7 (((((((((wc.setCell ⟨b9, 0, none⟩ (.slice t.w.a t.w.n t.w.c)).setCell ⟨b9, 1, none⟩ (.slice t.p.a t.p.n t.p.c)).setCell ⟨b9, 2, none⟩ (.slice (t.u 0).a (t.u 0).n (t.u 0).c)).setCell ⟨b9, 3, none⟩ (.slice (t.u 1).a (t.u 1).n (t.u 1).c)).setCell ⟨b9, 4, none⟩ (.slice (t.u 2).a (t.u 2).n (t.u 2).c)).setCell ⟨b9, 5, none⟩ (.slice t.c.a t.c.n t.c.c)).setCell ⟨b9, 6, none⟩ (.slice (v 0).a (v 0).n (v 0).c)).setCell ⟨b9, 7, none⟩ (.slice (v 1).a (v 1).n (v 1).c)).setCell ⟨b9, 8, none⟩ (.slice (v 2).a (v 2).n (v 2).c)) (Ls.upd l 6 true) x10 x30 x31 x32 x33 x34 s u d G t v b9 := by
  have h1 := (h.s1 (hall 1 (by decide))).2
  have h3 := (h.s3 (hall 3 (by decide))).2
  have h5 := h.s5 (hall 5 (by decide))
  have B := h5.2.2 hl
  have hb : ∀ k x, Below W7.heap.size W7 wc → Below W7.heap.size W7 (wc.setCell ⟨b9, k, none⟩ x) := fun k x hh => hh.setCell (p := ⟨b9, k, none⟩) h5.2.1 x
  have ho : ∀ i, ¬ i = b9 → ((((((((((wc.setCell ⟨b9, 0, none⟩ (.slice t.w.a t.w.n t.w.c)).setCell ⟨b9, 1, none⟩ (.slice t.p.a t.p.n t.p.c)).setCell ⟨b9, 2, none⟩ (.slice (t.u 0).a (t.u 0).n (t.u 0).c)).setCell ⟨b9, 3, none⟩ (.slice (t.u 1).a (t.u 1).n (t.u 1).c)).setCell ⟨b9, 4, none⟩ (.slice (t.u 2).a (t.u 2).n (t.u 2).c)).setCell ⟨b9, 5, none⟩ (.slice t.c.a t.c.n t.c.c)).setCell ⟨b9, 6, none⟩ (.slice (v 0).a (v 0).n (v 0).c)).setCell ⟨b9, 7, none⟩ (.slice (v 1).a (v 1).n (v 1).c)).setCell ⟨b9, 8, none⟩ (.slice (v 2).a (v 2).n (v 2).c))).heap[i]? = wc.heap[i]? := fun i hi => ((((((((set_others i hi).trans (set_others i hi)).trans (set_others i hi)).trans (set_others i hi)).trans (set_others i hi)).trans (set_others i hi)).trans (set_others i hi)).trans (set_others i hi)).trans (set_others i hi)
  have hz : wc.heap.size = ((((((((((wc.setCell ⟨b9, 0, none⟩ (.slice t.w.a t.w.n t.w.c)).setCell ⟨b9, 1, none⟩ (.slice t.p.a t.p.n t.p.c)).setCell ⟨b9, 2, none⟩ (.slice (t.u 0).a (t.u 0).n (t.u 0).c)).setCell ⟨b9, 3, none⟩ (.slice (t.u 1).a (t.u 1).n (t.u 1).c)).setCell ⟨b9, 4, none⟩ (.slice (t.u 2).a (t.u 2).n (t.u 2).c)).setCell ⟨b9, 5, none⟩ (.slice t.c.a t.c.n t.c.c)).setCell ⟨b9, 6, none⟩ (.slice (v 0).a (v 0).n (v 0).c)).setCell ⟨b9, 7, none⟩ (.slice (v 1).a (v 1).n (v 1).c)).setCell ⟨b9, 8, none⟩ (.slice (v 2).a (v 2).n (v 2).c))).heap.size := by simp only [set_size]
  have B0 := B.set (t' := ⟨t.w, noHs.p, noHs.u, noHs.c⟩) (u' := Ls.noSl) 0 t.w.a t.w.n t.w.c rfl rfl rfl rfl rfl rfl rfl rfl rfl
  have B1 := B0.set (t' := ⟨t.w, t.p, noHs.u, noHs.c⟩) (u' := Ls.noSl) 1 t.p.a t.p.n t.p.c rfl rfl rfl rfl rfl rfl rfl rfl rfl
  have B4 := B1.free3 t.u
  have B5 := B4.set (t' := ⟨t.w, t.p, t.u, t.c⟩) (u' := Ls.noSl) 5 t.c.a t.c.n t.c.c rfl rfl rfl rfl rfl rfl rfl rfl rfl
  have B8 := B5.cache3 v
  have hp' := hp_turn B.sl h1.1 ho hz
  have hl3' := l3_turn B.sl h3 ho hz
  have bel : Below W7.heap.size W7 (((((((((wc.setCell ⟨b9, 0, none⟩ (.slice t.w.a t.w.n t.w.c)).setCell ⟨b9, 1, none⟩ (.slice t.p.a t.p.n t.p.c)).setCell ⟨b9, 2, none⟩ (.slice (t.u 0).a (t.u 0).n (t.u 0).c)).setCell ⟨b9, 3, none⟩ (.slice (t.u 1).a (t.u 1).n (t.u 1).c)).setCell ⟨b9, 4, none⟩ (.slice (t.u 2).a (t.u 2).n (t.u 2).c)).setCell ⟨b9, 5, none⟩ (.slice t.c.a t.c.n t.c.c)).setCell ⟨b9, 6, none⟩ (.slice (v 0).a (v 0).n (v 0).c)).setCell ⟨b9, 7, none⟩ (.slice (v 1).a (v 1).n (v 1).c)).setCell ⟨b9, 8, none⟩ (.slice (v 2).a (v 2).n (v 2).c)) := ((((((((h.bel.setCell (p := ⟨b9, 0, none⟩) h5.2.1 _).setCell (p := ⟨b9, 1, none⟩) h5.2.1 _).setCell (p := ⟨b9, 2, none⟩) h5.2.1 _).setCell (p := ⟨b9, 3, none⟩) h5.2.1 _).setCell (p := ⟨b9, 4, none⟩) h5.2.1 _).setCell (p := ⟨b9, 5, none⟩) h5.2.1 _).setCell (p := ⟨b9, 6, none⟩) h5.2.1 _).setCell (p := ⟨b9, 7, none⟩) h5.2.1 _).setCell (p := ⟨b9, 8, none⟩) h5.2.1 _
  exact ⟨bel, h.s0, fun e => ⟨(h.s1 e).1, hp', (h.s1 e).2.2⟩, h.s2, fun e => ⟨(h.s3 e).1, hl3'⟩, h.s4, fun e => ⟨(h.s5 e).1, (h.s5 e).2.1, fun e6 => by cases e6⟩, fun _ => ⟨B8, hp', hl3', h1.2.2⟩, fun _ j hj => by rw [Ls.upd_other _ _ (by omega)]; exact hall j hj, h.o3, h.o4⟩
end
def TPut (a : Act) (x10 x30 x31 x32 x33 x34 : Value) : Act := ((((((a.put (some 10) x10).put (some 30) x30).put (some 31) x31).put (some 32) x32).put (some 33) x33).put (some 34) x34)
def TInv (W7 : World) (s : Hs) (u : Nat → Ls.Sl) (d : Hd_) (G : Nat → List Int) (a0 : Act) (l : Nat → Bool) (a : Act) (wc : World) : Prop :=
  ∃ x10 x30 x31 x32 x33 x34 t v b9, a = TPut a0 x10 x30 x31 x32 x33 x34 ∧ TR W7 wc l x10 x30 x31 x32 x33 x34 s u d G t v b9
end Go.Proofs.YtdmclfolooiccaaGreatDoor
