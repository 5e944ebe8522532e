/-
  Merged texts: LsSep, LsBack, LsMoveR, LsMove, LsAll, PgRow, HpRow, Bits, Word, Calls, Unpack, Awake, Ref, RefUn, HpUn, ClsWalks.
-/
import Derived.RangeFuncNested
import Derived.RangeFuncBound
import Derived.RangeFuncCalls
import Derived.RangeFuncLeaves
import Derived.Below
import Derived.Test.YtjppimabhefeeaaGreatDoorHpOA
import Derived.Shelf.Abstract
import Derived.OwnWalkIn
import Derived.TacticsInMore
import Derived.LoopNIn
import Derived.LoopIn
import Derived.Deep.CutRange
import Derived.Sort.CutIn
import Derived.Deep.LoopGhost
import Derived.Laws.OwnMore
import Derived.Deep.Draws
import Derived.WalkKit
import Derived.Lib.Hide
import Derived.Test.YtjppimabhefeeaaGreatDoorRows
import Derived.WalkSmall
import Derived.RegionTactic
import Derived.ChangeAlike
import Derived.Deep.QuietTactic
import Derived.BigQuiet
import Derived.LoopTactic
section
namespace Go.Proofs.YtjppimabhefeeaaGreatDoor.Ls
open Go.Proofs.YtjppimabhefeeaaGreatDoor
set_option maxRecDepth 100000
open Go.RowKit

/-- The blocks of Z are as they were; the streams too. -/
structure Hold (Z : Nat → Prop) (w w' : World) : Prop where
  os : w'.os = w.os
  tape : w'.tape = w.tape
  output : w'.output = w.output
  size : w.heap.size ≤ w'.heap.size
  block : ∀ k, Z k → k < w.heap.size → w'.heap[k]? = w.heap[k]?
theorem Hold.refl (Z : Nat → Prop) (w : World) : Hold Z w w := ⟨rfl, rfl, rfl, Nat.le_refl _, fun _ _ _ => rfl⟩
theorem Hold.trans {Z : Nat → Prop} {a b c : World} (h : Hold Z a b) (k : Hold Z b c) : Hold Z a c :=
  ⟨k.os.trans h.os, k.tape.trans h.tape, k.output.trans h.output, Nat.le_trans h.size k.size, fun i hi hl => (k.block i hi (Nat.lt_of_lt_of_le hl h.size)).trans (h.block i hi hl)⟩
theorem hold_of_below {Z : Nat → Prop} {w w' : World} (h : Below w.heap.size w w') : Hold Z w w' := ⟨h.os, h.tape, h.output, h.size, fun k _ hl => h.block k hl⟩

section
variable {α : Type}
/-- What is said of M and what has come abides whatever turns blocks of M, and lays new ones. -/
def BidesZ (Z : Nat → Prop) (J : (Nat → Prop) → List α → World → Prop) : Prop :=
  ∀ M M' pre W W', J M pre W → Hold Z W W' → (∀ k, k < W.heap.size → ¬ M k → W'.heap[k]? = W.heap[k]?) → (∀ k, M' k → M k ∨ (W.heap.size ≤ k ∧ k < W'.heap.size)) → J M' pre W'
/-- The blocks of Z, and the blocks of M, are as they were. -/
def KeptZ (Z : Nat → Prop) (M : Nat → Prop) (W W' : World) : Prop := Hold Z W W' ∧ ∀ k, M k → k < W.heap.size → W'.heap[k]? = W.heap[k]?
theorem KeptZ.refl (Z : Nat → Prop) (M : Nat → Prop) (W : World) : KeptZ Z M W W := ⟨Hold.refl _ _, fun _ _ _ => rfl⟩
theorem KeptZ.trans {Z : Nat → Prop} {M : Nat → Prop} {A B C : World} (h : KeptZ Z M A B) (k : KeptZ Z M B C) : KeptZ Z M A C :=
  ⟨h.1.trans k.1, fun i hi hl => (k.2 i hi (Nat.lt_of_lt_of_le hl h.1.size)).trans (h.2 i hi hl)⟩
theorem KeptZ.less {Z : Nat → Prop} {M M' : Nat → Prop} {A B : World} (h : KeptZ Z M A B) (hm : ∀ k, M' k → M k) : KeptZ Z M' A B := ⟨h.1, fun i hi hl => h.2 i (hm i hi) hl⟩

/-- An iterator's value: it hands on the elements of L in their order, till a round says 'no more'. C: the blocks that it reads. -/
def GivesZ (P : Program) (g : Nat) (lb : Array Value) (encs : α → Array Value) (Z : Nat → Prop) (C : Nat → Prop) (L : List α) (w : World) : Prop :=
  ∀ (l : Nat) (J Jx : (Nat → Prop) → List α → World → Prop) (M : Nat → Prop) (W : World), Below w.heap.size w W → (∀ k, C k → M k ∨ Z k) → BidesZ Z J → BidesZ Z Jx →
    (∀ M pre x W1, pre ++ [x] <+: L → J M pre W1 → YieldAt Fence.wide 0 P l (encs x) W1 fun e W' => KeptZ Z M W1 W' ∧
      ((e = .returned (.bool true) ∧ J M (pre ++ [x]) W') ∨ (e = .returned (.bool false) ∧ Jx M (pre ++ [x]) W'))) →
    J M [] W →
    Calls P g (#[.func (.yield l) #[] #[]] ++ lb) W fun e W' => (∃ v, e = .returned v) ∧ ∃ M', J M' L W' ∨ ∃ pre, Jx M' pre W'
theorem GivesZ.later {P : Program} {g : Nat} {lb : Array Value} {encs : α → Array Value} {Z : Nat → Prop} {C : Nat → Prop} {L : List α} {w w' : World}
    (h : GivesZ P g lb encs Z C L w) (hb : Below w.heap.size w w') : GivesZ P g lb encs Z C L w' :=
  fun l J Jx M W hW => h l J Jx M W (hb.trans (hW.mono hb.size))

theorem hold_turned {Z : Nat → Prop} {W : World} {l : Nat} (o : Obj) (h : ¬ Z l) : Hold Z W (W.putObj l o) :=
  ⟨rfl, rfl, rfl, by simp, fun k hk _ => World.putObj_heap_other (by rintro rfl; exact h hk)⟩
theorem BidesZ.turned {Z : Nat → Prop} {J : (Nat → Prop) → List α → World → Prop} (h : BidesZ Z J) {M : Nat → Prop} {pre : List α} {W : World} {l : Nat} (o : Obj) (hj : J M pre W) (hn : ¬ Z l) (hM : M l) : J M pre (W.putObj l o) :=
  h M M pre W _ hj (hold_turned o hn) (fun _ _ hk => World.putObj_heap_other (fun e => hk (e ▸ hM))) (fun _ hk => .inl hk)
theorem BidesZ.more {Z : Nat → Prop} {J : (Nat → Prop) → List α → World → Prop} (h : BidesZ Z J) {M M' : Nat → Prop} {pre : List α} {W W' : World} (hj : J M pre W) (hb : Below W.heap.size W W')
    (hM : ∀ k, M' k → M k ∨ (W.heap.size ≤ k ∧ k < W'.heap.size)) : J M' pre W' :=
  h M M' pre W W' hj (hold_of_below hb) (fun k hk _ => hb.block k hk) hM

end
end Go.Proofs.YtjppimabhefeeaaGreatDoor.Ls
end
section
namespace Go.Proofs.YtjppimabhefeeaaGreatDoor.Ls
open Go.Proofs.YtjppimabhefeeaaGreatDoor
set_option maxRecDepth 100000
open Go.RowKit Go.Shelf
attribute [local go_sem] Oper.semAt_some

theorem Hold.cell {Z : Nat → Prop} {w w' : World} (h : Hold Z w w') {b o : Nat} {v : Value} (hb : Z b) (hc : w.cell? ⟨b, o, none⟩ = some v) : w'.cell? ⟨b, o, none⟩ = some v :=
  (World.cell?_of_block (a := ⟨b, o, none⟩) (h.block b hb (World.block_lt_of_cell? w _ hc))).trans hc
theorem Hold.row {Z : Nat → Prop} {w w' : World} (h : Hold Z w w') {B n : Nat} {A : Option Addr} {xs : List Int} (hr : Row w B A n xs) (hz : ∀ x, A = some x → Z x.block) : Row w' B A n xs :=
  ⟨hr.1, fun hn => by
    obtain ⟨b, off, rfl, hlt, hc⟩ := hr.2 hn
    exact ⟨b, off, rfl, hlt, fun i hi => h.cell (hz _ rfl) (hc i hi)⟩⟩

end Go.Proofs.YtjppimabhefeeaaGreatDoor.Ls
end
section
namespace Go.Proofs.YtjppimabhefeeaaGreatDoor.Ls
open Go.Proofs.YtjppimabhefeeaaGreatDoor
set_option maxRecDepth 100000
open Go.RowKit Go.Shelf

theorem upd_upd {α : Type} (u : Nat → α) (k : Nat) (a b : α) : upd (upd u k a) k b = upd u k b := by
  funext j
  by_cases e : j = k
  · rw [e, upd_same, upd_same]
  · rw [upd_other _ _ e, upd_other _ _ e, upd_other _ _ e]

theorem Res.same {base : Nat} {W w w' : World} {R : Nat → Option Thing} (h : Res base W w R) (hb : Below base w w') (hs : ∀ r t, R r = some t → ∀ b, t.blk b → w'.heap[b]? = w.heap[b]?) : Res base W w' R :=
  ⟨h.bel.trans hb, fun r t hr => ⟨t.stab w w' (h.ok r t hr).1 hb.size (hs r t hr), fun b hbk => ⟨((h.ok r t hr).2 b hbk).1, Nat.lt_of_lt_of_le ((h.ok r t hr).2 b hbk).2 hb.size⟩⟩, h.apart⟩

/-- Between two rounds: xs has been moved. -/
structure MvL (base : Nat) (W5 wl : World) (Z : Nat → Prop) (g : Nat → List Int) (k d2 : Nat) (xs : List Int) (M : Nat → Prop) (W : World) (V : Nat → Sl) (R : Nat → Option Thing) : Prop where
  hold : Hold Z wl W
  res : Res base W5 W R
  r1 : R 1 = some (tOwn base V (upd g k (g k ++ xs)))
  r3 : R 3 = some (tBox d2 V)
  off : ∀ r t, R r = some t → ∀ b, t.blk b → ¬ Z b ∧ ¬ M b
  fit : ∀ b, M b → b < W.heap.size
  zfit : ∀ b, Z b → b < wl.heap.size
  low : ∀ b, b < base → Z b
  big : base ≤ W.heap.size
section
variable {base k d2 : Nat} {W5 wl W W' : World} {Z M M' : Nat → Prop} {g : Nat → List Int} {xs : List Int} {V : Nat → Sl} {R : Nat → Option Thing}
theorem MvL.bides (h : MvL base W5 wl Z g k d2 xs M W V R) (hz : Hold Z W W') (hs : ∀ j, j < W.heap.size → ¬ M j → W'.heap[j]? = W.heap[j]?) (hm : ∀ j, M' j → M j ∨ (W.heap.size ≤ j ∧ j < W'.heap.size)) : MvL base W5 wl Z g k d2 xs M' W' V R := by
  refine ⟨h.hold.trans hz, h.res.same ⟨hz.os, hz.tape, hz.output, hz.size, fun b hb => hz.block b (h.low b hb) (Nat.lt_of_lt_of_le hb h.big)⟩ (fun r t hr b hb => hs b ((h.res.ok r t hr).2 b hb).2 (h.off r t hr b hb).2), h.r1, h.r3, fun r t hr b hb => ⟨(h.off r t hr b hb).1, fun hM => ?_⟩, fun b hb => ?_, h.zfit, h.low, Nat.le_trans h.big hz.size⟩
  · rcases hm b hM with hm | hm
    · exact (h.off r t hr b hb).2 hm
    · have := ((h.res.ok r t hr).2 b hb).2
      omega
  · rcases hm b hb with hm | hm
    · exact Nat.lt_of_lt_of_le (h.fit b hm) hz.size
    · exact hm.2
theorem MvL.own (h : MvL base W5 wl Z g k d2 xs M W V R) : Own3 W base V (upd g k (g k ++ xs)) := h.res.own h.r1
theorem MvL.box (h : MvL base W5 wl Z g k d2 xs M W V R) : Box3 W d2 V := h.res.box h.r3

/-- A round's end: one number more. -/
theorem MvL.moved (h : MvL base W5 wl Z g k d2 xs M W V R) (hk : k < 3) {s : Sl} {a : Int} {o : Obj} {w2 : World} (hc : Catted (W.drew.alloc o) base (.slice (V k).a (V k).n (V k).c) s (g k ++ xs ++ [a]) w2) :
    KeptZ Z M W (w2.setCell ⟨d2, k, none⟩ (.slice s.a s.n s.c)) ∧ ∃ V' R', MvL base W5 wl Z g k d2 (xs ++ [a]) M (w2.setCell ⟨d2, k, none⟩ (.slice s.a s.n s.c)) V' R' := by
  have hbig := h.big
  have RD : Res base W5 W.drew R := h.res.drewN 1
  have R1 := RD.catted (b0 := base) h.big h.r1 hk (s := s) (xs := g k ++ xs ++ [a]) hc hc.own
  have hsz : (W.drew.alloc o).heap.size = W.heap.size + 1 := by simp
  have hs2 : W.heap.size + 1 ≤ w2.heap.size := by have := hc.grown.size; omega
  have R2 := R1.set (by omega) (r := 3) (d := d2) (k := k) (z := V) (by rw [upd_other _ _ (by decide)]; exact h.r3) hk s
  have lies : ∀ q, (Value.slice (V k).a (V k).n (V k).c).ownBlock = some q → (tOwn base V (upd g k (g k ++ xs))).blk q := fun q hq => by
    rw [ownBlock_slice] at hq
    cases hx : (V k).a with
    | none => rw [hx] at hq; cases hq
    | some x =>
      rw [hx] at hq
      simp at hq
      exact ⟨k, x, hk, hx, hq⟩
  have keep : ∀ b, b < W.heap.size → (Z b ∨ M b) → (w2.setCell ⟨d2, k, none⟩ (.slice s.a s.n s.c)).heap[b]? = W.heap[b]? := fun b hb hzm => by
    have n1 : ¬ (tOwn base V (upd g k (g k ++ xs))).blk b := fun hbk => by
      have := h.off 1 _ h.r1 b hbk
      rcases hzm with hz | hz
      · exact this.1 hz
      · exact this.2 hz
    have n2 : ¬ b = d2 := fun e => by
      have := h.off 3 _ h.r3 b e
      rcases hzm with hz | hz
      · exact this.1 hz
      · exact this.2 hz
    refine (Below.heap_setCell _ _ _ _ n2).trans ((hc.grown.block b (by omega) (fun e => n1 (lies b e.symm))).trans (Below.heap_alloc _ _ _ hb))
  have hH : Hold Z W (w2.setCell ⟨d2, k, none⟩ (.slice s.a s.n s.c)) :=
    ⟨hc.grown.os, hc.grown.tape, hc.grown.output, by simp [World.setCell]; omega, fun b hz hb => keep b hb (.inl hz)⟩
  refine ⟨⟨hH, fun b hM hb => keep b hb (.inr hM)⟩, upd V k s, _, h.hold.trans hH, R2, ?_, upd_same _ _ _, ?_, fun b hM => ?_, h.zfit, h.low, by simp [World.setCell]; omega⟩
  · rw [upd_other _ _ (by decide), upd_same, upd_upd, List.append_assoc]
  · intro r t hr b hb
    have old : ∀ b, (tOwn base V (upd g k (g k ++ xs))).blk b ∨ W.heap.size ≤ b → ¬ Z b ∧ ¬ M b := fun b hb => by
      rcases hb with hb | hb
      · exact h.off 1 _ h.r1 b hb
      · refine ⟨fun hz => ?_, fun hM => ?_⟩
        · have := h.zfit b hz
          have := h.hold.size
          omega
        · have := h.fit b hM
          omega
    by_cases e3 : r = 3
    · subst e3
      rw [upd_same] at hr
      cases hr
      exact h.off 3 _ h.r3 b hb
    · rw [upd_other _ _ e3] at hr
      by_cases e1 : r = 1
      · subst e1
        rw [upd_same] at hr
        cases hr
        obtain ⟨j, x, hj, hx, rfl⟩ := hb
        by_cases ej : j = k
        · subst ej
          rw [upd_same] at hx
          rcases hc.lies x hx with e | e
          · exact old _ (.inl (lies _ e))
          · exact old _ (.inr (by omega))
        · rw [upd_other _ _ ej] at hx
          exact old _ (.inl ⟨j, x, hj, hx, rfl⟩)
      · rw [upd_other _ _ e1] at hr
        exact h.off r t hr b hb
  · have := h.fit b hM
    simp [World.setCell]
    omega
end

/-- In a round's region: what has been carried out. -/
structure MvRd (V0 : World) (base k d2 : Nat) (s0 : Sl) (ys : List Int) (a : Int) (l : Nat → Bool) (x48 x49 x50 x51 x52 x53 x54 x55 : Value) (w : World) (s : Sl) : Prop where
  s0_ : l 0 = true → x48 = .int .i64 k
  s1 : l 1 = true → x49 = .int .i64 k
  s2 : l 2 = true → x50 = .pointer (some ⟨d2, k, none⟩)
  s3 : l 3 = true → x51 = .slice s0.a s0.n s0.c
  s4 : l 4 = true → x52 = .int .i64 a
  s7 : l 7 = true → x55 = .pointer (some ⟨d2, k, none⟩)
  p0 : l 5 = false → w = V0.drew
  p1 : l 5 = true → l 6 = false → w = V0.drew.alloc (.cells #[.int .i64 a] 3) ∧ x53 = .slice (some ⟨V0.heap.size, 0, none⟩) 1 1
  p2 : l 6 = true → l 8 = false → Catted (V0.drew.alloc (.cells #[.int .i64 a] 3)) base (.slice s0.a s0.n s0.c) s ys w ∧ x54 = .slice s.a s.n s.c
  p3 : l 8 = true → ∃ w2, Catted (V0.drew.alloc (.cells #[.int .i64 a] 3)) base (.slice s0.a s0.n s0.c) s ys w2 ∧ w = w2.setCell ⟨d2, k, none⟩ (.slice s.a s.n s.c)
  o6 : l 6 = true → l 5 = true
  o8 : l 8 = true → ∀ j, j < 8 → l j = true
section
variable {V0 w w' : World} {base k d2 : Nat} {s0 s : Sl} {ys : List Int} {a : Int} {l : Nat → Bool} {x48 x49 x50 x51 x52 x53 x54 x55 : Value}
theorem MvRd.start (x48 x49 x50 x51 x52 x53 x54 x55 : Value) (s : Sl) : MvRd V0 base k d2 s0 ys a (fun _ => false) x48 x49 x50 x51 x52 x53 x54 x55 V0.drew s :=
  ⟨(fun h => by cases h), (fun h => by cases h), (fun h => by cases h), (fun h => by cases h), (fun h => by cases h), (fun h => by cases h), fun _ => rfl, (fun h => by cases h), (fun h => by cases h), (fun h => by cases h), (fun h => by cases h), (fun h => by cases h)⟩
/-- Old blocks are as they were, but for the one that is appended to. -/
theorem MvRd.old (h : MvRd V0 base k d2 s0 ys a l x48 x49 x50 x51 x52 x53 x54 x55 w s) (h8 : l 8 = false) {b : Nat} (hb : b < V0.heap.size) (hne : ∀ x, s0.a = some x → ¬ b = x.block) : w.heap[b]? = V0.heap[b]? ∧ V0.heap.size ≤ w.heap.size := by
  cases h5 : l 5
  · rw [h.p0 h5]
    exact ⟨rfl, Nat.le_refl _⟩
  · cases h6 : l 6
    · rw [(h.p1 h5 h6).1]
      exact ⟨Below.heap_alloc _ _ _ hb, by simp⟩
    · have hc := (h.p2 h6 h8).1
      have hsz : (V0.drew.alloc (.cells #[.int .i64 a] 3)).heap.size = V0.heap.size + 1 := by simp
      refine ⟨(hc.grown.block b (by omega) (fun e => ?_)).trans (Below.heap_alloc _ _ _ hb), by have := hc.grown.size; omega⟩
      rw [ownBlock_slice] at e
      cases hx : s0.a with
      | none => rw [hx] at e; cases e
      | some x =>
        rw [hx] at e
        simp at e
        exact hne x hx e
end
/-- The blocks that Move's loop keeps: what was there, the list that is gone through, its box, the iterator's. -/
def MvZ (base : Nat) (U : Nat → Sl) (d1 c0 b : Nat) : Prop := b < base ∨ (tOwn base U noLists).blk b ∨ b = d1 ∨ b = c0
def MvI (base : Nat) (W5 wl : World) (Z : Nat → Prop) (g : Nat → List Int) (k d2 : Nat) (xs : List Int) (M : Nat → Prop) (pre : List Nat) (W : World) : Prop := ∃ V R, MvL base W5 wl Z g k d2 (pre.map fun i => xs[i]?.getD 0) M W V R
theorem MvI.bides (base : Nat) (W5 wl : World) (Z : Nat → Prop) (g : Nat → List Int) (k d2 : Nat) (xs : List Int) : BidesZ Z (MvI base W5 wl Z g k d2 xs) :=
  fun _ _ _ _ _ ⟨V, R, h⟩ hz hs hm => ⟨V, R, h.bides hz hs hm⟩
theorem MvI.start {base k d1 d2 c0 : Nat} {W5 wl : World} {U V : Nat → Sl} {f g : Nat → List Int} {R : Nat → Option Thing} (h : Res base W5 wl R) (r0 : R 0 = some (tOwn base U f)) (r1 : R 1 = some (tOwn base V g)) (r2 : R 2 = some (tBox d1 U)) (r3 : R 3 = some (tBox d2 V))
    (hc : ∀ r t, R r = some t → ∀ b, t.blk b → b < c0) (hl : c0 < wl.heap.size) (hb : base ≤ wl.heap.size) (xs : List Int) : MvI base W5 wl (MvZ base U d1 c0) g k d2 xs (fun _ => False) [] wl := by
  refine ⟨V, fun r => if r = 1 ∨ r = 3 then R r else none, Hold.refl _ _, ⟨h.bel, fun r t hr => ?_, fun r s t t' hr hs hne => ?_⟩, ?_, ?_, fun r t hr b hbk => ⟨?_, fun h => h⟩, fun _ h => h.elim, fun b hz => ?_, fun b hz => .inl hz, hb⟩
  · split at hr
    · exact h.ok r t hr
    · cases hr
  · split at hr
    · split at hs
      · exact h.apart r s t t' hr hs hne
      · cases hs
    · cases hr
  · have e : upd g k (g k ++ ([] : List Nat).map fun i => xs[i]?.getD 0) = g := by
      funext j
      by_cases e : j = k
      · rw [e, upd_same]; simp
      · rw [upd_other _ _ e]
    simp only [true_or, if_true]
    rw [e]
    exact r1
  · simp only [or_true, if_true]
    exact r3
  · split at hr
    · rename_i hor
      have n0 : ¬ r = 0 := by omega
      have n2 : ¬ r = 2 := by omega
      rintro (hz | hz | hz | hz)
      · have := ((h.ok r t hr).2 b hbk).1
        omega
      · exact h.apart r 0 t _ hr r0 n0 b hbk hz
      · exact h.apart r 2 t _ hr r2 n2 b hbk hz
      · have := hc r t hr b hbk
        omega
    · cases hr
  · rcases hz with hz | hz | hz | hz
    · omega
    · exact ((h.ok 0 _ r0).2 b hz).2
    · exact ((h.ok 2 _ r2).2 b hz).2
    · omega

/-- What Move leaves: behind the cut of the list that was gone through, and behind the stores of both results. -/
structure MvEnd (w W5 W : World) (D d1 d2 : Nat) (U2 V : Nat → Sl) (F G : Nat → List Int) (W3 : World) : Prop where
  e1 : Box3 W3 d1 U2
  e2 : Box3 W3 d2 V
  e8 : Box3 W3 (w.heap.size + 1 + 1 + 1) noSl
  e9 : Box3 W3 (w.heap.size + 1 + 1 + 1 + 1) noSl
  def_ : W3.heap[D]? = some (.deferred (some []))
  far : w.heap.size + 5 ≤ D
  fin : ∀ W' : World, W'.os = W3.os → W'.tape = W3.tape → W'.output = W3.output → W'.heap.size = W3.heap.size → (∀ b, ¬ b = D → ¬ b = w.heap.size + 1 + 1 + 1 → ¬ b = w.heap.size + 1 + 1 + 1 + 1 → W'.heap[b]? = W3.heap[b]?) →
    L3 W' W'.heap.size U2 F ∧ L3 W' W'.heap.size V G ∧ Below w.heap.size w W'
theorem drewN_heap (w : World) (q : Nat) : (w.drewN q).heap = w.heap := rfl
theorem drewN_os (w : World) (q : Nat) : (w.drewN q).os = w.os ∧ (w.drewN q).tape = w.tape ∧ (w.drewN q).output = w.output := ⟨rfl, rfl, rfl⟩
theorem put3_os (w : World) (b : Nat) (v : Nat → Sl) : (put3 w b v).os = w.os ∧ (put3 w b v).tape = w.tape ∧ (put3 w b v).output = w.output := ⟨rfl, rfl, rfl⟩
/-- .. and at the return. -/
theorem MvEnd.done {w W5 W W3 W4 W' : World} {D d1 d2 q : Nat} {U2 V : Nat → Sl} {F G : Nat → List Int} (h : MvEnd w W5 W D d1 d2 U2 V F G W3) (e : W4 = (put3 (put3 W3 (w.heap.size + 1 + 1 + 1) U2) (w.heap.size + 1 + 1 + 1 + 1) V).drewN q)
    (g1 : W'.os = W4.os) (g2 : W'.tape = W4.tape) (g3 : W'.output = W4.output) (g4 : W'.heap.size = W4.heap.size) (g5 : ∀ b, ¬ b = D → W'.heap[b]? = W4.heap[b]?) :
    (L3 W' W'.heap.size U2 F ∧ L3 W' W'.heap.size V G ∧ Below w.heap.size w W') ∧ Box3 W' (w.heap.size + 1 + 1 + 1) U2 ∧ Box3 W' (w.heap.size + 1 + 1 + 1 + 1) V := by
  have hfar := h.far
  have s4 : W4.heap.size = W3.heap.size := by
    rw [e, drewN_heap, put3_size, put3_size]
  have k4 : ∀ b, ¬ b = w.heap.size + 1 + 1 + 1 → ¬ b = w.heap.size + 1 + 1 + 1 + 1 → W4.heap[b]? = W3.heap[b]? := fun b e1 e2 => by
    rw [e, drewN_heap]
    exact (put3_other _ _ e2).trans (put3_other _ _ e1)
  have e8 : Box3 W4 (w.heap.size + 1 + 1 + 1) U2 := by
    rw [e]
    exact ((h.e8.put U2).putOther (by omega) V).drewN q
  have e9 : Box3 W4 (w.heap.size + 1 + 1 + 1 + 1) V := by
    rw [e]
    exact ((h.e9.putOther (by omega) U2).put V).drewN q
  have o4 : W4.os = W3.os ∧ W4.tape = W3.tape ∧ W4.output = W3.output := by
    rw [e, (drewN_os _ _).1, (drewN_os _ _).2.1, (drewN_os _ _).2.2, (put3_os _ _ _).1, (put3_os _ _ _).2.1, (put3_os _ _ _).2.2, (put3_os _ _ _).1, (put3_os _ _ _).2.1, (put3_os _ _ _).2.2]
    exact ⟨rfl, rfl, rfl⟩
  exact ⟨h.fin W' (g1.trans o4.1) (g2.trans o4.2.1) (g3.trans o4.2.2) (by omega) (fun b b1 b2 b3 => (g5 b b1).trans (k4 b b2 b3)), e8.same (g5 _ (by omega)) (by omega), e9.same (g5 _ (by omega)) (by omega)⟩
end Go.Proofs.YtjppimabhefeeaaGreatDoor.Ls
end
section
namespace Go.Proofs.YtjppimabhefeeaaGreatDoor.Ls
open Go.Proofs.YtjppimabhefeeaaGreatDoor
set_option maxRecDepth 100000
open Go.RowKit Go.Shelf
attribute [local go_sem] Oper.semAt_some

structure MvSt (base : Nat) (W5 : World) (u v : Nat → Sl) (f g : Nat → List Int) (l : Nat → Bool) (x11 x12 x25 x26 x27 x28 : Value) (U V : Nat → Sl) (d1 d2 : Nat) (wc : World) (R : Nat → Option Thing) : Prop where
  res : Res base W5 wc R
  s0 : l 0 = true → x25 = (.agg #[.slice (u 0).a (u 0).n (u 0).c, .slice (u 1).a (u 1).n (u 1).c, .slice (u 2).a (u 2).n (u 2).c])
  s1 : l 1 = true → x26 = (.agg #[.slice (U 0).a (U 0).n (U 0).c, .slice (U 1).a (U 1).n (U 1).c, .slice (U 2).a (U 2).n (U 2).c]) ∧ R 0 = some (tOwn base U f)
  s2 : l 2 = true → x27 = (.agg #[.slice (v 0).a (v 0).n (v 0).c, .slice (v 1).a (v 1).n (v 1).c, .slice (v 2).a (v 2).n (v 2).c])
  s3 : l 3 = true → x28 = (.agg #[.slice (V 0).a (V 0).n (V 0).c, .slice (V 1).a (V 1).n (V 1).c, .slice (V 2).a (V 2).n (V 2).c]) ∧ R 1 = some (tOwn base V g)
  s4 : l 4 = true → x11 = .pointer (some ⟨d1, 0, none⟩) ∧ R 2 = some (tBox d1 (if l 6 then U else noSl))
  s5 : l 5 = true → x12 = .pointer (some ⟨d2, 0, none⟩) ∧ R 3 = some (tBox d2 (if l 7 then V else noSl))
  o6 : l 6 = true → l 1 = true
  o7 : l 7 = true → l 3 = true
  o4 : l 6 = true → l 4 = true
  o5 : l 7 = true → l 5 = true
section
variable {base : Nat} {W5 wc wc' : World} {u v : Nat → Sl} {f g : Nat → List Int} {l : Nat → Bool} {x11 x12 x25 x26 x27 x28 : Value} {U V : Nat → Sl} {d1 d2 : Nat} {R : Nat → Option Thing}
theorem MvSt.start (x11 x12 x25 x26 x27 x28 : Value) : MvSt base W5 u v f g (fun _ => false) x11 x12 x25 x26 x27 x28 noSl noSl 0 0 W5.drew (fun _ => none) :=
  ⟨(Res.none_ W5 base).drewN 1, (fun h => by cases h), (fun h => by cases h), (fun h => by cases h), (fun h => by cases h), (fun h => by cases h), (fun h => by cases h), (fun h => by cases h), (fun h => by cases h), (fun h => by cases h), (fun h => by cases h)⟩
theorem MvSt.size (h : MvSt base W5 u v f g l x11 x12 x25 x26 x27 x28 U V d1 d2 wc R) (hb : base ≤ W5.heap.size) : base ≤ wc.heap.size := Nat.le_trans hb h.res.bel.size
end
end Go.Proofs.YtjppimabhefeeaaGreatDoor.Ls
end
section
namespace Go.Proofs.YtjppimabhefeeaaGreatDoor.Ls
open Go.Proofs.YtjppimabhefeeaaGreatDoor
set_option maxRecDepth 100000
open Go.RowKit

/-- A slice of lists: each element's three cells hold slices, which are rows. -/
def LRow (w : World) (B : Nat) (A : Option Addr) (n : Nat) (u : Nat → Nat → Sl) (f : Nat → Nat → List Int) : Prop :=
  0 < n → ∃ b off, A = some ⟨b, off, none⟩ ∧ b < B ∧ ∀ i, i < n → (∀ j, j < 3 → w.cell? ⟨b, off + i * 3 + j, none⟩ = some (.slice (u i j).a (u i j).n (u i j).c)) ∧ L3 w B (u i) (f i)
theorem LRow.below {w w' : World} {B n : Nat} {A : Option Addr} {u : Nat → Nat → Sl} {f : Nat → Nat → List Int} (h : LRow w B A n u f) (hb : Below B w w') : LRow w' B A n u f := fun hn => by
  obtain ⟨b, off, e, hlt, hc⟩ := h hn
  exact ⟨b, off, e, hlt, fun i hi => ⟨fun j hj => (hb.cell (p := ⟨b, off + i * 3 + j, none⟩) hlt).trans ((hc i hi).1 j hj), (hc i hi).2.below hb⟩⟩
theorem LRow.over {w w' : World} {B C n : Nat} {A : Option Addr} {u : Nat → Nat → Sl} {f : Nat → Nat → List Int} (h : LRow w B A n u f) (hb : Below C w w') (hB : B ≤ C) : LRow w' B A n u f := h.below (hb.mono hB)

def upTo (g : Nat → List Int) (j : Nat) : List Int := (List.range j).flatMap g
theorem upTo_succ (g : Nat → List Int) (j : Nat) : upTo g (j + 1) = upTo g j ++ g j := by simp [upTo, List.range_succ, List.flatMap_append]
def allOf (f : Nat → Nat → List Int) (n : Nat) : List Int := (List.range n).flatMap fun i => upTo (f i) 3
theorem allOf_succ (f : Nat → Nat → List Int) (n : Nat) : allOf f (n + 1) = allOf f n ++ upTo (f n) 3 := by simp [allOf, List.range_succ, List.flatMap_append]
theorem upTo_le (g : Nat → List Int) : ∀ {j k : Nat}, j ≤ k → (upTo g j).length ≤ (upTo g k).length
  | j, k, h => by
    induction k with
    | zero => have : j = 0 := by omega
              rw [this]; exact Nat.le_refl _
    | succ k ih =>
      by_cases e : j = k + 1
      · rw [e]; exact Nat.le_refl _
      · have := ih (by omega)
        rw [upTo_succ, List.length_append]
        omega
theorem allOf_le (f : Nat → Nat → List Int) : ∀ {j k : Nat}, j ≤ k → (allOf f j).length ≤ (allOf f k).length
  | j, k, h => by
    induction k with
    | zero => have : j = 0 := by omega
              rw [this]; exact Nat.le_refl _
    | succ k ih =>
      by_cases e : j = k + 1
      · rw [e]; exact Nat.le_refl _
      · have := ih (by omega)
        rw [allOf_succ, List.length_append]
        omega
theorem part_len (f : Nat → Nat → List Int) {n k j : Nat} (hk : k < n) (hj : j < 3) : (allOf f k).length + (upTo (f k) j).length + (f k j).length ≤ (allOf f n).length := by
  have h1 := allOf_le f (show k + 1 ≤ n by omega)
  have h2 := upTo_le (f k) (show j + 1 ≤ 3 by omega)
  rw [allOf_succ, List.length_append] at h1
  rw [upTo_succ, List.length_append] at h2
  omega

/-- A list of the call's own was returned. -/
def AllOut (w : World) (xs : List Int) (e : Ending) (w' : World) : Prop := ∃ s : Sl, e = .returned (.slice s.a s.n s.c) ∧ w'.ownsRow w.heap.size 3 1 (.slice s.a s.n s.c) s.n (xs.map (Value.int .i64)) ∧ Below w.heap.size w w'
structure Alling (w wr : World) (s : Sl) (xs : List Int) : Prop where
  own : wr.ownsRow w.heap.size 3 1 (.slice s.a s.n s.c) s.n (xs.map (Value.int .i64))
  bel : Below w.heap.size w wr
theorem Alling.len {w wr : World} {s : Sl} {xs : List Int} (h : Alling w wr s xs) : s.n = xs.length := by have := h.own.1; simpa using this.symm
theorem Alling.alloc {w wr : World} {s : Sl} {xs : List Int} (h : Alling w wr s xs) (o : Obj) : Alling w (wr.alloc o) s xs := ⟨h.own.alloc o, h.bel.alloc h.bel.size o⟩
theorem Alling.cat {w wr w2 : World} {s t : Sl} {xs ys : List Int} (h : Alling w wr s xs) (hc : Catted wr w.heap.size (.slice s.a s.n s.c) t ys w2) : Alling w w2 t ys :=
  ⟨hc.own, h.bel.grown hc.grown h.bel.size (fun k hk => (h.own.lt k hk).1)⟩

set_option maxHeartbeats 1000000 in
theorem all_any (B : Nat) (A : Option Addr) (n c : Nat) (u : Nat → Nat → Sl) (f : Nat → Nat → List Int) (w : World) (h : LRow w B A n u f) (hB : B ≤ w.heap.size) (hn : n ≤ 1000000) (hlen : (allOf f n).length ≤ 2000000) :
    Calls Tryz.prog 72 #[.slice A n c] w (AllOut w (allOf f n)) := by
  have HL := Lib.hid h
  have HN := Lib.hid hlen
  clear h hlen
  go_enter Tryz.func72, Tryz.ntmps72
  go_wp2
  go_loopw [3, 10] (fun a i wr => ∃ (s : Sl) (k : Nat), k ≤ n ∧ a = .slice s.a s.n s.c ∧ i = .int .i64 k ∧ Hid (Alling w wr s (allOf f k))) (fun _ i _ => n - (intOf i).toNat)
  case atStart => exact ⟨⟨none, 0, 0⟩, 0, Nat.zero_le _, rfl, rfl, Lib.hid ⟨World.ownsRow_nil _ _ _ _, Below.refl _ _⟩⟩
  case round =>
    obtain ⟨s, k, hk, rfl, rfl, HA⟩ := hrel
    by_cases hlt : k < n
    · obtain ⟨b, off, rfl, hbB, hc⟩ := HL.out.over HA.out.bel hB (by omega)
      obtain ⟨hcell, hl3⟩ := hc k hlt
      have c0 := hcell 0 (by decide)
      have c1 := hcell 1 (by decide)
      have c2 := hcell 2 (by decide)
      rw [Nat.add_zero] at c0
      have hbs : b < wr.heap.size := by have := HA.out.bel.size; omega
      have HR3 := Lib.hid hl3
      have hwr := HA.out.bel.size
      clear hc hcell hl3
      obtain ⟨wo, rfl⟩ : ∃ wo : World, wo = wr := ⟨_, rfl⟩
      go_wp2
      go_loopw [3, 15] (fun a i wr => ∃ (s : Sl) (j : Nat), j ≤ 3 ∧ a = .slice s.a s.n s.c ∧ i = .int .i64 j ∧ Hid (Alling w wr s (allOf f k ++ upTo (f k) j) ∧ Below B wo wr)) (fun _ i _ => 3 - (intOf i).toNat)
      case atStart =>
        refine ⟨s, 0, by omega, rfl, rfl, Lib.hid ⟨?_, (Below.refl _ _).alloc (by omega) _⟩⟩
        have := HA.out.alloc (.cells #[.slice (u k 0).a (u k 0).n (u k 0).c, .slice (u k 1).a (u k 1).n (u k 1).c, .slice (u k 2).a (u k 2).n (u k 2).c] 25)
        simpa [upTo] using this
      case round =>
        obtain ⟨t, j, hj, rfl, rfl, HI⟩ := hrel
        by_cases hlt3 : j < 3
        · have hix := index_of (u k) j hlt3
          have hsum : t.n + (u k j).n ≤ 4000000 := by
            have h1 := HI.out.1.len
            have h2 := HR3.out.len j hlt3
            have h3 := part_len f hlt hlt3
            have h4 := HN.out
            rw [List.length_append] at h1
            omega
          go_wp2_with (at_builtin; refine list_cat rfl _ _ rfl rfl rfl HI.out.1.own ((HR3.out j hlt3).1.below HI.out.2) HI.out.1.bel.size hsum ?_)
          intro p' cp' w2 hcat
          have hA2 := HI.out.1.cat hcat
          have B2 : Below B wr w2 := (Below.refl _ _).grown hcat.grown (by have := HI.out.1.bel.size; omega) (fun q hq => by have := (HI.out.1.own.lt q hq).1; omega)
          rw [← upTo_succ] at hA2
          have H2 := Lib.hid (And.intro hA2 (HI.out.2.trans B2))
          clear hcat hA2 B2
          go_wp2
          go_roundw
          case rel => exact ⟨⟨p', t.n + (u k j).n, cp'⟩, j + 1, by omega, rfl, by go_num, H2⟩
          case measure => simp [intOf]; omega
        · obtain rfl : j = 3 := by omega
          have H3 := HI.out.1
          rw [← allOf_succ] at H3
          have H4 := Lib.hid H3
          clear H3
          go_wp2
          go_roundw
          case rel => exact ⟨t, k + 1, by omega, rfl, by go_num, H4⟩
          case measure => simp [intOf]; omega
    · obtain rfl : k = n := by omega
      go_wp2
      go_ret
      exact ⟨s, rfl, HA.out.own, HA.out.bel⟩
theorem upTo_take (g : Nat → List Int) (j : Nat) : upTo g j ++ (g j).take (g j).length = upTo g (j + 1) := by rw [List.take_length, upTo_succ]

set_option maxHeartbeats 1000000 in
theorem rall_any (B : Nat) (A : Option Addr) (n c : Nat) (u : Nat → Nat → Sl) (f : Nat → Nat → List Int) (w : World) (h : LRow w B A n u f) (hB : B ≤ w.heap.size) (hn : n ≤ 1000000) (hlen : (allOf f n).length ≤ 2000000) :
    Calls Tryz.prog 79 #[.slice A n c] w (AllOut w (allOf f n)) := by
  have HL := Lib.hid h
  have HN := Lib.hid hlen
  clear h hlen
  go_enter Tryz.func79, Tryz.ntmps79
  go_wp2
  go_loopw [3, 4] (fun a i wr => ∃ (s : Sl) (k : Nat), k ≤ n ∧ a = .slice s.a s.n s.c ∧ i = .int .i64 k ∧ Hid (Alling w wr s (allOf f k))) (fun _ i _ => n - (intOf i).toNat)
  case atStart => exact ⟨⟨none, 0, 0⟩, 0, Nat.zero_le _, rfl, rfl, Lib.hid ⟨World.ownsRow_nil _ _ _ _, Below.refl _ _⟩⟩
  case round =>
    obtain ⟨s, k, hk, rfl, rfl, HA⟩ := hrel
    by_cases hlt : k < n
    · obtain ⟨b, off, rfl, hbB, hc⟩ := HL.out (by omega)
      have HC := Lib.hid (hc k hlt)
      clear hc
      obtain ⟨wo, rfl⟩ : ∃ wo : World, wo = wr := ⟨_, rfl⟩
      go_wp2
      go_loopw [3, 5] (fun a i wr => ∃ (s : Sl) (j : Nat), j ≤ 3 ∧ a = .slice s.a s.n s.c ∧ i = .int .i64 j ∧ Hid (Alling w wr s (allOf f k ++ upTo (f k) j))) (fun _ i _ => 3 - (intOf i).toNat)
      case atStart => exact ⟨s, 0, by omega, rfl, rfl, Lib.hid (by have := HA.out; simpa [upTo] using this)⟩
      case round =>
        obtain ⟨t, j, hj, rfl, rfl, HI⟩ := hrel
        by_cases hlt3 : j < 3
        · have HX := Lib.hid (part_len f hlt hlt3)
          obtain ⟨wi, rfl⟩ : ∃ wi : World, wi = wr := ⟨_, rfl⟩
          have hlt3' : (j : Int) < 3 := by omega
          go_wp2
          have J3 := Lib.hid hlt3
          go_loopw [3, 6] (fun a i wr => ∃ (s : Sl) (q : Nat), q ≤ (u k j).n ∧ a = .slice s.a s.n s.c ∧ i = .int .i64 q ∧ Hid (Alling w wr s (allOf f k ++ (upTo (f k) j ++ (f k j).take q)))) (fun _ i _ => (u k j).n - (intOf i).toNat)
          case atStart => exact ⟨t, 0, Nat.zero_le _, rfl, rfl, Lib.hid (by have := HI.out; simpa using this)⟩
          case round =>
            obtain ⟨p, q, hq, rfl, rfl, HQ⟩ := hrel
            have hl3 := (HC.out.2.over HQ.out.bel hB) j J3.out
            have hcj := ((HQ.out.bel.mono hB).cell (p := ⟨b, off + k * 3 + j, none⟩) hbB).trans (HC.out.1 j J3.out)
            have hbs : b < wr.heap.size := by have := HQ.out.bel.size; omega
            have hlen' := hl3.1.1.symm
            by_cases hltq : q < (u k j).n
            · obtain ⟨b2, off2, e2, hb2, hc2⟩ := hl3.1.2 (by omega)
              have hnum := hc2 q hltq
              have hbs2 : b2 < wr.heap.size := by have := HQ.out.bel.size; omega
              clear hc2 hl3
              have hq2 : q < 2000000 := by
                have h2 := HX.out
                have h4 := HN.out
                omega
              have hsum : p.n + 1 ≤ 4000000 := by
                have h1 := HQ.out.len
                have h2 := HX.out
                have h4 := HN.out
                rw [List.length_append, List.length_append, List.length_take] at h1
                omega
              go_wp2_with (at_builtin; refine list_cat rfl _ _ rfl rfl rfl (HQ.out.alloc _).own (row_lit1 _ _) (HQ.out.alloc _).bel.size hsum ?_)
              intro p' cp' w2 hcat
              have hA2 := (HQ.out.alloc _).cat hcat
              have H2 := Lib.hid hA2
              clear hcat hA2
              go_wp2
              go_roundw
              case rel =>
                exact ⟨⟨p', p.n + 1, cp'⟩, q + 1, by omega, rfl, by go_num, H2⟩
              case measure => simp [intOf]; omega
            · obtain rfl : q = (u k j).n := by omega
              have H2 := HQ.out
              rw [hlen', upTo_take] at H2
              have H3 := Lib.hid H2
              clear H2 hlen' hl3
              go_wp2
              go_roundw
              case rel => exact ⟨p, j + 1, J3.out, rfl, by go_num, H3⟩
              case measure => simp [intOf]; omega
        · obtain rfl : j = 3 := by omega
          have H3 := HI.out
          rw [← allOf_succ] at H3
          have H4 := Lib.hid H3
          clear H3
          go_wp2
          go_roundw
          case rel => exact ⟨t, k + 1, by omega, rfl, by go_num, H4⟩
          case measure => simp [intOf]; omega
    · obtain rfl : k = n := by omega
      go_wp2
      go_ret
      exact ⟨s, rfl, HA.out.own, HA.out.bel⟩
end Go.Proofs.YtjppimabhefeeaaGreatDoor.Ls
end
section
namespace Go.Proofs.YtjppimabhefeeaaGreatDoor.Cl
open Go.Proofs.YtjppimabhefeeaaGreatDoor
set_option maxRecDepth 100000
open Go.RowKit

/-- The slice (address a, n elements) holds the pages f 0 to f (n - 1), in a block below B. -/
def PRow (w : World) (B : Nat) (a : Option Addr) (n : Nat) (f : Nat → Int × Int) : Prop :=
  0 < n → ∃ b off, a = some ⟨b, off, none⟩ ∧ b < B ∧ ∀ i, i < n → w.cell? ⟨b, off + i * 2, none⟩ = some (.int .i64 (f i).1) ∧ w.cell? ⟨b, off + i * 2 + 1, none⟩ = some (.int .i64 (f i).2)

section
variable {w w' : World} {B B' n : Nat} {a : Option Addr} {f : Nat → Int × Int}
theorem PRow.at_ (h : PRow w B a n f) (hn : 0 < n) : ∃ b off, a = some ⟨b, off, none⟩ ∧ b < B ∧ ∀ i, i < n → w.cell? ⟨b, off + i * 2, none⟩ = some (.int .i64 (f i).1) ∧ w.cell? ⟨b, off + i * 2 + 1, none⟩ = some (.int .i64 (f i).2) := h hn
theorem PRow.below (h : PRow w B a n f) (hb : Below B w w') : PRow w' B a n f := fun hn => by
  obtain ⟨b, off, e, hlt, hc⟩ := h hn
  exact ⟨b, off, e, hlt, fun i hi => ⟨(hb.cell (p := ⟨b, off + i * 2, none⟩) hlt).trans (hc i hi).1, (hb.cell (p := ⟨b, off + i * 2 + 1, none⟩) hlt).trans (hc i hi).2⟩⟩
theorem PRow.more (h : PRow w B a n f) (hB : B ≤ B') : PRow w B' a n f := fun hn => by
  obtain ⟨b, off, e, hb, hc⟩ := h hn
  exact ⟨b, off, e, by omega, hc⟩
/-- .. over a call that left what was below C, the blocks of the row among it. -/
theorem PRow.over (h : PRow w B a n f) {C : Nat} (hb : Below C w w') (hB : B ≤ C) : PRow w' B a n f := h.below (hb.mono hB)
theorem PRow.alloc (h : PRow w B a n f) (o : Obj) (hB : B ≤ w.heap.size) : PRow (w.alloc o) B a n f := h.below ((Below.refl _ _).alloc hB o)
theorem PRow.empty (w : World) (B : Nat) (a : Option Addr) (f : Nat → Int × Int) : PRow w B a 0 f := fun h => absurd h (by omega)
theorem PRow.congr {g : Nat → Int × Int} (h : PRow w B a n f) (e : ∀ i, i < n → g i = f i) : PRow w B a n g := fun hn => by
  obtain ⟨b, off, ea, hb, hc⟩ := h hn
  exact ⟨b, off, ea, hb, fun i hi => by rw [e i hi]; exact hc i hi⟩
/-- A part of it: from page k on, m of them. -/
theorem PRow.part {b off k m : Nat} (h : PRow w B (some ⟨b, off, none⟩) n f) (hk : k + m ≤ n) : PRow w B (some ⟨b, off + k * 2, none⟩) m (fun i => f (k + i)) := fun hm => by
  obtain ⟨b', off', ea, hb, hc⟩ := h (by omega)
  simp at ea
  obtain ⟨rfl, rfl⟩ := ea
  refine ⟨b, off + k * 2, rfl, hb, fun i hi => ?_⟩
  have := hc (k + i) (by omega)
  rw [show off + k * 2 + i * 2 = off + (k + i) * 2 by omega]
  exact this

/-- Cell j of the pages' cells, and all of them. -/
def pcell (f : Nat → Int × Int) (j : Nat) : Value := .int .i64 (if j % 2 = 0 then (f (j / 2)).1 else (f (j / 2)).2)
def pcells (f : Nat → Int × Int) (n : Nat) : List Value := (List.range (n * 2)).map (pcell f)
theorem pcells_length (f : Nat → Int × Int) (n : Nat) : (pcells f n).length = n * 2 := by simp [pcells]
theorem pcells_at (f : Nat → Int × Int) (n j : Nat) (h : j < n * 2) : (pcells f n)[j]? = some (pcell f j) := by simp [pcells, h]
theorem pcells_fst (f : Nat → Int × Int) (n i : Nat) (h : i < n) : (pcells f n)[i * 2]? = some (.int .i64 (f i).1) := by
  rw [pcells_at f n _ (by omega)]
  simp [pcell]
theorem pcells_snd (f : Nat → Int × Int) (n i : Nat) (h : i < n) : (pcells f n)[i * 2 + 1]? = some (.int .i64 (f i).2) := by
  rw [pcells_at f n _ (by omega)]
  have e1 : (i * 2 + 1) % 2 = 1 := by omega
  have e2 : (i * 2 + 1) / 2 = i := by omega
  simp [pcell, e1, e2]

/-- f, with page i another. -/
def put (f : Nat → Int × Int) (i : Nat) (p : Int × Int) : Nat → Int × Int := fun j => if j = i then p else f j
theorem pcells_put (f : Nat → Int × Int) (n i : Nat) (p : Int × Int) : ((pcells f n).set (i * 2) (.int .i64 p.1)).set (i * 2 + 1) (.int .i64 p.2) = pcells (put f i p) n := by
  apply List.ext_getElem?
  intro j
  by_cases hj : j < n * 2
  · rw [pcells_at _ _ _ hj, List.getElem?_set]
    by_cases h1 : i * 2 + 1 = j
    · subst h1
      have e1 : (i * 2 + 1) % 2 = 1 := by omega
      have e2 : (i * 2 + 1) / 2 = i := by omega
      simp [pcell, e1, e2, put, pcells_length, hj]
    · rw [if_neg h1, List.getElem?_set]
      by_cases h0 : i * 2 = j
      · subst h0
        simp [pcell, put, pcells_length, hj]
      · rw [if_neg h0, pcells_at _ _ _ hj]
        have e : j / 2 ≠ i := by omega
        simp [pcell, put, e]
  · rw [List.getElem?_eq_none (by simp [pcells_length]; omega), List.getElem?_eq_none (by simp [pcells_length]; omega)]

/-- What the call itself made: a row at the head of a block of its own, not frozen, with room for c. -/
def PMine (w : World) (base e g n c : Nat) (f : Nat → Int × Int) : Prop :=
  w.ownsRow base e 2 (.slice (some ⟨g, 0, none⟩) n c) n (pcells f n) ∧ base ≤ g ∧ g < w.heap.size ∧ n ≤ c ∧ c ≤ maxLen

theorem PMine.cells {base e g c : Nat} (h : PMine w base e g n c f) (i : Nat) (hi : i < n) : w.cell? ⟨g, i * 2, none⟩ = some (.int .i64 (f i).1) ∧ w.cell? ⟨g, i * 2 + 1, none⟩ = some (.int .i64 (f i).2) :=
  ⟨(h.1.cellAt (i * 2) (by omega)).trans (pcells_fst f n i hi), (h.1.cellAt (i * 2 + 1) (by omega)).trans (pcells_snd f n i hi)⟩
theorem PMine.row {base e g c : Nat} (h : PMine w base e g n c f) : PRow w w.heap.size (some ⟨g, 0, none⟩) n f := fun _ =>
  ⟨g, 0, rfl, h.2.2.1, fun i hi => by simpa using h.cells i hi⟩
theorem PMine.free {base e g c : Nat} (h : PMine w base e g n c f) (j : Nat) : w.frozen? ⟨g, j, none⟩ = false := h.1.frozenAt j
theorem PMine.stored {base e g c : Nat} (h : PMine w base e g n c f) (i : Nat) (p : Int × Int) : PMine ((w.setCell ⟨g, i * 2, none⟩ (.int .i64 p.1)).setCell ⟨g, i * 2 + 1, none⟩ (.int .i64 p.2)) base e g n c (put f i p) := by
  refine ⟨?_, h.2.1, by simpa [World.setCell] using h.2.2.1, h.2.2.2.1, h.2.2.2.2⟩
  have h1 := (h.1.stored (i * 2) (.int .i64 p.1)).1
  have h2 := (h1.stored (i * 2 + 1) (.int .i64 p.2)).1
  rw [pcells_put] at h2
  exact h2
theorem PMine.congr {base e g c : Nat} {f' : Nat → Int × Int} (h : PMine w base e g n c f) (he : ∀ i, i < n → f' i = f i) : PMine w base e g n c f' := by
  have : pcells f' n = pcells f n := by
    apply List.map_congr_left
    intro j hj
    have := List.mem_range.1 hj
    unfold pcell
    rw [he (j / 2) (by omega)]
  exact ⟨this ▸ h.1, h.2⟩
end

end Go.Proofs.YtjppimabhefeeaaGreatDoor.Cl
end
section
namespace Go.Proofs.YtjppimabhefeeaaGreatDoor
open Go.RowKit

/-- A heap's slices. -/
structure Hs where
  w : Ls.Sl
  p : Ls.Sl
  u : Nat → Ls.Sl
  c : Ls.Sl
/-- Truth values in a slice. -/
def BRow (w : World) (B : Nat) (a : Option Addr) (n : Nat) (f : Nat → Bool) : Prop :=
  0 < n → ∃ b off, a = some ⟨b, off, none⟩ ∧ b < B ∧ ∀ i, i < n → w.cell? ⟨b, off + i, none⟩ = some (.bool (f i))
theorem BRow.below {w w' : World} {B n : Nat} {a : Option Addr} {f : Nat → Bool} (h : BRow w B a n f) (hb : Below B w w') : BRow w' B a n f := fun hn => by
  obtain ⟨b, off, e, hlt, hc⟩ := h hn
  exact ⟨b, off, e, hlt, fun i hi => (hb.cell (p := ⟨b, off + i, none⟩) hlt).trans (hc i hi)⟩
theorem BRow.more {w : World} {B C n : Nat} {a : Option Addr} {f : Nat → Bool} (h : BRow w B a n f) (hB : B ≤ C) : BRow w C a n f := fun hn => by
  obtain ⟨b, off, e, hlt, hc⟩ := h hn
  exact ⟨b, off, e, Nat.lt_of_lt_of_le hlt hB, hc⟩
/-- What a heap holds. -/
structure Hd_ where
  ws : List Int
  f : Nat → Int × Int
  F : Nat → List Int
  cs : Nat → Bool
structure Hp (w : World) (B : Nat) (s : Hs) (d : Hd_) : Prop where
  words : Row w B s.w.a s.w.n d.ws
  pages : Cl.PRow w B s.p.a s.p.n d.f
  free : Ls.L3 w B s.u d.F
  cards : BRow w B s.c.a s.c.n d.cs
theorem Hp.below {w w' : World} {B : Nat} {s : Hs} {d : Hd_} (h : Hp w B s d) (hb : Below B w w') : Hp w' B s d := ⟨h.words.below hb, h.pages.below hb, h.free.below hb, h.cards.below hb⟩
theorem Hp.more {w : World} {B C : Nat} {s : Hs} {d : Hd_} (h : Hp w B s d) (hB : B ≤ C) : Hp w C s d := ⟨h.words.more hB, h.pages.more hB, h.free.more hB, h.cards.more hB⟩
theorem Hp.next {w w' : World} {s : Hs} {d : Hd_} (h : Hp w w.heap.size s d) (hb : Below w.heap.size w w') : Hp w' w'.heap.size s d := (h.below hb).more hb.size
def lightB (u : Nat → Ls.Sl) : Bool := decide ((u 0).n ≤ 70 ∧ (u 1).n ≤ 70 ∧ (u 2).n ≤ 70)
theorem rlight_any (u : Nat → Ls.Sl) (w : World) : Calls Tryz.prog 23 #[(.agg #[.slice (u 0).a (u 0).n (u 0).c, .slice (u 1).a (u 1).n (u 1).c, .slice (u 2).a (u 2).n (u 2).c])] w fun e w' => e = .returned (.bool (lightB u)) ∧ Below w.heap.size w w' := by
  by_cases h0 : (u 0).n ≤ 70
  · have a0 : decide (((u 0).n : Int) ≤ 70) = true := by simp; omega
    by_cases h1 : (u 1).n ≤ 70
    · have a1 : decide (((u 1).n : Int) ≤ 70) = true := by simp; omega
      by_cases h2 : (u 2).n ≤ 70
      · have a2 : decide (((u 2).n : Int) ≤ 70) = true := by simp; omega
        have e : lightB u = true := decide_eq_true ⟨h0, h1, h2⟩
        rw [e]
        clear h0 h1 h2 e
        go_enter Tryz.func23, Tryz.ntmps23
        go_wp2
        go_ret
        exact ⟨rfl, (Below.refl _ _).alloc (Nat.le_refl _) _⟩
      · have a2 : decide (((u 2).n : Int) ≤ 70) = false := by simp; omega
        have e : lightB u = false := decide_eq_false (fun h => h2 h.2.2)
        rw [e]
        clear h0 h1 h2 e
        go_enter Tryz.func23, Tryz.ntmps23
        go_wp2
        go_ret
        exact ⟨rfl, (Below.refl _ _).alloc (Nat.le_refl _) _⟩
    · have a1 : decide (((u 1).n : Int) ≤ 70) = false := by simp; omega
      have e : lightB u = false := decide_eq_false (fun h => h1 h.2.1)
      rw [e]
      clear h0 h1 e
      go_enter Tryz.func23, Tryz.ntmps23
      go_wp2
      go_ret
      exact ⟨rfl, (Below.refl _ _).alloc (Nat.le_refl _) _⟩
  · have a0 : decide (((u 0).n : Int) ≤ 70) = false := by simp; omega
    have e : lightB u = false := decide_eq_false (fun h => h0 h.1)
    rw [e]
    clear h0 e
    go_enter Tryz.func23, Tryz.ntmps23
    go_wp2
    go_ret
    exact ⟨rfl, (Below.refl _ _).alloc (Nat.le_refl _) _⟩
def fewH (s : Hs) : Bool := decide (s.w.n ≤ 130) && (decide (s.p.n ≤ 9) && (decide (s.c.n ≤ 20) && lightB s.u))
theorem rfew_any (s : Hs) (w : World) : Calls Tryz.prog 5 #[(.agg #[.slice s.w.a s.w.n s.w.c, .slice s.p.a s.p.n s.p.c, .slice (s.u 0).a (s.u 0).n (s.u 0).c, .slice (s.u 1).a (s.u 1).n (s.u 1).c, .slice (s.u 2).a (s.u 2).n (s.u 2).c, .slice s.c.a s.c.n s.c.c])] w fun e w' => e = .returned (.bool (fewH s)) ∧ Below w.heap.size w w' := by
  by_cases h0 : s.w.n ≤ 130
  · have a0 : decide ((s.w.n : Int) ≤ 130) = true := by simp; omega
    by_cases h1 : s.p.n ≤ 9
    · have a1 : decide ((s.p.n : Int) ≤ 9) = true := by simp; omega
      by_cases h2 : s.c.n ≤ 20
      · have a2 : decide ((s.c.n : Int) ≤ 20) = true := by simp; omega
        have e : fewH s = lightB s.u := by simp [fewH, h0, h1, h2]
        rw [e]
        clear h0 h1 h2 e
        go_enter Tryz.func5, Tryz.ntmps5
        go_wp2_with fail
        refine (rlight_any s.u _).mono ?_
        rintro e w1 ⟨rfl, hb⟩
        have HB := Lib.hid (((Below.refl w.heap.size w).alloc (Nat.le_refl _) _).trans (hb.mono (by simp)))
        clear hb
        go_wp2
        go_ret
        exact ⟨rfl, HB.out⟩
      · have a2 : decide ((s.c.n : Int) ≤ 20) = false := by simp; omega
        have e : fewH s = false := by simp [fewH, h2]
        rw [e]
        clear h0 h1 h2 e
        go_enter Tryz.func5, Tryz.ntmps5
        go_wp2
        go_ret
        exact ⟨rfl, (Below.refl _ _).alloc (Nat.le_refl _) _⟩
    · have a1 : decide ((s.p.n : Int) ≤ 9) = false := by simp; omega
      have e : fewH s = false := by simp [fewH, h1]
      rw [e]
      clear h0 h1 e
      go_enter Tryz.func5, Tryz.ntmps5
      go_wp2
      go_ret
      exact ⟨rfl, (Below.refl _ _).alloc (Nat.le_refl _) _⟩
  · have a0 : decide ((s.w.n : Int) ≤ 130) = false := by simp; omega
    have e : fewH s = false := by simp [fewH, h0]
    rw [e]
    clear h0 e
    go_enter Tryz.func5, Tryz.ntmps5
    go_wp2
    go_ret
    exact ⟨rfl, (Below.refl _ _).alloc (Nat.le_refl _) _⟩
end Go.Proofs.YtjppimabhefeeaaGreatDoor
end
section
namespace Go.Proofs.YtjppimabhefeeaaGreatDoor.Hd
open Go.Proofs.YtjppimabhefeeaaGreatDoor
set_option maxRecDepth 100000
open Go.RowKit

theorem ofInt_and (x : Int) (m : Nat) (hm : m < 9223372036854775808) : bits .and .i64 x (m : Int) = (((x % 18446744073709551616).toNat &&& m : Nat) : Int) := by
  have h2 : m % 18446744073709551616 = m := Nat.mod_eq_of_lt (by omega)
  have h3 : ((x % 18446744073709551616).toNat &&& m) ≤ m := Nat.and_le_right
  have e : (BitVec.ofInt 64 x).toNat = (x % 18446744073709551616).toNat := by
    rw [BitVec.toNat_ofInt]; rfl
  have e2 : (BitVec.ofInt 64 (m : Int)).toNat = m := by
    rw [BitVec.ofInt_natCast, BitVec.toNat_ofNat]; exact h2
  have e3 : (BitVec.ofInt 64 x &&& BitVec.ofInt 64 (m : Int)).toNat = ((x % 18446744073709551616).toNat &&& m) := by
    rw [BitVec.toNat_and, e, e2]
  show IntKind.i64.wrap (((BitVec.ofInt 64 x &&& BitVec.ofInt 64 (m : Int)).toNat : Nat) : Int) = _
  rw [e3]
  exact IntWalk.i64_in _ ⟨by omega, by omega⟩

theorem and_1 (x : Int) : bits .and .i64 x 1 = x % 2 := by
  refine (ofInt_and x 1 (by decide)).trans ?_
  rw [Nat.and_one_is_mod]
  omega
theorem and_2 (x : Int) : bits .and .i64 x 2 = x / 2 % 2 * 2 := by
  refine (ofInt_and x 2 (by decide)).trans ?_
  rw [nat_bit1]
  omega
theorem and_4 (x : Int) : bits .and .i64 x 4 = x / 4 % 2 * 4 := by
  refine (ofInt_and x 4 (by decide)).trans ?_
  rw [nat_bit2]
  omega
theorem and_127 (x : Int) : bits .and .i64 x 127 = x % 128 := by
  refine (ofInt_and x 127 (by decide)).trans ?_
  rw [nat_mask7]
  omega
theorem and_4194303 (x : Int) : bits .and .i64 x 4194303 = x % 4194304 := by
  refine (ofInt_and x 4194303 (by decide)).trans ?_
  rw [nat_mask22]
  omega

end Go.Proofs.YtjppimabhefeeaaGreatDoor.Hd
end
section
namespace Go.Proofs.YtjppimabhefeeaaGreatDoor.Hd
open Go.Proofs.YtjppimabhefeeaaGreatDoor
set_option maxRecDepth 100000

/-- May the head be? -/
def mayB (u o d : Bool) (n b m : Int) : Bool :=
  if u then decide (0 ≤ n ∧ n ≤ 63 ∧ 0 ≤ b ∧ b ≤ 1048576 ∧ 0 ≤ m ∧ m ≤ 1048576)
  else !o && !d && decide (n = 0 ∧ b = 0 ∧ m = 0)
def bitOf (u : Bool) (k : Int) : Int := if u then k else 0
/-- A head's word. -/
def word (u o d : Bool) (n b m : Int) : Int :=
  if u then 1 + bitOf o 2 + bitOf d 4 + n * 8 + b * 1024 + m * 4294967296 else 0

theorem may_used_iff (o d : Bool) (n b m : Int) : mayB true o d n b m = true ↔ (0 ≤ n ∧ n ≤ 63 ∧ 0 ≤ b ∧ b ≤ 1048576 ∧ 0 ≤ m ∧ m ≤ 1048576) := by
  simp [mayB]
theorem may_free_iff (o d : Bool) (n b m : Int) : mayB false o d n b m = true ↔ (o = false ∧ d = false ∧ n = 0 ∧ b = 0 ∧ m = 0) := by
  simp [mayB, and_assoc]

theorem bit_le (u : Bool) (k : Int) (h : 0 ≤ k) : 0 ≤ bitOf u k ∧ bitOf u k ≤ k := by
  unfold bitOf; split <;> omega
/-- The word of a head that may be is no negative number, and less than 2^53. -/
theorem word_range {u o d : Bool} {n b m : Int} (h : mayB u o d n b m = true) : 0 ≤ word u o d n b m ∧ word u o d n b m ≤ 4503600701112831 := by
  cases u
  · simp [word]
  · have h' := (may_used_iff o d n b m).1 h
    have h2 := bit_le o 2 (by decide)
    have h4 := bit_le d 4 (by decide)
    simp only [word, if_true]
    omega
theorem word_parts {o d : Bool} {n b m : Int} (h : mayB true o d n b m = true) :
    word true o d n b m % 2 = 1 ∧ (word true o d n b m / 2 % 2 = 1 ↔ o = true) ∧ (word true o d n b m / 4 % 2 = 1 ↔ d = true) ∧
    word true o d n b m / 8 % 128 = n ∧ word true o d n b m / 1024 % 4194304 = b ∧ word true o d n b m / 4294967296 = m := by
  have h' := (may_used_iff o d n b m).1 h
  cases o <;> cases d <;> simp [word, bitOf] <;> omega
theorem word_back (x : Int) (h1 : x % 2 = 1) :
    word true (decide (x / 2 % 2 = 1)) (decide (x / 4 % 2 = 1)) (x / 8 % 128) (x / 1024 % 4194304) (x / 4294967296) = x := by
  by_cases a : x / 2 % 2 = 1 <;> by_cases c : x / 4 % 2 = 1 <;> simp [word, bitOf, a, c] <;> omega

/-- What Unpack reads in a number, whatever it is. -/
def isWord (x : Int) : Bool := mayB (decide (x % 2 = 1)) (decide (x / 2 % 2 = 1)) (decide (x / 4 % 2 = 1)) (x / 8 % 128) (x / 1024 % 4194304) (x / 4294967296)

theorem isWord_cases (x : Int) (h : isWord x = true) : ∃ u o d n b m, mayB u o d n b m = true ∧ x = word u o d n b m ∧
    u = decide (x % 2 = 1) ∧ o = decide (x / 2 % 2 = 1) ∧ d = decide (x / 4 % 2 = 1) ∧ n = x / 8 % 128 ∧ b = x / 1024 % 4194304 ∧ m = x / 4294967296 := by
  refine ⟨_, _, _, _, _, _, h, ?_, rfl, rfl, rfl, rfl, rfl, rfl⟩
  by_cases h1 : x % 2 = 1
  · rw [decide_eq_true h1]
    exact (word_back x h1).symm
  · unfold isWord at h
    rw [decide_eq_false h1] at h ⊢
    obtain ⟨_, _, e1, e2, e3⟩ := (may_free_iff _ _ _ _ _).1 h
    simp only [word]
    simp only [decide_eq_false_iff_not] at *
    simp
    omega
theorem isWord_even {x : Int} (h : isWord x = true) (h1 : ¬ x % 2 = 1) : x = 0 := by
  unfold isWord at h
  rw [decide_eq_false h1] at h
  obtain ⟨h2, h3, e1, e2, e3⟩ := (may_free_iff _ _ _ _ _).1 h
  simp only [decide_eq_false_iff_not] at h2 h3
  omega
theorem bit_1 (x : Int) : (bits .and .i64 x 1 != 0) = decide (x % 2 = 1) := by
  rw [and_1, Bool.eq_iff_iff]; simp; omega
theorem bit_2 (x : Int) : (bits .and .i64 x 2 != 0) = decide (x / 2 % 2 = 1) := by
  rw [and_2, Bool.eq_iff_iff]; simp; omega
theorem bit_4 (x : Int) : (bits .and .i64 x 4 != 0) = decide (x / 4 % 2 = 1) := by
  rw [and_4, Bool.eq_iff_iff]; simp; omega
end Go.Proofs.YtjppimabhefeeaaGreatDoor.Hd
end
section
namespace Go.Proofs.YtjppimabhefeeaaGreatDoor.Hd
open Go.Proofs.YtjppimabhefeeaaGreatDoor
set_option maxRecDepth 100000
open Go.RowKit

/-- A block that was there holds what it held. -/
theorem old_cell {a z : World} (h : Below a.heap.size a z) : ∀ i k, i < a.heap.size → z.cell? ⟨i, k, none⟩ = a.cell? ⟨i, k, none⟩ := by
  intro i k hi
  exact h.cell (p := ⟨i, k, none⟩) hi
/-- .. and is marked as it was. -/
theorem old_mark {a z : World} (h : Below a.heap.size a z) : ∀ i k, i < a.heap.size → z.frozen? ⟨i, k, none⟩ = a.frozen? ⟨i, k, none⟩ := by
  intro i k hi
  exact h.frozen (p := ⟨i, k, none⟩) hi

theorem upTo_yes (n m : Int) (w : World) (h0 : 0 ≤ n) (h1 : n ≤ m) :
    Calls Tryz.prog 76 #[.int .i64 n, .int .i64 m] w fun e w' => e = .returned (.bool true) ∧ w = w' := by
  go_enter Tryz.func76, Tryz.ntmps76
  go_wp2
  go_ret
  exact ⟨rfl, rfl⟩
theorem upTo_no (n m : Int) (w : World) (h : n < 0 ∨ m < n) :
    Calls Tryz.prog 76 #[.int .i64 n, .int .i64 m] w fun e w' => e = .returned (.bool false) ∧ w = w' := by
  by_cases h0 : n < 0
  · go_enter Tryz.func76, Tryz.ntmps76
    go_wp2
    go_ret
    exact ⟨rfl, rfl⟩
  · have h1 : m < n := by omega
    have h2 : 0 ≤ n := by omega
    have h3 : decide (n ≤ m) = false := by simp; omega
    clear h
    go_enter Tryz.func76, Tryz.ntmps76
    go_wp2
    go_ret
    exact ⟨rfl, rfl⟩

theorem may_used (o d : Bool) (n b m : Int) (w : World) (n0 : 0 ≤ n) (n1 : n ≤ 63) (b0 : 0 ≤ b) (b1 : b ≤ 1048576) (m0 : 0 ≤ m) (m1 : m ≤ 1048576) :
    Calls Tryz.prog 53 #[.agg #[.bool true, .bool o, .bool d, .int .i64 n, .int .i64 b, .int .i64 m]] w fun e w' => e = .returned (.bool true) ∧ Below w.heap.size w w' := by
  go_enter Tryz.func53, Tryz.ntmps53
  go_wp2
  go_ret
  exact ⟨rfl, (Below.refl _ _).alloc (Nat.le_refl _) _⟩
theorem may_free (w : World) :
    Calls Tryz.prog 53 #[.agg #[.bool false, .bool false, .bool false, .int .i64 0, .int .i64 0, .int .i64 0]] w fun e w' => e = .returned (.bool true) ∧ Below w.heap.size w w' := by
  go_enter Tryz.func53, Tryz.ntmps53
  go_wp2
  go_ret
  exact ⟨rfl, (Below.refl _ _).alloc (Nat.le_refl _) _⟩
theorem may_yes (u o d : Bool) (n b m : Int) (w : World) (h : mayB u o d n b m = true) :
    Calls Tryz.prog 53 #[.agg #[.bool u, .bool o, .bool d, .int .i64 n, .int .i64 b, .int .i64 m]] w fun e w' => e = .returned (.bool true) ∧ Below w.heap.size w w' := by
  cases u
  · obtain ⟨rfl, rfl, rfl, rfl, rfl⟩ := (may_free_iff _ _ _ _ _).1 h
    exact may_free w
  · obtain ⟨a1, a2, a3, a4, a5, a6⟩ := (may_used_iff _ _ _ _ _).1 h
    exact may_used o d n b m w a1 a2 a3 a4 a5 a6
theorem no_n (o d : Bool) (n b m : Int) (w : World) (h : n < 0 ∨ 63 < n) :
    Calls Tryz.prog 53 #[.agg #[.bool true, .bool o, .bool d, .int .i64 n, .int .i64 b, .int .i64 m]] w fun e w' => e = .returned (.bool false) ∧ Below w.heap.size w w' := by
  have H := Lib.hid h
  clear h
  go_enter Tryz.func53, Tryz.ntmps53
  go_wp2_with (go_at_call 76; refine (upTo_no _ _ _ H.out).mono ?_; rintro e w' ⟨rfl, rfl⟩)
  go_ret
  exact ⟨rfl, (Below.refl _ _).alloc (Nat.le_refl _) _⟩
theorem no_b (o d : Bool) (n b m : Int) (w : World) (n0 : 0 ≤ n) (n1 : n ≤ 63) (h : b < 0 ∨ 1048576 < b) :
    Calls Tryz.prog 53 #[.agg #[.bool true, .bool o, .bool d, .int .i64 n, .int .i64 b, .int .i64 m]] w fun e w' => e = .returned (.bool false) ∧ Below w.heap.size w w' := by
  have H := Lib.hid h
  clear h
  go_enter Tryz.func53, Tryz.ntmps53
  go_wp2_with (go_at_call 76; first | ((with_reducible refine (upTo_yes n 63 _ n0 n1).mono ?_); rintro e w' ⟨rfl, rfl⟩) | ((with_reducible refine (upTo_no b 1048576 _ H.out).mono ?_); rintro e w' ⟨rfl, rfl⟩))
  go_ret
  exact ⟨rfl, (Below.refl _ _).alloc (Nat.le_refl _) _⟩
theorem no_m (o d : Bool) (n b m : Int) (w : World) (n0 : 0 ≤ n) (n1 : n ≤ 63) (b0 : 0 ≤ b) (b1 : b ≤ 1048576) (h : m < 0 ∨ 1048576 < m) :
    Calls Tryz.prog 53 #[.agg #[.bool true, .bool o, .bool d, .int .i64 n, .int .i64 b, .int .i64 m]] w fun e w' => e = .returned (.bool false) ∧ Below w.heap.size w w' := by
  have H := Lib.hid h
  clear h
  go_enter Tryz.func53, Tryz.ntmps53
  go_wp2_with (go_at_call 76; first | ((with_reducible refine (upTo_yes n 63 _ n0 n1).mono ?_); rintro e w' ⟨rfl, rfl⟩) | ((with_reducible refine (upTo_yes b 1048576 _ b0 b1).mono ?_); rintro e w' ⟨rfl, rfl⟩) | ((with_reducible refine (upTo_no m 1048576 _ H.out).mono ?_); rintro e w' ⟨rfl, rfl⟩))
  go_ret
  exact ⟨rfl, (Below.refl _ _).alloc (Nat.le_refl _) _⟩
theorem no_free (o d : Bool) (n b m : Int) (w : World) (h : mayB false o d n b m = false) :
    Calls Tryz.prog 53 #[.agg #[.bool false, .bool o, .bool d, .int .i64 n, .int .i64 b, .int .i64 m]] w fun e w' => e = .returned (.bool false) ∧ Below w.heap.size w w' := by
  have H := Lib.hid h
  clear h
  cases o
  · cases d
    · by_cases hn : (n == 0) = true
      · obtain rfl : n = 0 := by simpa using hn
        clear hn
        by_cases hb : (b == 0) = true
        · obtain rfl : b = 0 := by simpa using hb
          clear hb
          have hm : (m == 0) = false := by
            have := H.out
            simp [mayB] at this
            simp [this]
          go_enter Tryz.func53, Tryz.ntmps53
          go_wp2
          go_ret
          exact ⟨rfl, (Below.refl _ _).alloc (Nat.le_refl _) _⟩
        · have hb' : (b == 0) = false := by simpa using hb
          clear hb
          go_enter Tryz.func53, Tryz.ntmps53
          go_wp2
          go_ret
          exact ⟨rfl, (Below.refl _ _).alloc (Nat.le_refl _) _⟩
      · have hn' : (n == 0) = false := by simpa using hn
        clear hn
        go_enter Tryz.func53, Tryz.ntmps53
        go_wp2
        go_ret
        exact ⟨rfl, (Below.refl _ _).alloc (Nat.le_refl _) _⟩
    · go_enter Tryz.func53, Tryz.ntmps53
      go_wp2
      go_ret
      exact ⟨rfl, (Below.refl _ _).alloc (Nat.le_refl _) _⟩
  · go_enter Tryz.func53, Tryz.ntmps53
    go_wp2
    go_ret
    exact ⟨rfl, (Below.refl _ _).alloc (Nat.le_refl _) _⟩
theorem may_no (u o d : Bool) (n b m : Int) (w : World) (h : mayB u o d n b m = false) :
    Calls Tryz.prog 53 #[.agg #[.bool u, .bool o, .bool d, .int .i64 n, .int .i64 b, .int .i64 m]] w fun e w' => e = .returned (.bool false) ∧ Below w.heap.size w w' := by
  cases u
  · exact no_free o d n b m w h
  · have h' : ¬ (0 ≤ n ∧ n ≤ 63 ∧ 0 ≤ b ∧ b ≤ 1048576 ∧ 0 ≤ m ∧ m ≤ 1048576) := fun c => by
      rw [(may_used_iff o d n b m).2 c] at h; cases h
    by_cases hn : 0 ≤ n ∧ n ≤ 63
    · by_cases hb : 0 ≤ b ∧ b ≤ 1048576
      · exact no_m o d n b m w hn.1 hn.2 hb.1 hb.2 (by omega)
      · exact no_b o d n b m w hn.1 hn.2 (by omega)
    · exact no_n o d n b m w (by omega)

end Go.Proofs.YtjppimabhefeeaaGreatDoor.Hd
end
section
namespace Go.Proofs.YtjppimabhefeeaaGreatDoor.Hd
open Go.Proofs.YtjppimabhefeeaaGreatDoor
set_option maxRecDepth 100000
open Go.RowKit

theorem unpacked_below {w w1 : World} {o o' : Obj} (hb : Below ((w.alloc o).alloc o').heap.size ((w.alloc o).alloc o') w1) : Below w.heap.size w w1 :=
  (((Below.refl _ _).alloc (Nat.le_refl _) _).alloc (by simp) _).trans (hb.mono (by simp; omega))
theorem six_below {B b : Nat} {w w1 : World} (h : Below B w w1) (hb : B ≤ b) (v0 v1 v2 v3 v4 v5 : Value) :
    Below B w ((((((w1.setCell ⟨b, 0, none⟩ v0).setCell ⟨b, 1, none⟩ v1).setCell ⟨b, 2, none⟩ v2).setCell ⟨b, 3, none⟩ v3).setCell ⟨b, 4, none⟩ v4).setCell ⟨b, 5, none⟩ v5) :=
  (((((h.setCell hb v0).setCell hb v1).setCell hb v2).setCell hb v3).setCell hb v4).setCell hb v5

theorem first_cells {w w1 : World} {o' : Obj} {cs : Array Value} {t : TypeId} (hb : Below ((w.alloc (.cells cs t)).alloc o').heap.size ((w.alloc (.cells cs t)).alloc o') w1) (k : Nat) :
    w1.cell? ⟨w.heap.size, k, none⟩ = cs[k]? := by
  rw [old_cell hb _ _ (by simp; omega)]
  simp [go_sem]
theorem unpack_core_yes (x : Int) (u o d : Bool) (n b m : Int) (w : World) (h : mayB u o d n b m = true)
    (eu : (bits .and .i64 x 1 != 0) = u) (eo : (bits .and .i64 x 2 != 0) = o) (ed : (bits .and .i64 x 4 != 0) = d) (en : bits .and .i64 (x / 8) 127 = n) (eb : bits .and .i64 (x / 1024) 4194303 = b) (em : x / 4294967296 = m) :
    Calls Tryz.prog 38 #[.int .i64 x] w fun e w' => e = .returned (.tuple #[.agg #[.bool u, .bool o, .bool d, .int .i64 n, .int .i64 b, .int .i64 m], .bool true]) ∧ Below w.heap.size w w' := by
  have H := Lib.hid h
  clear h
  go_enter Tryz.func38, Tryz.ntmps38
  go_wp2_with fail
  refine (may_yes _ _ _ _ _ _ _ H.out).mono ?_
  rintro e w1 ⟨rfl, hb⟩
  have hc := old_cell hb
  have hf := old_mark hb
  clear eu eo ed en eb em
  have c0 := first_cells hb 0
  have c1 := first_cells hb 1
  have c2 := first_cells hb 2
  have c3 := first_cells hb 3
  have c4 := first_cells hb 4
  have c5 := first_cells hb 5
  simp at c0 c1 c2 c3 c4 c5
  go_wp2
  refine bodyPost_ret (v := .tuple #[.agg #[.bool u, .bool o, .bool d, .int .i64 n, .int .i64 b, .int .i64 m], .bool true]) ?_ rfl ⟨rfl, six_below (unpacked_below hb) (Nat.le_refl _) _ _ _ _ _ _⟩
  simp [results, Tryz.results38, go_sem, c0, c1, c2, c3, c4, c5]
theorem unpack_core_no (x : Int) (u o d : Bool) (n b m : Int) (w : World) (h : mayB u o d n b m = false)
    (eu : (bits .and .i64 x 1 != 0) = u) (eo : (bits .and .i64 x 2 != 0) = o) (ed : (bits .and .i64 x 4 != 0) = d) (en : bits .and .i64 (x / 8) 127 = n) (eb : bits .and .i64 (x / 1024) 4194303 = b) (em : x / 4294967296 = m) :
    Calls Tryz.prog 38 #[.int .i64 x] w fun e w' => e = .returned (.tuple #[.agg #[.bool false, .bool false, .bool false, .int .i64 0, .int .i64 0, .int .i64 0], .bool false]) ∧ Below w.heap.size w w' := by
  have H := Lib.hid h
  clear h
  go_enter Tryz.func38, Tryz.ntmps38
  go_wp2_with fail
  refine (may_no _ _ _ _ _ _ _ H.out).mono ?_
  rintro e w1 ⟨rfl, hb⟩
  have hc := old_cell hb
  have hf := old_mark hb
  clear eu eo ed en eb em
  have c0 := first_cells hb 0
  have c1 := first_cells hb 1
  have c2 := first_cells hb 2
  have c3 := first_cells hb 3
  have c4 := first_cells hb 4
  have c5 := first_cells hb 5
  simp at c0 c1 c2 c3 c4 c5
  go_wp2
  refine bodyPost_ret (v := .tuple #[.agg #[.bool false, .bool false, .bool false, .int .i64 0, .int .i64 0, .int .i64 0], .bool false]) ?_ rfl ⟨rfl, six_below (unpacked_below hb) (Nat.le_refl _) _ _ _ _ _ _⟩
  simp [results, Tryz.results38, go_sem, c0, c1, c2, c3, c4, c5]

theorem unpack_no (x : Int) (w : World) (h : isWord x = false) :
    Calls Tryz.prog 38 #[.int .i64 x] w fun e w' => e = .returned (.tuple #[.agg #[.bool false, .bool false, .bool false, .int .i64 0, .int .i64 0, .int .i64 0], .bool false]) ∧ Below w.heap.size w w' :=
  unpack_core_no x _ _ _ _ _ _ w h (bit_1 x) (bit_2 x) (bit_4 x) (and_127 _) (and_4194303 _) rfl
theorem unpack_yes (x : Int) (w : World) (h : isWord x = true) :
    Calls Tryz.prog 38 #[.int .i64 x] w fun e w' => e = .returned (.tuple #[.agg #[.bool (decide (x % 2 = 1)), .bool (decide (x / 2 % 2 = 1)), .bool (decide (x / 4 % 2 = 1)), .int .i64 (x / 8 % 128), .int .i64 (x / 1024 % 4194304), .int .i64 (x / 4294967296)], .bool true]) ∧ Below w.heap.size w w' :=
  unpack_core_yes x _ _ _ _ _ _ w h (bit_1 x) (bit_2 x) (bit_4 x) (and_127 _) (and_4194303 _) rfl
end Go.Proofs.YtjppimabhefeeaaGreatDoor.Hd
end
section
namespace Go.Proofs.YtjppimabhefeeaaGreatDoor.Hd
open Go.Proofs.YtjppimabhefeeaaGreatDoor
set_option maxRecDepth 100000
open Go.RowKit

end Go.Proofs.YtjppimabhefeeaaGreatDoor.Hd
end
section
namespace Go.Proofs.YtjppimabhefeeaaGreatDoor.Hd
open Go.Proofs.YtjppimabhefeeaaGreatDoor
set_option maxRecDepth 100000
open Go.RowKit

theorem rmay_used (o e : Bool) (n b m : Int) (w : World) (n0 : 0 ≤ n) (n1 : n ≤ 63) (b0 : 0 ≤ b) (b1 : b ≤ 1048576) (m0 : 0 ≤ m) (m1 : m ≤ 1048576) :
    Calls Tryz.prog 61 #[.agg #[.bool true, .bool o, .bool e, .int .i64 n, .int .i64 b, .int .i64 m]] w fun r w' => r = .returned (.bool true) ∧ Below w.heap.size w w' := by
  go_enter Tryz.func61, Tryz.ntmps61
  go_wp2
  go_ret
  exact ⟨rfl, (Below.refl _ _).alloc (Nat.le_refl _) _⟩
theorem rmay_free  (w : World)  :
    Calls Tryz.prog 61 #[.agg #[.bool false, .bool false, .bool false, .int .i64 0, .int .i64 0, .int .i64 0]] w fun r w' => r = .returned (.bool true) ∧ Below w.heap.size w w' := by
  go_enter Tryz.func61, Tryz.ntmps61
  go_wp2
  go_ret
  exact ⟨rfl, (Below.refl _ _).alloc (Nat.le_refl _) _⟩
theorem rno_n0 (u o e : Bool) (n b m : Int) (w : World) (h : n < 0) :
    Calls Tryz.prog 61 #[.agg #[.bool u, .bool o, .bool e, .int .i64 n, .int .i64 b, .int .i64 m]] w fun r w' => r = .returned (.bool false) ∧ Below w.heap.size w w' := by
  go_enter Tryz.func61, Tryz.ntmps61
  go_wp2
  go_ret
  exact ⟨rfl, (Below.refl _ _).alloc (Nat.le_refl _) _⟩
theorem rno_n1 (u o e : Bool) (n b m : Int) (w : World) (n0 : 0 ≤ n) (h : 63 < n) :
    Calls Tryz.prog 61 #[.agg #[.bool u, .bool o, .bool e, .int .i64 n, .int .i64 b, .int .i64 m]] w fun r w' => r = .returned (.bool false) ∧ Below w.heap.size w w' := by
  go_enter Tryz.func61, Tryz.ntmps61
  go_wp2
  go_ret
  exact ⟨rfl, (Below.refl _ _).alloc (Nat.le_refl _) _⟩
theorem rno_b0 (u o e : Bool) (n b m : Int) (w : World) (n0 : 0 ≤ n) (n1 : n ≤ 63) (h : b < 0) :
    Calls Tryz.prog 61 #[.agg #[.bool u, .bool o, .bool e, .int .i64 n, .int .i64 b, .int .i64 m]] w fun r w' => r = .returned (.bool false) ∧ Below w.heap.size w w' := by
  go_enter Tryz.func61, Tryz.ntmps61
  go_wp2
  go_ret
  exact ⟨rfl, (Below.refl _ _).alloc (Nat.le_refl _) _⟩
theorem rno_b1 (u o e : Bool) (n b m : Int) (w : World) (n0 : 0 ≤ n) (n1 : n ≤ 63) (b0 : 0 ≤ b) (h : 1048576 < b) :
    Calls Tryz.prog 61 #[.agg #[.bool u, .bool o, .bool e, .int .i64 n, .int .i64 b, .int .i64 m]] w fun r w' => r = .returned (.bool false) ∧ Below w.heap.size w w' := by
  go_enter Tryz.func61, Tryz.ntmps61
  go_wp2
  go_ret
  exact ⟨rfl, (Below.refl _ _).alloc (Nat.le_refl _) _⟩
theorem rno_m0 (u o e : Bool) (n b m : Int) (w : World) (n0 : 0 ≤ n) (n1 : n ≤ 63) (b0 : 0 ≤ b) (b1 : b ≤ 1048576) (h : m < 0) :
    Calls Tryz.prog 61 #[.agg #[.bool u, .bool o, .bool e, .int .i64 n, .int .i64 b, .int .i64 m]] w fun r w' => r = .returned (.bool false) ∧ Below w.heap.size w w' := by
  go_enter Tryz.func61, Tryz.ntmps61
  go_wp2
  go_ret
  exact ⟨rfl, (Below.refl _ _).alloc (Nat.le_refl _) _⟩
theorem rno_m1 (u o e : Bool) (n b m : Int) (w : World) (n0 : 0 ≤ n) (n1 : n ≤ 63) (b0 : 0 ≤ b) (b1 : b ≤ 1048576) (m0 : 0 ≤ m) (h : 1048576 < m) :
    Calls Tryz.prog 61 #[.agg #[.bool u, .bool o, .bool e, .int .i64 n, .int .i64 b, .int .i64 m]] w fun r w' => r = .returned (.bool false) ∧ Below w.heap.size w w' := by
  go_enter Tryz.func61, Tryz.ntmps61
  go_wp2
  go_ret
  exact ⟨rfl, (Below.refl _ _).alloc (Nat.le_refl _) _⟩
theorem rno_o (e : Bool) (n b m : Int) (w : World) (n0 : 0 ≤ n) (n1 : n ≤ 63) (b0 : 0 ≤ b) (b1 : b ≤ 1048576) (m0 : 0 ≤ m) (m1 : m ≤ 1048576) :
    Calls Tryz.prog 61 #[.agg #[.bool false, .bool true, .bool e, .int .i64 n, .int .i64 b, .int .i64 m]] w fun r w' => r = .returned (.bool false) ∧ Below w.heap.size w w' := by
  go_enter Tryz.func61, Tryz.ntmps61
  go_wp2
  go_ret
  exact ⟨rfl, (Below.refl _ _).alloc (Nat.le_refl _) _⟩
theorem rno_e (n b m : Int) (w : World) (n0 : 0 ≤ n) (n1 : n ≤ 63) (b0 : 0 ≤ b) (b1 : b ≤ 1048576) (m0 : 0 ≤ m) (m1 : m ≤ 1048576) :
    Calls Tryz.prog 61 #[.agg #[.bool false, .bool false, .bool true, .int .i64 n, .int .i64 b, .int .i64 m]] w fun r w' => r = .returned (.bool false) ∧ Below w.heap.size w w' := by
  go_enter Tryz.func61, Tryz.ntmps61
  go_wp2
  go_ret
  exact ⟨rfl, (Below.refl _ _).alloc (Nat.le_refl _) _⟩
theorem rno_n (n b m : Int) (w : World) (n0 : 0 ≤ n) (n1 : n ≤ 63) (b0 : 0 ≤ b) (b1 : b ≤ 1048576) (m0 : 0 ≤ m) (m1 : m ≤ 1048576) (h : (n == 0) = false) :
    Calls Tryz.prog 61 #[.agg #[.bool false, .bool false, .bool false, .int .i64 n, .int .i64 b, .int .i64 m]] w fun r w' => r = .returned (.bool false) ∧ Below w.heap.size w w' := by
  go_enter Tryz.func61, Tryz.ntmps61
  go_wp2
  go_ret
  exact ⟨rfl, (Below.refl _ _).alloc (Nat.le_refl _) _⟩
theorem rno_b (b m : Int) (w : World) (b0 : 0 ≤ b) (b1 : b ≤ 1048576) (m0 : 0 ≤ m) (m1 : m ≤ 1048576) (h : (b == 0) = false) :
    Calls Tryz.prog 61 #[.agg #[.bool false, .bool false, .bool false, .int .i64 0, .int .i64 b, .int .i64 m]] w fun r w' => r = .returned (.bool false) ∧ Below w.heap.size w w' := by
  go_enter Tryz.func61, Tryz.ntmps61
  go_wp2
  go_ret
  exact ⟨rfl, (Below.refl _ _).alloc (Nat.le_refl _) _⟩
theorem rno_m (m : Int) (w : World) (m0 : 0 ≤ m) (m1 : m ≤ 1048576) (h : (m == 0) = false) :
    Calls Tryz.prog 61 #[.agg #[.bool false, .bool false, .bool false, .int .i64 0, .int .i64 0, .int .i64 m]] w fun r w' => r = .returned (.bool false) ∧ Below w.heap.size w w' := by
  go_enter Tryz.func61, Tryz.ntmps61
  go_wp2
  go_ret
  exact ⟨rfl, (Below.refl _ _).alloc (Nat.le_refl _) _⟩
theorem rmay_yes (u o e : Bool) (n b m : Int) (w : World) (h : mayB u o e n b m = true) :
    Calls Tryz.prog 61 #[.agg #[.bool u, .bool o, .bool e, .int .i64 n, .int .i64 b, .int .i64 m]] w fun r w' => r = .returned (.bool true) ∧ Below w.heap.size w w' := by
  cases u
  · obtain ⟨rfl, rfl, rfl, rfl, rfl⟩ := (may_free_iff _ _ _ _ _).1 h
    exact rmay_free w
  · obtain ⟨a1, a2, a3, a4, a5, a6⟩ := (may_used_iff _ _ _ _ _).1 h
    exact rmay_used o e n b m w a1 a2 a3 a4 a5 a6
theorem rmay_no (u o e : Bool) (n b m : Int) (w : World) (h : mayB u o e n b m = false) :
    Calls Tryz.prog 61 #[.agg #[.bool u, .bool o, .bool e, .int .i64 n, .int .i64 b, .int .i64 m]] w fun r w' => r = .returned (.bool false) ∧ Below w.heap.size w w' := by
  by_cases n0 : 0 ≤ n
  · by_cases n1 : n ≤ 63
    · by_cases b0 : 0 ≤ b
      · by_cases b1 : b ≤ 1048576
        · by_cases m0 : 0 ≤ m
          · by_cases m1 : m ≤ 1048576
            · cases u
              · cases o
                · cases e
                  · by_cases z : n = 0
                    · subst z
                      by_cases z : b = 0
                      · subst z
                        have z : m ≠ 0 := fun z => by subst z; cases h
                        exact rno_m m w m0 m1 (beq_eq_false_iff_ne.2 z)
                      · exact rno_b b m w b0 b1 m0 m1 (beq_eq_false_iff_ne.2 z)
                    · exact rno_n n b m w n0 n1 b0 b1 m0 m1 (beq_eq_false_iff_ne.2 z)
                  · exact rno_e n b m w n0 n1 b0 b1 m0 m1
                · exact rno_o e n b m w n0 n1 b0 b1 m0 m1
              · have := (may_used_iff o e n b m).2 ⟨n0, n1, b0, b1, m0, m1⟩
                rw [this] at h
                cases h
            · exact rno_m1 u o e n b m w n0 n1 b0 b1 m0 (by omega)
          · exact rno_m0 u o e n b m w n0 n1 b0 b1 (by omega)
        · exact rno_b1 u o e n b m w n0 n1 b0 (by omega)
      · exact rno_b0 u o e n b m w n0 n1 (by omega)
    · exact rno_n1 u o e n b m w n0 (by omega)
  · exact rno_n0 u o e n b m w (by omega)

end Go.Proofs.YtjppimabhefeeaaGreatDoor.Hd
end
section
namespace Go.Proofs.YtjppimabhefeeaaGreatDoor.Hd
open Go.Proofs.YtjppimabhefeeaaGreatDoor
set_option maxRecDepth 100000
open Go.RowKit

theorem runpack_zero (w : World) :
    Calls Tryz.prog 41 #[.int .i64 0] w fun r w' => r = .returned (.tuple #[.agg #[.bool false, .bool false, .bool false, .int .i64 0, .int .i64 0, .int .i64 0], .bool true]) ∧ Below w.heap.size w w' := by
  go_enter Tryz.func41, Tryz.ntmps41
  go_wp2
  refine bodyPost_ret (v := .tuple #[.agg #[.bool false, .bool false, .bool false, .int .i64 0, .int .i64 0, .int .i64 0], .bool true]) ?_ rfl ⟨rfl, (((Below.refl _ _).alloc (Nat.le_refl _) _).alloc (by simp) _)⟩
  simp [results, Tryz.results41, go_sem]
theorem runpack_less (x : Int) (w : World) (h : x < 0) :
    Calls Tryz.prog 41 #[.int .i64 x] w fun r w' => r = .returned (.tuple #[.agg #[.bool false, .bool false, .bool false, .int .i64 0, .int .i64 0, .int .i64 0], .bool false]) ∧ Below w.heap.size w w' := by
  go_enter Tryz.func41, Tryz.ntmps41
  go_wp2
  refine bodyPost_ret (v := .tuple #[.agg #[.bool false, .bool false, .bool false, .int .i64 0, .int .i64 0, .int .i64 0], .bool false]) ?_ rfl ⟨rfl, (((Below.refl _ _).alloc (Nat.le_refl _) _).alloc (by simp) _)⟩
  simp [results, Tryz.results41, go_sem]
theorem runpack_even (x : Int) (w : World) (x0 : 1 ≤ x) (x1 : x ≤ 9223372036854775807) (h : x % 2 = 0) :
    Calls Tryz.prog 41 #[.int .i64 x] w fun r w' => r = .returned (.tuple #[.agg #[.bool false, .bool false, .bool false, .int .i64 0, .int .i64 0, .int .i64 0], .bool false]) ∧ Below w.heap.size w w' := by
  go_enter Tryz.func41, Tryz.ntmps41
  go_wp2
  refine bodyPost_ret (v := .tuple #[.agg #[.bool false, .bool false, .bool false, .int .i64 0, .int .i64 0, .int .i64 0], .bool false]) ?_ rfl ⟨rfl, (((Below.refl _ _).alloc (Nat.le_refl _) _).alloc (by simp) _)⟩
  simp [results, Tryz.results41, go_sem]
theorem three_below {w w1 : World} {c c' c'' : Obj} (hb : Below (((w.alloc c).alloc c').alloc c'').heap.size (((w.alloc c).alloc c').alloc c'') w1) : Below w.heap.size w w1 :=
  ((((Below.refl _ _).alloc (Nat.le_refl _) _).alloc (by simp) _).alloc (by simp; omega) _).trans (hb.mono (by simp; omega))
theorem far_cells {w w1 : World} {c' c'' : Obj} {cs : Array Value} {t : TypeId} (hb : Below (((w.alloc (.cells cs t)).alloc c').alloc c'').heap.size (((w.alloc (.cells cs t)).alloc c').alloc c'') w1) (k : Nat) :
    w1.cell? ⟨w.heap.size, k, none⟩ = cs[k]? := by
  rw [old_cell hb _ _ (by simp; omega)]
  simp [go_sem]
theorem runpack_odd (x : Int) (o e : Bool) (n b m : Int) (w : World) (h : mayB true o e n b m = true) (x0 : 1 ≤ x) (x1 : x ≤ 9223372036854775807) (h1 : x % 2 = 1) (eo : (x / 2 % 2 == 1) = o) (ee : (x / 4 % 2 == 1) = e) (en : x / 8 % 128 = n) (eb : x / 1024 % 4194304 = b) (em : x / 4294967296 = m) :
    Calls Tryz.prog 41 #[.int .i64 x] w fun r w' => r = .returned (.tuple #[.agg #[.bool true, .bool o, .bool e, .int .i64 n, .int .i64 b, .int .i64 m], .bool true]) ∧ Below w.heap.size w w' := by
  have H := Lib.hid h
  clear h
  go_enter Tryz.func41, Tryz.ntmps41
  go_wp2_with fail
  refine (rmay_yes _ _ _ _ _ _ _ H.out).mono ?_
  rintro r w1 ⟨rfl, hb⟩
  have hc := old_cell hb; have hf := old_mark hb
  clear x0 x1 h1 eo ee en eb em
  have c0 := far_cells hb 0
  have c1 := far_cells hb 1
  have c2 := far_cells hb 2
  have c3 := far_cells hb 3
  have c4 := far_cells hb 4
  have c5 := far_cells hb 5
  simp at c0 c1 c2 c3 c4 c5
  go_wp2
  refine bodyPost_ret (v := .tuple #[.agg #[.bool true, .bool o, .bool e, .int .i64 n, .int .i64 b, .int .i64 m], .bool true]) ?_ rfl ⟨rfl, six_below (three_below hb) (Nat.le_refl _) _ _ _ _ _ _⟩
  simp [results, Tryz.results41, go_sem, c0, c1, c2, c3, c4, c5]
theorem runpack_bad (x : Int) (o e : Bool) (n b m : Int) (w : World) (h : mayB true o e n b m = false) (x0 : 1 ≤ x) (x1 : x ≤ 9223372036854775807) (h1 : x % 2 = 1) (eo : (x / 2 % 2 == 1) = o) (ee : (x / 4 % 2 == 1) = e) (en : x / 8 % 128 = n) (eb : x / 1024 % 4194304 = b) (em : x / 4294967296 = m) :
    Calls Tryz.prog 41 #[.int .i64 x] w fun r w' => r = .returned (.tuple #[.agg #[.bool false, .bool false, .bool false, .int .i64 0, .int .i64 0, .int .i64 0], .bool false]) ∧ Below w.heap.size w w' := by
  have H := Lib.hid h
  clear h
  go_enter Tryz.func41, Tryz.ntmps41
  go_wp2_with fail
  refine (rmay_no _ _ _ _ _ _ _ H.out).mono ?_
  rintro r w1 ⟨rfl, hb⟩
  have hc := old_cell hb; have hf := old_mark hb
  clear x0 x1 h1 eo ee en eb em
  have c0 := far_cells hb 0
  have c1 := far_cells hb 1
  have c2 := far_cells hb 2
  have c3 := far_cells hb 3
  have c4 := far_cells hb 4
  have c5 := far_cells hb 5
  simp at c0 c1 c2 c3 c4 c5
  go_wp2
  refine bodyPost_ret (v := .tuple #[.agg #[.bool false, .bool false, .bool false, .int .i64 0, .int .i64 0, .int .i64 0], .bool false]) ?_ rfl ⟨rfl, six_below (three_below hb) (Nat.le_refl _) _ _ _ _ _ _⟩
  simp [results, Tryz.results41, go_sem, c0, c1, c2, c3, c4, c5]
theorem beq_one (x : Int) : (x == 1) = decide (x = 1) := by
  rw [Bool.eq_iff_iff]; simp
theorem runpack_no (x : Int) (w : World) (x0 : -9223372036854775808 ≤ x) (x1 : x ≤ 9223372036854775807) (h : isWord x = false) :
    Calls Tryz.prog 41 #[.int .i64 x] w fun r w' => r = .returned (.tuple #[.agg #[.bool false, .bool false, .bool false, .int .i64 0, .int .i64 0, .int .i64 0], .bool false]) ∧ Below w.heap.size w w' := by
  by_cases h0 : x < 0
  · exact runpack_less x w h0
  · by_cases h1 : x % 2 = 1
    · unfold isWord at h
      rw [decide_eq_true h1] at h
      exact runpack_bad x _ _ _ _ _ w h (by omega) x1 h1 (beq_one _) (beq_one _) rfl rfl rfl
    · by_cases h2 : x = 0
      · subst h2
        cases h
      · exact runpack_even x w (by omega) x1 (by omega)
theorem runpack_word (u o e : Bool) (n b m : Int) (w : World) (h : mayB u o e n b m = true) :
    Calls Tryz.prog 41 #[.int .i64 (word u o e n b m)] w fun r w' => r = .returned (.tuple #[.agg #[.bool u, .bool o, .bool e, .int .i64 n, .int .i64 b, .int .i64 m], .bool true]) ∧ Below w.heap.size w w' := by
  cases u
  · obtain ⟨rfl, rfl, rfl, rfl, rfl⟩ := (may_free_iff _ _ _ _ _).1 h
    exact runpack_zero w
  · have r := word_range h
    obtain ⟨p1, p2, p3, p4, p5, p6⟩ := word_parts h
    refine runpack_odd _ o e n b m w h (by omega) (by omega) p1 ?_ ?_ p4 p5 p6
    · rw [beq_one, Bool.eq_iff_iff, decide_eq_true_iff]
      exact p2
    · rw [beq_one, Bool.eq_iff_iff, decide_eq_true_iff]
      exact p3
end Go.Proofs.YtjppimabhefeeaaGreatDoor.Hd
end
section
namespace Go.Proofs.YtjppimabhefeeaaGreatDoor
open Go.RowKit

def headOf (x : Int) : Value :=
  if Hd.isWord x then .agg #[.bool (decide (x % 2 = 1)), .bool (decide (x / 2 % 2 = 1)), .bool (decide (x / 4 % 2 = 1)), .int .i64 (x / 8 % 128), .int .i64 (x / 1024 % 4194304), .int .i64 (x / 4294967296)]
  else .agg #[.bool false, .bool false, .bool false, .int .i64 0, .int .i64 0, .int .i64 0]
theorem unpack_any (x : Int) (w : World) : Calls Tryz.prog 38 #[.int .i64 x] w fun e w' => e = .returned (.tuple #[headOf x, .bool (Hd.isWord x)]) ∧ Below w.heap.size w w' := by
  unfold headOf
  cases h : Hd.isWord x
  · exact Hd.unpack_no x w h
  · exact Hd.unpack_yes x w h
theorem runpack_any (x : Int) (w : World) (x0 : -9223372036854775808 ≤ x) (x1 : x ≤ 9223372036854775807) : Calls Tryz.prog 41 #[.int .i64 x] w fun e w' => e = .returned (.tuple #[headOf x, .bool (Hd.isWord x)]) ∧ Below w.heap.size w w' := by
  unfold headOf
  cases h : Hd.isWord x
  · exact Hd.runpack_no x w x0 x1 h
  · obtain ⟨u, o, d, n, b, m, h', e, e1, e2, e3, e4, e5, e6⟩ := Hd.isWord_cases x h
    have := Hd.runpack_word u o d n b m w h'
    rw [← e, e1, e2, e3, e4, e5, e6] at this
    exact this
end Go.Proofs.YtjppimabhefeeaaGreatDoor
end
section
namespace Go.Proofs.YtjppimabhefeeaaGreatDoor.Cl
open Go.Proofs.YtjppimabhefeeaaGreatDoor
set_option maxRecDepth 100000
open Go.RowKit

theorem words_any (n : Int) (w : World) (h0 : 1 ≤ n) (h1 : n ≤ 63) :
    Calls Tryz.prog 82 #[.int .i64 n] w fun e w' => e = .returned (.int .i64 (1 + n)) ∧ w = w' := by
  go_enter Tryz.func82, Tryz.ntmps82
  go_wp2
  go_ret
  exact ⟨rfl, rfl⟩

/-- The table of sizes lies as it is written. -/
def Sz (w : World) : Prop := w.cell? ⟨0, 0, none⟩ = some (.int .i64 2) ∧ w.cell? ⟨0, 1, none⟩ = some (.int .i64 4) ∧ w.cell? ⟨0, 2, none⟩ = some (.int .i64 8)

theorem of_low (n : Int) (w : World) (h : n < 1) :
    Calls Tryz.prog 66 #[.int .i64 n] w fun e w' => e = .returned (.tuple #[.int .i64 0, .int .i64 1]) ∧ w = w' := by
  go_enter Tryz.func66, Tryz.ntmps66
  go_wp2
  go_ret2
  exact ⟨rfl, rfl⟩
theorem of_high (n : Int) (w : World) (h : 63 < n) :
    Calls Tryz.prog 66 #[.int .i64 n] w fun e w' => e = .returned (.tuple #[.int .i64 0, .int .i64 2]) ∧ w = w' := by
  go_enter Tryz.func66, Tryz.ntmps66
  go_wp2
  go_ret2
  exact ⟨rfl, rfl⟩
theorem index_at0 (w : World) : (Instr.index 111 (.agg #[.int .i64 2, .int .i64 4, .int .i64 8]) (.int .i64 0)).run Tryz.prog w = .ok (.int .i64 2) w := by kernel_rfl
theorem index_at1 (w : World) : (Instr.index 111 (.agg #[.int .i64 2, .int .i64 4, .int .i64 8]) (.int .i64 1)).run Tryz.prog w = .ok (.int .i64 4) w := by kernel_rfl
theorem index_at2 (w : World) : (Instr.index 111 (.agg #[.int .i64 2, .int .i64 4, .int .i64 8]) (.int .i64 2)).run Tryz.prog w = .ok (.int .i64 8) w := by kernel_rfl
theorem of_0 (n : Int) (w : World) (hz : Sz w) (h0 : 1 ≤ n) (h1 : n ≤ 1) :
    Calls Tryz.prog 66 #[.int .i64 n] w fun e w' => e = .returned (.tuple #[.int .i64 0, .int .i64 0]) ∧ w = w' := by
  obtain ⟨z0, z1, z2⟩ := hz
  have d1 : decide (n < 1) = false := by simp; omega
  have d2 : decide (63 < n) = false := by simp; omega
  go_enter Tryz.func66, Tryz.ntmps66
  go_wp2
  clear z0 z1 z2
  go_loop [11] (fun i => ∃ k : Nat, k ≤ 0 ∧ i = .int .i64 k) (fun i => 3 - (intOf i).toNat)
  case atStart => exact ⟨0, by omega, rfl⟩
  case round =>
    obtain ⟨k, hk, rfl⟩ := hrel
    have hc : k = 0 := by omega
    clear hk
    subst hc
    · have ix := index_at0 w
      go_wp2_with (go_at_call 82; refine (words_any _ _ (by omega) (by omega)).mono ?_; rintro e w1 ⟨rfl, rfl⟩)
      go_ret2
      exact ⟨rfl, rfl⟩
theorem of_1 (n : Int) (w : World) (hz : Sz w) (h0 : 2 ≤ n) (h1 : n ≤ 3) :
    Calls Tryz.prog 66 #[.int .i64 n] w fun e w' => e = .returned (.tuple #[.int .i64 1, .int .i64 0]) ∧ w = w' := by
  obtain ⟨z0, z1, z2⟩ := hz
  have d1 : decide (n < 1) = false := by simp; omega
  have d2 : decide (63 < n) = false := by simp; omega
  go_enter Tryz.func66, Tryz.ntmps66
  go_wp2
  clear z0 z1 z2
  go_loop [11] (fun i => ∃ k : Nat, k ≤ 1 ∧ i = .int .i64 k) (fun i => 3 - (intOf i).toNat)
  case atStart => exact ⟨0, by omega, rfl⟩
  case round =>
    obtain ⟨k, hk, rfl⟩ := hrel
    have hc : k = 0 ∨ k = 1 := by omega
    clear hk
    rcases hc with rfl | rfl
    · have ix := index_at0 w
      go_wp2_with (go_at_call 82; refine (words_any _ _ (by omega) (by omega)).mono ?_; rintro e w1 ⟨rfl, rfl⟩)
      go_round
      case rel => exact ⟨1, by omega, by go_num⟩
      case measure => simp [intOf]
    · have ix := index_at1 w
      go_wp2_with (go_at_call 82; refine (words_any _ _ (by omega) (by omega)).mono ?_; rintro e w1 ⟨rfl, rfl⟩)
      go_ret2
      exact ⟨rfl, rfl⟩
theorem of_2 (n : Int) (w : World) (hz : Sz w) (h0 : 4 ≤ n) (h1 : n ≤ 7) :
    Calls Tryz.prog 66 #[.int .i64 n] w fun e w' => e = .returned (.tuple #[.int .i64 2, .int .i64 0]) ∧ w = w' := by
  obtain ⟨z0, z1, z2⟩ := hz
  have d1 : decide (n < 1) = false := by simp; omega
  have d2 : decide (63 < n) = false := by simp; omega
  go_enter Tryz.func66, Tryz.ntmps66
  go_wp2
  clear z0 z1 z2
  go_loop [11] (fun i => ∃ k : Nat, k ≤ 2 ∧ i = .int .i64 k) (fun i => 3 - (intOf i).toNat)
  case atStart => exact ⟨0, by omega, rfl⟩
  case round =>
    obtain ⟨k, hk, rfl⟩ := hrel
    have hc : k = 0 ∨ k = 1 ∨ k = 2 := by omega
    clear hk
    rcases hc with rfl | rfl | rfl
    · have ix := index_at0 w
      go_wp2_with (go_at_call 82; refine (words_any _ _ (by omega) (by omega)).mono ?_; rintro e w1 ⟨rfl, rfl⟩)
      go_round
      case rel => exact ⟨1, by omega, by go_num⟩
      case measure => simp [intOf]
    · have ix := index_at1 w
      go_wp2_with (go_at_call 82; refine (words_any _ _ (by omega) (by omega)).mono ?_; rintro e w1 ⟨rfl, rfl⟩)
      go_round
      case rel => exact ⟨2, by omega, by go_num⟩
      case measure => simp [intOf]
    · have ix := index_at2 w
      go_wp2_with (go_at_call 82; refine (words_any _ _ (by omega) (by omega)).mono ?_; rintro e w1 ⟨rfl, rfl⟩)
      go_ret2
      exact ⟨rfl, rfl⟩
theorem of_3 (n : Int) (w : World) (hz : Sz w) (h0 : 8 ≤ n) (h1 : n ≤ 63) :
    Calls Tryz.prog 66 #[.int .i64 n] w fun e w' => e = .returned (.tuple #[.int .i64 3, .int .i64 0]) ∧ w = w' := by
  obtain ⟨z0, z1, z2⟩ := hz
  have d1 : decide (n < 1) = false := by simp; omega
  have d2 : decide (63 < n) = false := by simp; omega
  go_enter Tryz.func66, Tryz.ntmps66
  go_wp2
  clear z0 z1 z2
  go_loop [11] (fun i => ∃ k : Nat, k ≤ 3 ∧ i = .int .i64 k) (fun i => 3 - (intOf i).toNat)
  case atStart => exact ⟨0, by omega, rfl⟩
  case round =>
    obtain ⟨k, hk, rfl⟩ := hrel
    have hc : k = 0 ∨ k = 1 ∨ k = 2 ∨ k = 3 := by omega
    clear hk
    rcases hc with rfl | rfl | rfl | rfl
    · have ix := index_at0 w
      go_wp2_with (go_at_call 82; refine (words_any _ _ (by omega) (by omega)).mono ?_; rintro e w1 ⟨rfl, rfl⟩)
      go_round
      case rel => exact ⟨1, by omega, by go_num⟩
      case measure => simp [intOf]
    · have ix := index_at1 w
      go_wp2_with (go_at_call 82; refine (words_any _ _ (by omega) (by omega)).mono ?_; rintro e w1 ⟨rfl, rfl⟩)
      go_round
      case rel => exact ⟨2, by omega, by go_num⟩
      case measure => simp [intOf]
    · have ix := index_at2 w
      go_wp2_with (go_at_call 82; refine (words_any _ _ (by omega) (by omega)).mono ?_; rintro e w1 ⟨rfl, rfl⟩)
      go_round
      case rel => exact ⟨3, by omega, by go_num⟩
      case measure => simp [intOf]
    · go_wp2
      go_ret2
      exact ⟨rfl, rfl⟩
end Go.Proofs.YtjppimabhefeeaaGreatDoor.Cl
end
