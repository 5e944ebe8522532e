/-
  Merged texts: ShRow, HpWholeP, HpSetP, ShP, ShCol, TrP, ShFind, HpCopied, HpSetA, HpSet.
-/
import Derived.Test.YtccjelpfmkbmiaaGreatDoorHpXG
import Derived.Test.YtccjelpfmkbmiaaGreatDoorHpXF
import Derived.Test.YtccjelpfmkbmiaaGreatDoorHpXC
section
namespace Go.Proofs.YtccjelpfmkbmiaaGreatDoor.Sh
open Go.Proofs.YtccjelpfmkbmiaaGreatDoor
open Go.RowKit
set_option maxRecDepth 100000

structure CBox (W : World) (b : Nat) (k : Ks) : Prop where
  c0 : W.cell? ⟨b, 0, none⟩ = some (.int .i64 k.ph)
  c1 : W.cell? ⟨b, 1, none⟩ = some (.int .i64 k.ep)
  c2 : W.cell? ⟨b, 2, none⟩ = some (.bool k.mj)
  c3 : W.cell? ⟨b, 3, none⟩ = some (.slice k.wk.a k.wk.n k.wk.c)
  c4 : W.cell? ⟨b, 4, none⟩ = some (.bool k.ov)
  c5 : W.cell? ⟨b, 5, none⟩ = some (.int .i64 k.pa)
  c6 : W.cell? ⟨b, 6, none⟩ = some (.int .i64 k.pf)
  c7 : W.cell? ⟨b, 7, none⟩ = some (.int .i64 k.ps)
  c8 : W.cell? ⟨b, 8, none⟩ = some (.int .i64 k.pc)
  c9 : W.cell? ⟨b, 9, none⟩ = some (.bool k.me)
  lt : b < W.heap.size
theorem CBox.new (w : World) (k : Ks) (t : TypeId) : CBox (w.alloc (.cells #[.int .i64 k.ph, .int .i64 k.ep, .bool k.mj, .slice k.wk.a k.wk.n k.wk.c, .bool k.ov, .int .i64 k.pa, .int .i64 k.pf, .int .i64 k.ps, .int .i64 k.pc, .bool k.me] t)) w.heap.size k := by
  refine ⟨?_, ?_, ?_, ?_, ?_, ?_, ?_, ?_, ?_, ?_, by simp⟩ <;> simp [go_sem]
theorem CBox.next {W W' : World} {b : Nat} {k : Ks} (h : CBox W b k) (hb : Below W.heap.size W W') : CBox W' b k :=
  ⟨(hb.cell (p := ⟨b, 0, none⟩) h.lt).trans h.c0, (hb.cell (p := ⟨b, 1, none⟩) h.lt).trans h.c1, (hb.cell (p := ⟨b, 2, none⟩) h.lt).trans h.c2, (hb.cell (p := ⟨b, 3, none⟩) h.lt).trans h.c3, (hb.cell (p := ⟨b, 4, none⟩) h.lt).trans h.c4, (hb.cell (p := ⟨b, 5, none⟩) h.lt).trans h.c5, (hb.cell (p := ⟨b, 6, none⟩) h.lt).trans h.c6, (hb.cell (p := ⟨b, 7, none⟩) h.lt).trans h.c7, (hb.cell (p := ⟨b, 8, none⟩) h.lt).trans h.c8, (hb.cell (p := ⟨b, 9, none⟩) h.lt).trans h.c9, Nat.lt_of_lt_of_le h.lt hb.size⟩
/-- All but the work list, and whether that has no more room. -/
def SameK (k k' : Ks) : Prop := k'.ph = k.ph ∧ k'.ep = k.ep ∧ k'.mj = k.mj ∧ k'.pa = k.pa ∧ k'.pf = k.pf ∧ k'.ps = k.ps ∧ k'.pc = k.pc ∧ k'.me = k.me
theorem SameK.refl (k : Ks) : SameK k k := ⟨rfl, rfl, rfl, rfl, rfl, rfl, rfl, rfl⟩
theorem SameK.trans {k k' k2 : Ks} (h : SameK k k') (g : SameK k' k2) : SameK k k2 := by
  obtain ⟨h1, h2, h3, h4, h5, h6, h7, h8⟩ := h
  obtain ⟨g1, g2, g3, g4, g5, g6, g7, g8⟩ := g
  exact ⟨g1.trans h1, g2.trans h2, g3.trans h3, g4.trans h4, g5.trans h5, g6.trans h6, g7.trans h7, g8.trans h8⟩
/-- A collector's work list. -/
def WRow (w : World) (B : Nat) (k : Ks) (xs : List Int) : Prop := Row w B k.wk.a k.wk.n xs
/-- What a walk holds: heaps in boxes, collectors in boxes. -/
structure Lk (w W : World) (hs : List (Nat × Hs × Hd_)) (ks : List (Nat × Ks × List Int)) : Prop where
  bel : Below w.heap.size w W
  h : ∀ x ∈ hs, HBox W x.1 x.2.1 ∧ Hp W W.heap.size x.2.1 x.2.2
  k : ∀ x ∈ ks, CBox W x.1 x.2.1 ∧ WRow W W.heap.size x.2.1 x.2.2
section
variable {w w3 W W' : World} {s t : Hs} {d d' : Hd_} {k k' : Ks} {xs ys : List Int} {hs : List (Nat × Hs × Hd_)} {ks : List (Nat × Ks × List Int)} {ty ty' : TypeId} {b c : Nat}
theorem WRow.next (h : WRow W W.heap.size k xs) (hb : Below W.heap.size W W') : WRow W' W'.heap.size k xs := (Row.below h hb).more hb.size
theorem WRow.len (h : WRow W c k xs) : k.wk.n = xs.length := h.1.symm
theorem Lk.next (h : Lk w W hs ks) (hb : Below W.heap.size W W') : Lk w W' hs ks := ⟨h.bel.trans (hb.mono h.bel.size), fun x hx => ⟨(h.h x hx).1.next hb, (h.h x hx).2.next hb⟩, fun x hx => ⟨(h.k x hx).1.next hb, (h.k x hx).2.next hb⟩⟩
theorem Lk.at (h : Lk w W hs ks) (b : Nat) (s : Hs) (d : Hd_) (hm : (b, s, d) ∈ hs) : HBox W b s := (h.h _ hm).1
theorem Lk.hp (h : Lk w W hs ks) (b : Nat) (s : Hs) (d : Hd_) (hm : (b, s, d) ∈ hs) : Hp W W.heap.size s d := (h.h _ hm).2
theorem Lk.cat (h : Lk w W hs ks) (b : Nat) (k : Ks) (xs : List Int) (hm : (b, k, xs) ∈ ks) : CBox W b k := (h.k _ hm).1
theorem Lk.wr (h : Lk w W hs ks) (b : Nat) (k : Ks) (xs : List Int) (hm : (b, k, xs) ∈ ks) : WRow W W.heap.size k xs := (h.k _ hm).2
theorem lk_start (hp : Hp w w.heap.size s d) (hk : WRow w w.heap.size k xs) (h : W = (w.alloc (.cells #[.slice s.w.a s.w.n s.w.c, .slice s.p.a s.p.n s.p.c, .slice (s.u 0).a (s.u 0).n (s.u 0).c, .slice (s.u 1).a (s.u 1).n (s.u 1).c, .slice (s.u 2).a (s.u 2).n (s.u 2).c, .slice s.c.a s.c.n s.c.c] ty)).alloc (.cells #[.int .i64 k.ph, .int .i64 k.ep, .bool k.mj, .slice k.wk.a k.wk.n k.wk.c, .bool k.ov, .int .i64 k.pa, .int .i64 k.pf, .int .i64 k.ps, .int .i64 k.pc, .bool k.me] ty')) : Lk w W [(w.heap.size, s, d)] [(w.heap.size + 1, k, xs)] := by
  have b1 : Below w.heap.size w W := by rw [h]; exact ((Below.refl _ _).alloc (Nat.le_refl _) _).alloc (by simp) _
  have b2 : Below (w.alloc (.cells #[.slice s.w.a s.w.n s.w.c, .slice s.p.a s.p.n s.p.c, .slice (s.u 0).a (s.u 0).n (s.u 0).c, .slice (s.u 1).a (s.u 1).n (s.u 1).c, .slice (s.u 2).a (s.u 2).n (s.u 2).c, .slice s.c.a s.c.n s.c.c] ty)).heap.size (w.alloc (.cells #[.slice s.w.a s.w.n s.w.c, .slice s.p.a s.p.n s.p.c, .slice (s.u 0).a (s.u 0).n (s.u 0).c, .slice (s.u 1).a (s.u 1).n (s.u 1).c, .slice (s.u 2).a (s.u 2).n (s.u 2).c, .slice s.c.a s.c.n s.c.c] ty)) W := by rw [h]; exact (Below.refl _ _).alloc (Nat.le_refl _) _
  refine ⟨b1, fun x hx => ?_, fun x hx => ?_⟩
  · obtain rfl := List.mem_singleton.1 hx
    exact ⟨(HBox.new w s ty).next b2, hp.next b1⟩
  · obtain rfl := List.mem_singleton.1 hx
    refine ⟨?_, hk.next b1⟩
    have := CBox.new (w.alloc (.cells #[.slice s.w.a s.w.n s.w.c, .slice s.p.a s.p.n s.p.c, .slice (s.u 0).a (s.u 0).n (s.u 0).c, .slice (s.u 1).a (s.u 1).n (s.u 1).c, .slice (s.u 2).a (s.u 2).n (s.u 2).c, .slice s.c.a s.c.n s.c.c] ty)) k ty'
    rw [World.size_alloc] at this
    rw [h]
    exact this
theorem sixh_of (h : HBox W b s) : b < W.heap.size ∧ W.cell? ⟨b, 0, none⟩ = some (.slice s.w.a s.w.n s.w.c) ∧ W.cell? ⟨b, 1, none⟩ = some (.slice s.p.a s.p.n s.p.c) ∧ W.cell? ⟨b, 2, none⟩ = some (.slice (s.u 0).a (s.u 0).n (s.u 0).c) ∧ W.cell? ⟨b, 3, none⟩ = some (.slice (s.u 1).a (s.u 1).n (s.u 1).c) ∧ W.cell? ⟨b, 4, none⟩ = some (.slice (s.u 2).a (s.u 2).n (s.u 2).c) ∧ W.cell? ⟨b, 5, none⟩ = some (.slice s.c.a s.c.n s.c.c) := ⟨h.lt, h.c0, h.c1, h.c2, h.c3, h.c4, h.c5⟩
end
end Go.Proofs.YtccjelpfmkbmiaaGreatDoor.Sh
end
section
namespace Go.Proofs.YtccjelpfmkbmiaaGreatDoor
open Go.RowKit Go.Sort
set_option maxRecDepth 100000

/-- Is a heap whole, with caches? -/
def wholeH (s : Hs) (d : Hd_) (m : Nat) (F : Nat → Nat → List Int) : Bool := mayH s d m F && (Cl.allS d.f s.p.n).all fun a => !(wd d a == 0) || decide (a ∈ Ls.allOf (ahead d.F F) (1 + m))
section
variable (n₀ bf : Nat) (ys : List Int) (d : Hd_) (M : Nat → Prop) (pre pre' : List Int) (a x : Int) (p : Int × Int) (W : World)
end
theorem own_less' {w : World} {b b' n : Nat} {v : Value} {xs : List Value} (h : w.ownsRow b 3 1 v n xs) (hb : b' ≤ b) : w.ownsRow b' 3 1 v n xs :=
  ⟨h.1, h.2.imp id fun ⟨g, cap, cur, e, hg, r⟩ => ⟨g, cap, cur, e, Nat.le_trans hb hg, r⟩⟩
section
variable (s : Hs) (d : Hd_) (A : Option Addr) (m c : Nat) (U : Nat → Nat → Ls.Sl) (F : Nat → Nat → List Int) (w : World)
end
end Go.Proofs.YtccjelpfmkbmiaaGreatDoor
end
section
namespace Go.Proofs.YtccjelpfmkbmiaaGreatDoor
open Go.RowKit
set_option maxRecDepth 100000

/-- Another head with as many fields stands at a; all else is as it was. -/
structure Turned (s t : Hs) (d d' : Hd_) (a : Int) : Prop where
  len : Lens s t
  f : d'.f = d.f
  F : d'.F = d.F
  oth : ∀ y, 16 ≤ y → ¬ y = a → wd d' y = wd d y
  w1 : Hd.isWord (wd d' a) = true ∧ wd d' a % 2 = 1
  w2 : Hd.isWord (wd d a) = true ∧ wd d a % 2 = 1
  n : nOf (wd d' a) = nOf (wd d a)
section
variable {s t : Hs} {d d' : Hd_} {a : Int}
theorem Turned.word (h : Turned s t d d' a) {y : Int} (hy : 16 ≤ y) : Hd.isWord (wd d' y) = Hd.isWord (wd d y) ∧ (wd d' y % 2 = 1 ↔ wd d y % 2 = 1) ∧ nOf (wd d' y) = nOf (wd d y) ∧ (wd d' y = 0 ↔ wd d y = 0) := by
  by_cases e : y = a
  · subst e
    have h1 := h.w1
    have h2 := h.w2
    exact ⟨h1.1.trans h2.1.symm, ⟨fun _ => h2.2, fun _ => h1.2⟩, h.n, ⟨fun e => by omega, fun e => by omega⟩⟩
  · rw [h.oth y hy e]
    exact ⟨rfl, Iff.rfl, rfl, Iff.rfl⟩
theorem Turned.cell (h : Turned s t d d' a) {y : Int} (hy : 16 ≤ y) : cellAt d' y = cellAt d y := by
  obtain ⟨h1, h2, h3, _⟩ := h.word hy
  unfold cellAt cellB
  rw [h.f, show d'.ws.getD (y - 16).toNat 0 = wd d' y from rfl, show d.ws.getD (y - 16).toNat 0 = wd d y from rfl]
  by_cases hc : Hd.isWord (wd d y) = true ∧ wd d y % 2 = 1
  · have hc' : Hd.isWord (wd d' y) = true ∧ wd d' y % 2 = 1 := ⟨h1.trans hc.1, h2.2 hc.2⟩
    rw [if_pos hc, if_pos hc', h3]
  · have hc' : ¬ (Hd.isWord (wd d' y) = true ∧ wd d' y % 2 = 1) := fun e => hc ⟨h1.symm.trans e.1, h2.1 e.2⟩
    rw [if_neg hc, if_neg hc', h1]
theorem bg_in16 {f : Nat → Int × Int} {n : Nat} {y : Int} (h : ¬ Cl.bg f n y = 0) : 16 ≤ y :=
  Classical.byContradiction fun hn => h (Cl.bg_no fun e => hn e.2.1)
theorem Turned.freeH (h : Turned s t d d' a) (n : Nat) (y c : Int) : freeH d' n y c = Go.Proofs.YtccjelpfmkbmiaaGreatDoor.freeH d n y c := by
  unfold Go.Proofs.YtccjelpfmkbmiaaGreatDoor.freeH
  rw [h.f]
  by_cases hb : Cl.bg d.f n y = 0
  · rw [if_pos hb, if_pos hb]
  · rw [if_neg hb, if_neg hb]
    have h4 := (h.word (bg_in16 hb)).2.2.2
    rw [show d'.ws.getD (y - 16).toNat 0 = wd d' y from rfl, show d.ws.getD (y - 16).toNat 0 = wd d y from rfl]
    congr 1
    rw [Bool.eq_iff_iff, beq_iff_eq, beq_iff_eq]
    exact h4
theorem Turned.may (h : Turned s t d d' a) (m : Nat) (F : Nat → Nat → List Int) : mayH t d' m F = mayH s d m F := by
  unfold mayH firstB freeAll
  rw [h.len.1, h.len.2.1, h.len.2.2.2, h.f, h.F, all_congr fun y hy => h.cell (allS_in hy).1]
  simp only [h.freeH]
theorem Turned.may0 (h : Turned s t d d' a) : mayB0 t d' = mayB0 s d := h.may 0 noCaches
theorem Turned.used (h : Turned s t d d' a) : usedL t d' = usedL s d := by
  unfold usedL usedF
  rw [h.may0, h.f, h.len.2.1]
  split
  · refine List.filter_congr fun y hy => ?_
    rw [decide_eq_decide]
    exact (h.word (allS_in hy).1).2.1
  · rfl
theorem Turned.whole (h : Turned s t d d' a) (m : Nat) (F : Nat → Nat → List Int) : wholeH t d' m F = wholeH s d m F := by
  unfold wholeH
  rw [h.may, h.f, h.F, h.len.2.1]
  congr 1
  refine all_congr fun y hy => ?_
  congr 2
  rw [Bool.eq_iff_iff, beq_iff_eq, beq_iff_eq]
  exact (h.word (allS_in hy).1).2.2.2
theorem Turned.headE (h : Turned s t d d' a) (y : Int) : headE t d' y = Go.Proofs.YtccjelpfmkbmiaaGreatDoor.headE s d y := by
  unfold Go.Proofs.YtccjelpfmkbmiaaGreatDoor.headE
  rw [h.may0, h.f, h.len.2.1]
  by_cases hm : mayB0 s d = false
  · rw [if_pos hm, if_pos hm]
  · rw [if_neg hm, if_neg hm]
    by_cases hb : Cl.bg d.f s.p.n y = 0
    · rw [if_pos (Or.inl hb), if_pos (Or.inl hb)]
    · have h4 := (h.word (bg_in16 hb)).2.2.2
      by_cases hw : wd d y = 0
      · rw [if_pos (Or.inr hw), if_pos (Or.inr (h4.2 hw))]
      · rw [if_neg (by rintro (e | e); exact hb e; exact hw (h4.1 e)), if_neg (by rintro (e | e); exact hb e; exact hw e)]
theorem Turned.headV (h : Turned s t d d' a) {y : Int} (hy : ¬ y = a) : headV t d' y = Go.Proofs.YtccjelpfmkbmiaaGreatDoor.headV s d y := by
  unfold Go.Proofs.YtccjelpfmkbmiaaGreatDoor.headV
  rw [h.headE]
  split
  · next he =>
    unfold Go.Proofs.YtccjelpfmkbmiaaGreatDoor.headE at he
    split at he
    · omega
    · split at he
      · omega
      · next hn => rw [h.oth y (bg_in16 fun e => hn (.inl e)) hy]
  · rfl
end
/-- The heap with the head's word at a. -/
def dSet (d : Hd_) (a : Int) (o e : Bool) (n b m : Int) : Hd_ := ⟨d.ws.set (a - 16).toNat (Hd.word true o e n b m), d.f, d.F, d.cs⟩
theorem turned_set {s t : Hs} {d : Hd_} {a : Int} {o e : Bool} {n b m : Int} (hl : Lens s t) (hm : mayB0 s d = true) (hlen : d.ws.length = s.w.n) (he : headE s d a = 0) (hx : Hd.mayB true o e n b m = true) (hn : n = nOf (wd d a)) : Turned s t d (dSet d a o e n b m) a ∧ headV t (dSet d a o e n b m) a = .agg #[.bool true, .bool o, .bool e, .int .i64 n, .int .i64 b, .int .i64 m] := by
  have hb : ¬ Cl.bg d.f s.p.n a = 0 ∧ ¬ wd d a = 0 := by
    unfold headE at he
    rw [if_neg (by rw [hm]; decide)] at he
    split at he
    · omega
    · next h => exact ⟨fun e => h (.inl e), fun e => h (.inr e)⟩
  have hw := may0_word hm hb.1
  have hwd : Hd.isWord (wd d a) = true := hw.2.2.2
  have hodd : wd d a % 2 = 1 := Classical.byContradiction fun hn => hb.2 (Hd.isWord_even hwd hn)
  have hat : wd (dSet d a o e n b m) a = Hd.word true o e n b m := by
    unfold wd dSet
    have : (a - 16).toNat < d.ws.length := by omega
    simp [List.getD, this]
  obtain ⟨p1, p2, p3, p4, p5, p6⟩ := Hd.word_parts hx
  have hT : Turned s t d (dSet d a o e n b m) a := ⟨hl, rfl, rfl, fun y hy hne => by
    unfold wd dSet
    have : ¬ (a - 16).toNat = (y - 16).toNat := by omega
    simp [List.getD, List.getElem?_set_ne this], by rw [hat]; exact ⟨Hd.isWord_word hx, p1⟩, ⟨hwd, hodd⟩, by rw [hat, ← hn]; exact p4⟩
  refine ⟨hT, ?_⟩
  unfold headV
  rw [hT.headE, if_pos he, hat, headOf_yes (Hd.isWord_word hx), decide_eq_true p1]
  have e1 : decide (Hd.word true o e n b m / 2 % 2 = 1) = o := by cases o <;> simp [p2]
  have e2 : decide (Hd.word true o e n b m / 4 % 2 = 1) = e := by cases e <;> simp [p3]
  rw [e1, e2, show nOf (Hd.word true o e n b m) = n from p4, p5, p6]
end Go.Proofs.YtccjelpfmkbmiaaGreatDoor
end
section
namespace Go.Proofs.YtccjelpfmkbmiaaGreatDoor.Sh
open Go.Proofs.YtccjelpfmkbmiaaGreatDoor
set_option maxRecDepth 100000

/-- The colour of a head's word. -/
def colW (x : Int) (mj : Bool) (ep : Int) : Int := if x / 2 % 2 = 1 ∧ mj = false then 0 else if x / 4294967296 < ep then 1 else if x / 4 % 2 = 1 then 3 else 2
/-- Does an object begin at a that has the colour q? -/
def isC (s : Hs) (d : Hd_) (mj : Bool) (ep a q : Int) : Bool := decide (0 ≤ ep ∧ ep ≤ 1048576) && (decide (headE s d a = 0) && decide (colW (wd d a) mj ep = q))
def greyL (s : Hs) (d : Hd_) (mj : Bool) (ep : Int) : List Int := (usedL s d).filter fun a => isC s d mj ep a 2
/-- A heap with another head's done and mark. -/
def dHd (d : Hd_) (a : Int) (e : Bool) (m : Int) : Hd_ := dSet d a (decide (wd d a / 2 % 2 = 1)) e (nOf (wd d a)) (wd d a / 1024 % 4194304) m
def shD (s : Hs) (d : Hd_) (mj : Bool) (ep a : Int) : Hd_ := if isC s d mj ep a 1 = true then dHd d a false ep else d
def blD (s : Hs) (d : Hd_) (mj : Bool) (ep a : Int) : Hd_ := if isC s d mj ep a 2 = true then dHd d a true (wd d a / 4294967296) else d
/-- The work list, and whether it has no more room. -/
def shX (c : Bool) (xs : List Int) (a : Int) : List Int := if c = true ∧ xs.length < 4 then xs ++ [a] else xs
def shO (c : Bool) (xs : List Int) (ov : Bool) : Bool := ov || (c && decide (4 ≤ xs.length))
section
variable {s t : Hs} {d d' : Hd_} {mj : Bool} {ep a q : Int}
theorem isC_iff : isC s d mj ep a q = true ↔ (0 ≤ ep ∧ ep ≤ 1048576) ∧ headE s d a = 0 ∧ colW (wd d a) mj ep = q := by
  unfold isC
  simp only [Bool.and_eq_true, decide_eq_true_eq]
/-- An object that is there. -/
structure Obj_ (s : Hs) (d : Hd_) (a : Int) : Prop where
  may : mayB0 s d = true
  used : a ∈ usedL s d
  word : Hd.isWord (wd d a) = true
  odd : wd d a % 2 = 1
  val : headV s d a = .agg #[.bool true, .bool (decide (wd d a / 2 % 2 = 1)), .bool (decide (wd d a / 4 % 2 = 1)), .int .i64 (nOf (wd d a)), .int .i64 (wd d a / 1024 % 4194304), .int .i64 (wd d a / 4294967296)]
  lo : 16 ≤ a
theorem obj_of (h : headE s d a = 0) : Obj_ s d a := by
  have hm : mayB0 s d = true := by
    unfold headE at h
    cases hm : mayB0 s d
    · rw [if_pos hm] at h; omega
    · rfl
  rcases used_head hm a with ⟨h1, _, _, _, _⟩ | ⟨_, h2⟩
  · have hb : ¬ Cl.bg d.f s.p.n a = 0 ∧ wd d a % 2 = 1 := by
      unfold usedL usedF at h1
      rw [if_pos hm, List.mem_filter, mem_allS, decide_eq_true_iff] at h1
      exact h1
    have hc := List.all_eq_true.1 (mayH_all hm).2.1 a (mem_allS.2 hb.1)
    have hw := (word_used hc).1
    refine ⟨hm, h1, hw, hb.2, ?_, (used_in h1).1⟩
    unfold headV
    rw [if_pos h, headOf_yes hw, show decide (wd d a % 2 = 1) = true from decide_eq_true hb.2]
  · omega
theorem used_E (h : a ∈ usedL s d) : headE s d a = 0 := by
  have hm : mayB0 s d = true := by
    cases hm : mayB0 s d
    · rw [show usedL s d = [] by simp [usedL, hm]] at h
      cases h
    · rfl
  rcases used_head hm a with ⟨_, h1, _⟩ | ⟨h1, _⟩
  · exact h1
  · exact absurd h h1
theorem Obj_.parts (h : Obj_ s d a) : 0 ≤ nOf (wd d a) ∧ nOf (wd d a) ≤ 63 ∧ 0 ≤ wd d a / 1024 % 4194304 ∧ wd d a / 1024 % 4194304 ≤ 1048576 ∧ 0 ≤ wd d a / 4294967296 ∧ wd d a / 4294967296 ≤ 1048576 := Hd.isWord_odd h.word h.odd
theorem Obj_.fits (h : Obj_ s d a) (e : Bool) {m : Int} (h0 : 0 ≤ m) (h1 : m ≤ 1048576) : Hd.mayB true (decide (wd d a / 2 % 2 = 1)) e (nOf (wd d a)) (wd d a / 1024 % 4194304) m = true := by
  obtain ⟨p1, p2, p3, p4, _, _⟩ := h.parts
  exact (Hd.may_used_iff _ _ _ _ _).2 ⟨p1, p2, p3, p4, h0, h1⟩
/-- An object's head with another mark, done or not. -/
theorem hd_turned (hl : Lens s t) (hlen : d.ws.length = s.w.n) (he : headE s d a = 0) (e : Bool) {m : Int} (h0 : 0 ≤ m) (h1 : m ≤ 1048576) : Turned s t d (dHd d a e m) a :=
  have ho := obj_of he
  (turned_set hl ho.may hlen he (ho.fits e h0 h1) rfl).1
theorem hd_word (hlen : d.ws.length = s.w.n) (he : headE s d a = 0) (e : Bool) (m : Int) : wd (dHd d a e m) a = Hd.word true (decide (wd d a / 2 % 2 = 1)) e (nOf (wd d a)) (wd d a / 1024 % 4194304) m := by
  have ho := obj_of he
  have hi := used_in ho.used
  have hl : (a - 16).toNat < d.ws.length := by omega
  have key : ∀ (o' : Bool) (n b : Int), wd (dSet d a o' e n b m) a = Hd.word true o' e n b m := fun o' n b => by
    unfold wd dSet
    simp [List.getD, hl]
  exact key _ _ _
theorem col_word {o e : Bool} {n b m : Int} (h : Hd.mayB true o e n b m = true) : colW (Hd.word true o e n b m) mj ep = if o = true ∧ mj = false then 0 else if m < ep then 1 else if e = true then 3 else 2 := by
  obtain ⟨p1, p2, p3, p4, p5, p6⟩ := Hd.word_parts h
  unfold colW
  rw [p6]
  simp only [p2, p3]
/-- All colours behind an object's head was turned. -/
theorem turned_col (h : Turned s t d d' a) {y : Int} (hy : ¬ y = a) (q : Int) : isC t d' mj ep y q = isC s d mj ep y q := by
  unfold isC
  rw [h.headE]
  by_cases he : headE s d y = 0
  · rw [h.oth y (obj_of he).lo hy]
  · rw [decide_eq_false he]
    simp
/-- What a heap behind some steps has of the one ahead. -/
structure Kin (s t : Hs) (d d' : Hd_) : Prop where
  len : Lens s t
  wlen : d'.ws.length = d.ws.length
  may : mayB0 t d' = mayB0 s d
  used : usedL t d' = usedL s d
  fine : Fine s d → Fine t d'
  F : d'.F = d.F
theorem Kin.refl (s : Hs) (d : Hd_) : Kin s s d d := ⟨⟨rfl, rfl, fun _ _ => rfl, rfl⟩, rfl, rfl, rfl, id, rfl⟩
theorem lens_trans {s t u : Hs} (h : Lens s t) (g : Lens t u) : Lens s u := ⟨g.1.trans h.1, g.2.1.trans h.2.1, fun j hj => (g.2.2.1 j hj).trans (h.2.2.1 j hj), g.2.2.2.trans h.2.2.2⟩
theorem Kin.trans {u : Hs} {d2 : Hd_} (h : Kin s t d d') (g : Kin t u d' d2) : Kin s u d d2 := ⟨lens_trans h.len g.len, g.wlen.trans h.wlen, g.may.trans h.may, g.used.trans h.used, fun f => g.fine (h.fine f), g.F.trans h.F⟩
theorem kin_same (hl : Lens s t) : Kin s t d d := by
  have hm : ∀ m F, mayH t d m F = mayH s d m F := fun m F => by
    unfold mayH firstB
    rw [hl.1, hl.2.1, hl.2.2.2]
  have h0 : mayB0 t d = mayB0 s d := hm 0 noCaches
  refine ⟨hl, rfl, h0, ?_, fun f => ⟨by rw [hl.1]; exact f.wn, by rw [hl.2.1]; exact f.pn, by rw [hl.2.2.2]; exact f.cn, f.hv, f.len⟩, rfl⟩
  unfold usedL
  rw [h0, hl.2.1]
theorem set_fits {o e : Bool} {n b m : Int} (hx : Hd.mayB true o e n b m = true) (f : ∀ i, -9223372036854775808 ≤ d.ws.getD i 0 ∧ d.ws.getD i 0 ≤ 9223372036854775807) (i : Nat) : -9223372036854775808 ≤ (dSet d a o e n b m).ws.getD i 0 ∧ (dSet d a o e n b m).ws.getD i 0 ≤ 9223372036854775807 := by
  have hr := Hd.word_range hx
  unfold dSet
  dsimp only
  by_cases hi : (a - 16).toNat = i
  · by_cases hl : i < d.ws.length
    · rw [show (d.ws.set (a - 16).toNat (Hd.word true o e n b m)).getD i 0 = Hd.word true o e n b m by simp [List.getD, hi, hl]]
      omega
    · rw [show (d.ws.set (a - 16).toNat (Hd.word true o e n b m)).getD i 0 = 0 by simp [List.getD, List.getElem?_eq_none (show (d.ws.set (a - 16).toNat (Hd.word true o e n b m)).length ≤ i by simp; omega)]]
      omega
  · rw [show (d.ws.set (a - 16).toNat (Hd.word true o e n b m)).getD i 0 = d.ws.getD i 0 by simp [List.getD, List.getElem?_set_ne hi]]
    exact f i
theorem kin_hd (hl : Lens s t) (hlen : d.ws.length = s.w.n) (he : headE s d a = 0) (e : Bool) {m : Int} (h0 : 0 ≤ m) (h1 : m ≤ 1048576) : Kin s t d (dHd d a e m) := by
  have T := hd_turned hl hlen he e h0 h1
  have hx := (obj_of he).fits e h0 h1
  exact ⟨hl, by simp [dHd, dSet], T.may0, T.used, fun f => ⟨by rw [hl.1]; exact f.wn, by rw [hl.2.1]; exact f.pn, by rw [hl.2.2.2]; exact f.cn, set_fits hx f.hv, f.len⟩, rfl⟩
/-- What Shade leaves. -/
theorem kin_sh (hl : Lens s t) (hlen : d.ws.length = s.w.n) (mj : Bool) (ep a : Int) : Kin s t d (shD s d mj ep a) := by
  unfold shD
  split
  · next h =>
    obtain ⟨h1, h2, _⟩ := isC_iff.1 h
    exact kin_hd hl hlen h2 false h1.1 h1.2
  · exact kin_same hl
theorem kin_bl (hl : Lens s t) (hlen : d.ws.length = s.w.n) (mj : Bool) (ep a : Int) : Kin s t d (blD s d mj ep a) := by
  unfold blD
  split
  · next h =>
    obtain ⟨h1, h2, _⟩ := isC_iff.1 h
    have p := (obj_of h2).parts
    exact kin_hd hl hlen h2 true p.2.2.2.2.1 p.2.2.2.2.2
  · exact kin_same hl
theorem same_col (hl : Lens s t) (y q : Int) : isC t d mj ep y q = isC s d mj ep y q := by
  have h0 := (kin_same (d := d) hl).may
  unfold isC headE
  rw [h0, hl.2.1]
/-- Colours behind Shade. -/
theorem sh_col (hl : Lens s t) (hlen : d.ws.length = s.w.n) (y q : Int) : isC t (shD s d mj ep a) mj ep y q = if isC s d mj ep a 1 = true ∧ y = a then decide (q = 2) else isC s d mj ep y q := by
  unfold shD
  by_cases h : isC s d mj ep a 1 = true
  · obtain ⟨h1, h2, h3⟩ := isC_iff.1 h
    have T := hd_turned hl hlen h2 false h1.1 h1.2
    rw [if_pos h]
    by_cases hy : y = a
    · subst hy
      rw [if_pos ⟨h, rfl⟩]
      have hx := (obj_of h2).fits false h1.1 h1.2
      have hc : colW (wd (dHd d y false ep) y) mj ep = 2 := by
        rw [hd_word hlen h2, col_word hx]
        unfold colW at h3
        have : ¬ (wd d y / 2 % 2 = 1 ∧ mj = false) := fun hh => by rw [if_pos hh] at h3; omega
        rw [if_neg (by simpa using this), if_neg (by omega), if_neg (by decide)]
      unfold isC
      rw [T.headE, h2, hc, decide_eq_true h1]
      simp [eq_comm]
    · rw [if_neg (fun hh => hy hh.2)]
      exact turned_col T hy q
  · rw [if_neg h, if_neg (fun hh => h hh.1)]
    exact same_col hl y q
theorem grey_mem {y : Int} : y ∈ greyL s d mj ep ↔ isC s d mj ep y 2 = true := by
  unfold greyL
  rw [List.mem_filter]
  exact ⟨fun h => h.2, fun h => ⟨(obj_of (isC_iff.1 h).2.1).used, h⟩⟩
theorem grey_len (s : Hs) (d : Hd_) (mj : Bool) (ep : Int) : (greyL s d mj ep).length ≤ (usedL s d).length := List.length_filter_le _ _
theorem shX_len (c : Bool) (xs : List Int) (a : Int) : (shX c xs a).length ≤ xs.length + 1 ∧ xs.length ≤ (shX c xs a).length := by
  unfold shX
  split
  · simp
  · omega
end
end Go.Proofs.YtccjelpfmkbmiaaGreatDoor.Sh
end
section
namespace Go.Proofs.YtccjelpfmkbmiaaGreatDoor.Sh
open Go.Proofs.YtccjelpfmkbmiaaGreatDoor
open Go.RowKit
set_option maxRecDepth 100000

/-- A box of ten cells that may be stored to. -/
structure T10 (W : World) (b : Nat) : Prop where
  has : ∀ j, j < 10 → ∃ v, W.cell? ⟨b, j, none⟩ = some v
  free : ∀ j, W.frozen? ⟨b, j, none⟩ = false
  lt : b < W.heap.size
def put10 (w : World) (b : Nat) (v0 v1 v2 v3 v4 v5 v6 v7 v8 v9 : Value) : World :=
  (((((((((w.setCell ⟨b, 0, none⟩ v0).setCell ⟨b, 1, none⟩ v1).setCell ⟨b, 2, none⟩ v2).setCell ⟨b, 3, none⟩ v3).setCell ⟨b, 4, none⟩ v4).setCell ⟨b, 5, none⟩ v5).setCell ⟨b, 6, none⟩ v6).setCell ⟨b, 7, none⟩ v7).setCell ⟨b, 8, none⟩ v8).setCell ⟨b, 9, none⟩ v9
theorem put10_size (w : World) (b : Nat) (v0 v1 v2 v3 v4 v5 v6 v7 v8 v9 : Value) : (put10 w b v0 v1 v2 v3 v4 v5 v6 v7 v8 v9).heap.size = w.heap.size := by simp [put10, World.setCell]
theorem put10_other (w : World) (b : Nat) (v0 v1 v2 v3 v4 v5 v6 v7 v8 v9 : Value) {k : Nat} (hk : ¬ k = b) : (put10 w b v0 v1 v2 v3 v4 v5 v6 v7 v8 v9).heap[k]? = w.heap[k]? := by
  unfold put10
  rw [Below.heap_setCell _ _ _ _ (by exact hk), Below.heap_setCell _ _ _ _ (by exact hk), Below.heap_setCell _ _ _ _ (by exact hk), Below.heap_setCell _ _ _ _ (by exact hk), Below.heap_setCell _ _ _ _ (by exact hk), Below.heap_setCell _ _ _ _ (by exact hk), Below.heap_setCell _ _ _ _ (by exact hk), Below.heap_setCell _ _ _ _ (by exact hk), Below.heap_setCell _ _ _ _ (by exact hk), Below.heap_setCell _ _ _ _ (by exact hk)]
theorem below_put10 {B : Nat} {a w : World} (h : Below B a w) {b : Nat} (hb : B ≤ b) (v0 v1 v2 v3 v4 v5 v6 v7 v8 v9 : Value) : Below B a (put10 w b v0 v1 v2 v3 v4 v5 v6 v7 v8 v9) :=
  (((((((((h.setCell (p := ⟨b, 0, none⟩) hb _).setCell (p := ⟨b, 1, none⟩) hb _).setCell (p := ⟨b, 2, none⟩) hb _).setCell (p := ⟨b, 3, none⟩) hb _).setCell (p := ⟨b, 4, none⟩) hb _).setCell (p := ⟨b, 5, none⟩) hb _).setCell (p := ⟨b, 6, none⟩) hb _).setCell (p := ⟨b, 7, none⟩) hb _).setCell (p := ⟨b, 8, none⟩) hb _).setCell (p := ⟨b, 9, none⟩) hb _
section
variable {w W W' : World} {b : Nat} {k : Ks} {xs : List Int} {v : Ls.Sl}
theorem T10.same (h : T10 W b) (hs : W'.heap[b]? = W.heap[b]?) (hl : W.heap.size ≤ W'.heap.size) : T10 W' b :=
  ⟨fun j hj => by obtain ⟨v, e⟩ := h.has j hj; exact ⟨v, (World.cell?_of_block (a := ⟨b, j, none⟩) hs).trans e⟩, fun j => (World.frozen?_of_block (a := ⟨b, j, none⟩) hs).trans (h.free j), Nat.lt_of_lt_of_le h.lt hl⟩
theorem T10.next (h : T10 W b) (hb : Below W.heap.size W W') : T10 W' b := h.same (hb.block b h.lt) hb.size
theorem t10_of (h : CBox W b k) (hf : ∀ j, W.frozen? ⟨b, j, none⟩ = false) : T10 W b :=
  ⟨fun j hj => by
    match j, hj with
    | 0, _ => exact ⟨_, h.c0⟩
    | 1, _ => exact ⟨_, h.c1⟩
    | 2, _ => exact ⟨_, h.c2⟩
    | 3, _ => exact ⟨_, h.c3⟩
    | 4, _ => exact ⟨_, h.c4⟩
    | 5, _ => exact ⟨_, h.c5⟩
    | 6, _ => exact ⟨_, h.c6⟩
    | 7, _ => exact ⟨_, h.c7⟩
    | 8, _ => exact ⟨_, h.c8⟩
    | 9, _ => exact ⟨_, h.c9⟩, hf, h.lt⟩
theorem T10.new (w : World) (k : Ks) (t : TypeId) : T10 (w.alloc (.cells #[.int .i64 k.ph, .int .i64 k.ep, .bool k.mj, .slice k.wk.a k.wk.n k.wk.c, .bool k.ov, .int .i64 k.pa, .int .i64 k.pf, .int .i64 k.ps, .int .i64 k.pc, .bool k.me] t)) w.heap.size := t10_of (CBox.new w k t) fun j => by simp [go_sem]
theorem CBox.same (h : CBox W b k) (hs : W'.heap[b]? = W.heap[b]?) (hl : W.heap.size ≤ W'.heap.size) : CBox W' b k :=
  ⟨(World.cell?_of_block (a := ⟨b, 0, none⟩) hs).trans h.c0, (World.cell?_of_block (a := ⟨b, 1, none⟩) hs).trans h.c1, (World.cell?_of_block (a := ⟨b, 2, none⟩) hs).trans h.c2, (World.cell?_of_block (a := ⟨b, 3, none⟩) hs).trans h.c3, (World.cell?_of_block (a := ⟨b, 4, none⟩) hs).trans h.c4, (World.cell?_of_block (a := ⟨b, 5, none⟩) hs).trans h.c5, (World.cell?_of_block (a := ⟨b, 6, none⟩) hs).trans h.c6, (World.cell?_of_block (a := ⟨b, 7, none⟩) hs).trans h.c7, (World.cell?_of_block (a := ⟨b, 8, none⟩) hs).trans h.c8, (World.cell?_of_block (a := ⟨b, 9, none⟩) hs).trans h.c9, Nat.lt_of_lt_of_le h.lt hl⟩
theorem T10.set (h : T10 W b) (j : Nat) (v : Value) : T10 (W.setCell ⟨b, j, none⟩ v) b :=
  ⟨fun i hi => by
    obtain ⟨x, e⟩ := h.has i hi
    exact ⟨_, cell_set e rfl⟩, frozen_set h.free, by simp only [World.size_setCell]; exact h.lt⟩
theorem T10.put (h : T10 W b) (v0 v1 v2 v3 v4 v5 v6 v7 v8 v9 : Value) : T10 (put10 W b v0 v1 v2 v3 v4 v5 v6 v7 v8 v9) b := (((((((((h.set 0 v0).set 1 v1).set 2 v2).set 3 v3).set 4 v4).set 5 v5).set 6 v6).set 7 v7).set 8 v8).set 9 v9
theorem put10_at (h : T10 W b) (v0 v1 v2 v3 v4 v5 v6 v7 v8 v9 : Value) : (put10 W b v0 v1 v2 v3 v4 v5 v6 v7 v8 v9).cell? ⟨b, 0, none⟩ = some v0 ∧ (put10 W b v0 v1 v2 v3 v4 v5 v6 v7 v8 v9).cell? ⟨b, 1, none⟩ = some v1 ∧ (put10 W b v0 v1 v2 v3 v4 v5 v6 v7 v8 v9).cell? ⟨b, 2, none⟩ = some v2 ∧ (put10 W b v0 v1 v2 v3 v4 v5 v6 v7 v8 v9).cell? ⟨b, 3, none⟩ = some v3 ∧ (put10 W b v0 v1 v2 v3 v4 v5 v6 v7 v8 v9).cell? ⟨b, 4, none⟩ = some v4 ∧ (put10 W b v0 v1 v2 v3 v4 v5 v6 v7 v8 v9).cell? ⟨b, 5, none⟩ = some v5 ∧ (put10 W b v0 v1 v2 v3 v4 v5 v6 v7 v8 v9).cell? ⟨b, 6, none⟩ = some v6 ∧ (put10 W b v0 v1 v2 v3 v4 v5 v6 v7 v8 v9).cell? ⟨b, 7, none⟩ = some v7 ∧ (put10 W b v0 v1 v2 v3 v4 v5 v6 v7 v8 v9).cell? ⟨b, 8, none⟩ = some v8 ∧ (put10 W b v0 v1 v2 v3 v4 v5 v6 v7 v8 v9).cell? ⟨b, 9, none⟩ = some v9 := by
  obtain ⟨x0, h0⟩ := h.has 0 (by decide)
  obtain ⟨x1, h1⟩ := h.has 1 (by decide)
  obtain ⟨x2, h2⟩ := h.has 2 (by decide)
  obtain ⟨x3, h3⟩ := h.has 3 (by decide)
  obtain ⟨x4, h4⟩ := h.has 4 (by decide)
  obtain ⟨x5, h5⟩ := h.has 5 (by decide)
  obtain ⟨x6, h6⟩ := h.has 6 (by decide)
  obtain ⟨x7, h7⟩ := h.has 7 (by decide)
  obtain ⟨x8, h8⟩ := h.has 8 (by decide)
  obtain ⟨x9, h9⟩ := h.has 9 (by decide)
  refine ⟨?_, ?_, ?_, ?_, ?_, ?_, ?_, ?_, ?_, ?_⟩ <;> simp [put10, go_sem, h0, h1, h2, h3, h4, h5, h6, h7, h8, h9]
/-- A collector with another work list. -/
def kw (k : Ks) (v : Ls.Sl) (o : Bool) : Ks := ⟨k.ph, k.ep, k.mj, v, o, k.pa, k.pf, k.ps, k.pc, k.me⟩
theorem CBox.put3 (h : CBox W b k) (v : Ls.Sl) : CBox (W.setCell ⟨b, 3, none⟩ (.slice v.a v.n v.c)) b (kw k v k.ov) :=
  ⟨cell_set h.c0 rfl, cell_set h.c1 rfl, cell_set h.c2 rfl, cell_set h.c3 rfl, cell_set h.c4 rfl, cell_set h.c5 rfl, cell_set h.c6 rfl, cell_set h.c7 rfl, cell_set h.c8 rfl, cell_set h.c9 rfl, by simp only [World.size_setCell]; exact h.lt⟩
theorem CBox.put4 (h : CBox W b k) (o : Bool) : CBox (W.setCell ⟨b, 4, none⟩ (.bool o)) b (kw k k.wk o) :=
  ⟨cell_set h.c0 rfl, cell_set h.c1 rfl, cell_set h.c2 rfl, cell_set h.c3 rfl, cell_set h.c4 rfl, cell_set h.c5 rfl, cell_set h.c6 rfl, cell_set h.c7 rfl, cell_set h.c8 rfl, cell_set h.c9 rfl, by simp only [World.size_setCell]; exact h.lt⟩
def noKs : Ks := ⟨0, 0, false, ⟨none, 0, 0⟩, false, 0, 0, 0, 0, false⟩
/-- What a walk through fresh.Col has. -/
structure Fc (w W : World) (k : Ks) (xs : List Int) : Prop where
  bel : Below w.heap.size w W
  kb : CBox W w.heap.size k
  kt : T10 W w.heap.size
  rt : T10 W (w.heap.size + 1)
  wr : WRow W W.heap.size k xs
theorem Fc.next (h : Fc w W k xs) (hb : Below W.heap.size W W') : Fc w W' k xs := ⟨h.bel.trans (hb.mono h.bel.size), h.kb.next hb, h.kt.next hb, h.rt.next hb, h.wr.next hb⟩
theorem fc_start {ty ty' : TypeId} (hk : WRow w w.heap.size k xs) (h : W = (w.alloc (.cells #[.int .i64 k.ph, .int .i64 k.ep, .bool k.mj, .slice k.wk.a k.wk.n k.wk.c, .bool k.ov, .int .i64 k.pa, .int .i64 k.pf, .int .i64 k.ps, .int .i64 k.pc, .bool k.me] ty)).alloc (.cells #[.int .i64 noKs.ph, .int .i64 noKs.ep, .bool noKs.mj, .slice noKs.wk.a noKs.wk.n noKs.wk.c, .bool noKs.ov, .int .i64 noKs.pa, .int .i64 noKs.pf, .int .i64 noKs.ps, .int .i64 noKs.pc, .bool noKs.me] ty')) : Fc w W k xs ∧ W.heap.size = w.heap.size + 2 := by
  have b1 : Below w.heap.size w W := by rw [h]; exact ((Below.refl _ _).alloc (Nat.le_refl _) _).alloc (by simp) _
  have b2 : Below (w.alloc (.cells #[.int .i64 k.ph, .int .i64 k.ep, .bool k.mj, .slice k.wk.a k.wk.n k.wk.c, .bool k.ov, .int .i64 k.pa, .int .i64 k.pf, .int .i64 k.ps, .int .i64 k.pc, .bool k.me] ty)).heap.size (w.alloc (.cells #[.int .i64 k.ph, .int .i64 k.ep, .bool k.mj, .slice k.wk.a k.wk.n k.wk.c, .bool k.ov, .int .i64 k.pa, .int .i64 k.pf, .int .i64 k.ps, .int .i64 k.pc, .bool k.me] ty)) W := by rw [h]; exact (Below.refl _ _).alloc (Nat.le_refl _) _
  have x := T10.new (w.alloc (.cells #[.int .i64 k.ph, .int .i64 k.ep, .bool k.mj, .slice k.wk.a k.wk.n k.wk.c, .bool k.ov, .int .i64 k.pa, .int .i64 k.pf, .int .i64 k.ps, .int .i64 k.pc, .bool k.me] ty)) noKs ty'
  rw [World.size_alloc] at x
  exact ⟨⟨b1, (CBox.new w k ty).next b2, (T10.new w k ty).next b2, by rw [h]; exact x, hk.next b1⟩, by rw [h]; simp⟩
/-- A copy of a collector. -/
def ColOut (w : World) (k : Ks) (xs : List Int) (e : Ending) (w' : World) : Prop := ∃ v : Ls.Sl, e = .returned (.agg #[.int .i64 k.ph, .int .i64 k.ep, .bool k.mj, .slice v.a v.n v.c, .bool k.ov, .int .i64 k.pa, .int .i64 k.pf, .int .i64 k.ps, .int .i64 k.pc, .bool k.me]) ∧ Ls.Alling w w' v xs
theorem col_end (v0 v1 v2 v3 v4 v5 v6 v7 v8 v9 : Value) (h0 : Fc w W k xs ∧ W.heap.size = w.heap.size + 2) {w1 : World} (ho : w1.ownsRow W.heap.size 3 1 (.slice v.a v.n v.c) v.n (xs.map (Value.int .i64))) (hb : Below W.heap.size W w1) (u : Value) :
    ColOut w k xs (.returned (.agg #[.int .i64 k.ph, .int .i64 k.ep, .bool k.mj, .slice v.a v.n v.c, .bool k.ov, .int .i64 k.pa, .int .i64 k.pf, .int .i64 k.ps, .int .i64 k.pc, .bool k.me])) (put10 (w1.setCell ⟨w.heap.size, 3, none⟩ u) (w.heap.size + 1) v0 v1 v2 v3 v4 v5 v6 v7 v8 v9) := by
  obtain ⟨h0, hs⟩ := h0
  refine ⟨v, rfl, ?_, below_put10 (Below.setCell (h0.bel.trans (hb.mono h0.bel.size)) (p := ⟨w.heap.size, 3, none⟩) (Nat.le_refl _) _) (by omega) v0 v1 v2 v3 v4 v5 v6 v7 v8 v9⟩
  refine own_less' (Ls.World.ownsRow.same ho fun g hg _ => ?_) (show w.heap.size ≤ W.heap.size by omega)
  have := (ho.lt g hg).1
  exact (put10_other _ _ v0 v1 v2 v3 v4 v5 v6 v7 v8 v9 (by omega)).trans (Below.heap_setCell _ _ _ _ (by show ¬ g = w.heap.size; omega))
theorem res_col {tm : Array Value} {v0 v1 v2 v3 v4 v5 v6 v7 v8 v9 : Value} (ht : tm[2]? = some (.pointer (some ⟨b, 0, none⟩))) (k0 : W.cell? ⟨b, 0, none⟩ = some v0) (k1 : W.cell? ⟨b, 1, none⟩ = some v1) (k2 : W.cell? ⟨b, 2, none⟩ = some v2) (k3 : W.cell? ⟨b, 3, none⟩ = some v3) (k4 : W.cell? ⟨b, 4, none⟩ = some v4) (k5 : W.cell? ⟨b, 5, none⟩ = some v5) (k6 : W.cell? ⟨b, 6, none⟩ = some v6) (k7 : W.cell? ⟨b, 7, none⟩ = some v7) (k8 : W.cell? ⟨b, 8, none⟩ = some v8) (k9 : W.cell? ⟨b, 9, none⟩ = some v9) :
    (results Tryz.f42 tm).run Tryz.prog W = .ok (.agg #[v0, v1, v2, v3, v4, v5, v6, v7, v8, v9]) W := by
  simp [results, Tryz.results42, go_sem, ht, k0, k1, k2, k3, k4, k5, k6, k7, k8, k9]
end
set_option maxHeartbeats 2000000 in
theorem fcol_any (k : Ks) (xs : List Int) (w : World) (hk : WRow w w.heap.size k xs) (hn : xs.length ≤ 1000000) : Calls Tryz.prog 42 #[(.agg #[.int .i64 k.ph, .int .i64 k.ep, .bool k.mj, .slice k.wk.a k.wk.n k.wk.c, .bool k.ov, .int .i64 k.pa, .int .i64 k.pf, .int .i64 k.ps, .int .i64 k.pc, .bool k.me])] w (ColOut w k xs) := by
  have HK := Lib.hid hk
  have hn' : k.wk.n ≤ 2000000 := by rw [hk.len]; omega
  clear hk hn
  go_enter Tryz.func42, Tryz.ntmps42
  go_wp2_with fail
  obtain ⟨W0, hW0⟩ : ∃ W0, W0 = (w.alloc (.cells #[.int .i64 k.ph, .int .i64 k.ep, .bool k.mj, .slice k.wk.a k.wk.n k.wk.c, .bool k.ov, .int .i64 k.pa, .int .i64 k.pf, .int .i64 k.ps, .int .i64 k.pc, .bool k.me] 30)).alloc (.cells #[.int .i64 0, .int .i64 0, .bool false, .slice none 0 0, .bool false, .int .i64 0, .int .i64 0, .int .i64 0, .int .i64 0, .bool false] 30) := ⟨_, rfl⟩
  have K0 := Lib.hid (fc_start HK.out hW0)
  rw [← hW0]
  clear hW0
  refine (iclone_any W0.heap.size k.wk.a k.wk.n k.wk.c xs W0 hn' (Nat.le_refl _) K0.out.1.wr).mono ?_
  rintro e w1 ⟨v, rfl, ho, hb⟩
  have T1 := Lib.hid (And.intro ho hb)
  have K1 := Lib.hid (K0.out.1.next hb)
  have q3 := K1.out.kb.c3
  have ql := K1.out.kb.lt
  have f3 := K1.out.kt.free 3
  clear ho hb
  go_upto_region 2 with fail
  obtain ⟨W2, hW2⟩ : ∃ W2, W2 = w1.setCell ⟨w.heap.size, 3, none⟩ (.slice v.a v.n v.c) := ⟨_, rfl⟩
  have KB : Hid (CBox W2 w.heap.size (kw k v k.ov)) := Lib.hid (by rw [hW2]; exact K1.out.kb.put3 v)
  have RT : Hid (T10 W2 (w.heap.size + 1)) := Lib.hid (K1.out.rt.same (by rw [hW2]; exact Below.heap_setCell _ _ _ _ (by show ¬ w.heap.size + 1 = w.heap.size; omega)) (by rw [hW2]; simp [World.setCell]))
  have HW := Lib.hid hW2
  rw [← hW2]
  clear hW2 q3 ql f3
  have p0 := (KB.out).c0
  have p1 := (KB.out).c1
  have p2 := (KB.out).c2
  have p3 := (KB.out).c3
  have p4 := (KB.out).c4
  have p5 := (KB.out).c5
  have p6 := (KB.out).c6
  have p7 := (KB.out).c7
  have p8 := (KB.out).c8
  have p9 := (KB.out).c9
  have pl := (KB.out).lt
  dsimp only [kw] at p0 p1 p2 p3 p4 p5 p6 p7 p8 p9
  have rl := RT.out.lt
  obtain ⟨x0, h0⟩ := RT.out.has 0 (by decide)
  obtain ⟨x1, h1⟩ := RT.out.has 1 (by decide)
  obtain ⟨x2, h2⟩ := RT.out.has 2 (by decide)
  obtain ⟨x3, h3⟩ := RT.out.has 3 (by decide)
  obtain ⟨x4, h4⟩ := RT.out.has 4 (by decide)
  obtain ⟨x5, h5⟩ := RT.out.has 5 (by decide)
  obtain ⟨x6, h6⟩ := RT.out.has 6 (by decide)
  obtain ⟨x7, h7⟩ := RT.out.has 7 (by decide)
  obtain ⟨x8, h8⟩ := RT.out.has 8 (by decide)
  obtain ⟨x9, h9⟩ := RT.out.has 9 (by decide)
  have y0 := RT.out.free 0
  have y1 := RT.out.free 1
  have y2 := RT.out.free 2
  have y3 := RT.out.free 3
  have y4 := RT.out.free 4
  have y5 := RT.out.free 5
  have y6 := RT.out.free 6
  have y7 := RT.out.free 7
  have y8 := RT.out.free 8
  have y9 := RT.out.free 9
  go_wp2
  refine bodyPost_ret (v := (.agg #[.int .i64 k.ph, .int .i64 k.ep, .bool k.mj, .slice v.a v.n v.c, .bool k.ov, .int .i64 k.pa, .int .i64 k.pf, .int .i64 k.ps, .int .i64 k.pc, .bool k.me])) ?_ rfl (by rw [HW.out]; exact col_end _ _ _ _ _ _ _ _ _ _ K0.out T1.out.1 T1.out.2 _)
  obtain ⟨k0, k1, k2, k3, k4, k5, k6, k7, k8, k9⟩ := put10_at RT.out (.int .i64 k.ph) (.int .i64 k.ep) (.bool k.mj) (.slice v.a v.n v.c) (.bool k.ov) (.int .i64 k.pa) (.int .i64 k.pf) (.int .i64 k.ps) (.int .i64 k.pc) (.bool k.me)
  exact res_col rfl k0 k1 k2 k3 k4 k5 k6 k7 k8 k9
end Go.Proofs.YtccjelpfmkbmiaaGreatDoor.Sh
end
section
namespace Go.Proofs.YtccjelpfmkbmiaaGreatDoor.Tr
open Go.Proofs.YtccjelpfmkbmiaaGreatDoor Go.Proofs.YtccjelpfmkbmiaaGreatDoor.Sh
set_option maxRecDepth 100000

/-- What a step leaves: a heap's data; a collector, but for where its list lies; the list. -/
structure R3 where
  d : Hd_
  k : Ks
  xs : List Int
def kp (k : Ks) (a f : Int) : Ks := ⟨k.ph, k.ep, k.mj, k.wk, k.ov, a, f, k.ps, k.pc, k.me⟩
def kq (k : Ks) (q : Int) : Ks := ⟨k.ph, k.ep, k.mj, k.wk, k.ov, k.pa, k.pf, q, k.pc, k.me⟩
def kv1 (k : Ks) : Ks := ⟨k.ph, k.ep, k.mj, k.wk, false, k.pa, k.pf, 1, k.pc, k.me⟩
def kend (k : Ks) : Ks := ⟨6, k.ep, k.mj, k.wk, k.ov, 0, 0, 0, 0, false⟩
/-- How many fields the object at hand has. -/
def fldN (s : Hs) (d : Hd_) (k : Ks) : Int := if isC s d k.mj k.ep k.pa 2 = true then nOf (wd d k.pa) else 0
/-- The next cell. -/
def nxt (s : Hs) (d : Hd_) (a : Int) : Int := (Cl.foundV (Cl.allL d.f s.p.n) (Cl.pUp a)).1
/-- What the field at hand has. -/
def fldV (d : Hd_) (k : Ks) : Int := wd d (k.pa + 1 + k.pf)
def white (s : Hs) (d : Hd_) (k : Ks) (a : Int) : Bool := isC s d k.mj k.ep a 1
/-- A field is gone through. -/
def fieldR (s : Hs) (d : Hd_) (k : Ks) (xs : List Int) : R3 :=
  if k.pf < 0 ∨ fldN s d k ≤ k.pf then ⟨d, kp k 0 0, xs⟩
  else if k.pf + 1 = fldN s d k then ⟨blD s (shD s d k.mj k.ep (fldV d k)) k.mj k.ep k.pa, kp (kw k k.wk (shO (white s d k (fldV d k)) xs k.ov)) 0 0, shX (white s d k (fldV d k)) xs (fldV d k)⟩
  else ⟨shD s d k.mj k.ep (fldV d k), kp (kw k k.wk (shO (white s d k (fldV d k)) xs k.ov)) k.pa (k.pf + 1), shX (white s d k (fldV d k)) xs (fldV d k)⟩
/-- The last of the list is taken; the next cell is looked at. -/
def takeR (d : Hd_) (k : Ks) (xs : List Int) : R3 := ⟨d, kp k (xs.getD (xs.length - 1) 0) 0, xs.take (xs.length - 1)⟩
def seekR (s : Hs) (d : Hd_) (k : Ks) (xs : List Int) : R3 := if isC s d k.mj k.ep (nxt s d k.ps) 2 = true then ⟨d, kp (kq k (nxt s d k.ps)) (nxt s d k.ps) 0, xs⟩ else ⟨d, kq k (nxt s d k.ps), xs⟩
/-- Which step it is. -/
def wh (k : Ks) (xs : List Int) : Int := if ¬ k.pa = 0 then 0 else if 0 < xs.length then 1 else if ¬ k.ps = 0 then 2 else if k.ov = true then 3 else 4
def onR (s : Hs) (d : Hd_) (k : Ks) (xs : List Int) : R3 :=
  if wh k xs = 0 then fieldR s d k xs else if wh k xs = 1 then takeR d k xs else if wh k xs = 2 then seekR s d k xs else if wh k xs = 3 then ⟨d, kv1 k, xs⟩ else ⟨d, kend k, xs⟩
def stepR (s : Hs) (d : Hd_) (k : Ks) (xs : List Int) : R3 := if mayB0 s d = true ∧ k.ph = 5 then onR s d k xs else ⟨d, k, xs⟩
/-- Nothing to be gone through any more. -/
def overB (s : Hs) (d : Hd_) (k : Ks) (xs : List Int) : Bool := decide (wh k xs = 4) && decide ((greyL s d k.mj k.ep).length = 0)
/-- All that is grey is known of. -/
def knowB (k : Ks) (xs : List Int) (y : Int) : Bool := k.ov || (decide (y = k.pa) || (decide (¬ k.ps = 0 ∧ k.ps < y) || decide (y ∈ xs)))
def Known (s : Hs) (d : Hd_) (k : Ks) (xs : List Int) : Prop := ∀ y, isC s d k.mj k.ep y 2 = true → knowB k xs y = true
section
variable {s t : Hs} {d d' : Hd_} {k : Ks} {xs : List Int} {mj : Bool} {ep a q : Int}
theorem wh_cases (k : Ks) (xs : List Int) : wh k xs = 0 ∨ wh k xs = 1 ∨ wh k xs = 2 ∨ wh k xs = 3 ∨ wh k xs = 4 := by
  unfold wh
  repeat' split
  all_goals simp
theorem know_iff {y : Int} : knowB k xs y = true ↔ k.ov = true ∨ y = k.pa ∨ (¬ k.ps = 0 ∧ k.ps < y) ∨ y ∈ xs := by
  unfold knowB
  simp only [Bool.or_eq_true, decide_eq_true_eq]
theorem lens_refl (s : Hs) : Lens s s := ⟨rfl, rfl, fun _ _ => rfl, rfl⟩
/-- Colours behind Black. -/
theorem bl_col (hl : Lens s t) (hlen : d.ws.length = s.w.n) (y q : Int) : isC t (blD s d mj ep a) mj ep y q = if isC s d mj ep a 2 = true ∧ y = a then decide (q = 3) else isC s d mj ep y q := by
  unfold blD
  by_cases h : isC s d mj ep a 2 = true
  · obtain ⟨h1, h2, h3⟩ := isC_iff.1 h
    have p := (obj_of h2).parts
    have T := hd_turned hl hlen h2 true p.2.2.2.2.1 p.2.2.2.2.2
    rw [if_pos h]
    by_cases hy : y = a
    · subst hy
      rw [if_pos ⟨h, rfl⟩]
      have hx := (obj_of h2).fits true p.2.2.2.2.1 p.2.2.2.2.2
      have hc : colW (wd (dHd d y true (wd d y / 4294967296)) y) mj ep = 3 := by
        rw [hd_word hlen h2, col_word hx]
        unfold colW at h3
        have : ¬ (wd d y / 2 % 2 = 1 ∧ mj = false) := fun hh => by rw [if_pos hh] at h3; omega
        rw [if_neg this] at h3
        have h4 : ¬ wd d y / 4294967296 < ep := fun hh => by rw [if_pos hh] at h3; omega
        rw [if_neg (by simpa using this), if_neg h4, if_pos rfl]
      unfold isC
      rw [T.headE, h2, hc, decide_eq_true h1]
      simp [eq_comm]
    · rw [if_neg (fun hh => hy hh.2)]
      exact turned_col T hy q
  · rw [if_neg h, if_neg (fun hh => h hh.1)]
    exact same_col hl y q
theorem sh_len (s : Hs) (d : Hd_) (mj : Bool) (ep a : Int) : (shD s d mj ep a).ws.length = d.ws.length := by
  unfold shD dHd dSet
  split <;> simp
/-- An object has one colour. -/
theorem one_col {p : Int} (h : isC s d mj ep a p = true) (g : isC s d mj ep a q = true) : p = q := by
  obtain ⟨_, _, h3⟩ := isC_iff.1 h
  obtain ⟨_, _, g3⟩ := isC_iff.1 g
  omega
/-- An object at hand has fields. -/
theorem obj_n (h : headE s d a = 0) : 1 ≤ nOf (wd d a) ∧ nOf (wd d a) < Cl.bg d.f s.p.n a := by
  have ho := obj_of h
  rcases used_head ho.may a with ⟨_, _, _, h1, h2⟩ | ⟨_, h2⟩
  · exact ⟨h1, h2⟩
  · omega
theorem cell_end {f : Nat → Int × Int} {n : Nat} {x : Int} (hx : ¬ Cl.bg f n x = 0) : 16 ≤ x ∧ 2 ≤ Cl.bg f n x ∧ x + Cl.bg f n x ≤ 16 + 16 * (n : Int) := by
  obtain ⟨c, hc, rfl⟩ := List.mem_map.1 (mem_allS.2 hx)
  rw [Cl.bg_cell hc]
  have h1 := (Cl.allL_apart f n).2 c hc
  exact ⟨h1.1, h1.2, (Cl.allL_end hc).2⟩
theorem fit_w (h : firstB s d = true) : Ar.mayB s.w.n = true ∧ s.w.n = 16 * s.p.n := by
  unfold firstB wordsB at h
  simp only [Bool.and_eq_true, decide_eq_true_eq] at h
  exact ⟨Ar.mayB_iff.2 h.1, h.2.2.1⟩
/-- Where an object's fields lie. -/
theorem fld_in (h : headE s d a = 0) : 16 ≤ a ∧ 1 ≤ nOf (wd d a) ∧ a + nOf (wd d a) < 16 + (s.w.n : Int) ∧ Ar.mayB s.w.n = true ∧ nOf (wd d a) < Cl.bg d.f s.p.n a ∧ ¬ Cl.bg d.f s.p.n a = 0 := by
  have ho := obj_of h
  have hF := fit_w (mayH_all ho.may).1
  have h2 := obj_n h
  have hb : ¬ Cl.bg d.f s.p.n a = 0 := by omega
  have := cell_end hb
  have hw := hF.2
  exact ⟨this.1, h2.1, by omega, hF.1, h2.2, hb⟩
theorem next_spec (s : Hs) (d : Hd_) (a : Int) {y : Int} (hy : y ∈ usedL s d) (hlt : a < y) : ¬ nxt s d a = 0 ∧ nxt s d a ≤ y ∧ a < nxt s d a := by
  have hm : y ∈ Cl.allS d.f s.p.n := by
    unfold usedL at hy
    split at hy
    · exact (List.mem_filter.1 hy).1
    · cases hy
  have h16 := (used_in hy).1
  have key : ∀ l : List (Int × Int), (l.map (·.1)).Pairwise (· < ·) → (∀ c ∈ l, 16 ≤ c.1) → y ∈ l.map (·.1) → ¬ (Cl.foundV l (Cl.pUp a)).1 = 0 ∧ (Cl.foundV l (Cl.pUp a)).1 ≤ y ∧ a < (Cl.foundV l (Cl.pUp a)).1 := by
    intro l
    induction l with
    | nil => intro _ _ h; cases h
    | cons c l ih =>
      intro hp hc hm
      by_cases h : a < c.1
      · have e : Cl.foundV (c :: l) (Cl.pUp a) = c := by
          have : Cl.pUp a c = true := decide_eq_true h
          simp [Cl.foundV, this]
        rw [e]
        have := hc c (by simp)
        refine ⟨by omega, ?_, h⟩
        rw [List.map_cons] at hm hp
        rcases List.mem_cons.1 hm with e | hm
        · omega
        · have := (List.pairwise_cons.1 hp).1 y hm
          omega
      · have e : Cl.foundV (c :: l) (Cl.pUp a) = Cl.foundV l (Cl.pUp a) := by
          have : Cl.pUp a c = false := decide_eq_false h
          simp [Cl.foundV, this]
        rw [e]
        rw [List.map_cons] at hm hp
        rcases List.mem_cons.1 hm with e | hm
        · omega
        · exact ih (List.pairwise_cons.1 hp).2 (fun c hc' => hc c (by simp [hc'])) hm
  exact key _ (allS_lt d.f s.p.n) (fun c hc => bg_in16 (mem_allS.1 (List.mem_map.2 ⟨c, hc, rfl⟩ : c.1 ∈ Cl.allS d.f s.p.n))) hm
/-- What is known of stays so. -/
theorem known_step (hlen : d.ws.length = s.w.n) (hk : Known s d k xs) (hf : headE s d k.pa = 0 → 0 ≤ k.pf ∧ k.pf < nOf (wd d k.pa)) : Known s (stepR s d k xs).d (stepR s d k xs).k (stepR s d k xs).xs := by
  unfold stepR
  split
  case isFalse => exact hk
  case isTrue hm =>
  unfold onR
  rcases wh_cases k xs with e | e | e | e | e
  · rw [if_pos e]
    unfold fieldR
    split
    · next h =>
      intro y hy
      have hy' : isC s d k.mj k.ep y 2 = true := hy
      have h1 := know_iff.1 (hk y hy')
      refine know_iff.2 ?_
      show k.ov = true ∨ y = 0 ∨ (¬ k.ps = 0 ∧ k.ps < y) ∨ y ∈ xs
      rcases h1 with h1 | h1 | h1 | h1
      · exact .inl h1
      · subst h1
        have h2 := hf (isC_iff.1 hy').2.1
        have : fldN s d k = nOf (wd d k.pa) := if_pos hy'
        omega
      · exact .inr (.inr (.inl h1))
      · exact .inr (.inr (.inr h1))
    · next h =>
      have hg : isC s d k.mj k.ep k.pa 2 = true := Classical.byContradiction fun hh => by
        have : fldN s d k = 0 := if_neg hh
        omega
      have shk : ∀ y, isC s (shD s d k.mj k.ep (fldV d k)) k.mj k.ep y 2 = true → ¬ y = k.pa → (shO (white s d k (fldV d k)) xs k.ov = true ∨ (¬ k.ps = 0 ∧ k.ps < y) ∨ y ∈ shX (white s d k (fldV d k)) xs (fldV d k)) := by
        intro y hy hne
        rw [sh_col (lens_refl s) hlen] at hy
        by_cases hc : isC s d k.mj k.ep (fldV d k) 1 = true ∧ y = fldV d k
        · obtain ⟨hc, rfl⟩ := hc
          have hw : white s d k (fldV d k) = true := hc
          rw [hw]
          by_cases h4 : 4 ≤ xs.length
          · exact .inl (by simp [shO, h4])
          · exact .inr (.inr (by unfold shX; rw [if_pos ⟨rfl, by omega⟩]; simp))
        · rw [if_neg hc] at hy
          rcases know_iff.1 (hk y hy) with h1 | h1 | h1 | h1
          · exact .inl (by simp [shO, h1])
          · exact absurd h1 hne
          · exact .inr (.inl h1)
          · exact .inr (.inr (by unfold shX; split; exact List.mem_append.2 (.inl h1); exact h1))
      split
      · intro y hy
        have hy' : isC s (blD s (shD s d k.mj k.ep (fldV d k)) k.mj k.ep k.pa) k.mj k.ep y 2 = true := hy
        rw [bl_col (lens_refl s) (by rw [sh_len]; exact hlen)] at hy'
        refine know_iff.2 ?_
        show shO (white s d k (fldV d k)) xs k.ov = true ∨ y = 0 ∨ (¬ k.ps = 0 ∧ k.ps < y) ∨ y ∈ shX (white s d k (fldV d k)) xs (fldV d k)
        have hpa : isC s (shD s d k.mj k.ep (fldV d k)) k.mj k.ep k.pa 2 = true := by
          rw [sh_col (lens_refl s) hlen]
          split
          · rfl
          · exact hg
        by_cases hne : y = k.pa
        · rw [if_pos ⟨hpa, hne⟩] at hy'
          cases hy'
        · rw [if_neg (fun hh => hne hh.2)] at hy'
          rcases shk y hy' hne with h1 | h1 | h1
          · exact .inl h1
          · exact .inr (.inr (.inl h1))
          · exact .inr (.inr (.inr h1))
      · intro y hy
        refine know_iff.2 ?_
        show shO (white s d k (fldV d k)) xs k.ov = true ∨ y = k.pa ∨ (¬ k.ps = 0 ∧ k.ps < y) ∨ y ∈ shX (white s d k (fldV d k)) xs (fldV d k)
        by_cases hne : y = k.pa
        · exact .inr (.inl hne)
        · rcases shk y hy hne with h1 | h1 | h1
          · exact .inl h1
          · exact .inr (.inr (.inl h1))
          · exact .inr (.inr (.inr h1))
  · rw [if_neg (by omega), if_pos e]
    have hl : 0 < xs.length := by
      unfold wh at e
      split at e
      · omega
      · split at e
        · assumption
        · split at e
          · omega
          · split at e <;> omega
    have hpa : k.pa = 0 := Classical.byContradiction fun hh => by unfold wh at e; rw [if_pos hh] at e; omega
    intro y hy
    have hy' : isC s d k.mj k.ep y 2 = true := hy
    refine know_iff.2 ?_
    show k.ov = true ∨ y = xs.getD (xs.length - 1) 0 ∨ (¬ k.ps = 0 ∧ k.ps < y) ∨ y ∈ xs.take (xs.length - 1)
    rcases know_iff.1 (hk y hy') with h1 | h1 | h1 | h1
    · exact .inl h1
    · have := (obj_of (isC_iff.1 hy').2.1).lo
      omega
    · exact .inr (.inr (.inl h1))
    · obtain ⟨i, hi, rfl⟩ := List.mem_iff_getElem.1 h1
      by_cases hil : i = xs.length - 1
      · subst hil
        exact .inr (.inl (by simp [List.getD, hi]))
      · exact .inr (.inr (.inr (List.mem_iff_getElem.2 ⟨i, by simp; omega, by simp⟩)))
  · rw [if_neg (by omega), if_neg (by omega), if_pos e]
    have hq : ¬ k.ps = 0 ∧ k.pa = 0 ∧ xs.length = 0 := by
      unfold wh at e
      split at e
      · omega
      · split at e
        · omega
        · split at e
          · next h1 h2 h3 => exact ⟨h3, Classical.byContradiction h1, by omega⟩
          · split at e <;> omega
    have key : ∀ y, isC s d k.mj k.ep y 2 = true → k.ov = true ∨ y = nxt s d k.ps ∨ (¬ nxt s d k.ps = 0 ∧ nxt s d k.ps < y) ∨ y ∈ xs := by
      intro y hy
      rcases know_iff.1 (hk y hy) with h1 | h1 | h1 | h1
      · exact .inl h1
      · have := (obj_of (isC_iff.1 hy).2.1).lo
        omega
      · obtain ⟨n1, n2, n3⟩ := next_spec s d k.ps (obj_of (isC_iff.1 hy).2.1).used h1.2
        by_cases e2 : y = nxt s d k.ps
        · exact .inr (.inl e2)
        · exact .inr (.inr (.inl ⟨n1, by omega⟩))
      · exact .inr (.inr (.inr h1))
    unfold seekR
    split
    · intro y hy
      refine know_iff.2 ?_
      exact key y hy
    · next hn =>
      intro y hy
      refine know_iff.2 ?_
      show k.ov = true ∨ y = k.pa ∨ (¬ nxt s d k.ps = 0 ∧ nxt s d k.ps < y) ∨ y ∈ xs
      rcases key y hy with h1 | h1 | h1 | h1
      · exact .inl h1
      · subst h1
        exact absurd hy hn
      · exact .inr (.inr (.inl h1))
      · exact .inr (.inr (.inr h1))
  · rw [if_neg (by omega), if_neg (by omega), if_neg (by omega), if_pos e]
    intro y hy
    have h16 := (obj_of (isC_iff.1 (show isC s d k.mj k.ep y 2 = true from hy)).2.1).lo
    refine know_iff.2 (.inr (.inr (.inl ?_)))
    show ¬ (1 : Int) = 0 ∧ 1 < y
    omega
  · rw [if_neg (by omega), if_neg (by omega), if_neg (by omega), if_neg (by omega)]
    have hq : k.ov = false ∧ k.ps = 0 ∧ k.pa = 0 ∧ xs.length = 0 := by
      unfold wh at e
      split at e
      · omega
      · split at e
        · omega
        · split at e
          · omega
          · split at e
            · omega
            · next h1 h2 h3 h4 => exact ⟨by simpa using h4, by omega, by omega, by omega⟩
    intro y hy
    have hy' : isC s d k.mj k.ep y 2 = true := hy
    have h16 := (obj_of (isC_iff.1 hy').2.1).lo
    have hx : xs = [] := List.eq_nil_of_length_eq_zero hq.2.2.2
    rcases know_iff.1 (hk y hy') with h1 | h1 | h1 | h1
    · rw [hq.1] at h1; cases h1
    · omega
    · omega
    · rw [hx] at h1; cases h1
/-- Sweep is reached only where nothing is grey. -/
theorem known_sweep (hk : Known s d k xs) (h6 : (stepR s d k xs).k.ph = 6) (h5 : k.ph = 5) : greyL s (stepR s d k xs).d (stepR s d k xs).k.mj (stepR s d k xs).k.ep = [] := by
  have hno : wh k xs = 4 → greyL s d k.mj k.ep = [] := fun e => by
    have hq : k.ov = false ∧ k.ps = 0 ∧ k.pa = 0 ∧ xs.length = 0 := by
      unfold wh at e
      split at e
      · omega
      · split at e
        · omega
        · split at e
          · omega
          · split at e
            · omega
            · next h1 h2 h3 h4 => exact ⟨by simpa using h4, by omega, by omega, by omega⟩
    have hx : xs = [] := List.eq_nil_of_length_eq_zero hq.2.2.2
    refine List.eq_nil_iff_forall_not_mem.2 fun y hm => ?_
    have hy := grey_mem.1 hm
    have h16 := (obj_of (isC_iff.1 hy).2.1).lo
    rcases know_iff.1 (hk y hy) with h1 | h1 | h1 | h1
    · rw [hq.1] at h1; cases h1
    · omega
    · omega
    · rw [hx] at h1; cases h1
  unfold stepR at h6 ⊢
  split at h6
  case isFalse => exact absurd (show k.ph = 6 from h6) (by omega)
  case isTrue hm =>
  rw [if_pos hm]
  unfold onR at h6 ⊢
  rcases wh_cases k xs with e | e | e | e | e
  · rw [if_pos e] at h6
    unfold fieldR at h6
    split at h6
    · exact absurd (show k.ph = 6 from h6) (by omega)
    · split at h6
      · exact absurd (show k.ph = 6 from h6) (by omega)
      · exact absurd (show k.ph = 6 from h6) (by omega)
  · rw [if_neg (by omega), if_pos e] at h6
    exact absurd (show k.ph = 6 from h6) (by omega)
  · rw [if_neg (by omega), if_neg (by omega), if_pos e] at h6
    unfold seekR at h6
    split at h6
    · exact absurd (show k.ph = 6 from h6) (by omega)
    · exact absurd (show k.ph = 6 from h6) (by omega)
  · rw [if_neg (by omega), if_neg (by omega), if_neg (by omega), if_pos e] at h6
    exact absurd (show k.ph = 6 from h6) (by omega)
  · rw [if_neg (by omega), if_neg (by omega), if_neg (by omega), if_neg (by omega)]
    exact hno e
end
end Go.Proofs.YtccjelpfmkbmiaaGreatDoor.Tr
end
section
namespace Go.Proofs.YtccjelpfmkbmiaaGreatDoor.Sh
open Go.Proofs.YtccjelpfmkbmiaaGreatDoor
open Go.RowKit
set_option maxRecDepth 100000

/-- A head's colour. -/
def colH (o e : Bool) (m : Int) (mj : Bool) (ep : Int) : Int := if o = true ∧ mj = false then 0 else if m < ep then 1 else if e = true then 3 else 2
theorem two_allocs {w : World} (o1 o2 : Obj) : Below w.heap.size w ((w.alloc o1).alloc o2) := ((Below.refl _ _).alloc (Nat.le_refl _) o1).alloc (by simp) o2
set_option maxHeartbeats 4000000 in
theorem of_any (u o e : Bool) (n b m : Int) (k : Ks) (w : World) : Calls Tryz.prog 118 #[.agg #[.bool u, .bool o, .bool e, .int .i64 n, .int .i64 b, .int .i64 m], (.agg #[.int .i64 k.ph, .int .i64 k.ep, .bool k.mj, .slice k.wk.a k.wk.n k.wk.c, .bool k.ov, .int .i64 k.pa, .int .i64 k.pf, .int .i64 k.ps, .int .i64 k.pc, .bool k.me])] w fun e' w' => e' = .returned (.int .i64 (colH o e m k.mj k.ep)) ∧ Below w.heap.size w w' := by
  obtain ⟨ph, ep, mj, wk, ov, pa, pf, ps, pc, me⟩ := k
  dsimp only
  by_cases h : m < ep
  · have a0 : decide (m < ep) = true := decide_eq_true h
    have e1 : colH true e m false ep = 0 := if_pos ⟨rfl, rfl⟩
    have e2 : ∀ o mj, ¬ (o = true ∧ mj = false) → colH o e m mj ep = 1 := fun o mj hh => by unfold colH; rw [if_neg hh, if_pos h]
    clear h
    cases o <;> cases mj
    · rw [e2 _ _ (by decide)]
      clear e1 e2
      go_enter Tryz.func118, Tryz.ntmps118
      go_wp2
      go_ret
      exact ⟨rfl, two_allocs _ _⟩
    · rw [e2 _ _ (by decide)]
      clear e1 e2
      go_enter Tryz.func118, Tryz.ntmps118
      go_wp2
      go_ret
      exact ⟨rfl, two_allocs _ _⟩
    · rw [e1]
      clear e1 e2
      go_enter Tryz.func118, Tryz.ntmps118
      go_wp2
      go_ret
      exact ⟨rfl, two_allocs _ _⟩
    · rw [e2 _ _ (by decide)]
      clear e1 e2
      go_enter Tryz.func118, Tryz.ntmps118
      go_wp2
      go_ret
      exact ⟨rfl, two_allocs _ _⟩
  · have a0 : decide (m < ep) = false := decide_eq_false h
    have e1 : colH true e m false ep = 0 := if_pos ⟨rfl, rfl⟩
    have e2 : ∀ o mj, ¬ (o = true ∧ mj = false) → colH o e m mj ep = if e = true then 3 else 2 := fun o mj hh => by unfold colH; rw [if_neg hh, if_neg h]
    clear h
    cases o <;> cases mj
    · rw [e2 _ _ (by decide)]
      clear e1 e2
      cases e
      · go_enter Tryz.func118, Tryz.ntmps118
        go_wp2
        go_ret
        exact ⟨rfl, two_allocs _ _⟩
      · go_enter Tryz.func118, Tryz.ntmps118
        go_wp2
        go_ret
        exact ⟨rfl, two_allocs _ _⟩
    · rw [e2 _ _ (by decide)]
      clear e1 e2
      cases e
      · go_enter Tryz.func118, Tryz.ntmps118
        go_wp2
        go_ret
        exact ⟨rfl, two_allocs _ _⟩
      · go_enter Tryz.func118, Tryz.ntmps118
        go_wp2
        go_ret
        exact ⟨rfl, two_allocs _ _⟩
    · rw [e1]
      clear e1 e2
      go_enter Tryz.func118, Tryz.ntmps118
      go_wp2
      go_ret
      exact ⟨rfl, two_allocs _ _⟩
    · rw [e2 _ _ (by decide)]
      clear e1 e2
      cases e
      · go_enter Tryz.func118, Tryz.ntmps118
        go_wp2
        go_ret
        exact ⟨rfl, two_allocs _ _⟩
      · go_enter Tryz.func118, Tryz.ntmps118
        go_wp2
        go_ret
        exact ⟨rfl, two_allocs _ _⟩
/-- What find tells. -/
def findV (s : Hs) (d : Hd_) (mj : Bool) (ep a q : Int) : Value := if isC s d mj ep a q = true then headOf (wd d a) else noHead
def FindOut (w : World) (V : Value) (c : Bool) (e : Ending) (w' : World) : Prop := e = .returned (.tuple #[V, .bool c]) ∧ Below w.heap.size w w'
/-- What a walk through find has: the heap, the collector, the result's head. -/
structure Fw (w W : World) (s : Hs) (d : Hd_) (k : Ks) (xs : List Int) : Prop where
  l : Lk w W [(w.heap.size, s, d)] [(w.heap.size + 1, k, xs)]
  x : XBox W (w.heap.size + 2)
section
variable {w W W' : World} {s : Hs} {d : Hd_} {k : Ks} {xs : List Int}
theorem Fw.next (h : Fw w W s d k xs) (hb : Below W.heap.size W W') : Fw w W' s d k xs := ⟨h.l.next hb, h.x.next hb⟩
theorem fw_start {ty ty' ty2 : TypeId} (hp : Hp w w.heap.size s d) (hk : WRow w w.heap.size k xs) (h : W = ((w.alloc (.cells #[.slice s.w.a s.w.n s.w.c, .slice s.p.a s.p.n s.p.c, .slice (s.u 0).a (s.u 0).n (s.u 0).c, .slice (s.u 1).a (s.u 1).n (s.u 1).c, .slice (s.u 2).a (s.u 2).n (s.u 2).c, .slice s.c.a s.c.n s.c.c] ty)).alloc (.cells #[.int .i64 k.ph, .int .i64 k.ep, .bool k.mj, .slice k.wk.a k.wk.n k.wk.c, .bool k.ov, .int .i64 k.pa, .int .i64 k.pf, .int .i64 k.ps, .int .i64 k.pc, .bool k.me] ty')).alloc (.cells #[.bool false, .bool false, .bool false, .int .i64 0, .int .i64 0, .int .i64 0] ty2)) : Fw w W s d k xs := by
  have x := XBox.new ((w.alloc (.cells #[.slice s.w.a s.w.n s.w.c, .slice s.p.a s.p.n s.p.c, .slice (s.u 0).a (s.u 0).n (s.u 0).c, .slice (s.u 1).a (s.u 1).n (s.u 1).c, .slice (s.u 2).a (s.u 2).n (s.u 2).c, .slice s.c.a s.c.n s.c.c] ty)).alloc (.cells #[.int .i64 k.ph, .int .i64 k.ep, .bool k.mj, .slice k.wk.a k.wk.n k.wk.c, .bool k.ov, .int .i64 k.pa, .int .i64 k.pf, .int .i64 k.ps, .int .i64 k.pc, .bool k.me] ty')) ty2
  rw [World.size_alloc, World.size_alloc] at x
  refine ⟨(lk_start (ty := ty) (ty' := ty') hp hk rfl).next (by rw [h]; exact (Below.refl _ _).alloc (Nat.le_refl _) _), by rw [h]; exact x⟩
theorem put6_x {b : Nat} (h : XBox W b) (v0 v1 v2 v3 v4 v5 : Value) :
    (put6 W b v0 v1 v2 v3 v4 v5).cell? ⟨b, 0, none⟩ = some v0 ∧ (put6 W b v0 v1 v2 v3 v4 v5).cell? ⟨b, 1, none⟩ = some v1 ∧ (put6 W b v0 v1 v2 v3 v4 v5).cell? ⟨b, 2, none⟩ = some v2 ∧
    (put6 W b v0 v1 v2 v3 v4 v5).cell? ⟨b, 3, none⟩ = some v3 ∧ (put6 W b v0 v1 v2 v3 v4 v5).cell? ⟨b, 4, none⟩ = some v4 ∧ (put6 W b v0 v1 v2 v3 v4 v5).cell? ⟨b, 5, none⟩ = some v5 := by
  have h0 := h.cell 0 (by decide)
  have h1 := h.cell 1 (by decide)
  have h2 := h.cell 2 (by decide)
  have h3 := h.cell 3 (by decide)
  have h4 := h.cell 4 (by decide)
  have h5 := h.cell 5 (by decide)
  refine ⟨?_, ?_, ?_, ?_, ?_, ?_⟩ <;> simp [put6, go_sem, h0, h1, h2, h3, h4, h5]
theorem res_find {b : Nat} {c : Value} {tm : Array Value} {v0 v1 v2 v3 v4 v5 : Value} (ht : tm[8]? = some (.pointer (some ⟨b, 0, none⟩))) (h9 : tm[9]? = some c) (k0 : W.cell? ⟨b, 0, none⟩ = some v0) (k1 : W.cell? ⟨b, 1, none⟩ = some v1) (k2 : W.cell? ⟨b, 2, none⟩ = some v2) (k3 : W.cell? ⟨b, 3, none⟩ = some v3) (k4 : W.cell? ⟨b, 4, none⟩ = some v4) (k5 : W.cell? ⟨b, 5, none⟩ = some v5) :
    (results Tryz.f76 tm).run Tryz.prog W = .ok (.tuple #[.agg #[v0, v1, v2, v3, v4, v5], c]) W := by
  simp [results, Tryz.results76, go_sem, ht, h9, k0, k1, k2, k3, k4, k5]
/-- The result's head's cells. -/
theorem xcells {b : Nat} (h : XBox W b) : (W.cell? ⟨b, 0, none⟩ = some (.bool false) ∧ W.cell? ⟨b, 1, none⟩ = some (.bool false) ∧ W.cell? ⟨b, 2, none⟩ = some (.bool false) ∧ W.cell? ⟨b, 3, none⟩ = some (.int .i64 0) ∧ W.cell? ⟨b, 4, none⟩ = some (.int .i64 0) ∧ W.cell? ⟨b, 5, none⟩ = some (.int .i64 0)) ∧ (W.frozen? ⟨b, 0, none⟩ = false ∧ W.frozen? ⟨b, 1, none⟩ = false ∧ W.frozen? ⟨b, 2, none⟩ = false ∧ W.frozen? ⟨b, 3, none⟩ = false ∧ W.frozen? ⟨b, 4, none⟩ = false ∧ W.frozen? ⟨b, 5, none⟩ = false) ∧ b < W.heap.size :=
  ⟨⟨h.cell 0 (by decide), h.cell 1 (by decide), h.cell 2 (by decide), h.cell 3 (by decide), h.cell 4 (by decide), h.cell 5 (by decide)⟩, ⟨h.free 0, h.free 1, h.free 2, h.free 3, h.free 4, h.free 5⟩, h.lt⟩
end
section
variable (s : Hs) (d : Hd_) (k : Ks) (xs : List Int) (a q : Int) (w : World)
set_option maxHeartbeats 1000000 in
theorem find_ep (hp : Hp w w.heap.size s d) (hk : WRow w w.heap.size k xs) (he : ¬ (0 ≤ k.ep ∧ k.ep ≤ 1048576)) : Calls Tryz.prog 76 #[(.agg #[.slice s.w.a s.w.n s.w.c, .slice s.p.a s.p.n s.p.c, .slice (s.u 0).a (s.u 0).n (s.u 0).c, .slice (s.u 1).a (s.u 1).n (s.u 1).c, .slice (s.u 2).a (s.u 2).n (s.u 2).c, .slice s.c.a s.c.n s.c.c]), (.agg #[.int .i64 k.ph, .int .i64 k.ep, .bool k.mj, .slice k.wk.a k.wk.n k.wk.c, .bool k.ov, .int .i64 k.pa, .int .i64 k.pf, .int .i64 k.ps, .int .i64 k.pc, .bool k.me]), .int .i64 a, .int .i64 q] w (FindOut w noHead false) := by
  have HP := Lib.hid hp
  have HK := Lib.hid hk
  clear hp hk
  by_cases h0 : k.ep < 0
  · have a0 : decide (k.ep < 0) = true := decide_eq_true h0
    clear h0 he
    go_enter Tryz.func76, Tryz.ntmps76
    go_upto_region 1 with fail
    obtain ⟨W0, hW0⟩ : ∃ W0, W0 = ((w.alloc (.cells #[.slice s.w.a s.w.n s.w.c, .slice s.p.a s.p.n s.p.c, .slice (s.u 0).a (s.u 0).n (s.u 0).c, .slice (s.u 1).a (s.u 1).n (s.u 1).c, .slice (s.u 2).a (s.u 2).n (s.u 2).c, .slice s.c.a s.c.n s.c.c] 28)).alloc (.cells #[.int .i64 k.ph, .int .i64 k.ep, .bool k.mj, .slice k.wk.a k.wk.n k.wk.c, .bool k.ov, .int .i64 k.pa, .int .i64 k.pf, .int .i64 k.ps, .int .i64 k.pc, .bool k.me] 30)).alloc (.cells #[.bool false, .bool false, .bool false, .int .i64 0, .int .i64 0, .int .i64 0] 53) := ⟨_, rfl⟩
    have K0 := Lib.hid (fw_start HP.out HK.out hW0)
    rw [← hW0]
    clear hW0
    have q1 := (K0.out.l.cat (w.heap.size + 1) k xs (by simp)).c1
    have ql := (K0.out.l.cat (w.heap.size + 1) k xs (by simp)).lt
    obtain ⟨⟨y0, y1, y2, y3, y4, y5⟩, ⟨z0, z1, z2, z3, z4, z5⟩, zl⟩ := xcells K0.out.x
    go_wp2
    refine bodyPost_ret (v := .tuple #[noHead, .bool false]) ?_ rfl ⟨rfl, below_put6 K0.out.l.bel (b := w.heap.size + 2) (by omega) _ _ _ _ _ _⟩
    obtain ⟨k0, k1, k2, k3, k4, k5⟩ := put6_x K0.out.x (.bool false) (.bool false) (.bool false) (.int .i64 0) (.int .i64 0) (.int .i64 0)
    exact res_find rfl rfl k0 k1 k2 k3 k4 k5
  · have a0 : decide (k.ep < 0) = false := decide_eq_false h0
    have a1 : decide (1048576 < k.ep) = true := decide_eq_true (by omega)
    clear h0 he
    go_enter Tryz.func76, Tryz.ntmps76
    go_upto_region 1 with fail
    obtain ⟨W0, hW0⟩ : ∃ W0, W0 = ((w.alloc (.cells #[.slice s.w.a s.w.n s.w.c, .slice s.p.a s.p.n s.p.c, .slice (s.u 0).a (s.u 0).n (s.u 0).c, .slice (s.u 1).a (s.u 1).n (s.u 1).c, .slice (s.u 2).a (s.u 2).n (s.u 2).c, .slice s.c.a s.c.n s.c.c] 28)).alloc (.cells #[.int .i64 k.ph, .int .i64 k.ep, .bool k.mj, .slice k.wk.a k.wk.n k.wk.c, .bool k.ov, .int .i64 k.pa, .int .i64 k.pf, .int .i64 k.ps, .int .i64 k.pc, .bool k.me] 30)).alloc (.cells #[.bool false, .bool false, .bool false, .int .i64 0, .int .i64 0, .int .i64 0] 53) := ⟨_, rfl⟩
    have K0 := Lib.hid (fw_start HP.out HK.out hW0)
    rw [← hW0]
    clear hW0
    have q1 := (K0.out.l.cat (w.heap.size + 1) k xs (by simp)).c1
    have ql := (K0.out.l.cat (w.heap.size + 1) k xs (by simp)).lt
    obtain ⟨⟨y0, y1, y2, y3, y4, y5⟩, ⟨z0, z1, z2, z3, z4, z5⟩, zl⟩ := xcells K0.out.x
    go_wp2
    refine bodyPost_ret (v := .tuple #[noHead, .bool false]) ?_ rfl ⟨rfl, below_put6 K0.out.l.bel (b := w.heap.size + 2) (by omega) _ _ _ _ _ _⟩
    obtain ⟨k0, k1, k2, k3, k4, k5⟩ := put6_x K0.out.x (.bool false) (.bool false) (.bool false) (.int .i64 0) (.int .i64 0) (.int .i64 0)
    exact res_find rfl rfl k0 k1 k2 k3 k4 k5
set_option maxHeartbeats 1000000 in
theorem find_none (er : Int) (u o e : Bool) (n b m : Int) (h0 : ¬ er = 0) (hp : Hp w w.heap.size s d) (hk : WRow w w.heap.size k xs) (he : 0 ≤ k.ep ∧ k.ep ≤ 1048576) (hH : ∀ W, Fw w W s d k xs → Calls Tryz.prog 26 #[(.agg #[.slice s.w.a s.w.n s.w.c, .slice s.p.a s.p.n s.p.c, .slice (s.u 0).a (s.u 0).n (s.u 0).c, .slice (s.u 1).a (s.u 1).n (s.u 1).c, .slice (s.u 2).a (s.u 2).n (s.u 2).c, .slice s.c.a s.c.n s.c.c]), .int .i64 a] W (HeadOut W (.agg #[.bool u, .bool o, .bool e, .int .i64 n, .int .i64 b, .int .i64 m]) er)) : Calls Tryz.prog 76 #[(.agg #[.slice s.w.a s.w.n s.w.c, .slice s.p.a s.p.n s.p.c, .slice (s.u 0).a (s.u 0).n (s.u 0).c, .slice (s.u 1).a (s.u 1).n (s.u 1).c, .slice (s.u 2).a (s.u 2).n (s.u 2).c, .slice s.c.a s.c.n s.c.c]), (.agg #[.int .i64 k.ph, .int .i64 k.ep, .bool k.mj, .slice k.wk.a k.wk.n k.wk.c, .bool k.ov, .int .i64 k.pa, .int .i64 k.pf, .int .i64 k.ps, .int .i64 k.pc, .bool k.me]), .int .i64 a, .int .i64 q] w (FindOut w noHead false) := by
  have HP := Lib.hid hp
  have HK := Lib.hid hk
  have HH := Lib.hid hH
  have a0 : decide (k.ep < 0) = false := decide_eq_false (by omega)
  have a1 : decide (1048576 < k.ep) = false := decide_eq_false (by omega)
  have d1 : (er != 0) = true := by simp [h0]
  clear hp hk hH he h0
  go_enter Tryz.func76, Tryz.ntmps76
  go_upto_region 1 with fail
  obtain ⟨W0, hW0⟩ : ∃ W0, W0 = ((w.alloc (.cells #[.slice s.w.a s.w.n s.w.c, .slice s.p.a s.p.n s.p.c, .slice (s.u 0).a (s.u 0).n (s.u 0).c, .slice (s.u 1).a (s.u 1).n (s.u 1).c, .slice (s.u 2).a (s.u 2).n (s.u 2).c, .slice s.c.a s.c.n s.c.c] 28)).alloc (.cells #[.int .i64 k.ph, .int .i64 k.ep, .bool k.mj, .slice k.wk.a k.wk.n k.wk.c, .bool k.ov, .int .i64 k.pa, .int .i64 k.pf, .int .i64 k.ps, .int .i64 k.pc, .bool k.me] 30)).alloc (.cells #[.bool false, .bool false, .bool false, .int .i64 0, .int .i64 0, .int .i64 0] 53) := ⟨_, rfl⟩
  have K0 := Lib.hid (fw_start HP.out HK.out hW0)
  rw [← hW0]
  clear hW0
  have p1 := (K0.out.l.cat (w.heap.size + 1) k xs (by simp)).c1
  have pl := (K0.out.l.cat (w.heap.size + 1) k xs (by simp)).lt
  have q0 := (K0.out.l.at (w.heap.size) s d (by simp)).c0
  have q1 := (K0.out.l.at (w.heap.size) s d (by simp)).c1
  have q2 := (K0.out.l.at (w.heap.size) s d (by simp)).c2
  have q3 := (K0.out.l.at (w.heap.size) s d (by simp)).c3
  have q4 := (K0.out.l.at (w.heap.size) s d (by simp)).c4
  have q5 := (K0.out.l.at (w.heap.size) s d (by simp)).c5
  have ql := (K0.out.l.at (w.heap.size) s d (by simp)).lt
  go_wp2_with fail
  refine (HH.out W0 K0.out).mono ?_
  rintro e9 w1 ⟨rfl, hb1⟩
  have hb2 := hb1.alloc hb1.size (.cells #[.bool u, .bool o, .bool e, .int .i64 n, .int .i64 b, .int .i64 m] 53)
  have K2 := Lib.hid (K0.out.next hb2)
  clear hb1 hb2 p1 pl K0 HH
  clear q0 q1 q2 q3 q4 q5 ql
  obtain ⟨⟨y0, y1, y2, y3, y4, y5⟩, ⟨z0, z1, z2, z3, z4, z5⟩, zl⟩ := xcells K2.out.x
  go_wp2
  refine bodyPost_ret (v := .tuple #[noHead, .bool false]) ?_ rfl ⟨rfl, below_put6 K2.out.l.bel (b := w.heap.size + 2) (by omega) _ _ _ _ _ _⟩
  obtain ⟨k0, k1, k2, k3, k4, k5⟩ := put6_x K2.out.x (.bool false) (.bool false) (.bool false) (.int .i64 0) (.int .i64 0) (.int .i64 0)
  exact res_find rfl rfl k0 k1 k2 k3 k4 k5
set_option maxHeartbeats 1000000 in
theorem find_obj (c : Bool) (V : Value) (u o e : Bool) (n b m : Int) (hc : c = decide (colH o e m k.mj k.ep = q)) (hV : V = if c = true then .agg #[.bool u, .bool o, .bool e, .int .i64 n, .int .i64 b, .int .i64 m] else noHead) (hp : Hp w w.heap.size s d) (hk : WRow w w.heap.size k xs) (he : 0 ≤ k.ep ∧ k.ep ≤ 1048576) (hH : ∀ W, Fw w W s d k xs → Calls Tryz.prog 26 #[(.agg #[.slice s.w.a s.w.n s.w.c, .slice s.p.a s.p.n s.p.c, .slice (s.u 0).a (s.u 0).n (s.u 0).c, .slice (s.u 1).a (s.u 1).n (s.u 1).c, .slice (s.u 2).a (s.u 2).n (s.u 2).c, .slice s.c.a s.c.n s.c.c]), .int .i64 a] W (HeadOut W (.agg #[.bool u, .bool o, .bool e, .int .i64 n, .int .i64 b, .int .i64 m]) 0)) : Calls Tryz.prog 76 #[(.agg #[.slice s.w.a s.w.n s.w.c, .slice s.p.a s.p.n s.p.c, .slice (s.u 0).a (s.u 0).n (s.u 0).c, .slice (s.u 1).a (s.u 1).n (s.u 1).c, .slice (s.u 2).a (s.u 2).n (s.u 2).c, .slice s.c.a s.c.n s.c.c]), (.agg #[.int .i64 k.ph, .int .i64 k.ep, .bool k.mj, .slice k.wk.a k.wk.n k.wk.c, .bool k.ov, .int .i64 k.pa, .int .i64 k.pf, .int .i64 k.ps, .int .i64 k.pc, .bool k.me]), .int .i64 a, .int .i64 q] w (FindOut w V c) := by
  have HP := Lib.hid hp
  have HK := Lib.hid hk
  have HH := Lib.hid hH
  have a0 : decide (k.ep < 0) = false := decide_eq_false (by omega)
  have a1 : decide (1048576 < k.ep) = false := decide_eq_false (by omega)
  obtain ⟨x, hx⟩ : ∃ x, x = colH o e m k.mj k.ep := ⟨_, rfl⟩
  have HX := Lib.hid hx
  rw [← hx] at hc
  have HV := Lib.hid hV
  have HC := Lib.hid hc
  clear hp hk hH he hx hV hc
  go_enter Tryz.func76, Tryz.ntmps76
  go_upto_region 1 with fail
  obtain ⟨W0, hW0⟩ : ∃ W0, W0 = ((w.alloc (.cells #[.slice s.w.a s.w.n s.w.c, .slice s.p.a s.p.n s.p.c, .slice (s.u 0).a (s.u 0).n (s.u 0).c, .slice (s.u 1).a (s.u 1).n (s.u 1).c, .slice (s.u 2).a (s.u 2).n (s.u 2).c, .slice s.c.a s.c.n s.c.c] 28)).alloc (.cells #[.int .i64 k.ph, .int .i64 k.ep, .bool k.mj, .slice k.wk.a k.wk.n k.wk.c, .bool k.ov, .int .i64 k.pa, .int .i64 k.pf, .int .i64 k.ps, .int .i64 k.pc, .bool k.me] 30)).alloc (.cells #[.bool false, .bool false, .bool false, .int .i64 0, .int .i64 0, .int .i64 0] 53) := ⟨_, rfl⟩
  have K0 := Lib.hid (fw_start HP.out HK.out hW0)
  rw [← hW0]
  clear hW0
  have p1 := (K0.out.l.cat (w.heap.size + 1) k xs (by simp)).c1
  have pl := (K0.out.l.cat (w.heap.size + 1) k xs (by simp)).lt
  have q0 := (K0.out.l.at (w.heap.size) s d (by simp)).c0
  have q1 := (K0.out.l.at (w.heap.size) s d (by simp)).c1
  have q2 := (K0.out.l.at (w.heap.size) s d (by simp)).c2
  have q3 := (K0.out.l.at (w.heap.size) s d (by simp)).c3
  have q4 := (K0.out.l.at (w.heap.size) s d (by simp)).c4
  have q5 := (K0.out.l.at (w.heap.size) s d (by simp)).c5
  have ql := (K0.out.l.at (w.heap.size) s d (by simp)).lt
  go_wp2_with fail
  refine (HH.out W0 K0.out).mono ?_
  rintro e9 w1 ⟨rfl, hb1⟩
  have hb2 := hb1.alloc hb1.size (.cells #[.bool u, .bool o, .bool e, .int .i64 n, .int .i64 b, .int .i64 m] 53)
  have K2 := Lib.hid (K0.out.next hb2)
  have X2 := Lib.hid (X6.new w1 u o e n b m 53)
  clear hb1 hb2 p1 pl K0 HH
  clear q0 q1 q2 q3 q4 q5 ql
  go_upto_region 4 with fail
  obtain ⟨W2, hW2⟩ : ∃ W2, W2 = w1.alloc (.cells #[.bool u, .bool o, .bool e, .int .i64 n, .int .i64 b, .int .i64 m] 53) := ⟨_, rfl⟩
  obtain ⟨b2, hb2⟩ : ∃ b2, b2 = w1.heap.size := ⟨_, rfl⟩
  rw [← hW2] at K2
  rw [← hW2, ← hb2] at X2
  rw [← hW2, ← hb2]
  clear hW2 hb2
  have x0 := (X2.out).c0
  have x1 := (X2.out).c1
  have x2 := (X2.out).c2
  have x3 := (X2.out).c3
  have x4 := (X2.out).c4
  have x5 := (X2.out).c5
  have xl := (X2.out).lt
  have p0 := (K2.out.l.cat (w.heap.size + 1) k xs (by simp)).c0
  have p1 := (K2.out.l.cat (w.heap.size + 1) k xs (by simp)).c1
  have p2 := (K2.out.l.cat (w.heap.size + 1) k xs (by simp)).c2
  have p3 := (K2.out.l.cat (w.heap.size + 1) k xs (by simp)).c3
  have p4 := (K2.out.l.cat (w.heap.size + 1) k xs (by simp)).c4
  have p5 := (K2.out.l.cat (w.heap.size + 1) k xs (by simp)).c5
  have p6 := (K2.out.l.cat (w.heap.size + 1) k xs (by simp)).c6
  have p7 := (K2.out.l.cat (w.heap.size + 1) k xs (by simp)).c7
  have p8 := (K2.out.l.cat (w.heap.size + 1) k xs (by simp)).c8
  have p9 := (K2.out.l.cat (w.heap.size + 1) k xs (by simp)).c9
  have pl := (K2.out.l.cat (w.heap.size + 1) k xs (by simp)).lt
  go_wp2_with fail
  refine (of_any u o e n b m k W2).mono ?_
  rw [← HX.out]
  rintro e9 w3 ⟨rfl, hb3⟩
  have K3 := Lib.hid (K2.out.next hb3)
  have X3 := Lib.hid (X2.out.next hb3)
  clear hb3 K2 X2
  clear x0 x1 x2 x3 x4 x5 xl
  clear p0 p1 p2 p3 p4 p5 p6 p7 p8 p9 pl
  obtain ⟨⟨y0, y1, y2, y3, y4, y5⟩, ⟨z0, z1, z2, z3, z4, z5⟩, zl⟩ := xcells K3.out.x
  by_cases hq : x = q
  · obtain rfl : c = true := by rw [HC.out]; exact decide_eq_true hq
    obtain rfl : V = .agg #[.bool u, .bool o, .bool e, .int .i64 n, .int .i64 b, .int .i64 m] := HV.out
    have d1 : (x != q) = false := by simp [hq]
    clear hq
    have x0 := (X3.out).c0
    have x1 := (X3.out).c1
    have x2 := (X3.out).c2
    have x3 := (X3.out).c3
    have x4 := (X3.out).c4
    have x5 := (X3.out).c5
    have xl := (X3.out).lt
    go_wp2
    refine bodyPost_ret (v := .tuple #[.agg #[.bool u, .bool o, .bool e, .int .i64 n, .int .i64 b, .int .i64 m], .bool true]) ?_ rfl ⟨rfl, below_put6 K3.out.l.bel (b := w.heap.size + 2) (by omega) _ _ _ _ _ _⟩
    obtain ⟨k0, k1, k2, k3, k4, k5⟩ := put6_x K3.out.x (.bool u) (.bool o) (.bool e) (.int .i64 n) (.int .i64 b) (.int .i64 m)
    exact res_find rfl rfl k0 k1 k2 k3 k4 k5
  · obtain rfl : c = false := by rw [HC.out]; exact decide_eq_false hq
    obtain rfl : V = noHead := HV.out
    have d1 : (x != q) = true := by simp [hq]
    clear hq
    go_wp2
    refine bodyPost_ret (v := .tuple #[noHead, .bool false]) ?_ rfl ⟨rfl, below_put6 K3.out.l.bel (b := w.heap.size + 2) (by omega) _ _ _ _ _ _⟩
    obtain ⟨k0, k1, k2, k3, k4, k5⟩ := put6_x K3.out.x (.bool false) (.bool false) (.bool false) (.int .i64 0) (.int .i64 0) (.int .i64 0)
    exact res_find rfl rfl k0 k1 k2 k3 k4 k5
theorem find_any (hp : Hp w w.heap.size s d) (hk : WRow w w.heap.size k xs) (hz : Cl.Sz w) (hf : Fine s d) : Calls Tryz.prog 76 #[(.agg #[.slice s.w.a s.w.n s.w.c, .slice s.p.a s.p.n s.p.c, .slice (s.u 0).a (s.u 0).n (s.u 0).c, .slice (s.u 1).a (s.u 1).n (s.u 1).c, .slice (s.u 2).a (s.u 2).n (s.u 2).c, .slice s.c.a s.c.n s.c.c]), (.agg #[.int .i64 k.ph, .int .i64 k.ep, .bool k.mj, .slice k.wk.a k.wk.n k.wk.c, .bool k.ov, .int .i64 k.pa, .int .i64 k.pf, .int .i64 k.ps, .int .i64 k.pc, .bool k.me]), .int .i64 a, .int .i64 q] w (FindOut w (findV s d k.mj k.ep a q) (isC s d k.mj k.ep a q)) := by
  have hH := fun (W : World) (h : Fw w W s d k xs) => phead_any s d a W (h.l.hp w.heap.size s d (by simp)) (hz.over h.l.bel hz.pos) hf
  by_cases he : 0 ≤ k.ep ∧ k.ep ≤ 1048576
  · by_cases h0 : headE s d a = 0
    · have ho := obj_of h0
      rw [h0, ho.val] at hH
      refine find_obj s d k xs a q w _ _ _ _ _ _ _ _ ?_ ?_ hp hk he hH
      · unfold isC
        rw [decide_eq_true he, decide_eq_true h0, Bool.true_and, Bool.true_and]
        unfold colW colH
        simp only [decide_eq_true_eq]
      · unfold findV
        rw [headOf_yes ho.word, show decide (wd d a % 2 = 1) = true from decide_eq_true ho.odd]
    · obtain ⟨z0, z1, z2, z3, z4, z5, hv⟩ := head_form s d a
      rw [hv] at hH
      have hc : isC s d k.mj k.ep a q = false := by
        unfold isC
        rw [decide_eq_false h0]
        simp
      rw [show findV s d k.mj k.ep a q = noHead by unfold findV; rw [hc]; rfl, hc]
      exact find_none s d k xs a q w _ _ _ _ _ _ _ h0 hp hk he hH
  · have hc : isC s d k.mj k.ep a q = false := by
      unfold isC
      rw [decide_eq_false he]
      simp
    rw [show findV s d k.mj k.ep a q = noHead by unfold findV; rw [hc]; rfl, hc]
    exact find_ep s d k xs a q w hp hk he
theorem find_form (s : Hs) (d : Hd_) (mj : Bool) (ep a q : Int) : ∃ (u o e : Bool) (n b m : Int), findV s d mj ep a q = .agg #[.bool u, .bool o, .bool e, .int .i64 n, .int .i64 b, .int .i64 m] := by
  unfold findV headOf noHead
  split
  · split <;> exact ⟨_, _, _, _, _, _, rfl⟩
  · exact ⟨_, _, _, _, _, _, rfl⟩
end
end Go.Proofs.YtccjelpfmkbmiaaGreatDoor.Sh
end
section
namespace Go.Proofs.YtccjelpfmkbmiaaGreatDoor
open Go.RowKit
set_option maxRecDepth 100000

theorem hcopied_any (s : Hs) (d : Hd_) (w : World) (hp : Hp w w.heap.size s d) (hf : Fine s d) (hfb : firstB s d = true) : Calls Tryz.prog 41 #[(.agg #[.slice s.w.a s.w.n s.w.c, .slice s.p.a s.p.n s.p.c, .slice (s.u 0).a (s.u 0).n (s.u 0).c, .slice (s.u 1).a (s.u 1).n (s.u 1).c, .slice (s.u 2).a (s.u 2).n (s.u 2).c, .slice s.c.a s.c.n s.c.c])] w (CopyOut w s d) :=
  (fresh_any s d w hp hf hfb).mono fun _ _ ⟨t, h1, h2, h3, h4, _, h6, _⟩ => ⟨t, h1, h2, h3, h4, h6⟩
end Go.Proofs.YtccjelpfmkbmiaaGreatDoor
end
section
namespace Go.Proofs.YtccjelpfmkbmiaaGreatDoor
open Go.RowKit
set_option maxRecDepth 100000

/-- What a walk through Set has in memory: the heap's box, the head's, the result's. -/
structure St (w W : World) (s : Hs) (d : Hd_) (u o e : Bool) (n b m : Int) : Prop where
  bel : Below w.heap.size w W
  hb : HBox W w.heap.size s
  xb : X6 W (w.heap.size + 1) u o e n b m
  rb : Box6 W (w.heap.size + 2) noHs
  hp : Hp W W.heap.size s d
theorem St.next {w W W' : World} {s : Hs} {d : Hd_} {u o e : Bool} {n b m : Int} (h : St w W s d u o e n b m) (hb : Below W.heap.size W W') : St w W' s d u o e n b m :=
  ⟨h.bel.trans (hb.mono h.bel.size), h.hb.next hb, h.xb.next hb, h.rb.next hb, h.hp.next hb⟩
theorem st_start {w W : World} {s : Hs} {d : Hd_} {u o e : Bool} {n b m : Int} (hp : Hp w w.heap.size s d) (h : W = ((w.alloc (.cells #[.slice s.w.a s.w.n s.w.c, .slice s.p.a s.p.n s.p.c, .slice (s.u 0).a (s.u 0).n (s.u 0).c, .slice (s.u 1).a (s.u 1).n (s.u 1).c, .slice (s.u 2).a (s.u 2).n (s.u 2).c, .slice s.c.a s.c.n s.c.c] 28)).alloc (.cells #[.bool u, .bool o, .bool e, .int .i64 n, .int .i64 b, .int .i64 m] 53)).alloc (.cells #[.slice none 0 0, .slice none 0 0, .slice none 0 0, .slice none 0 0, .slice none 0 0, .slice none 0 0] 28)) : St w W s d u o e n b m := by
  have b2 : Below w.heap.size w W := by rw [h]; exact (((Below.refl _ _).alloc (Nat.le_refl _) _).alloc (by simp) _).alloc (by simp; omega) _
  have bx : Below (w.alloc (.cells #[.slice s.w.a s.w.n s.w.c, .slice s.p.a s.p.n s.p.c, .slice (s.u 0).a (s.u 0).n (s.u 0).c, .slice (s.u 1).a (s.u 1).n (s.u 1).c, .slice (s.u 2).a (s.u 2).n (s.u 2).c, .slice s.c.a s.c.n s.c.c] 28)).heap.size (w.alloc (.cells #[.slice s.w.a s.w.n s.w.c, .slice s.p.a s.p.n s.p.c, .slice (s.u 0).a (s.u 0).n (s.u 0).c, .slice (s.u 1).a (s.u 1).n (s.u 1).c, .slice (s.u 2).a (s.u 2).n (s.u 2).c, .slice s.c.a s.c.n s.c.c] 28)) W := by rw [h]; exact ((Below.refl _ _).alloc (Nat.le_refl _) _).alloc (by simp) _
  have by' : Below ((w.alloc (.cells #[.slice s.w.a s.w.n s.w.c, .slice s.p.a s.p.n s.p.c, .slice (s.u 0).a (s.u 0).n (s.u 0).c, .slice (s.u 1).a (s.u 1).n (s.u 1).c, .slice (s.u 2).a (s.u 2).n (s.u 2).c, .slice s.c.a s.c.n s.c.c] 28)).alloc (.cells #[.bool u, .bool o, .bool e, .int .i64 n, .int .i64 b, .int .i64 m] 53)).heap.size ((w.alloc (.cells #[.slice s.w.a s.w.n s.w.c, .slice s.p.a s.p.n s.p.c, .slice (s.u 0).a (s.u 0).n (s.u 0).c, .slice (s.u 1).a (s.u 1).n (s.u 1).c, .slice (s.u 2).a (s.u 2).n (s.u 2).c, .slice s.c.a s.c.n s.c.c] 28)).alloc (.cells #[.bool u, .bool o, .bool e, .int .i64 n, .int .i64 b, .int .i64 m] 53)) W := by rw [h]; exact (Below.refl _ _).alloc (Nat.le_refl _) _
  have x := X6.new (w.alloc (.cells #[.slice s.w.a s.w.n s.w.c, .slice s.p.a s.p.n s.p.c, .slice (s.u 0).a (s.u 0).n (s.u 0).c, .slice (s.u 1).a (s.u 1).n (s.u 1).c, .slice (s.u 2).a (s.u 2).n (s.u 2).c, .slice s.c.a s.c.n s.c.c] 28)) u o e n b m 53
  rw [World.size_alloc] at x
  have z := HBox.new ((w.alloc (.cells #[.slice s.w.a s.w.n s.w.c, .slice s.p.a s.p.n s.p.c, .slice (s.u 0).a (s.u 0).n (s.u 0).c, .slice (s.u 1).a (s.u 1).n (s.u 1).c, .slice (s.u 2).a (s.u 2).n (s.u 2).c, .slice s.c.a s.c.n s.c.c] 28)).alloc (.cells #[.bool u, .bool o, .bool e, .int .i64 n, .int .i64 b, .int .i64 m] 53)) noHs 28
  rw [World.size_alloc, World.size_alloc] at z
  refine ⟨b2, (HBox.new w s 28).next bx, x.next by', ?_, hp.next b2⟩
  rw [h]
  exact ⟨z, fun j => by simp [go_sem]⟩
theorem res_set {W : World} {b : Nat} {er : Value} {tm : Array Value} {v0 v1 v2 v3 v4 v5 : Value} (ht : tm[6]? = some (.pointer (some ⟨b, 0, none⟩))) (h7 : tm[7]? = some er) (k0 : W.cell? ⟨b, 0, none⟩ = some v0) (k1 : W.cell? ⟨b, 1, none⟩ = some v1) (k2 : W.cell? ⟨b, 2, none⟩ = some v2) (k3 : W.cell? ⟨b, 3, none⟩ = some v3) (k4 : W.cell? ⟨b, 4, none⟩ = some v4) (k5 : W.cell? ⟨b, 5, none⟩ = some v5) :
    (results Tryz.f94 tm).run Tryz.prog W = .ok (.tuple #[.agg #[v0, v1, v2, v3, v4, v5], er]) W := by
  simp [results, Tryz.results94, go_sem, ht, h7, k0, k1, k2, k3, k4, k5]
section
variable (s : Hs) (d : Hd_) (a : Int) (u o e : Bool) (n b m : Int) (w : World)
end
end Go.Proofs.YtccjelpfmkbmiaaGreatDoor
end
section
namespace Go.Proofs.YtccjelpfmkbmiaaGreatDoor
open Go.RowKit
set_option maxRecDepth 100000

/-- What Set leaves, and that its memory is new. -/
def SetOkN (w : World) (s : Hs) (d' : Hd_) (e : Ending) (w' : World) : Prop :=
  ∃ t : Hs, e = .returned (.tuple #[(.agg #[.slice t.w.a t.w.n t.w.c, .slice t.p.a t.p.n t.p.c, .slice (t.u 0).a (t.u 0).n (t.u 0).c, .slice (t.u 1).a (t.u 1).n (t.u 1).c, .slice (t.u 2).a (t.u 2).n (t.u 2).c, .slice t.c.a t.c.n t.c.c]), .int .i64 0]) ∧ Hp w' w'.heap.size t d' ∧ Lens s t ∧ News w.heap.size t ∧ Below w.heap.size w w'
/-- .. its end: words were put, and the copy's box and the result's were turned. -/
theorem set_ok_end {w w3 w4 w5 W' : World} {s t : Hs} {d d' : Hd_} {u o e : Bool} {n b m : Int} {ob : Obj} {g c i : Nat} {x : Int} {v0 v1 v2 v3 v4 v5 : Value} (h3 : St w w3 s d u o e n b m) (ht : Hp w4 w4.heap.size t d) (hl : Lens s t) (hn : News w3.heap.size t) (hb4 : Below w3.heap.size w3 w4)
    (hm : Mine w5 (w4.alloc ob).heap.size 3 g s.w.n c (d.ws.set i x)) (hb5 : Below (w4.alloc ob).heap.size (w4.alloc ob) w5) (hd : d' = ⟨d.ws.set i x, d.f, d.F, d.cs⟩)
    (hW : W' = put6 (w5.setCell ⟨w4.heap.size, 0, none⟩ (.slice (some ⟨g, 0, none⟩) s.w.n c)) (w.heap.size + 2) v0 v1 v2 v3 v4 v5) : SetOkN w s d' (.returned (.tuple #[(.agg #[.slice (⟨⟨some ⟨g, 0, none⟩, s.w.n, c⟩, t.p, t.u, t.c⟩ : Hs).w.a (⟨⟨some ⟨g, 0, none⟩, s.w.n, c⟩, t.p, t.u, t.c⟩ : Hs).w.n (⟨⟨some ⟨g, 0, none⟩, s.w.n, c⟩, t.p, t.u, t.c⟩ : Hs).w.c, .slice (⟨⟨some ⟨g, 0, none⟩, s.w.n, c⟩, t.p, t.u, t.c⟩ : Hs).p.a (⟨⟨some ⟨g, 0, none⟩, s.w.n, c⟩, t.p, t.u, t.c⟩ : Hs).p.n (⟨⟨some ⟨g, 0, none⟩, s.w.n, c⟩, t.p, t.u, t.c⟩ : Hs).p.c, .slice ((⟨⟨some ⟨g, 0, none⟩, s.w.n, c⟩, t.p, t.u, t.c⟩ : Hs).u 0).a ((⟨⟨some ⟨g, 0, none⟩, s.w.n, c⟩, t.p, t.u, t.c⟩ : Hs).u 0).n ((⟨⟨some ⟨g, 0, none⟩, s.w.n, c⟩, t.p, t.u, t.c⟩ : Hs).u 0).c, .slice ((⟨⟨some ⟨g, 0, none⟩, s.w.n, c⟩, t.p, t.u, t.c⟩ : Hs).u 1).a ((⟨⟨some ⟨g, 0, none⟩, s.w.n, c⟩, t.p, t.u, t.c⟩ : Hs).u 1).n ((⟨⟨some ⟨g, 0, none⟩, s.w.n, c⟩, t.p, t.u, t.c⟩ : Hs).u 1).c, .slice ((⟨⟨some ⟨g, 0, none⟩, s.w.n, c⟩, t.p, t.u, t.c⟩ : Hs).u 2).a ((⟨⟨some ⟨g, 0, none⟩, s.w.n, c⟩, t.p, t.u, t.c⟩ : Hs).u 2).n ((⟨⟨some ⟨g, 0, none⟩, s.w.n, c⟩, t.p, t.u, t.c⟩ : Hs).u 2).c, .slice (⟨⟨some ⟨g, 0, none⟩, s.w.n, c⟩, t.p, t.u, t.c⟩ : Hs).c.a (⟨⟨some ⟨g, 0, none⟩, s.w.n, c⟩, t.p, t.u, t.c⟩ : Hs).c.n (⟨⟨some ⟨g, 0, none⟩, s.w.n, c⟩, t.p, t.u, t.c⟩ : Hs).c.c]), .int .i64 0])) W' := by
  have hs3 := h3.bel.size
  have hs4 := hb4.size
  have hr := h3.rb.box.lt
  have hg := hm.2.1
  have hg2 := hm.2.2.1
  have hs5 := hb5.size
  simp only [World.size_alloc] at hg hs5
  have hsz : W'.heap.size = w5.heap.size := by rw [hW, put6_size]; simp [World.setCell]
  have hoth : ∀ k, ¬ k = w4.heap.size → ¬ k = w.heap.size + 2 → W'.heap[k]? = w5.heap[k]? := fun k h1 h2 => by
    rw [hW, put6_other _ _ _ _ _ _ _ _ h2]
    exact Below.heap_setCell _ _ _ _ h1
  have hbel : Below w.heap.size w W' := by
    rw [hW]
    refine below_put6 (Below.setCell ?_ (p := ⟨w4.heap.size, 0, none⟩) (by show _ ≤ w4.heap.size; omega) _) (by omega) _ _ _ _ _ _
    exact (h3.bel.trans (hb4.mono hs3)).trans (((Below.refl _ _).alloc (Nat.le_refl _) ob |>.mono (by omega)).trans (hb5.mono (by simp; omega)))
  have hk : Hp W' W'.heap.size t d := hn.kept ht (fun k h1 h2 => by
    rw [hoth k (by omega) (by omega)]
    exact (hb5.block k (by simp; omega)).trans (Below.heap_alloc _ _ _ h2)) (by omega)
  subst hd
  refine ⟨⟨⟨some ⟨g, 0, none⟩, s.w.n, c⟩, t.p, t.u, t.c⟩, rfl, ⟨?_, hk.pages, hk.free, hk.cards⟩, ⟨rfl, hl.2.1, hl.2.2.1, hl.2.2.2⟩, ⟨fun _ x hx => by cases hx; show w.heap.size ≤ g; omega, fun h0 x hx => by have := hn.p h0 x hx; omega, fun j hj h0 x hx => by have := hn.u j hj h0 x hx; omega, fun h0 x hx => by have := hn.c h0 x hx; omega⟩, hbel⟩
  have hrow := row_same (w' := W') hm.row (fun _ x hx => by
    cases hx
    exact hoth g (by omega) (by omega))
  exact hrow.more (by omega)
section
variable (s : Hs) (d : Hd_) (a : Int) (u o e : Bool) (n b m : Int) (w : World)
set_option maxHeartbeats 2000000 in
theorem set_okn (N : Int) (hp : Hp w w.heap.size s d) (hz : Cl.Sz w) (hf : Fine s d) (he : headE s d a = 0) (o' e' : Bool) (b' m' : Int) (hv : headV s d a = .agg #[.bool true, .bool o', .bool e', .int .i64 N, .int .i64 b', .int .i64 m']) (hm0 : mayB0 s d = true) (hx : Hd.mayB true o e N b m = true) : Calls Tryz.prog 94 #[(.agg #[.slice s.w.a s.w.n s.w.c, .slice s.p.a s.p.n s.p.c, .slice (s.u 0).a (s.u 0).n (s.u 0).c, .slice (s.u 1).a (s.u 1).n (s.u 1).c, .slice (s.u 2).a (s.u 2).n (s.u 2).c, .slice s.c.a s.c.n s.c.c]), .int .i64 a, (.agg #[.bool true, .bool o, .bool e, .int .i64 N, .int .i64 b, .int .i64 m])] w (SetOkN w s (dSet d a o e N b m)) := by
  have HZ := Lib.hid hz
  have hz0 := hz.pos
  have HF := Lib.hid hf
  have HP := Lib.hid hp
  have HE := Lib.hid he
  have HV := Lib.hid hv
  have HX := Lib.hid hx
  have hfb := (mayH_all hm0).1
  have HFB := Lib.hid hfb
  have hb : ¬ Cl.bg d.f s.p.n a = 0 := by
    unfold headE at he
    rw [if_neg (by rw [hm0]; decide)] at he
    split at he
    · omega
    · next h => exact fun e => h (.inl e)
  have hw := may0_word hm0 hb
  have HA := Lib.hid (And.intro hw.2.1 (show a < 16 + (s.w.n : Int) by omega))
  have HMB : Hid (Ar.mayB s.w.n = true) := Lib.hid (by
    unfold firstB wordsB at hfb
    simp only [Bool.and_eq_true, decide_eq_true_eq] at hfb
    exact Ar.mayB_iff.2 hfb.1)
  clear hp hz hf he hv hx hm0 hfb hb hw
  go_enter Tryz.func94, Tryz.ntmps94
  go_wp2_with fail
  obtain ⟨W1, hW1⟩ : ∃ W1, W1 = ((w.alloc (.cells #[.slice s.w.a s.w.n s.w.c, .slice s.p.a s.p.n s.p.c, .slice (s.u 0).a (s.u 0).n (s.u 0).c, .slice (s.u 1).a (s.u 1).n (s.u 1).c, .slice (s.u 2).a (s.u 2).n (s.u 2).c, .slice s.c.a s.c.n s.c.c] 28)).alloc (.cells #[.bool true, .bool o, .bool e, .int .i64 N, .int .i64 b, .int .i64 m] 53)).alloc (.cells #[.slice none 0 0, .slice none 0 0, .slice none 0 0, .slice none 0 0, .slice none 0 0, .slice none 0 0] 28) := ⟨_, rfl⟩
  have S1 := Lib.hid (st_start (u := true) HP.out hW1)
  rw [← hW1]
  clear hW1
  refine (phead_any s d a W1 S1.out.hp (HZ.out.over S1.out.bel hz0) HF.out).mono ?_
  rw [HE.out, HV.out]
  rintro e9 w1 ⟨rfl, hb1⟩
  have S2 := Lib.hid (S1.out.next hb1)
  have S3 := Lib.hid (S2.out.next ((Below.refl w1.heap.size w1).alloc (Nat.le_refl _) (.cells #[.bool true, .bool o', .bool e', .int .i64 N, .int .i64 b', .int .i64 m'] 53)))
  have W3 := Lib.hid (X6.new w1 true o' e' N b' m' 53)
  have x0 := S3.out.xb.c0
  have x1 := S3.out.xb.c1
  have x2 := S3.out.xb.c2
  have x3 := S3.out.xb.c3
  have x4 := S3.out.xb.c4
  have x5 := S3.out.xb.c5
  have xl := S3.out.xb.lt
  clear hb1 S1 S2
  go_wp2_with fail
  refine (Hd.pack_yes _ _ _ _ _ _ _ HX.out).mono ?_
  rintro e9 w3 ⟨rfl, hb3⟩
  have S9 := Lib.hid (S3.out.next hb3)
  have W9 := Lib.hid (W3.out.next hb3)
  clear hb3 S3 W3 x0 x1 x2 x3 x4 x5 xl
  have r0 := S9.out.xb.c0
  have r3 := S9.out.xb.c3
  have rl := S9.out.xb.lt
  have v3 := W9.out.c3
  have vl := W9.out.lt
  have dn : (N != N) = false := by simp
  have q0 := S9.out.hb.c0
  have q1 := S9.out.hb.c1
  have q2 := S9.out.hb.c2
  have q3 := S9.out.hb.c3
  have q4 := S9.out.hb.c4
  have q5 := S9.out.hb.c5
  have ql := S9.out.hb.lt
  go_wp2_with fail
  refine (hcopied_any s d w3 S9.out.hp HF.out HFB.out).mono ?_
  rintro e9 w4 ⟨t, rfl, ht, hl, hn, hb4⟩
  have bo := HBox.new w4 t 28
  have bf : ∀ j, (w4.alloc (.cells #[.slice t.w.a t.w.n t.w.c, .slice t.p.a t.p.n t.p.c, .slice (t.u 0).a (t.u 0).n (t.u 0).c, .slice (t.u 1).a (t.u 1).n (t.u 1).c, .slice (t.u 2).a (t.u 2).n (t.u 2).c, .slice t.c.a t.c.n t.c.c] 28)).frozen? ⟨w4.heap.size, j, none⟩ = false := fun j => by simp [go_sem]
  have S4 := Lib.hid (S9.out.next hb4)
  have T4 := Lib.hid (And.intro ht (And.intro hl (And.intro hn hb4)))
  have S5 := Lib.hid (S4.out.next ((Below.refl w4.heap.size w4).alloc (Nat.le_refl _) (.cells #[.slice t.w.a t.w.n t.w.c, .slice t.p.a t.p.n t.p.c, .slice (t.u 0).a (t.u 0).n (t.u 0).c, .slice (t.u 1).a (t.u 1).n (t.u 1).c, .slice (t.u 2).a (t.u 2).n (t.u 2).c, .slice t.c.a t.c.n t.c.c] 28)))
  have B5 := Lib.hid (And.intro bo bf)
  clear ht hl hn hb4 bo bf r0 r3 rl v3 vl dn q0 q1 q2 q3 q4 q5 ql
  have q0 := S5.out.hb.c0
  have ql := S5.out.hb.lt
  go_wp2_with fail
  clear q0 ql
  obtain ⟨ob, hob⟩ : ∃ ob, ob = ((.cells #[.slice t.w.a t.w.n t.w.c, .slice t.p.a t.p.n t.p.c, .slice (t.u 0).a (t.u 0).n (t.u 0).c, .slice (t.u 1).a (t.u 1).n (t.u 1).c, .slice (t.u 2).a (t.u 2).n (t.u 2).c, .slice t.c.a t.c.n t.c.c] 28) : Obj) := ⟨_, rfl⟩
  rw [← hob] at B5 S5 ⊢
  refine (Ar.put_ok w.heap.size s.w.a s.w.n s.w.c d.ws a (Hd.word true o e N b m) (w4.alloc ob) HMB.out HA.out.1 HA.out.2 (HP.out.words.below S5.out.bel)).mono ?_
  rintro e9 w5 ⟨g, c, rfl, hm5, hb5⟩
  have M5 := Lib.hid (And.intro hm5 hb5)
  have S6 := Lib.hid (S5.out.next hb5)
  have c0 := (B5.out.1.next hb5).c0
  have c1 := (B5.out.1.next hb5).c1
  have c2 := (B5.out.1.next hb5).c2
  have c3 := (B5.out.1.next hb5).c3
  have c4 := (B5.out.1.next hb5).c4
  have c5 := (B5.out.1.next hb5).c5
  have cl := (B5.out.1.next hb5).lt
  have cf := (hb5.frozen (p := ⟨w4.heap.size, 0, none⟩) B5.out.1.lt).trans (B5.out.2 0)
  have hne : ¬ w.heap.size + 2 = w4.heap.size := by have h1 := S4.out.rb.box.lt; omega
  have R6 : Hid (Box6 (w5.setCell ⟨w4.heap.size, 0, none⟩ (.slice (some ⟨g, 0, none⟩) s.w.n c)) (w.heap.size + 2) noHs) := Lib.hid (S6.out.rb.same (Below.heap_setCell _ _ _ _ hne) (by simp [World.setCell]))
  have y0 := S6.out.rb.free 0
  have y1 := S6.out.rb.free 1
  have y2 := S6.out.rb.free 2
  have y3 := S6.out.rb.free 3
  have y4 := S6.out.rb.free 4
  have y5 := S6.out.rb.free 5
  have x0 := S6.out.rb.box.c0
  have x1 := S6.out.rb.box.c1
  have x2 := S6.out.rb.box.c2
  have x3 := S6.out.rb.box.c3
  have x4 := S6.out.rb.box.c4
  have x5 := S6.out.rb.box.c5
  have xl := S6.out.rb.box.lt
  dsimp only [noHs, Ls.noSl] at x0 x1 x2 x3 x4 x5
  clear hm5 hb5
  go_wp2
  refine bodyPost_ret (v := .tuple #[(.agg #[.slice (⟨⟨some ⟨g, 0, none⟩, s.w.n, c⟩, t.p, t.u, t.c⟩ : Hs).w.a (⟨⟨some ⟨g, 0, none⟩, s.w.n, c⟩, t.p, t.u, t.c⟩ : Hs).w.n (⟨⟨some ⟨g, 0, none⟩, s.w.n, c⟩, t.p, t.u, t.c⟩ : Hs).w.c, .slice (⟨⟨some ⟨g, 0, none⟩, s.w.n, c⟩, t.p, t.u, t.c⟩ : Hs).p.a (⟨⟨some ⟨g, 0, none⟩, s.w.n, c⟩, t.p, t.u, t.c⟩ : Hs).p.n (⟨⟨some ⟨g, 0, none⟩, s.w.n, c⟩, t.p, t.u, t.c⟩ : Hs).p.c, .slice ((⟨⟨some ⟨g, 0, none⟩, s.w.n, c⟩, t.p, t.u, t.c⟩ : Hs).u 0).a ((⟨⟨some ⟨g, 0, none⟩, s.w.n, c⟩, t.p, t.u, t.c⟩ : Hs).u 0).n ((⟨⟨some ⟨g, 0, none⟩, s.w.n, c⟩, t.p, t.u, t.c⟩ : Hs).u 0).c, .slice ((⟨⟨some ⟨g, 0, none⟩, s.w.n, c⟩, t.p, t.u, t.c⟩ : Hs).u 1).a ((⟨⟨some ⟨g, 0, none⟩, s.w.n, c⟩, t.p, t.u, t.c⟩ : Hs).u 1).n ((⟨⟨some ⟨g, 0, none⟩, s.w.n, c⟩, t.p, t.u, t.c⟩ : Hs).u 1).c, .slice ((⟨⟨some ⟨g, 0, none⟩, s.w.n, c⟩, t.p, t.u, t.c⟩ : Hs).u 2).a ((⟨⟨some ⟨g, 0, none⟩, s.w.n, c⟩, t.p, t.u, t.c⟩ : Hs).u 2).n ((⟨⟨some ⟨g, 0, none⟩, s.w.n, c⟩, t.p, t.u, t.c⟩ : Hs).u 2).c, .slice (⟨⟨some ⟨g, 0, none⟩, s.w.n, c⟩, t.p, t.u, t.c⟩ : Hs).c.a (⟨⟨some ⟨g, 0, none⟩, s.w.n, c⟩, t.p, t.u, t.c⟩ : Hs).c.n (⟨⟨some ⟨g, 0, none⟩, s.w.n, c⟩, t.p, t.u, t.c⟩ : Hs).c.c]), .int .i64 0]) ?_ rfl (set_ok_end S9.out T4.out.1 T4.out.2.1 T4.out.2.2.1 T4.out.2.2.2 M5.out.1 M5.out.2 rfl rfl)
  obtain ⟨k0, k1, k2, k3, k4, k5⟩ := put6_at R6.out (.slice (some ⟨g, 0, none⟩) s.w.n c) (.slice t.p.a t.p.n t.p.c) (.slice (t.u 0).a (t.u 0).n (t.u 0).c) (.slice (t.u 1).a (t.u 1).n (t.u 1).c) (.slice (t.u 2).a (t.u 2).n (t.u 2).c) (.slice t.c.a t.c.n t.c.c)
  exact res_set rfl rfl k0 k1 k2 k3 k4 k5
end
end Go.Proofs.YtccjelpfmkbmiaaGreatDoor
end
