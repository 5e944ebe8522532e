/-
  Merged texts: HpObj, HpWholeP, HpCp, HpSetP, ShP, HpIns, HpLess, HpWords, Zero, AlTakeP, AlTake, AlBase, ShKs, MuRow, MuTell, MuDone, MuP, MuField, FrHeap.
-/
import Derived.Test.YtfjhhfncapmnmaaGreatDoorHpRF
import Derived.Test.YtfjhhfncapmnmaaGreatDoorHpRD
import Derived.Test.YtfjhhfncapmnmaaGreatDoorCards
import Derived.Test.YtfjhhfncapmnmaaGreatDoorTie
import Derived.Deep.SlicePairs
import Derived.Deep.Slices
import Derived.Deep.Fields
import Derived.ProofKit
import Derived.OpenShut
import Derived.ShutString
import Derived.ChangeOld
import Derived.LaidMore
import Derived.Lib.LaidTab
import Derived.Stop.Joined
import Derived.SevenTiedAt
import Derived.Laws.IdiomArrays
import Derived.Test.YtfjhhfncapmnmaaGreatDoorHpRA
import Derived.Test.YtfjhhfncapmnmaaGreatDoorHpRB
import Derived.Deep.MidRow
import Derived.Test.YtfjhhfncapmnmaaGreatDoorRRtObj
import Derived.Deep.RegionHeld3
section
namespace Go.Proofs.YtfjhhfncapmnmaaGreatDoor
open Go.RowKit
set_option maxRecDepth 100000

theorem used_fits {d : Hd_} {n : Nat} {a : Int} (hb : ¬ Cl.bg d.f n a = 0) (hc : cellAt d a = true) (hu : wd d a % 2 = 1) : 1 ≤ nOf (wd d a) ∧ nOf (wd d a) < Cl.bg d.f n a := by
  have hp := (page_of (mem_allS.2 hb)).2.2
  have hw := (word_used hc).1
  have e : Cl.bg d.f n a = Cl.pg (pgAt d a) a := by
    unfold Cl.bg at hb ⊢
    split at hb
    · next h => rw [if_pos h]; rfl
    · exact absurd rfl hb
  rw [e] at hb ⊢
  clear e
  unfold cellAt cellB at hc
  rw [show d.ws.getD (a - 16).toNat 0 = wd d a from rfl, show d.f (a / 16 - 1).toNat = pgAt d a from rfl, if_pos ⟨hw, hu⟩] at hc
  generalize nOf (wd d a) = k at hc ⊢
  generalize pgAt d a = p at hc hp hb ⊢
  obtain ⟨p1, p2⟩ := p
  simp only at hc hp hb ⊢
  have h2 := (Bool.and_eq_true _ _ ▸ hc : _ ∧ _)
  have hk : 1 ≤ k ∧ k ≤ 63 := by
    have h3 : Cl.classErr k = 0 := by simpa using h2.1
    unfold Cl.classErr at h3
    split at h3
    · omega
    · split at h3 <;> omega
  have h4 := h2.2
  clear hc h2
  rcases hp with ⟨rfl, g0, g1⟩ | ⟨rfl, g0, g1⟩
  · rw [if_pos rfl] at h4
    have h5 : Cl.classOf k = p2 := by simpa using h4
    have e : Cl.pg (1, p2) a = Cl.wordsOf p2 := by
      unfold Cl.pg at hb ⊢
      simp only at hb ⊢
      split at hb
      · next h => omega
      · next h =>
        rw [if_neg h]
        split at hb
        · next h' => rw [if_pos h']
        · exact absurd rfl hb
    rw [e]
    refine ⟨hk.1, ?_⟩
    unfold Cl.classOf at h5
    split at h5
    · omega
    · split at h5
      · subst h5; simp [Cl.wordsOf]; omega
      · split at h5
        · subst h5; simp [Cl.wordsOf]; omega
        · split at h5
          · subst h5; simp [Cl.wordsOf]; omega
          · omega
  · rw [if_neg (by decide)] at h4
    have h5 := (Bool.and_eq_true _ _ ▸ h4 : _ ∧ _)
    have h6 : Cl.runErr k = 0 := by simpa using h5.1
    have h7 : Cl.runOf k = p2 := by simpa using h5.2
    have e : Cl.pg (2, p2) a = 16 * p2 := by
      unfold Cl.pg at hb ⊢
      simp only at hb ⊢
      split at hb
      · next h => rw [if_pos h]
      · split at hb
        · next h => omega
        · exact absurd rfl hb
    rw [e]
    refine ⟨hk.1, ?_⟩
    unfold Cl.runErr at h6
    unfold Cl.runOf at h7
    split at h7
    · split at h6
      · omega
      · split at h6
        · omega
        · split at h6 <;> omega
    · split at h7
      · omega
      · split at h7
        · omega
        · split at h7 <;> omega
/-- Head tells of an object just where one is used. -/
theorem used_head {s : Hs} {d : Hd_} (hm : mayB0 s d = true) (a : Int) :
    (a ∈ usedL s d ∧ headE s d a = 0 ∧ (∃ o e b m, headV s d a = .agg #[.bool true, .bool o, .bool e, .int .i64 (nOf (wd d a)), .int .i64 b, .int .i64 m]) ∧ 1 ≤ nOf (wd d a) ∧ nOf (wd d a) < Cl.bg d.f s.p.n a) ∨ (¬ a ∈ usedL s d ∧ headE s d a = 3) := by
  have hmem : a ∈ usedL s d ↔ (¬ Cl.bg d.f s.p.n a = 0 ∧ wd d a % 2 = 1) := by
    unfold usedL usedF
    rw [if_pos hm, List.mem_filter, mem_allS, decide_eq_true_iff]
  have hE : headE s d a = if Cl.bg d.f s.p.n a = 0 ∨ wd d a = 0 then 3 else 0 := by
    unfold headE
    rw [if_neg (by rw [hm]; decide)]
  by_cases hb : Cl.bg d.f s.p.n a = 0
  · exact Or.inr ⟨fun h => (hmem.1 h).1 hb, by rw [hE, if_pos (Or.inl hb)]⟩
  · have hc := List.all_eq_true.1 (mayH_all hm).2.1 a (mem_allS.2 hb)
    obtain ⟨hw, h0⟩ := word_used hc
    by_cases hu : wd d a % 2 = 1
    · have hE0 : headE s d a = 0 := by rw [hE, if_neg (by omega)]
      have e2 : headV s d a = .agg #[.bool true, .bool (decide (wd d a / 2 % 2 = 1)), .bool (decide (wd d a / 4 % 2 = 1)), .int .i64 (nOf (wd d a)), .int .i64 (wd d a / 1024 % 4194304), .int .i64 (wd d a / 4294967296)] := by
        unfold headV
        rw [if_pos hE0, headOf_yes hw, show decide (wd d a % 2 = 1) = true from decide_eq_true hu]
      exact Or.inl ⟨hmem.2 ⟨hb, hu⟩, hE0, ⟨_, _, _, _, e2⟩, used_fits hb hc hu⟩
    · exact Or.inr ⟨fun h => hu (hmem.1 h).2, by rw [hE, if_pos (Or.inr (h0 hu).2)]⟩
theorem used_in {s : Hs} {d : Hd_} {a : Int} (h : a ∈ usedL s d) : 16 ≤ a ∧ a < 16 + (s.w.n : Int) := by
  unfold usedL usedF at h
  split at h
  · next hm =>
    have hb := mem_allS.1 (List.mem_filter.1 h).1
    have := may0_word hm hb
    omega
  · simp at h
/-- A walk through rising numbers: n of them are behind. -/
structure Upon (xs : List Int) (k : Nat) (t : Int) : Prop where
  le : k ≤ xs.length
  lo : ∀ i, i < k → xs.getD i 0 < t
  hi : ∀ i, k ≤ i → i < xs.length → t ≤ xs.getD i 0
theorem Upon.no {xs : List Int} {k : Nat} {t : Int} (h : Upon xs k t) (hn : ¬ t ∈ xs) : Upon xs k (t + 1) := ⟨h.le, fun i hi => by have := h.lo i hi; omega, fun i h1 h2 => by
  have h3 := h.hi i h1 h2
  have h4 : ¬ xs.getD i 0 = t := fun e => hn (e ▸ getD_mem h2)
  omega⟩
theorem Upon.yes {xs : List Int} {k : Nat} {t : Int} (h : Upon xs k t) (hr : xs.Pairwise (· < ·)) (hn : t ∈ xs) : k < xs.length ∧ xs.getD k 0 = t ∧ Upon xs (k + 1) (t + 1) := by
  obtain ⟨i, hi, e⟩ := List.mem_iff_getElem.1 hn
  have e' : xs.getD i 0 = t := by simp [List.getD, hi, e]
  have hki : k ≤ i := Nat.le_of_not_lt fun hlt => by have := h.lo i hlt; omega
  have hk : k < xs.length := by omega
  have hrise : ∀ p q, p < q → q < xs.length → xs.getD p 0 < xs.getD q 0 := fun p q hpq hq => by
    have := List.pairwise_iff_getElem.1 hr p q (by omega) hq hpq
    simpa [List.getD, hq, show p < xs.length by omega] using this
  have hk2 := h.hi k (Nat.le_refl _) hk
  have hik : i = k := by
    by_cases e2 : i = k
    · exact e2
    · have := hrise k i (by omega) hi
      omega
  subst hik
  exact ⟨hi, e', hi, fun j hj => by
    by_cases e2 : j = i
    · subst e2; omega
    · have := h.lo j (by omega); omega, fun j h1 h2 => by
    have := hrise i j (by omega) h2
    omega⟩
theorem Upon.all {xs : List Int} {k : Nat} {t : Int} (h : Upon xs k t) (ht : ∀ x ∈ xs, x < t) : k = xs.length := by
  have := h.le
  by_cases e : k = xs.length
  · exact e
  · have h1 := h.hi k (Nat.le_refl _) (by omega)
    have h2 := ht _ (getD_mem (show k < xs.length by omega))
    omega
end Go.Proofs.YtfjhhfncapmnmaaGreatDoor
end
section
namespace Go.Proofs.YtfjhhfncapmnmaaGreatDoor
open Go.RowKit Go.Sort
set_option maxRecDepth 100000

/-- Is a heap whole, with caches? -/
def wholeH (s : Hs) (d : Hd_) (m : Nat) (F : Nat → Nat → List Int) : Bool := mayH s d m F && (Cl.allS d.f s.p.n).all fun a => !(wd d a == 0) || decide (a ∈ Ls.allOf (ahead d.F F) (1 + m))
section
variable (n₀ bf : Nat) (ys : List Int) (d : Hd_) (M : Nat → Prop) (pre pre' : List Int) (a x : Int) (p : Int × Int) (W : World)
end
theorem own_less' {w : World} {b b' n : Nat} {v : Value} {xs : List Value} (h : w.ownsRow b 3 1 v n xs) (hb : b' ≤ b) : w.ownsRow b' 3 1 v n xs :=
  ⟨h.1, h.2.imp id fun ⟨g, cap, cur, e, hg, r⟩ => ⟨g, cap, cur, e, Nat.le_trans hb hg, r⟩⟩
section
variable (s : Hs) (d : Hd_) (A : Option Addr) (m c : Nat) (U : Nat → Nat → Ls.Sl) (F : Nat → Nat → List Int) (w : World)
end
end Go.Proofs.YtfjhhfncapmnmaaGreatDoor
end
section
namespace Go.Proofs.YtfjhhfncapmnmaaGreatDoor
open Go.RowKit
set_option maxRecDepth 100000

/-- A box of six cells that are not frozen. -/
structure Box6 (W : World) (b : Nat) (t : Hs) : Prop where
  box : HBox W b t
  free : ∀ j, W.frozen? ⟨b, j, none⟩ = false
/-- Of such a heap's slices none lies in the two boxes. -/
def Off (b : Nat) (v : Ls.Sl) : Prop := 0 < v.n → ∀ x, v.a = some x → ¬ x.block = b ∧ ¬ x.block = b + 1
/-- A slice in new memory. -/
def New (b : Nat) (v : Ls.Sl) : Prop := 0 < v.n → ∀ x, v.a = some x → b ≤ x.block
/-- A heap that is being copied: what the box holds so far. -/
structure Cp (w W : World) (t : Hs) (d : Hd_) : Prop where
  bel : Below w.heap.size w W
  hp : Hp W W.heap.size t d
  ow : Off w.heap.size t.w
  op : Off w.heap.size t.p
  ou : ∀ j, j < 3 → Off w.heap.size (t.u j)
  oc : Off w.heap.size t.c
  box : Box6 W w.heap.size t
  res : Box6 W (w.heap.size + 1) noHs
theorem Box6.next {W W' : World} {b : Nat} {t : Hs} (h : Box6 W b t) (hb : Below W.heap.size W W') : Box6 W' b t := ⟨h.box.next hb, fun j => (hb.frozen (p := ⟨b, j, none⟩) h.box.lt).trans (h.free j)⟩
theorem Box6.same {W W' : World} {b : Nat} {t : Hs} (h : Box6 W b t) (hs : W'.heap[b]? = W.heap[b]?) (hl : W.heap.size ≤ W'.heap.size) : Box6 W' b t :=
  ⟨⟨(World.cell?_of_block (a := ⟨b, 0, none⟩) hs).trans h.box.c0, (World.cell?_of_block (a := ⟨b, 1, none⟩) hs).trans h.box.c1, (World.cell?_of_block (a := ⟨b, 2, none⟩) hs).trans h.box.c2, (World.cell?_of_block (a := ⟨b, 3, none⟩) hs).trans h.box.c3, (World.cell?_of_block (a := ⟨b, 4, none⟩) hs).trans h.box.c4, (World.cell?_of_block (a := ⟨b, 5, none⟩) hs).trans h.box.c5, Nat.lt_of_lt_of_le h.box.lt hl⟩,
   fun j => (World.frozen?_of_block (a := ⟨b, j, none⟩) hs).trans (h.free j)⟩
theorem Cp.next {w W W' : World} {t : Hs} {d : Hd_} (h : Cp w W t d) (hb : Below W.heap.size W W') : Cp w W' t d :=
  ⟨h.bel.trans (hb.mono h.bel.size), h.hp.next hb, h.ow, h.op, h.ou, h.oc, h.box.next hb, h.res.next hb⟩
/-- All slices stand where only the first box is turned. -/
theorem hp_off {W W' : World} {b : Nat} {t : Hs} {d : Hd_} (h : Hp W W.heap.size t d) (ow : Off b t.w) (op : Off b t.p) (ou : ∀ j, j < 3 → Off b (t.u j)) (oc : Off b t.c) (hs : ∀ k, ¬ k = b → ¬ k = b + 1 → W'.heap[k]? = W.heap[k]?) (hl : W.heap.size = W'.heap.size) : Hp W' W'.heap.size t d := by
  rw [← hl]
  refine ⟨row_same h.words fun hn x hx => hs _ (ow hn x hx).1 (ow hn x hx).2, fun hn => ?_, fun j hj => ⟨row_same (h.free j hj).1 fun hn x hx => hs _ (ou j hj hn x hx).1 (ou j hj hn x hx).2, (h.free j hj).2⟩, fun hn => ?_⟩
  · obtain ⟨b', off, e, hlt, hc⟩ := h.pages hn
    refine ⟨b', off, e, hlt, fun i hi => ?_⟩
    have hb' := hs b' (op hn _ e).1 (op hn _ e).2
    exact ⟨(World.cell?_of_block (a := ⟨b', off + i * 2, none⟩) hb').trans (hc i hi).1, (World.cell?_of_block (a := ⟨b', off + i * 2 + 1, none⟩) hb').trans (hc i hi).2⟩
  · obtain ⟨b', off, e, hlt, hc⟩ := h.cards hn
    refine ⟨b', off, e, hlt, fun i hi => ?_⟩
    exact (World.cell?_of_block (a := ⟨b', off + i, none⟩) (hs b' (oc hn _ e).1 (oc hn _ e).2)).trans (hc i hi)
theorem frozen_set {W : World} {b k : Nat} {v : Value} (h : ∀ j, W.frozen? ⟨b, j, none⟩ = false) : ∀ j, (W.setCell ⟨b, k, none⟩ v).frozen? ⟨b, j, none⟩ = false := fun j => by rw [World.frozen?_setCell]; exact h j
theorem cell_set {W : World} {b k j : Nat} {v x y : Value} (h : W.cell? ⟨b, j, none⟩ = some x) (hy : y = if j = k then v else x) : (W.setCell ⟨b, k, none⟩ v).cell? ⟨b, j, none⟩ = some y := by
  subst hy
  by_cases e : j = k
  · subst e
    rw [if_pos rfl]
    exact World.cell?_setCell_same' _ _ _ (by rw [h]; rfl)
  · rw [if_neg e, World.cell?_setCell_other _ _ _ _ (by intro hh; simp only [Addr.mk.injEq, true_and, and_true] at hh; omega)]
    exact h
/-- One cell of the box is turned: the heap with that slice in the place of the old one. -/
theorem Cp.set {w W : World} {t t' : Hs} {d : Hd_} (h : Cp w W t d) (k : Nat) (v : Value) (hp : Hp W W.heap.size t' d) (ow : Off w.heap.size t'.w) (op : Off w.heap.size t'.p) (ou : ∀ j, j < 3 → Off w.heap.size (t'.u j)) (oc : Off w.heap.size t'.c)
    (e0 : Value.slice t'.w.a t'.w.n t'.w.c = if 0 = k then v else .slice t.w.a t.w.n t.w.c) (e1 : Value.slice t'.p.a t'.p.n t'.p.c = if 1 = k then v else .slice t.p.a t.p.n t.p.c)
    (e2 : Value.slice (t'.u 0).a (t'.u 0).n (t'.u 0).c = if 2 = k then v else .slice (t.u 0).a (t.u 0).n (t.u 0).c) (e3 : Value.slice (t'.u 1).a (t'.u 1).n (t'.u 1).c = if 3 = k then v else .slice (t.u 1).a (t.u 1).n (t.u 1).c)
    (e4 : Value.slice (t'.u 2).a (t'.u 2).n (t'.u 2).c = if 4 = k then v else .slice (t.u 2).a (t.u 2).n (t.u 2).c) (e5 : Value.slice t'.c.a t'.c.n t'.c.c = if 5 = k then v else .slice t.c.a t.c.n t.c.c) :
    Cp w (W.setCell ⟨w.heap.size, k, none⟩ v) t' d := by
  have hsz : W.heap.size = (W.setCell ⟨w.heap.size, k, none⟩ v).heap.size := by simp [World.setCell]
  have hoth : ∀ j, ¬ j = w.heap.size → (W.setCell ⟨w.heap.size, k, none⟩ v).heap[j]? = W.heap[j]? := fun j hj => Below.heap_setCell _ _ _ _ hj
  exact ⟨h.bel.setCell (Nat.le_refl _) _, hp_off hp ow op ou oc (fun j hj _ => hoth j hj) hsz, ow, op, ou, oc,
    ⟨⟨cell_set h.box.box.c0 e0, cell_set h.box.box.c1 e1, cell_set h.box.box.c2 e2, cell_set h.box.box.c3 e3, cell_set h.box.box.c4 e4, cell_set h.box.box.c5 e5, by rw [← hsz]; exact h.box.box.lt⟩, frozen_set h.box.free⟩,
    h.res.same (hoth _ (by omega)) (Nat.le_of_eq hsz)⟩
theorem Cp.drew {w W : World} {t : Hs} {d : Hd_} (h : Cp w W t d) : Cp w W.drew t d := h.next (below_drawn' (Below.refl _ _) 1)
/-- A slice that a call made, as a row, and apart from the boxes. -/
theorem own_off {b base : Nat} {W : World} {v : Ls.Sl} {xs : List Int} (ho : W.ownsRow base 3 1 (.slice v.a v.n v.c) v.n (xs.map (Value.int .i64))) (hb : b + 2 ≤ base) : Row W W.heap.size v.a v.n xs ∧ v.n ≤ v.c ∧ v.c ≤ maxLen ∧ Off b v ∧ New b v := by
  obtain ⟨a, c, e, hr, h1, h2⟩ := Ls.owns_row ho
  simp only [Value.slice.injEq, true_and] at e
  obtain ⟨rfl, rfl⟩ := e
  refine ⟨hr, h1, h2, fun _ x hx => ?_, fun _ x hx => ?_⟩
  · have := (ho.lt x.block (by rw [Ls.ownBlock_slice, hx]; rfl)).1
    exact ⟨by omega, by omega⟩
  · have := (ho.lt x.block (by rw [Ls.ownBlock_slice, hx]; rfl)).1
    omega
/-- What copied leaves: the same heap, in memory of its own. -/
structure News (b : Nat) (t : Hs) : Prop where
  w : New b t.w
  p : New b t.p
  u : ∀ j, j < 3 → New b (t.u j)
  c : New b t.c
/-- A heap in new memory stands where nothing of that is turned. -/
theorem News.kept {b : Nat} {t : Hs} {d : Hd_} {W W' : World} (hn : News b t) (h : Hp W W.heap.size t d) (hs : ∀ k, b ≤ k → k < W.heap.size → W'.heap[k]? = W.heap[k]?) (hl : W.heap.size ≤ W'.heap.size) : Hp W' W'.heap.size t d := by
  refine Hp.more ?_ hl
  refine ⟨row_same h.words fun h0 x hx => ?_, fun h0 => ?_, fun j hj => ⟨row_same (h.free j hj).1 fun h0 x hx => ?_, (h.free j hj).2⟩, fun h0 => ?_⟩
  · obtain ⟨b', off, e, hlt, _⟩ := h.words.2 h0
    rw [hx] at e
    cases e
    exact hs _ (hn.w h0 _ hx) hlt
  · obtain ⟨b', off, e, hlt, hc⟩ := h.pages h0
    have hb' := hs b' (hn.p h0 _ e) hlt
    exact ⟨b', off, e, hlt, fun i hi => ⟨(World.cell?_of_block (a := ⟨b', off + i * 2, none⟩) hb').trans (hc i hi).1, (World.cell?_of_block (a := ⟨b', off + i * 2 + 1, none⟩) hb').trans (hc i hi).2⟩⟩
  · obtain ⟨b', off, e, hlt, _⟩ := (h.free j hj).1.2 h0
    rw [hx] at e
    cases e
    exact hs _ (hn.u j hj h0 _ hx) hlt
  · obtain ⟨b', off, e, hlt, hc⟩ := h.cards h0
    exact ⟨b', off, e, hlt, fun i hi => (World.cell?_of_block (a := ⟨b', off + i, none⟩) (hs b' (hn.c h0 _ e) hlt)).trans (hc i hi)⟩
/-- Words, pages and cards are turned at once. -/
theorem Cp.three {w W : World} {s t : Hs} {d : Hd_} (h : Cp w W s d) (hp : Hp W W.heap.size t d) (ow : Off w.heap.size t.w) (op : Off w.heap.size t.p) (oc : Off w.heap.size t.c) (eu : t.u = s.u) :
    Cp w (((W.setCell ⟨w.heap.size, 0, none⟩ (.slice t.w.a t.w.n t.w.c)).setCell ⟨w.heap.size, 1, none⟩ (.slice t.p.a t.p.n t.p.c)).setCell ⟨w.heap.size, 5, none⟩ (.slice t.c.a t.c.n t.c.c)) t d := by
  have hsz : W.heap.size = (((W.setCell ⟨w.heap.size, 0, none⟩ (.slice t.w.a t.w.n t.w.c)).setCell ⟨w.heap.size, 1, none⟩ (.slice t.p.a t.p.n t.p.c)).setCell ⟨w.heap.size, 5, none⟩ (.slice t.c.a t.c.n t.c.c)).heap.size := by simp [World.setCell]
  have hoth : ∀ j, ¬ j = w.heap.size → (((W.setCell ⟨w.heap.size, 0, none⟩ (.slice t.w.a t.w.n t.w.c)).setCell ⟨w.heap.size, 1, none⟩ (.slice t.p.a t.p.n t.p.c)).setCell ⟨w.heap.size, 5, none⟩ (.slice t.c.a t.c.n t.c.c)).heap[j]? = W.heap[j]? := fun j hj => (Below.heap_setCell _ _ _ _ hj).trans ((Below.heap_setCell _ _ _ _ hj).trans (Below.heap_setCell _ _ _ _ hj))
  have ou : ∀ j, j < 3 → Off w.heap.size (t.u j) := by rw [eu]; exact h.ou
  refine ⟨((h.bel.setCell (p := ⟨w.heap.size, 0, none⟩) (Nat.le_refl _) _).setCell (p := ⟨w.heap.size, 1, none⟩) (Nat.le_refl _) _).setCell (p := ⟨w.heap.size, 5, none⟩) (Nat.le_refl _) _, hp_off hp ow op ou oc (fun j hj _ => hoth j hj) hsz, ow, op, ou, oc,
    ⟨⟨?_, ?_, ?_, ?_, ?_, ?_, by rw [← hsz]; exact h.box.box.lt⟩, frozen_set (frozen_set (frozen_set h.box.free))⟩, h.res.same (hoth _ (by omega)) (Nat.le_of_eq hsz)⟩
  · exact cell_set (cell_set (cell_set h.box.box.c0 rfl) rfl) rfl
  · exact cell_set (cell_set (cell_set h.box.box.c1 rfl) rfl) rfl
  · rw [eu]; exact cell_set (cell_set (cell_set h.box.box.c2 rfl) rfl) rfl
  · rw [eu]; exact cell_set (cell_set (cell_set h.box.box.c3 rfl) rfl) rfl
  · rw [eu]; exact cell_set (cell_set (cell_set h.box.box.c4 rfl) rfl) rfl
  · exact cell_set (cell_set (cell_set h.box.box.c5 rfl) rfl) rfl
/-- One of the lists is turned. -/
theorem Cp.list {w W : World} {t : Hs} {d : Hd_} (h : Cp w W t d) {k : Nat} (hk : k < 3) (v : Ls.Sl) (hr : Row W W.heap.size v.a v.n (d.F k)) (h1 : v.n ≤ v.c) (h2 : v.c ≤ maxLen) (ho : Off w.heap.size v) :
    Cp w (W.setCell ⟨w.heap.size, 2 + k, none⟩ (.slice v.a v.n v.c)) ⟨t.w, t.p, Ls.upd t.u k v, t.c⟩ d := by
  have hp : Hp W W.heap.size ⟨t.w, t.p, Ls.upd t.u k v, t.c⟩ d := ⟨h.hp.words, h.hp.pages, by
    have := h.hp.free.set k v (d.F k) hr h1 h2
    rwa [show Ls.upd d.F k (d.F k) = d.F by funext j; by_cases e : j = k <;> simp [Ls.upd, e]] at this, h.hp.cards⟩
  have ou : ∀ j, j < 3 → Off w.heap.size (Ls.upd t.u k v j) := fun j hj => by
    by_cases e : j = k
    · subst e; rw [Ls.upd_same]; exact ho
    · rw [Ls.upd_other _ _ e]; exact h.ou j hj
  refine h.set (2 + k) _ hp h.ow h.op ou h.oc ?_ ?_ ?_ ?_ ?_ ?_
  · rw [if_neg (by omega)]
  · rw [if_neg (by omega)]
  · by_cases e : k = 0
    · subst e; rfl
    · rw [if_neg (by omega)]
      dsimp only
      rw [Ls.upd_other _ _ (by omega)]
  · by_cases e : k = 1
    · subst e; rfl
    · rw [if_neg (by omega)]
      dsimp only
      rw [Ls.upd_other _ _ (by omega)]
  · by_cases e : k = 2
    · subst e; rfl
    · rw [if_neg (by omega)]
      dsimp only
      rw [Ls.upd_other _ _ (by omega)]
  · rw [if_neg (by omega)]
theorem prow_more {w : World} {B C n : Nat} {a : Option Addr} {f : Nat → Int × Int} (h : Cl.PRow w B a n f) (hB : B ≤ C) : Cl.PRow w C a n f := fun hn => by
  obtain ⟨b, off, e, hlt, hc⟩ := h hn
  exact ⟨b, off, e, Nat.lt_of_lt_of_le hlt hB, hc⟩
def Lens (s t : Hs) : Prop := t.w.n = s.w.n ∧ t.p.n = s.p.n ∧ (∀ j, j < 3 → (t.u j).n = (s.u j).n) ∧ t.c.n = s.c.n
end Go.Proofs.YtfjhhfncapmnmaaGreatDoor
end
section
namespace Go.Proofs.YtfjhhfncapmnmaaGreatDoor
open Go.RowKit
set_option maxRecDepth 100000

/-- Another head with as many fields stands at a; all else is as it was. -/
structure Turned (s t : Hs) (d d' : Hd_) (a : Int) : Prop where
  len : Lens s t
  f : d'.f = d.f
  F : d'.F = d.F
  oth : ∀ y, 16 ≤ y → ¬ y = a → wd d' y = wd d y
  w1 : Hd.isWord (wd d' a) = true ∧ wd d' a % 2 = 1
  w2 : Hd.isWord (wd d a) = true ∧ wd d a % 2 = 1
  n : nOf (wd d' a) = nOf (wd d a)
section
variable {s t : Hs} {d d' : Hd_} {a : Int}
theorem Turned.word (h : Turned s t d d' a) {y : Int} (hy : 16 ≤ y) : Hd.isWord (wd d' y) = Hd.isWord (wd d y) ∧ (wd d' y % 2 = 1 ↔ wd d y % 2 = 1) ∧ nOf (wd d' y) = nOf (wd d y) ∧ (wd d' y = 0 ↔ wd d y = 0) := by
  by_cases e : y = a
  · subst e
    have h1 := h.w1
    have h2 := h.w2
    exact ⟨h1.1.trans h2.1.symm, ⟨fun _ => h2.2, fun _ => h1.2⟩, h.n, ⟨fun e => by omega, fun e => by omega⟩⟩
  · rw [h.oth y hy e]
    exact ⟨rfl, Iff.rfl, rfl, Iff.rfl⟩
theorem Turned.cell (h : Turned s t d d' a) {y : Int} (hy : 16 ≤ y) : cellAt d' y = cellAt d y := by
  obtain ⟨h1, h2, h3, _⟩ := h.word hy
  unfold cellAt cellB
  rw [h.f, show d'.ws.getD (y - 16).toNat 0 = wd d' y from rfl, show d.ws.getD (y - 16).toNat 0 = wd d y from rfl]
  by_cases hc : Hd.isWord (wd d y) = true ∧ wd d y % 2 = 1
  · have hc' : Hd.isWord (wd d' y) = true ∧ wd d' y % 2 = 1 := ⟨h1.trans hc.1, h2.2 hc.2⟩
    rw [if_pos hc, if_pos hc', h3]
  · have hc' : ¬ (Hd.isWord (wd d' y) = true ∧ wd d' y % 2 = 1) := fun e => hc ⟨h1.symm.trans e.1, h2.1 e.2⟩
    rw [if_neg hc, if_neg hc', h1]
theorem bg_in16 {f : Nat → Int × Int} {n : Nat} {y : Int} (h : ¬ Cl.bg f n y = 0) : 16 ≤ y :=
  Classical.byContradiction fun hn => h (Cl.bg_no fun e => hn e.2.1)
theorem Turned.freeH (h : Turned s t d d' a) (n : Nat) (y c : Int) : freeH d' n y c = Go.Proofs.YtfjhhfncapmnmaaGreatDoor.freeH d n y c := by
  unfold Go.Proofs.YtfjhhfncapmnmaaGreatDoor.freeH
  rw [h.f]
  by_cases hb : Cl.bg d.f n y = 0
  · rw [if_pos hb, if_pos hb]
  · rw [if_neg hb, if_neg hb]
    have h4 := (h.word (bg_in16 hb)).2.2.2
    rw [show d'.ws.getD (y - 16).toNat 0 = wd d' y from rfl, show d.ws.getD (y - 16).toNat 0 = wd d y from rfl]
    congr 1
    rw [Bool.eq_iff_iff, beq_iff_eq, beq_iff_eq]
    exact h4
theorem Turned.may (h : Turned s t d d' a) (m : Nat) (F : Nat → Nat → List Int) : mayH t d' m F = mayH s d m F := by
  unfold mayH firstB freeAll
  rw [h.len.1, h.len.2.1, h.len.2.2.2, h.f, h.F, all_congr fun y hy => h.cell (allS_in hy).1]
  simp only [h.freeH]
theorem Turned.may0 (h : Turned s t d d' a) : mayB0 t d' = mayB0 s d := h.may 0 noCaches
theorem Turned.used (h : Turned s t d d' a) : usedL t d' = usedL s d := by
  unfold usedL usedF
  rw [h.may0, h.f, h.len.2.1]
  split
  · refine List.filter_congr fun y hy => ?_
    rw [decide_eq_decide]
    exact (h.word (allS_in hy).1).2.1
  · rfl
theorem Turned.whole (h : Turned s t d d' a) (m : Nat) (F : Nat → Nat → List Int) : wholeH t d' m F = wholeH s d m F := by
  unfold wholeH
  rw [h.may, h.f, h.F, h.len.2.1]
  congr 1
  refine all_congr fun y hy => ?_
  congr 2
  rw [Bool.eq_iff_iff, beq_iff_eq, beq_iff_eq]
  exact (h.word (allS_in hy).1).2.2.2
theorem Turned.headE (h : Turned s t d d' a) (y : Int) : headE t d' y = Go.Proofs.YtfjhhfncapmnmaaGreatDoor.headE s d y := by
  unfold Go.Proofs.YtfjhhfncapmnmaaGreatDoor.headE
  rw [h.may0, h.f, h.len.2.1]
  by_cases hm : mayB0 s d = false
  · rw [if_pos hm, if_pos hm]
  · rw [if_neg hm, if_neg hm]
    by_cases hb : Cl.bg d.f s.p.n y = 0
    · rw [if_pos (Or.inl hb), if_pos (Or.inl hb)]
    · have h4 := (h.word (bg_in16 hb)).2.2.2
      by_cases hw : wd d y = 0
      · rw [if_pos (Or.inr hw), if_pos (Or.inr (h4.2 hw))]
      · rw [if_neg (by rintro (e | e); exact hb e; exact hw (h4.1 e)), if_neg (by rintro (e | e); exact hb e; exact hw e)]
theorem Turned.headV (h : Turned s t d d' a) {y : Int} (hy : ¬ y = a) : headV t d' y = Go.Proofs.YtfjhhfncapmnmaaGreatDoor.headV s d y := by
  unfold Go.Proofs.YtfjhhfncapmnmaaGreatDoor.headV
  rw [h.headE]
  split
  · next he =>
    unfold Go.Proofs.YtfjhhfncapmnmaaGreatDoor.headE at he
    split at he
    · omega
    · split at he
      · omega
      · next hn => rw [h.oth y (bg_in16 fun e => hn (.inl e)) hy]
  · rfl
end
end Go.Proofs.YtfjhhfncapmnmaaGreatDoor
end
section
namespace Go.Proofs.YtfjhhfncapmnmaaGreatDoor.Sh
open Go.Proofs.YtfjhhfncapmnmaaGreatDoor
set_option maxRecDepth 100000

/-- The colour of a head's word. -/
def colW (x : Int) (mj : Bool) (ep : Int) : Int := if x / 2 % 2 = 1 ∧ mj = false then 0 else if x / 4294967296 < ep then 1 else if x / 4 % 2 = 1 then 3 else 2
/-- Does an object begin at a that has the colour q? -/
def isC (s : Hs) (d : Hd_) (mj : Bool) (ep a q : Int) : Bool := decide (0 ≤ ep ∧ ep ≤ 1048576) && (decide (headE s d a = 0) && decide (colW (wd d a) mj ep = q))
section
variable {s t : Hs} {d d' : Hd_} {mj : Bool} {ep a q : Int}
/-- An object that is there. -/
structure Obj_ (s : Hs) (d : Hd_) (a : Int) : Prop where
  may : mayB0 s d = true
  used : a ∈ usedL s d
  word : Hd.isWord (wd d a) = true
  odd : wd d a % 2 = 1
  val : headV s d a = .agg #[.bool true, .bool (decide (wd d a / 2 % 2 = 1)), .bool (decide (wd d a / 4 % 2 = 1)), .int .i64 (nOf (wd d a)), .int .i64 (wd d a / 1024 % 4194304), .int .i64 (wd d a / 4294967296)]
  lo : 16 ≤ a
theorem obj_of (h : headE s d a = 0) : Obj_ s d a := by
  have hm : mayB0 s d = true := by
    unfold headE at h
    cases hm : mayB0 s d
    · rw [if_pos hm] at h; omega
    · rfl
  rcases used_head hm a with ⟨h1, _, _, _, _⟩ | ⟨_, h2⟩
  · have hb : ¬ Cl.bg d.f s.p.n a = 0 ∧ wd d a % 2 = 1 := by
      unfold usedL usedF at h1
      rw [if_pos hm, List.mem_filter, mem_allS, decide_eq_true_iff] at h1
      exact h1
    have hc := List.all_eq_true.1 (mayH_all hm).2.1 a (mem_allS.2 hb.1)
    have hw := (word_used hc).1
    refine ⟨hm, h1, hw, hb.2, ?_, (used_in h1).1⟩
    unfold headV
    rw [if_pos h, headOf_yes hw, show decide (wd d a % 2 = 1) = true from decide_eq_true hb.2]
  · omega
theorem Obj_.parts (h : Obj_ s d a) : 0 ≤ nOf (wd d a) ∧ nOf (wd d a) ≤ 63 ∧ 0 ≤ wd d a / 1024 % 4194304 ∧ wd d a / 1024 % 4194304 ≤ 1048576 ∧ 0 ≤ wd d a / 4294967296 ∧ wd d a / 4294967296 ≤ 1048576 := Hd.isWord_odd h.word h.odd
theorem Obj_.fits (h : Obj_ s d a) (e : Bool) {m : Int} (h0 : 0 ≤ m) (h1 : m ≤ 1048576) : Hd.mayB true (decide (wd d a / 2 % 2 = 1)) e (nOf (wd d a)) (wd d a / 1024 % 4194304) m = true := by
  obtain ⟨p1, p2, p3, p4, _, _⟩ := h.parts
  exact (Hd.may_used_iff _ _ _ _ _).2 ⟨p1, p2, p3, p4, h0, h1⟩
/-- What a heap behind some steps has of the one ahead. -/
structure Kin (s t : Hs) (d d' : Hd_) : Prop where
  len : Lens s t
  wlen : d'.ws.length = d.ws.length
  may : mayB0 t d' = mayB0 s d
  used : usedL t d' = usedL s d
  fine : Fine s d → Fine t d'
  F : d'.F = d.F
theorem Kin.refl (s : Hs) (d : Hd_) : Kin s s d d := ⟨⟨rfl, rfl, fun _ _ => rfl, rfl⟩, rfl, rfl, rfl, id, rfl⟩
theorem lens_trans {s t u : Hs} (h : Lens s t) (g : Lens t u) : Lens s u := ⟨g.1.trans h.1, g.2.1.trans h.2.1, fun j hj => (g.2.2.1 j hj).trans (h.2.2.1 j hj), g.2.2.2.trans h.2.2.2⟩
theorem Kin.trans {u : Hs} {d2 : Hd_} (h : Kin s t d d') (g : Kin t u d' d2) : Kin s u d d2 := ⟨lens_trans h.len g.len, g.wlen.trans h.wlen, g.may.trans h.may, g.used.trans h.used, fun f => g.fine (h.fine f), g.F.trans h.F⟩
end
end Go.Proofs.YtfjhhfncapmnmaaGreatDoor.Sh
end
section
namespace Go.Proofs.YtfjhhfncapmnmaaGreatDoor
open Go.ChangeShapes Go.WideShapes Go.ChangeAt Go.RowKit Go.Deep
set_option maxRecDepth 100000

theorem own : ownKnob Tryz.prog.godebug = none := by kernel_rfl
theorem laidOut : laidOutB Tryz.prog = true := by kernel_rfl
def laidSizes : List (String × DataW Unit) := [("ragpicker/class.sizes", Rows.laid_ragpicker_class_sizes)]
theorem gSizes : Tryz.prog.globalNamed "ragpicker/class.sizes" = some 0 := by kernel_rfl
theorem tSizes : (Tryz.prog.globals[0]?).map (·.type) = some 180 := by kernel_rfl
theorem cInt : Tryz.prog.cellsOf 3 = 1 := by kernel_rfl
theorem cSizes : Tryz.prog.cellsOf 180 = 3 := by kernel_rfl
theorem of_laid {W : World} (h : laidMetH Tryz.prog laidSizes W) : Cl.Sz W := by
  rw [MakeChecks.laidMetH_plain _ _ _ (by kernel_rfl)] at h
  have hT : Lib.TabIs Tryz.prog W "ragpicker/class.sizes" .i64 [2, 4, 8] := Lib.tabIs_of_head gSizes tSizes Tryz.underlying180 Tryz.underlying3 cInt cSizes h
  exact ⟨hT.cell gSizes 0 (by decide), hT.cell gSizes 1 (by decide), hT.cell gSizes 2 (by decide)⟩
theorem door_met (os : Os) (args : Array Value) : laidMetH Tryz.prog laidSizes ((World.doorLaid Tryz.prog 400 os).forCall (fun _ _ => 0) ⟨#[], args, []⟩).memory :=
  laidMetH_of_parts3 (fuel := 8) (laidMet_of_run' 8 (by kernel_rfl) (by kernel_rfl)) (by kernel_rfl) (by kernel_rfl)

/-- How much a reading holds. -/
theorem bulk_one {H : Type} (d : DataW H) : 1 ≤ Rows.uptoBulk d := by
  cases d <;> first | (simp only [Rows.uptoBulk]; omega) | (rename_i l; cases l <;> simp [Rows.uptoBulk])
theorem bulk_long {H : Type} : ∀ l : List (DataW H), l.length ≤ Rows.uptoBulkAll l
  | [] => by simp [Rows.uptoBulkAll]
  | x :: r => by
    have h1 := bulk_one x
    have h2 := bulk_long r
    simp only [Rows.uptoBulkAll, List.length_cons]
    omega
theorem bulk_slice {H : Type} (l r : List (DataW H)) : l.length ≤ Rows.uptoBulk (.slice l r) := by
  have := bulk_long l
  simp only [Rows.uptoBulk]
  omega
theorem wf_bounds {n : Int} (h : (Lit.int .i64 n).wf = true) : -9223372036854775808 ≤ n ∧ n ≤ 9223372036854775807 := by
  simpa [Lit.wf, IntKind.min, IntKind.max, IntKind.signed, IntKind.bits] using h
def Fit64 (zs : List Int) : Prop := ∀ i, -9223372036854775808 ≤ zs.getD i 0 ∧ zs.getD i 0 ≤ 9223372036854775807
/-- A slice of numbers that comes in. -/
theorem ints_in {H : Type} {enc : TypeId × Value → H} {w : World} {base : Nat} {spare : Nat → Bool} {held : Bool} {fuel : Nat} {cs : List Value} {x : DataW H × List MemPlace}
    (h : DataW.trod enc Tryz.prog w base spare held fuel 22 cs = some x) :
    ∃ (s : Ls.Sl) (zs : List Int), cs = [.slice s.a s.n s.c] ∧ (Row w w.heap.size s.a s.n zs ∧ s.n ≤ s.c ∧ s.c ≤ maxLen) ∧ s.n ≤ Rows.uptoBulk x.1 ∧ Fit64 zs := by
  rcases open_ints Tryz.underlying22 Tryz.underlying3 (by kernel_rfl) h with ⟨rfl, rfl⟩ | ⟨y, len, cap, zs, rfl, _, hl, hm, hz, rfl, hcell, hwz⟩
  · exact ⟨⟨none, 0, 0⟩, [], rfl, ⟨Row.none_ _ _, Nat.le_refl _, by show (0 : Nat) ≤ maxLen; unfold maxLen; omega⟩, Nat.zero_le _, fun i => by simp⟩
  · have hz' : len ≤ zs.length := by rw [hz]; split <;> omega
    refine ⟨⟨some y, len, cap⟩, zs.take len, rfl, ⟨⟨by simp; omega, fun hn => ?_⟩, hl, hm⟩, ?_, fun i => ?_⟩
    · have hn' : 0 < len := hn
      obtain ⟨b, off, spot⟩ := y
      have h0 := hcell 0 (by omega)
      have hs : spot = none := by simpa [Addr.add] using World.cell?_spot h0
      subst hs
      refine ⟨b, off, rfl, ?_, fun i hi => ?_⟩
      · have := World.block_lt_of_cell? w _ h0
        simpa [Addr.add] using this
      · have hi' : i < len := hi
        have := hcell i (by omega)
        rw [Addr.add_lit] at this
        rw [this]
        simp [List.getD, hi']
    · have := bulk_slice (H := H) (lits .i64 (zs.take len)) (lits .i64 (zs.drop len))
      have e : (lits (H := H) .i64 (zs.take len)).length = len := by simp [lits]; omega
      show len ≤ Rows.uptoBulk (DataW.slice (lits .i64 (zs.take len)) (lits .i64 (zs.drop len)))
      rw [e] at this
      exact this
    · by_cases hi : i < len
      · have hi2 : i < zs.length := by omega
        have h1 := hwz (zs.getD i 0) (getD_mem hi2)
        rw [show (zs.take len).getD i 0 = zs.getD i 0 by simp [List.getD, hi]]
        exact wf_bounds h1
      · rw [show (zs.take len).getD i 0 = 0 by simp [List.getD, List.getElem?_eq_none (show (zs.take len).length ≤ i by simp; omega)]]
        omega
theorem bools_in {H : Type} {enc : TypeId × Value → H} {w : World} {base : Nat} {spare : Nat → Bool} {held : Bool} {fuel : Nat} {cs : List Value} {x : DataW H × List MemPlace}
    (h : DataW.trod enc Tryz.prog w base spare held fuel 26 cs = some x) : ∃ (s : Ls.Sl) (f : Nat → Bool), cs = [.slice s.a s.n s.c] ∧ BRow w w.heap.size s.a s.n f := by
  rcases open_slice Tryz.underlying26 h with ⟨hcs, _⟩ | ⟨y, len, cap, m, k, D, Pl, hcs, _, hl, hm, hmm, _, hi⟩
  · exact ⟨⟨none, 0, 0⟩, fun _ => false, hcs, fun h0 => absurd h0 (by simp)⟩
  · have hm' : len ≤ m := by rw [hmm]; split <;> omega
    have each : ∀ i, i < len → ∃ v : Bool, w.cell? ((y.add (i * 1)).add 0) = some (.bool v) := by
      intro i hlt
      obtain ⟨cs', h1, h2⟩ := hi i (by omega)
      have ce : Tryz.prog.cellsOf 4 = 1 := by kernel_rfl
      rw [ce] at h1
      obtain ⟨_, hlen, hcell⟩ := World.cells?_some h1
      match cs', hlen with
      | [c0], _ =>
        obtain ⟨v, e, _⟩ := DataW.trod_bool Tryz.underlying4 h2
        simp only [List.cons.injEq, and_true] at e
        subst e
        exact ⟨v, by simpa using hcell 0 (by decide)⟩
    obtain ⟨q, hq⟩ := choose_lt each
    refine ⟨⟨some y, len, cap⟩, q, hcs, fun hn => ?_⟩
    have hn' : 0 < len := hn
    obtain ⟨b, off, spot⟩ := y
    have h0 := hq 0 hn'
    have hs : spot = none := by simpa [Addr.add] using World.cell?_spot h0
    subst hs
    refine ⟨b, off, rfl, ?_, fun i hlt => ?_⟩
    · have := World.block_lt_of_cell? w _ h0
      simpa [Addr.add] using this
    · have := hq i hlt
      rw [Addr.add_lit, Addr.add_lit, Nat.mul_one] at this
      exact this
/-- Three of them. -/
def tri {α : Type} (a b c : α) : Nat → α
  | 0 => a
  | 1 => b
  | _ => c
theorem lists_in {H : Type} {enc : TypeId × Value → H} {w : World} {base : Nat} {spare : Nat → Bool} {held : Bool} {fuel : Nat} {c0 c1 c2 : Value} {x : DataW H × List MemPlace}
    (h : DataW.trod enc Tryz.prog w base spare held fuel 25 [c0, c1, c2] = some x) :
    ∃ (u : Nat → Ls.Sl) (f : Nat → List Int), [c0, c1, c2] = [.slice (u 0).a (u 0).n (u 0).c, .slice (u 1).a (u 1).n (u 1).c, .slice (u 2).a (u 2).n (u 2).c] ∧ Ls.L3 w w.heap.size u f ∧ (u 0).n + (u 1).n + (u 2).n ≤ Rows.uptoBulk x.1 := by
  obtain ⟨y0, y1, y2, n, rfl, h0, h1, h2⟩ := trod_array3 Tryz.underlying25 (by kernel_rfl) h
  obtain ⟨s0, z0, e0, r0, b0, _⟩ := ints_in h0
  obtain ⟨s1, z1, e1, r1, b1, _⟩ := ints_in h1
  obtain ⟨s2, z2, e2, r2, b2, _⟩ := ints_in h2
  simp only [List.cons.injEq, and_true] at e0 e1 e2
  refine ⟨tri s0 s1 s2, tri z0 z1 z2, by rw [e0, e1, e2]; rfl, fun j hj => ?_, ?_⟩
  · match j, hj with
    | 0, _ => exact r0
    | 1, _ => exact r1
    | 2, _ => exact r2
  · simp only [Rows.uptoBulk, Rows.uptoBulkAll, tri]
    omega
end Go.Proofs.YtfjhhfncapmnmaaGreatDoor
end
section
namespace Go.Proofs.YtfjhhfncapmnmaaGreatDoor
open Go.ChangeShapes Go.WideShapes Go.ChangeAt Go.RowKit Go.Deep
set_option maxRecDepth 100000

theorem mem_upTo3 {g : Nat → List Int} {x : Int} : x ∈ Ls.upTo g 3 ↔ ∃ j, j < 3 ∧ x ∈ g j := by
  unfold Ls.upTo
  rw [List.mem_flatMap]
  simp only [List.mem_range]
theorem mem_allOf {f : Nat → Nat → List Int} {n : Nat} {x : Int} : x ∈ Ls.allOf f n ↔ ∃ k j, k < n ∧ j < 3 ∧ x ∈ f k j := by
  unfold Ls.allOf
  rw [List.mem_flatMap]
  simp only [List.mem_range]
  constructor
  · rintro ⟨k, hk, h⟩
    obtain ⟨j, hj, h⟩ := mem_upTo3.1 h
    exact ⟨k, j, hk, hj, h⟩
  · rintro ⟨k, j, hk, hj, h⟩
    exact ⟨k, hk, mem_upTo3.2 ⟨j, hj, h⟩⟩
end Go.Proofs.YtfjhhfncapmnmaaGreatDoor
end
section
namespace Go.Proofs.YtfjhhfncapmnmaaGreatDoor
open Go.RowKit
set_option maxRecDepth 100000

/-- Does a cell that begins at x hold the word at a? -/
def cov (f : Nat → Int × Int) (n : Nat) (a x : Int) : Bool := decide (x ≤ a) && decide (a < x + Cl.bg f n x)
theorem cov_cell {f : Nat → Int × Int} {n : Nat} {a : Int} {c : Int × Int} (hc : c ∈ Cl.allL f n) : cov f n a c.1 = Cl.pIn a c := by
  unfold cov Cl.pIn
  rw [Cl.bg_cell hc]
theorem cov_one {f : Nat → Int × Int} {n : Nat} {a x y : Int} (hx : x ∈ Cl.allS f n) (hy : y ∈ Cl.allS f n) (h1 : cov f n a x = true) (h2 : cov f n a y = true) : x = y := by
  obtain ⟨c, hc, rfl⟩ := List.mem_map.1 hx
  obtain ⟨e, he, rfl⟩ := List.mem_map.1 hy
  rw [cov_cell hc] at h1
  rw [cov_cell he] at h2
  rw [(Cl.allL_apart f n).one hc he h1 h2]
end Go.Proofs.YtfjhhfncapmnmaaGreatDoor
end
section

namespace Go.Proofs.YtfjhhfncapmnmaaGreatDoor.Ar
open Go.Proofs.YtfjhhfncapmnmaaGreatDoor
set_option maxRecDepth 100000
open Go.RowKit

/-- The list with noughts at k places from o on. -/
def wipe (xs : List Int) : Nat → Nat → List Int
  | _, 0 => xs
  | o, k + 1 => wipe (xs.set o 0) (o + 1) k
theorem wipe_length : ∀ (k o : Nat) (xs : List Int), (wipe xs o k).length = xs.length
  | 0, _, _ => rfl
  | k + 1, o, xs => by rw [wipe, wipe_length k, List.length_set]
theorem wipe_getD : ∀ (k o : Nat) (xs : List Int) (j : Nat), o + k ≤ xs.length → (wipe xs o k).getD j 0 = if o ≤ j ∧ j < o + k then 0 else xs.getD j 0
  | 0, o, xs, j, _ => by rw [wipe, if_neg (by omega)]
  | k + 1, o, xs, j, h => by
    rw [wipe, wipe_getD k (o + 1) (xs.set o 0) j (by rw [List.length_set]; omega)]
    by_cases h1 : o + 1 ≤ j ∧ j < o + 1 + k
    · rw [if_pos h1, if_pos (by omega)]
    · rw [if_neg h1]
      by_cases h2 : o = j
      · subst h2
        rw [if_pos (by omega)]
        simp [List.getD, show o < xs.length by omega]
      · rw [if_neg (by omega)]
        simp [List.getD, List.getElem?_set_ne h2]

end Go.Proofs.YtfjhhfncapmnmaaGreatDoor.Ar
end
section
namespace Go.Proofs.YtfjhhfncapmnmaaGreatDoor
open Go.RowKit
set_option maxRecDepth 100000

/-- The first words of some cells are noughts. -/
def zeroAt (ws xs : List Int) : List Int := xs.foldl (fun l a => l.set (a - 16).toNat 0) ws
theorem getD_set (ws : List Int) (i j : Nat) (v : Int) : (ws.set i v).getD j 0 = if i = j ∧ j < ws.length then v else ws.getD j 0 := by
  by_cases e : i = j
  · subst e
    by_cases h : i < ws.length
    · rw [if_pos ⟨rfl, h⟩]; simp [List.getD, h]
    · rw [if_neg (fun c => h c.2)]; simp [List.getD, h]
  · rw [if_neg (fun c => e c.1)]
    simp [List.getD, List.getElem?_set_ne e]
theorem zeroAt_get : ∀ (xs ws : List Int) (j : Nat), (∀ a ∈ xs, 16 ≤ a) → (zeroAt ws xs).getD j 0 = if (16 + (j : Int)) ∈ xs then 0 else ws.getD j 0
  | [], _, _, _ => rfl
  | a :: xs, ws, j, h => by
    show (zeroAt (ws.set (a - 16).toNat 0) xs).getD j 0 = _
    rw [zeroAt_get xs _ j (fun b hb => h b (List.mem_cons_of_mem _ hb)), getD_set]
    have ha := h a List.mem_cons_self
    by_cases hx : (16 + (j : Int)) ∈ xs
    · rw [if_pos hx, if_pos (List.mem_cons_of_mem _ hx)]
    · rw [if_neg hx]
      by_cases e : 16 + (j : Int) = a
      · rw [if_pos (show (16 + (j : Int)) ∈ a :: xs by rw [e]; exact List.mem_cons_self)]
        split
        · rfl
        · next hn =>
          have : ¬ j < ws.length := fun hl => hn ⟨by omega, hl⟩
          simp [List.getD, this]
      · rw [if_neg (show ¬ (16 + (j : Int)) ∈ a :: xs from fun hm => (List.mem_cons.1 hm).elim e hx), if_neg (by omega)]
/-- A page is split for a class. -/
def splitD (d : Hd_) (n k p : Nat) : Hd_ := ⟨zeroAt d.ws (Cl.onS (Cl.put d.f p (1, k)) n p), Cl.put d.f p (1, k), Ls.upd d.F k (d.F k ++ (Cl.onS (Cl.put d.f p (1, k)) n p).reverse), d.cs⟩
/-- A head's word at a; all else of the cell is noughts. -/
def beginD (d : Hd_) (n : Nat) (a x : Int) : Hd_ := ⟨(Ar.wipe d.ws (a - 16).toNat (Cl.bg d.f n a).toNat).set (a - 16).toNat x, d.f, d.F, d.cs⟩
def largeD (d : Hd_) (p : Nat) (m : Int) : Hd_ := ⟨d.ws, Cl.large d.f p m, d.F, d.cs⟩
/-- What is told of as free: how often an address is told. -/
def told (d : Hd_) (G : Nat → List Int) (r : Nat) (R : Nat → Nat → List Int) (x : Int) : Nat := (Ls.upTo d.F 3).count x + (Ls.upTo G 3).count x + (Ls.allOf R r).count x
structure OkayBut (n : Nat) (a : Int) (d : Hd_) (G : Nat → List Int) (r : Nat) (R : Nat → Nat → List Int) : Prop where
  may : Cl.mayB d.f n = true
  cell : ∀ y, ¬ Cl.bg d.f n y = 0 → ¬ y = a → cellAt d y = true
  fF : ∀ j, j < 3 → ∀ x ∈ d.F j, freeH d n x (j : Nat) = true
  fG : ∀ j, j < 3 → ∀ x ∈ G j, freeH d n x (j : Nat) = true
  fR : ∀ k, k < r → ∀ j, j < 3 → ∀ x ∈ R k j, freeH d n x (j : Nat) = true
  one : ∀ x, told d G r R x ≤ 1
def Okay (n : Nat) (d : Hd_) (G : Nat → List Int) (r : Nat) (R : Nat → Nat → List Int) : Prop := OkayBut n 0 d G r R
def Full (n : Nat) (a : Int) (d : Hd_) (G : Nat → List Int) (r : Nat) (R : Nat → Nat → List Int) : Prop := ∀ y, ¬ Cl.bg d.f n y = 0 → ¬ y = a → wd d y = 0 → 0 < told d G r R y
theorem count_upTo (g : Nat → List Int) (x : Int) : (Ls.upTo g 3).count x = (g 0).count x + (g 1).count x + (g 2).count x := by
  simp [Ls.upTo, List.range_succ, List.count_append]; omega
theorem bg_zero (f : Nat → Int × Int) (n : Nat) {a : Int} (h : ¬ Cl.bg f n a = 0) : ¬ a = 0 := fun e => by have := bg_in16 h; omega
section
variable {n r : Nat} {a : Int} {d d' : Hd_} {G : Nat → List Int} {R : Nat → Nat → List Int}
theorem cell_local {y : Int} (hw : wd d' y = wd d y) (hf : pgAt d' y = pgAt d y) : cellAt d' y = cellAt d y := by
  unfold cellAt
  rw [show d'.ws.getD (y - 16).toNat 0 = wd d' y from rfl, show d.ws.getD (y - 16).toNat 0 = wd d y from rfl, show d'.f (y / 16 - 1).toNat = pgAt d' y from rfl, show d.f (y / 16 - 1).toNat = pgAt d y from rfl, hw, hf]
theorem bg_local {f g : Nat → Int × Int} {y : Int} (h1 : Cl.mayB f n = true) (h2 : Cl.mayB g n = true) (e : g (y / 16 - 1).toNat = f (y / 16 - 1).toNat) : Cl.bg g n y = Cl.bg f n y := by
  unfold Cl.bg
  rw [h1, h2, e]
theorem free_local {y c : Int} (h1 : Cl.mayB d.f n = true) (h2 : Cl.mayB d'.f n = true) (hw : wd d' y = wd d y) (hf : pgAt d' y = pgAt d y) : freeH d' n y c = freeH d n y c := by
  unfold freeH
  rw [bg_local h1 h2 hf, show d'.ws.getD (y - 16).toNat 0 = wd d' y from rfl, show d.ws.getD (y - 16).toNat 0 = wd d y from rfl, show d'.f (y / 16 - 1).toNat = pgAt d' y from rfl, show d.f (y / 16 - 1).toNat = pgAt d y from rfl, hw, hf]
theorem free_facts {y c : Int} (h : freeH d n y c = true) : ¬ Cl.bg d.f n y = 0 ∧ pgAt d y = (1, c) ∧ wd d y = 0 := by
  unfold freeH at h
  split at h
  · cases h
  · next hb =>
    simp only [Bool.and_eq_true, decide_eq_true_eq, beq_iff_eq] at h
    exact ⟨hb, Prod.ext h.1.1 h.1.2, h.2⟩
theorem free_mk {y c : Int} (h1 : ¬ Cl.bg d.f n y = 0) (h2 : pgAt d y = (1, c)) (h3 : wd d y = 0) : freeH d n y c = true := by
  unfold freeH
  rw [if_neg h1, show d.ws.getD (y - 16).toNat 0 = wd d y from rfl, show d.f (y / 16 - 1).toNat = pgAt d y from rfl, h2, h3]
  simp
theorem upd_mem {F : Nat → List Int} {k j : Nat} {xs : List Int} {x : Int} (h : x ∈ Ls.upd F k xs j) : (j = k ∧ x ∈ xs) ∨ (¬ j = k ∧ x ∈ F j) := by
  unfold Ls.upd at h
  split at h
  · next e => exact .inl ⟨e, h⟩
  · next e => exact .inr ⟨e, h⟩
theorem upd_count {F : Nat → List Int} {k : Nat} {xs : List Int} {x : Int} (hk : k < 3) : (Ls.upTo (Ls.upd F k xs) 3).count x + (F k).count x = (Ls.upTo F 3).count x + xs.count x := by
  rw [count_upTo, count_upTo]
  rcases (show k = 0 ∨ k = 1 ∨ k = 2 by omega) with rfl | rfl | rfl
  · rw [Ls.upd_same, Ls.upd_other _ _ (by decide), Ls.upd_other _ _ (by decide)]; omega
  · rw [Ls.upd_same, Ls.upd_other _ _ (by decide), Ls.upd_other _ _ (by decide)]; omega
  · rw [Ls.upd_same, Ls.upd_other _ _ (by decide), Ls.upd_other _ _ (by decide)]; omega
end
section
variable {n r k p : Nat} {a : Int} {d : Hd_} {G : Nat → List Int} {R : Nat → Nat → List Int}
/-- What is told of is free. -/
theorem told_free (h : OkayBut n a d G r R) {x : Int} (hx : 0 < told d G r R x) : ∃ c : Int, freeH d n x c = true := by
  unfold told at hx
  have hc : 0 < (Ls.upTo d.F 3).count x ∨ 0 < (Ls.upTo G 3).count x ∨ 0 < (Ls.allOf R r).count x := by omega
  rcases hc with h1 | h1 | h1
  · obtain ⟨j, hj, hm⟩ := mem_upTo3.1 (List.count_pos_iff.1 h1)
    exact ⟨_, h.fF j hj x hm⟩
  · obtain ⟨j, hj, hm⟩ := mem_upTo3.1 (List.count_pos_iff.1 h1)
    exact ⟨_, h.fG j hj x hm⟩
  · obtain ⟨i, j, hi, hj, hm⟩ := mem_allOf.1 (List.count_pos_iff.1 h1)
    exact ⟨_, h.fR i hi j hj x hm⟩
theorem pg_none (y : Int) : Cl.pg (0, 0) y = 0 := by simp [Cl.pg]
theorem pg_rest (y : Int) : Cl.pg (3, 0) y = 0 := by simp [Cl.pg]
theorem bg_page {f : Nat → Int × Int} {y : Int} (h : ¬ Cl.bg f n y = 0) : Cl.mayB f n = true ∧ 16 ≤ y ∧ y < 16 + 16 * (n : Int) ∧ Cl.bg f n y = Cl.pg (f (y / 16 - 1).toNat) y := by
  unfold Cl.bg at h ⊢
  split at h
  · next hc => rw [if_pos hc]; exact ⟨hc.1, hc.2.1, hc.2.2, rfl⟩
  · exact absurd rfl h
/-- A cell's page is not one that is free. -/
theorem cell_off {f : Nat → Int × Int} {y : Int} {q : Nat} (h : ¬ Cl.bg f n y = 0) (hq : f q = (0, 0)) : ¬ (y / 16 - 1).toNat = q := fun e => by
  have h1 := bg_page h
  rw [h1.2.2.2, e, hq, pg_none] at h
  exact h rfl
theorem page_toNat {y : Int} (h : 16 ≤ y) (q : Nat) : (y / 16 - 1).toNat = q ↔ y / 16 - 1 = (q : Int) := by omega
theorem mem_on {f : Nat → Int × Int} {y : Int} : y ∈ Cl.onS f n p ↔ ¬ Cl.bg f n y = 0 ∧ (y / 16 - 1).toNat = p := by
  rw [← Cl.filter_allS, List.mem_filter, mem_allS, beq_iff_eq]
  constructor
  · rintro ⟨h1, h2⟩; exact ⟨h1, (page_toNat (bg_in16 h1) p).2 h2⟩
  · rintro ⟨h1, h2⟩; exact ⟨h1, (page_toNat (bg_in16 h1) p).1 h2⟩
theorem on_in16 {f : Nat → Int × Int} {q : Int} : ∀ y ∈ Cl.onS f n q, 16 ≤ y := fun y hy => by
  rw [← Cl.filter_allS, List.mem_filter, mem_allS] at hy
  exact bg_in16 hy.1
theorem on_nodup (f : Nat → Int × Int) (n : Nat) (q : Int) : (Cl.onS f n q).Nodup := by
  rw [← Cl.filter_allS]
  exact ((allS_lt f n).sublist List.filter_sublist).imp fun h => by omega
theorem wd_split {y : Int} (hy : 16 ≤ y) : wd (splitD d n k p) y = if y ∈ Cl.onS (Cl.put d.f p (1, k)) n p then 0 else wd d y := by
  unfold wd splitD
  simp only
  rw [zeroAt_get _ _ _ on_in16, show (16 + ((y - 16).toNat : Int)) = y by omega]
theorem find_one (h : Cl.findO d.f n 1 = some p) : Cl.mayB d.f n = true ∧ p < n ∧ (d.f p).1 = 0 := by
  obtain ⟨h1, _, h3, h4, _⟩ := Cl.findO_some.1 h
  have h5 := (Cl.freeB_iff _ _ _).1 h4 0 (by decide)
  exact ⟨h1, by have : (1 : Int).toNat = 1 := rfl; omega, by simpa using h5⟩
theorem told_split (hk : k < 3) (x : Int) : told (splitD d n k p) G r R x = told d G r R x + (Cl.onS (Cl.put d.f p (1, k)) n p).count x := by
  have h1 := upd_count (F := d.F) (xs := d.F k ++ (Cl.onS (Cl.put d.f p (1, k)) n p).reverse) (x := x) hk
  rw [List.count_append, List.count_reverse] at h1
  unfold told splitD
  simp only
  omega
theorem split_may (h : Cl.findO d.f n 1 = some p) (hk : k < 3) : Cl.mayB (Cl.put d.f p (1, (k : Int))) n = true := by
  obtain ⟨h1, h2, h3⟩ := find_one h
  exact Cl.small_may h1 h2 h3 (by omega) (by omega)
/-- A cell of another page, behind the split. -/
theorem split_other (h : Cl.findO d.f n 1 = some p) (hk : k < 3) {y : Int} (h16 : 16 ≤ y) (hy : ¬ (y / 16 - 1).toNat = p) : wd (splitD d n k p) y = wd d y ∧ pgAt (splitD d n k p) y = pgAt d y ∧ Cl.bg (splitD d n k p).f n y = Cl.bg d.f n y := by
  have h1 : pgAt (splitD d n k p) y = pgAt d y := Cl.put_ne hy
  refine ⟨?_, h1, bg_local (find_one h).1 (split_may h hk) h1⟩
  rw [wd_split h16, if_neg fun hm => hy (mem_on.1 hm).2]
theorem split_on {y : Int} (hy : y ∈ Cl.onS (Cl.put d.f p (1, (k : Int))) n p) : freeH (splitD d n k p) n y (k : Nat) = true := by
  obtain ⟨h1, h2⟩ := mem_on.1 hy
  refine free_mk h1 ?_ (by rw [wd_split (bg_in16 h1), if_pos hy])
  show Cl.put d.f p (1, (k : Int)) _ = _
  rw [h2, Cl.put_eq]
theorem split_keeps (h : Cl.findO d.f n 1 = some p) (hk : k < 3) {x c : Int} (hx : freeH d n x c = true) : freeH (splitD d n k p) n x c = true := by
  obtain ⟨h1, h2, h3⟩ := find_one h
  have hb := (free_facts hx).1
  have ho := split_other h hk (bg_in16 hb) (cell_off hb (Cl.free_zero h1 h2 h3).1)
  rw [free_local (d := d) (d' := splitD d n k p) h1 (split_may h hk) ho.1 ho.2.1]
  exact hx
theorem Okay.split (h : Okay n d G r R) (hf : Cl.findO d.f n 1 = some p) (hk : k < 3) : Okay n (splitD d n k p) G r R := by
  obtain ⟨h1, h2, h3⟩ := find_one hf
  have hz := (Cl.free_zero h1 h2 h3).1
  refine ⟨split_may hf hk, fun y hy _ => ?_, fun j hj x hx => ?_, fun j hj x hx => split_keeps hf hk (h.fG j hj x hx), fun i hi j hj x hx => split_keeps hf hk (h.fR i hi j hj x hx), fun x => ?_⟩
  · have h16 := bg_in16 hy
    by_cases hp : (y / 16 - 1).toNat = p
    · have hon : y ∈ Cl.onS (Cl.put d.f p (1, (k : Int))) n p := mem_on.2 ⟨hy, hp⟩
      obtain ⟨_, e2, e3⟩ := free_facts (split_on hon)
      unfold cellAt
      rw [show (splitD d n k p).ws.getD (y - 16).toNat 0 = wd (splitD d n k p) y from rfl, show (splitD d n k p).f (y / 16 - 1).toNat = pgAt (splitD d n k p) y from rfl, e2, e3]
      rfl
    · obtain ⟨e1, e2, e3⟩ := split_other hf hk h16 hp
      rw [cell_local e1 e2]
      rw [e3] at hy
      exact h.cell y hy (bg_zero _ _ hy)
  · rcases upd_mem hx with ⟨rfl, hx⟩ | ⟨_, hx⟩
    · rcases List.mem_append.1 hx with hx | hx
      · exact split_keeps hf hk (h.fF _ hj x hx)
      · exact split_on (List.mem_reverse.1 hx)
    · exact split_keeps hf hk (h.fF _ hj x hx)
  · rw [told_split hk]
    have h4 := h.one x
    have h5 := List.nodup_iff_count.1 (on_nodup (Cl.put d.f p (1, (k : Int))) n p) x
    by_cases hm : x ∈ Cl.onS (Cl.put d.f p (1, (k : Int))) n p
    · have h6 : told d G r R x = 0 := Nat.eq_zero_of_not_pos fun hc => by
        obtain ⟨c, hc⟩ := told_free h hc
        exact cell_off (free_facts hc).1 hz (mem_on.1 hm).2
      omega
    · have h7 := List.count_eq_zero_of_not_mem hm
      omega
theorem Full.split (hF : Full n 0 d G r R) (hf : Cl.findO d.f n 1 = some p) (hk : k < 3) : Full n 0 (splitD d n k p) G r R := fun y hy _ h0 => by
  rw [told_split hk]
  by_cases hp : (y / 16 - 1).toNat = p
  · have hon : y ∈ Cl.onS (Cl.put d.f p (1, (k : Int))) n p := mem_on.2 ⟨hy, hp⟩
    have := List.count_pos_iff.2 hon
    omega
  · obtain ⟨e1, e2, e3⟩ := split_other hf hk (bg_in16 hy) hp
    rw [e3] at hy
    rw [e1] at h0
    have := hF y hy (bg_zero _ _ hy) h0
    omega
/-- Pages for a large one. -/
theorem find_run {m : Int} (h : Cl.findO d.f n m = some p) : Cl.mayB d.f n = true ∧ 1 ≤ m ∧ m ≤ 4 ∧ (p : Int) + m ≤ n ∧ Cl.freeB d.f p m.toNat = true := by
  obtain ⟨h1, h2, h3, h4, _⟩ := Cl.findO_some.1 h
  have h5 := (Cl.runB_iff m).1 h2
  exact ⟨h1, h5.1, h5.2, by omega, h4⟩
theorem large_in {f : Nat → Int × Int} {m : Int} {q : Nat} : (q = p → Cl.large f p m q = (2, m)) ∧ (p < q → (q : Int) < p + m → Cl.large f p m q = (3, 0)) ∧ (q < p ∨ (p : Int) + m ≤ q → 1 ≤ m → Cl.large f p m q = f q) := by
  unfold Cl.large
  refine ⟨fun e => if_pos e, fun h1 h2 => ?_, fun h1 h2 => ?_⟩
  · rw [if_neg (by omega), if_pos ⟨h1, h2⟩]
  · rw [if_neg (by omega), if_neg (by omega)]
theorem large_free {m : Int} (h : Cl.findO d.f n m = some p) {q : Nat} (h1 : p ≤ q) (h2 : (q : Int) < p + m) : d.f q = (0, 0) := by
  obtain ⟨g1, g2, g3, g4, g5⟩ := find_run h
  have h3 := (Cl.freeB_iff _ _ _).1 g5 (q - p) (by omega)
  rw [show p + (q - p) = q by omega] at h3
  exact (Cl.free_zero g1 (by omega) h3).1
theorem large_off {m : Int} (h : Cl.findO d.f n m = some p) {y : Int} (hy : ¬ Cl.bg d.f n y = 0) : (y / 16 - 1).toNat < p ∨ (p : Int) + m ≤ (y / 16 - 1).toNat := by
  rcases Nat.lt_or_ge (y / 16 - 1).toNat p with h1 | h1
  · exact .inl h1
  · by_cases h2 : (((y / 16 - 1).toNat : Nat) : Int) < p + m
    · exact absurd rfl (cell_off hy (large_free h h1 h2))
    · exact .inr (by omega)
theorem large_mayB {m : Int} (h : Cl.findO d.f n m = some p) : Cl.mayB (Cl.large d.f p m) n = true := by
  obtain ⟨g1, g2, g3, g4, g5⟩ := find_run h
  exact Cl.large_may g1 g2 g3 g4 g5
theorem large_other {m : Int} (h : Cl.findO d.f n m = some p) {y : Int} (hy : ¬ Cl.bg d.f n y = 0) : pgAt (largeD d p m) y = pgAt d y ∧ Cl.bg (largeD d p m).f n y = Cl.bg d.f n y := by
  have h1 : pgAt (largeD d p m) y = pgAt d y := large_in.2.2 (large_off h hy) (find_run h).2.1
  exact ⟨h1, bg_local (find_run h).1 (large_mayB h) h1⟩
theorem large_cell {m : Int} (h : Cl.findO d.f n m = some p) {y : Int} (hy : ¬ Cl.bg (largeD d p m).f n y = 0) : y = 16 + 16 * (p : Int) ∨ ¬ Cl.bg d.f n y = 0 := by
  obtain ⟨g1, g2, g3, g4, g5⟩ := find_run h
  have h1 := bg_page hy
  have h2 := h1.2.2.2
  have h16 := h1.2.1
  rw [h2] at hy
  rcases Nat.lt_trichotomy (y / 16 - 1).toNat p with h3 | h3 | h3
  · have e : (largeD d p m).f (y / 16 - 1).toNat = d.f (y / 16 - 1).toNat := large_in.2.2 (.inl h3) g2
    rw [← bg_local g1 (large_mayB h) e, show Cl.large d.f p m = (largeD d p m).f from rfl, h2]
    exact .inr hy
  · have e : (largeD d p m).f (y / 16 - 1).toNat = (2, m) := large_in.1 h3
    rw [e] at hy
    left
    have h4 : y % 16 = 0 := Classical.byContradiction fun hn => hy (by simp [Cl.pg, hn])
    have h5 := (page_toNat h16 p).1 h3
    omega
  · by_cases h4 : (((y / 16 - 1).toNat : Nat) : Int) < p + m
    · have e : (largeD d p m).f (y / 16 - 1).toNat = (3, 0) := large_in.2.1 h3 h4
      rw [e, pg_rest] at hy
      exact absurd rfl hy
    · have e : (largeD d p m).f (y / 16 - 1).toNat = d.f (y / 16 - 1).toNat := large_in.2.2 (.inr (by omega)) g2
      rw [← bg_local g1 (large_mayB h) e, show Cl.large d.f p m = (largeD d p m).f from rfl, h2]
      exact .inr hy
theorem large_keeps {m : Int} (h : Cl.findO d.f n m = some p) {x c : Int} (hx : freeH d n x c = true) : freeH (largeD d p m) n x c = true := by
  have ho := large_other h (free_facts hx).1
  rw [free_local (d := d) (d' := largeD d p m) (find_run h).1 (large_mayB h) rfl ho.1]
  exact hx
theorem Okay.large {m : Int} (h : Okay n d G r R) (hf : Cl.findO d.f n m = some p) : OkayBut n (16 + 16 * (p : Int)) (largeD d p m) G r R := by
  refine ⟨large_mayB hf, fun y hy hne => ?_, fun j hj x hx => large_keeps hf (h.fF j hj x hx), fun j hj x hx => large_keeps hf (h.fG j hj x hx), fun i hi j hj x hx => large_keeps hf (h.fR i hi j hj x hx), h.one⟩
  have hb := (large_cell hf hy).resolve_left hne
  rw [cell_local (d := d) (d' := largeD d p m) rfl (large_other hf hb).1]
  exact h.cell y hb (bg_zero _ _ hb)
theorem Full.large {m : Int} (hF : Full n 0 d G r R) (hf : Cl.findO d.f n m = some p) : Full n (16 + 16 * (p : Int)) (largeD d p m) G r R := fun y hy hne h0 => by
  have hb := (large_cell hf hy).resolve_left hne
  exact hF y hb (bg_zero _ _ hb) h0
/-- A cell's words lie apart from every other one's. -/
theorem cells_off {f : Nat → Int × Int} {x y : Int} (hx : ¬ Cl.bg f n x = 0) (hy : ¬ Cl.bg f n y = 0) (hne : ¬ y = x) : ¬ (x ≤ y ∧ y < x + Cl.bg f n x) := fun hc => by
  have h1 := (Cl.bg_nonneg f n y).1
  refine hne (cov_one (a := y) (mem_allS.2 hy) (mem_allS.2 hx) ?_ ?_)
  · unfold cov; simp only [Bool.and_eq_true, decide_eq_true_eq]; omega
  · unfold cov; simp only [Bool.and_eq_true, decide_eq_true_eq]; exact hc
theorem cell_end {f : Nat → Int × Int} {x : Int} (hx : ¬ Cl.bg f n x = 0) : 16 ≤ x ∧ 2 ≤ Cl.bg f n x ∧ x + Cl.bg f n x ≤ 16 + 16 * (n : Int) := by
  obtain ⟨c, hc, rfl⟩ := List.mem_map.1 (mem_allS.2 hx)
  rw [Cl.bg_cell hc]
  have h1 := (Cl.allL_apart f n).2 c hc
  exact ⟨h1.1, h1.2, (Cl.allL_end hc).2⟩
theorem wd_begin {x : Int} (hb : ¬ Cl.bg d.f n a = 0) (hl : d.ws.length = 16 * n) {y : Int} (hy : 16 ≤ y) : wd (beginD d n a x) y = if y = a then x else if a ≤ y ∧ y < a + Cl.bg d.f n a then 0 else wd d y := by
  have h1 := cell_end hb
  unfold wd beginD
  simp only
  rw [getD_set, Ar.wipe_length, Ar.wipe_getD _ _ _ _ (by omega)]
  by_cases e : y = a
  · rw [if_pos ⟨by omega, by omega⟩, if_pos e]
  · rw [if_neg (by omega), if_neg e]
    by_cases e2 : a ≤ y ∧ y < a + Cl.bg d.f n a
    · rw [if_pos e2, if_pos ⟨by omega, by omega⟩]
    · rw [if_neg e2, if_neg (by omega)]
theorem begin_other {x : Int} (hb : ¬ Cl.bg d.f n a = 0) (hl : d.ws.length = 16 * n) {y : Int} (hy : ¬ Cl.bg d.f n y = 0) (hne : ¬ y = a) : wd (beginD d n a x) y = wd d y := by
  rw [wd_begin hb hl (bg_in16 hy), if_neg hne, if_neg (cells_off hb hy hne)]
theorem begin_at {x : Int} (hb : ¬ Cl.bg d.f n a = 0) (hl : d.ws.length = 16 * n) : wd (beginD d n a x) a = x := by
  rw [wd_begin hb hl (bg_in16 hb), if_pos rfl]
theorem begin_keeps {x : Int} (hm : Cl.mayB d.f n = true) (hb : ¬ Cl.bg d.f n a = 0) (hl : d.ws.length = 16 * n) {y c : Int} (hne : ¬ y = a) (hy : freeH d n y c = true) : freeH (beginD d n a x) n y c = true := by
  rw [free_local (d' := beginD d n a x) hm hm (begin_other hb hl (free_facts hy).1 hne) rfl]
  exact hy
theorem OkayBut.begin {x : Int} (h : OkayBut n a d G r R) (hg : told d G r R a = 0) (hb : ¬ Cl.bg d.f n a = 0) (hl : d.ws.length = 16 * n) (hx : cellB x (pgAt d a) = true) : Okay n (beginD d n a x) G r R := by
  have hne : ∀ y, 0 < told d G r R y → ¬ y = a := fun y hy e => by rw [e] at hy; omega
  have t1 : ∀ j, j < 3 → ∀ y ∈ d.F j, ¬ y = a := fun j hj y hy => hne y (by have := List.count_pos_iff.2 (mem_upTo3.2 ⟨j, hj, hy⟩); unfold told; omega)
  have t2 : ∀ j, j < 3 → ∀ y ∈ G j, ¬ y = a := fun j hj y hy => hne y (by have := List.count_pos_iff.2 (mem_upTo3.2 ⟨j, hj, hy⟩); unfold told; omega)
  have t3 : ∀ i, i < r → ∀ j, j < 3 → ∀ y ∈ R i j, ¬ y = a := fun i hi j hj y hy => hne y (by have := List.count_pos_iff.2 (mem_allOf.2 ⟨i, j, hi, hj, hy⟩); unfold told; omega)
  refine ⟨h.may, fun y hy _ => ?_, fun j hj y hy => begin_keeps h.may hb hl (t1 j hj y hy) (h.fF j hj y hy), fun j hj y hy => begin_keeps h.may hb hl (t2 j hj y hy) (h.fG j hj y hy), fun i hi j hj y hy => begin_keeps h.may hb hl (t3 i hi j hj y hy) (h.fR i hi j hj y hy), h.one⟩
  by_cases e : y = a
  · subst e
    unfold cellAt
    rw [show (beginD d n y x).ws.getD (y - 16).toNat 0 = wd (beginD d n y x) y from rfl, begin_at hb hl]
    exact hx
  · rw [cell_local (d' := beginD d n a x) (begin_other hb hl hy e) rfl]
    exact h.cell y hy e
theorem Full.begin {x : Int} (h : Full n a d G r R) (hb : ¬ Cl.bg d.f n a = 0) (hl : d.ws.length = 16 * n) (hx : ¬ x = 0) : Full n 0 (beginD d n a x) G r R := fun y hy _ h0 => by
  by_cases e : y = a
  · subst e
    rw [begin_at hb hl] at h0
    exact absurd h0 hx
  · rw [begin_other hb hl hy e] at h0
    exact h y hy e h0
end
end Go.Proofs.YtfjhhfncapmnmaaGreatDoor
end
section
namespace Go.Proofs.YtfjhhfncapmnmaaGreatDoor
open Go.RowKit
set_option maxRecDepth 100000

section
variable {n r : Nat} {d : Hd_} {G : Nat → List Int} {R : Nat → Nat → List Int}
end
end Go.Proofs.YtfjhhfncapmnmaaGreatDoor
end
section
namespace Go.Proofs.YtfjhhfncapmnmaaGreatDoor
open Go.RowKit
set_option maxRecDepth 100000

/-- What room is taken from may be, as far as sizes go. -/
structure Fit (t : Hs) : Prop where
  w : Ar.mayB t.w.n = true
  wp : t.w.n = 16 * t.p.n
  p : t.p.n ≤ 64
theorem fit_first {s : Hs} {d : Hd_} (h : firstB s d = true) : Fit s := by
  unfold firstB wordsB at h
  simp only [Bool.and_eq_true, decide_eq_true_eq] at h
  have := ((Cl.mayB_iff _ _).1 h.2.1)
  exact ⟨Ar.mayB_iff.2 h.1, h.2.2.1, this.2.1⟩
/-- A cell's room, page and words are as they were. -/
structure Same4 (n : Nat) (d d' : Hd_) (y : Int) : Prop where
  bg : Cl.bg d'.f n y = Cl.bg d.f n y
  pg : pgAt d' y = pgAt d y
  wd : ∀ z, y ≤ z → z < y + Cl.bg d.f n y → wd d' z = wd d z
theorem Same4.trans {n : Nat} {d d' d2 : Hd_} {y : Int} (h : Same4 n d d' y) (k : Same4 n d' d2 y) : Same4 n d d2 y := ⟨k.bg.trans h.bg, k.pg.trans h.pg, fun z h1 h2 => (k.wd z h1 (by rw [h.bg]; exact h2)).trans (h.wd z h1 h2)⟩
theorem Same4.refl (n : Nat) (d : Hd_) (y : Int) : Same4 n d d y := ⟨rfl, rfl, fun _ _ _ => rfl⟩
/-- What is handed to Take is not too great. -/
structure FineT (s : Hs) (d : Hd_) (u : Nat → Ls.Sl) (G : Nat → List Int) : Prop where
  fine : Fine s d
  lu : ∀ j, j < 3 → (s.u j).n ≤ 1000000
  lg : ∀ j, j < 3 → (u j).n ≤ 1000000
  all : (Ls.allOf (ahead d.F (fun _ => G)) (1 + 1)).length ≤ 2000000
end Go.Proofs.YtfjhhfncapmnmaaGreatDoor
end
section
namespace Go.Proofs.YtfjhhfncapmnmaaGreatDoor.Sh
open Go.Proofs.YtfjhhfncapmnmaaGreatDoor

/-- A collector. -/
structure Ks where
  ph : Int
  ep : Int
  mj : Bool
  wk : Ls.Sl
  ov : Bool
  pa : Int
  pf : Int
  ps : Int
  pc : Int
  me : Bool
end Go.Proofs.YtfjhhfncapmnmaaGreatDoor.Sh
end
section
namespace Go.Proofs.YtfjhhfncapmnmaaGreatDoor.Mu
open Go.Proofs.YtfjhhfncapmnmaaGreatDoor Go.Proofs.YtfjhhfncapmnmaaGreatDoor.Rt
open Go.RowKit
set_option maxRecDepth 100000

structure Tn where
  s : Hs
  k : Sh.Ks
  t : Ts
  p : O4
  q : O4
  e : Int
  v : Int
  b : Bool
/-- Its cells; those of its parts. -/
def nv (n : Tn) : List Value := [.slice n.s.w.a n.s.w.n n.s.w.c, .slice n.s.p.a n.s.p.n n.s.p.c, .slice (n.s.u 0).a (n.s.u 0).n (n.s.u 0).c, .slice (n.s.u 1).a (n.s.u 1).n (n.s.u 1).c, .slice (n.s.u 2).a (n.s.u 2).n (n.s.u 2).c, .slice n.s.c.a n.s.c.n n.s.c.c, .int .i64 n.k.ph, .int .i64 n.k.ep, .bool n.k.mj, .slice n.k.wk.a n.k.wk.n n.k.wk.c, .bool n.k.ov, .int .i64 n.k.pa, .int .i64 n.k.pf, .int .i64 n.k.ps, .int .i64 n.k.pc, .bool n.k.me, .bool n.t.lv, .int .i64 (n.t.r 0), .int .i64 (n.t.r 1), .int .i64 (n.t.r 2), .int .i64 (n.t.r 3), .slice (n.t.u 0).a (n.t.u 0).n (n.t.u 0).c, .slice (n.t.u 1).a (n.t.u 1).n (n.t.u 1).c, .slice (n.t.u 2).a (n.t.u 2).n (n.t.u 2).c, .int .i64 n.t.ep, .int .i64 n.t.sg, .int .i64 n.t.rt, .slice n.t.o.a n.t.o.n n.t.o.c, .int .i64 n.t.pc, .int .i64 n.t.x, .int .i64 n.t.y, .int .i64 n.p.k, .int .i64 n.p.a, .int .i64 n.p.b, .int .i64 n.p.c, .int .i64 0, .int .i64 n.q.k, .int .i64 n.q.a, .int .i64 n.q.b, .int .i64 n.q.c, .int .i64 n.e, .int .i64 n.v, .bool n.b]
def hv (s : Hs) : List Value := [.slice s.w.a s.w.n s.w.c, .slice s.p.a s.p.n s.p.c, .slice (s.u 0).a (s.u 0).n (s.u 0).c, .slice (s.u 1).a (s.u 1).n (s.u 1).c, .slice (s.u 2).a (s.u 2).n (s.u 2).c, .slice s.c.a s.c.n s.c.c]
def kv (k : Sh.Ks) : List Value := [.int .i64 k.ph, .int .i64 k.ep, .bool k.mj, .slice k.wk.a k.wk.n k.wk.c, .bool k.ov, .int .i64 k.pa, .int .i64 k.pf, .int .i64 k.ps, .int .i64 k.pc, .bool k.me]
def pv (p : O4) : List Value := [.int .i64 p.k, .int .i64 p.a, .int .i64 p.b, .int .i64 p.c]
def o0 : O4 := ⟨0, 0, 0, 0⟩
def noHs0 : Hs := ⟨⟨none, 0, 0⟩, ⟨none, 0, 0⟩, Ls.noSl, ⟨none, 0, 0⟩⟩
def noK0 : Sh.Ks := ⟨0, 0, false, ⟨none, 0, 0⟩, false, 0, 0, 0, 0, false⟩
def noN : Tn := ⟨noHs0, noK0, noT, o0, o0, 0, 0, false⟩
/-- A part of a box. -/
def Part (vs : List Value) (o : Nat) (cs : List Value) : Prop := ∀ j v, cs[j]? = some v → vs[o + j]? = some v
def inPart : List Value → Nat → List Value → Prop
  | _, _, [] => True
  | vs, o, c :: cs => vs[o]? = some c ∧ inPart vs (o + 1) cs
theorem part_of {vs : List Value} : ∀ {cs : List Value} {o : Nat}, inPart vs o cs → Part vs o cs
  | [], _, _ => fun j v h => by cases j <;> cases h
  | c :: cs, o, h => fun j v hj => by
    cases j with
    | zero => cases hj; exact h.1
    | succ j => rw [show o + (j + 1) = o + 1 + j by omega]; exact part_of h.2 j v hj
section
variable {W : World} {b o : Nat} {vs cs : List Value}
theorem ld (h : Box W b vs) (hp : Part vs o cs) (ty : TypeId) {d : TypeDesc} (hu : Tryz.prog.underlying ty = some d) (hd : d.isRow = true) (hi : (Tryz.prog.info? ty).map (·.size) = some cs.length) :
    (Instr.loadAt ty (.pointer (some ⟨b, o, none⟩))).run Tryz.prog W = .ok (.agg cs.toArray) W :=
  run_loadAt_mid W b o ty cs d (fun j v hj => h.cel (o + j) v (hp j v hj)) hu hd hi
theorem setCells_puts (b : Nat) : ∀ (cs : List Value) (o : Nat) (W : World), W.setCells b o cs = puts b o cs W := by
  intro cs
  induction cs with
  | nil => intro o W; rfl
  | cons c cs ih => intro o W; first | exact ih (o + 1) _ | (simp only [World.setCells, puts]; exact ih (o + 1) _)
theorem st (h : Box W b vs) (hn : o + cs.length ≤ vs.length) (ty : TypeId) (hi : (Tryz.prog.info? ty).map (·.size) = some cs.length) (h1 : cs.toArray.all (·.oneCell') = true) :
    (Instr.storeAt ty (.pointer (some ⟨b, o, none⟩)) (.agg cs.toArray)).run Tryz.prog W = .ok () (puts b o cs W) := by
  rw [← setCells_puts]
  have := run_storeAt_mid (P := Tryz.prog) W b o ty cs.toArray (fun j hj => ⟨by
    have hj' : o + j < vs.length := by simp at hj; omega
    rw [h.cel (o + j) _ (List.getElem?_eq_getElem hj')]
    rfl, h.free _⟩) (by simpa using hi) h1
  simpa using this
end
end Go.Proofs.YtfjhhfncapmnmaaGreatDoor.Mu
end
section
namespace Go.Proofs.YtfjhhfncapmnmaaGreatDoor.Mu
open Go.Proofs.YtfjhhfncapmnmaaGreatDoor Go.Proofs.YtfjhhfncapmnmaaGreatDoor.Rt
open Go.RowKit
set_option maxRecDepth 100000

theorem und_turn : ∃ d, Tryz.prog.underlying 75 = some d ∧ d.isRow = true := ⟨_, Tryz.underlying75, rfl⟩
theorem inf_turn : (Tryz.prog.info? 75).map (·.size) = some 43 := by kernel_rfl
section
variable {W W' w : World} {b o : Nat} {vs cs : List Value} {n : Tn}
theorem Part.refl (vs : List Value) : Part vs 0 vs := fun j v h => by rw [Nat.zero_add]; exact h
/-- The whole turn. -/
theorem ldN (h : Box W b (nv n)) : (Instr.loadAt 75 (.pointer (some ⟨b, 0, none⟩))).run Tryz.prog W = .ok (.agg (nv n).toArray) W := by
  obtain ⟨d, hu, hd⟩ := und_turn
  exact ld h (Part.refl _) _ hu hd inf_turn
theorem one_turn (n : Tn) : (nv n).toArray.all (·.oneCell') = true := by kernel_rfl
theorem sets_eq : ∀ (vs : List Value) (j : Nat) (us : List Value), j + vs.length ≤ us.length → sets j vs us = us.take j ++ vs ++ us.drop (j + vs.length)
  | [], j, us, _ => by simp [sets]
  | v :: vs, j, us, h => by
    have hl : j + 1 + vs.length ≤ (us.set j v).length := by simp at h ⊢; omega
    have hj : j < us.length := by simp at h; omega
    show sets (j + 1) vs (us.set j v) = _
    rw [sets_eq vs (j + 1) (us.set j v) hl, List.drop_set_of_lt (by omega), show j + (v :: vs).length = j + 1 + vs.length by simp; omega]
    have : (us.set j v).take (j + 1) = us.take j ++ [v] := by
      rw [List.take_succ_eq_append_getElem (by simpa using hj), List.getElem_set_self, List.take_set_of_le (Nat.le_refl _)]
    rw [this]
    simp
theorem stN {n' : Tn} (h : Box W b (nv n)) : (Instr.storeAt 75 (.pointer (some ⟨b, 0, none⟩)) (.agg (nv n').toArray)).run Tryz.prog W = .ok () (puts b 0 (nv n') W) := st h (Nat.le_refl 43) _ inf_turn (one_turn n')
theorem puts_box {n' : Tn} (h : Box W b (nv n)) : Box (puts b 0 (nv n') W) b (nv n') := by
  have := Box.puts (nv n') 0 h
  rw [sets_eq (nv n') 0 (nv n) (Nat.le_refl 43)] at this
  exact this
/-- The boxes of the argument and of the result. -/
structure Nb (w W : World) (n m : Tn) : Prop where
  bel : Below w.heap.size w W
  box : Box W w.heap.size (nv n)
  res : Box W (w.heap.size + 1) (nv m)
theorem Nb.next {m : Tn} (h : Nb w W n m) (hb : Below W.heap.size W W') : Nb w W' n m := ⟨h.bel.trans (hb.mono h.bel.size), h.box.next hb, h.res.next hb⟩
theorem nb_start (n : Tn) {ty ty' : TypeId} (h : W = (w.alloc (.cells (nv n).toArray ty)).alloc (.cells #[.slice none 0 0, .slice none 0 0, .slice none 0 0, .slice none 0 0, .slice none 0 0, .slice none 0 0, .int .i64 0, .int .i64 0, .bool false, .slice none 0 0, .bool false, .int .i64 0, .int .i64 0, .int .i64 0, .int .i64 0, .bool false, .bool false, .int .i64 0, .int .i64 0, .int .i64 0, .int .i64 0, .slice none 0 0, .slice none 0 0, .slice none 0 0, .int .i64 0, .int .i64 0, .int .i64 0, .slice none 0 0, .int .i64 0, .int .i64 0, .int .i64 0, .int .i64 0, .int .i64 0, .int .i64 0, .int .i64 0, .int .i64 0, .int .i64 0, .int .i64 0, .int .i64 0, .int .i64 0, .int .i64 0, .int .i64 0, .bool false] ty')) : Nb w W n noN := by
  have b2 : Below (w.alloc (.cells (nv n).toArray ty)).heap.size (w.alloc (.cells (nv n).toArray ty)) W := by rw [h]; exact (Below.refl _ _).alloc (Nat.le_refl _) _
  refine ⟨by rw [h]; exact ((Below.refl _ _).alloc (Nat.le_refl _) _).alloc (by simp) _, (Box.new w (nv n) ty).next b2, ?_⟩
  have := Box.new (w.alloc (.cells (nv n).toArray ty)) (nv noN) ty'
  rw [World.size_alloc] at this
  rw [h]
  exact this
/-- Its parts, loaded and stored whole. -/
theorem infH : (Tryz.prog.info? 28).map (·.size) = some 6 := by kernel_rfl
theorem ldH (h : Box W b (nv n)) : (Instr.loadAt 28 (.pointer (some ⟨b, 0, none⟩))).run Tryz.prog W = .ok (.agg #[.slice n.s.w.a n.s.w.n n.s.w.c, .slice n.s.p.a n.s.p.n n.s.p.c, .slice (n.s.u 0).a (n.s.u 0).n (n.s.u 0).c, .slice (n.s.u 1).a (n.s.u 1).n (n.s.u 1).c, .slice (n.s.u 2).a (n.s.u 2).n (n.s.u 2).c, .slice n.s.c.a n.s.c.n n.s.c.c]) W :=
  ld h (cs := hv n.s) (part_of ⟨rfl, rfl, rfl, rfl, rfl, rfl, trivial⟩) _ Tryz.underlying28 rfl infH
theorem infK : (Tryz.prog.info? 30).map (·.size) = some 10 := by kernel_rfl
theorem ldK (h : Box W b (nv n)) : (Instr.loadAt 30 (.pointer (some ⟨b, 6, none⟩))).run Tryz.prog W = .ok (.agg #[.int .i64 n.k.ph, .int .i64 n.k.ep, .bool n.k.mj, .slice n.k.wk.a n.k.wk.n n.k.wk.c, .bool n.k.ov, .int .i64 n.k.pa, .int .i64 n.k.pf, .int .i64 n.k.ps, .int .i64 n.k.pc, .bool n.k.me]) W :=
  ld h (cs := kv n.k) (part_of ⟨rfl, rfl, rfl, rfl, rfl, rfl, rfl, rfl, rfl, rfl, trivial⟩) _ Tryz.underlying30 rfl infK
theorem infT : (Tryz.prog.info? 34).map (·.size) = some 15 := by kernel_rfl
theorem ldT (h : Box W b (nv n)) : (Instr.loadAt 34 (.pointer (some ⟨b, 16, none⟩))).run Tryz.prog W = .ok (.agg #[.bool n.t.lv, .int .i64 (n.t.r 0), .int .i64 (n.t.r 1), .int .i64 (n.t.r 2), .int .i64 (n.t.r 3), .slice (n.t.u 0).a (n.t.u 0).n (n.t.u 0).c, .slice (n.t.u 1).a (n.t.u 1).n (n.t.u 1).c, .slice (n.t.u 2).a (n.t.u 2).n (n.t.u 2).c, .int .i64 n.t.ep, .int .i64 n.t.sg, .int .i64 n.t.rt, .slice n.t.o.a n.t.o.n n.t.o.c, .int .i64 n.t.pc, .int .i64 n.t.x, .int .i64 n.t.y]) W :=
  ld h (cs := tv n.t) (part_of ⟨rfl, rfl, rfl, rfl, rfl, rfl, rfl, rfl, rfl, rfl, rfl, rfl, rfl, rfl, rfl, trivial⟩) _ Tryz.underlying34 rfl infT
theorem stT (h : Box W b (nv n)) (x : Ts) : (Instr.storeAt 34 (.pointer (some ⟨b, 16, none⟩)) (.agg #[.bool x.lv, .int .i64 (x.r 0), .int .i64 (x.r 1), .int .i64 (x.r 2), .int .i64 (x.r 3), .slice (x.u 0).a (x.u 0).n (x.u 0).c, .slice (x.u 1).a (x.u 1).n (x.u 1).c, .slice (x.u 2).a (x.u 2).n (x.u 2).c, .int .i64 x.ep, .int .i64 x.sg, .int .i64 x.rt, .slice x.o.a x.o.n x.o.c, .int .i64 x.pc, .int .i64 x.x, .int .i64 x.y])).run Tryz.prog W = .ok () (puts b 16 (tv x) W) := st h (cs := tv x) (show 16 + 15 ≤ 43 by decide) _ infT (by kernel_rfl)
theorem bxT (h : Box W b (nv n)) (x : Ts) : Box (puts b 16 (tv x) W) b (nv ⟨n.s, n.k, x, n.p, n.q, n.e, n.v, n.b⟩) := by
  have := Box.puts (tv x) 16 h
  rw [sets_eq (tv x) 16 (nv n) (show 16 + 15 ≤ 43 by decide)] at this
  exact this
theorem infP : (Tryz.prog.info? 39).map (·.size) = some 4 := by kernel_rfl
theorem ldP (h : Box W b (nv n)) : (Instr.loadAt 39 (.pointer (some ⟨b, 31, none⟩))).run Tryz.prog W = .ok (.agg #[.int .i64 n.p.k, .int .i64 n.p.a, .int .i64 n.p.b, .int .i64 n.p.c]) W :=
  ld h (cs := pv n.p) (part_of ⟨rfl, rfl, rfl, rfl, trivial⟩) _ Tryz.underlying39 rfl infP
theorem stP (h : Box W b (nv n)) (x : O4) : (Instr.storeAt 39 (.pointer (some ⟨b, 31, none⟩)) (.agg #[.int .i64 x.k, .int .i64 x.a, .int .i64 x.b, .int .i64 x.c])).run Tryz.prog W = .ok () (puts b 31 (pv x) W) := st h (cs := pv x) (show 31 + 4 ≤ 43 by decide) _ infP (by kernel_rfl)
theorem bxP (h : Box W b (nv n)) (x : O4) : Box (puts b 31 (pv x) W) b (nv ⟨n.s, n.k, n.t, x, n.q, n.e, n.v, n.b⟩) := by
  have := Box.puts (pv x) 31 h
  rw [sets_eq (pv x) 31 (nv n) (show 31 + 4 ≤ 43 by decide)] at this
  exact this
def qv (q : O4) (e v : Int) : List Value := [.int .i64 0, .int .i64 q.k, .int .i64 q.a, .int .i64 q.b, .int .i64 q.c, .int .i64 e, .int .i64 v]
theorem infQ : (Tryz.prog.info? 42).map (·.size) = some 7 := by kernel_rfl
theorem ldQ (h : Box W b (nv n)) : (Instr.loadAt 42 (.pointer (some ⟨b, 35, none⟩))).run Tryz.prog W = .ok (.agg #[.int .i64 0, .int .i64 n.q.k, .int .i64 n.q.a, .int .i64 n.q.b, .int .i64 n.q.c, .int .i64 n.e, .int .i64 n.v]) W :=
  ld h (cs := qv n.q n.e n.v) (part_of ⟨rfl, rfl, rfl, rfl, rfl, rfl, rfl, trivial⟩) _ Tryz.underlying42 rfl infQ
theorem stQ (h : Box W b (nv n)) (q : O4) (e v : Int) : (Instr.storeAt 42 (.pointer (some ⟨b, 35, none⟩)) (.agg #[.int .i64 0, .int .i64 q.k, .int .i64 q.a, .int .i64 q.b, .int .i64 q.c, .int .i64 e, .int .i64 v])).run Tryz.prog W = .ok () (puts b 35 (qv q e v) W) := st h (cs := qv q e v) (show 35 + 7 ≤ 43 by decide) _ infQ (by kernel_rfl)
theorem bxQ (h : Box W b (nv n)) (q : O4) (e v : Int) : Box (puts b 35 (qv q e v) W) b (nv ⟨n.s, n.k, n.t, n.p, q, e, v, n.b⟩) := by
  have := Box.puts (qv q e v) 35 h
  rw [sets_eq (qv q e v) 35 (nv n) (show 35 + 7 ≤ 43 by decide)] at this
  exact this
/-- The boxes behind a store into the first one; into the second one. -/
theorem Nb.one {n' m : Tn} (h : Nb w W n m) {o : Nat} {cs : List Value} (hW : W' = puts w.heap.size o cs W) (hb : Box (puts w.heap.size o cs W) w.heap.size (nv n')) : Nb w W' n' m := by
  subst hW
  exact ⟨below_puts _ (Nat.le_refl _) _ _ _ h.bel, hb, h.res.putsOther (by omega) _ _⟩
theorem Nb.cell {n' m : Tn} (h : Nb w W n m) {j : Nat} {x : Value} (hW : W' = W.setCell ⟨w.heap.size, j, none⟩ x) (hj : (nv n).take j ++ x :: (nv n).drop (j + 1) = nv n') (hl : j < 43) : Nb w W' n' m := by
  have hj : (nv n).set j x = nv n' := by rw [List.set_eq_take_append_cons_drop, if_pos (show j < (nv n).length from hl)]; exact hj
  subst hW
  have := h.box.set j x
  rw [hj] at this
  exact ⟨h.bel.setCell (p := ⟨w.heap.size, j, none⟩) (Nat.le_refl _) _, this, h.res.other (by show ¬ w.heap.size + 1 = w.heap.size; omega) _⟩
theorem Nb.ends {m m' : Tn} (h : Nb w W n m) (hW : W' = puts (w.heap.size + 1) 0 (nv m') W) : Nb w W' n m' := by
  subst hW
  exact ⟨below_puts _ (by omega) _ _ _ h.bel, h.box.putsOther (by omega) _ _, puts_box h.res⟩
/-- A result that is a turn. -/
theorem res_turn {fn : Func} {p : Tmp} (hf : fn.results = #[.cell p 75]) {tm : Array Value} (ht : tm[p]? = some (.pointer (some ⟨b, 0, none⟩))) (h : Box W b (nv n)) : (results fn tm).run Tryz.prog W = .ok (.agg (nv n).toArray) W := by
  obtain ⟨d, hu, hd⟩ := und_turn
  have hl := run_loadVar_mid (P := Tryz.prog) W b 0 75 (nv n) d (fun j v hj => by rw [Nat.zero_add]; exact h.cel j v hj) hu hd inf_turn
  simp [results, hf, ht, asAddr, hl]
/-- One cell is stored. -/
theorem st_int (h : Box W b vs) {j : Nat} (hj : j < vs.length) (x : Int) : (Instr.storeAt 3 (.pointer (some ⟨b, j, none⟩)) (.int .i64 x)).run Tryz.prog W = .ok () (W.setCell ⟨b, j, none⟩ (.int .i64 x)) := by
  have c := h.cel j _ (List.getElem?_eq_getElem hj)
  have f := h.free j
  go_simp
theorem ld_int (h : Box W b vs) {j : Nat} {x : Int} (hj : vs[j]? = some (.int .i64 x)) : (Instr.loadAt 3 (.pointer (some ⟨b, j, none⟩))).run Tryz.prog W = .ok (.int .i64 x) W := by
  have c := h.cel j _ hj
  go_simp
theorem ld_ops (h : Box W b vs) {j : Nat} {x : Ls.Sl} (hj : vs[j]? = some (.slice x.a x.n x.c)) : (Instr.loadAt 32 (.pointer (some ⟨b, j, none⟩))).run Tryz.prog W = .ok (.slice x.a x.n x.c) W := by
  have c := h.cel j _ hj
  go_simp
theorem ld_ints (h : Box W b vs) {j : Nat} {x : Ls.Sl} (hj : vs[j]? = some (.slice x.a x.n x.c)) : (Instr.loadAt 22 (.pointer (some ⟨b, j, none⟩))).run Tryz.prog W = .ok (.slice x.a x.n x.c) W := by
  have c := h.cel j _ hj
  go_simp
theorem st_ops (h : Box W b vs) {j : Nat} (hj : j < vs.length) (x : Ls.Sl) : (Instr.storeAt 32 (.pointer (some ⟨b, j, none⟩)) (.slice x.a x.n x.c)).run Tryz.prog W = .ok () (W.setCell ⟨b, j, none⟩ (.slice x.a x.n x.c)) := by
  have c := h.cel j _ (List.getElem?_eq_getElem hj)
  have f := h.free j
  go_simp
theorem st_bool (h : Box W b vs) {j : Nat} (hj : j < vs.length) (x : Bool) : (Instr.storeAt 4 (.pointer (some ⟨b, j, none⟩)) (.bool x)).run Tryz.prog W = .ok () (W.setCell ⟨b, j, none⟩ (.bool x)) := by
  have c := h.cel j _ (List.getElem?_eq_getElem hj)
  have f := h.free j
  go_simp
end
/-! Operations of a walk: a part is loaded, or stored. -/
section
variable {w W W0 : World} {n m : Tn} {ops : Array Oper} {rest : List Oper} {o : Oper} {a : Act} {Q : Exit → Act → World → Prop}
theorem w_load {x : Operand} {ty : TypeId} {p v : Value} (hr : (Instr.loadAt ty p).run Tryz.prog W0 = .ok v W0) (hw : W = W0) (hgd : o.guard = none) (ho : o.op = .load ty x) (hx : a.eval x = p) (hK : wpList Tryz.prog ops Q rest (a.put o.dst v) W) : wpList Tryz.prog ops Q (o :: rest) a W :=
  wpList_plain hgd fun _ hK' => by
    subst hw
    unfold Oper.wp execOp
    simp only [ho, hx, Sem.run_bind, hr, Result.andThen_ok]
    exact hK' _ _ hK
theorem w_store {x y : Operand} {ty : TypeId} {p v : Value} {W' : World} (hr : (Instr.storeAt ty p v).run Tryz.prog W0 = .ok () W') (hw : W = W0) (hgd : o.guard = none) (ho : o.op = .store ty x y) (hx : a.eval x = p) (hy : a.eval y = v) (hK : wpList Tryz.prog ops Q rest (a.put o.dst undef) W') : wpList Tryz.prog ops Q (o :: rest) a W :=
  wpList_plain hgd fun _ hK' => by
    subst hw
    unfold Oper.wp execOp
    simp only [ho, hx, hy, Sem.run_bind, hr, Result.andThen_ok]
    exact hK' _ _ hK
/-- A part is stored into the first box. -/
theorem w_one {x y : Operand} {ty : TypeId} {v : Value} {j : Nat} {cs : List Value} {n' : Tn} (h : Nb w W0 n m)
    (hr : (Instr.storeAt ty (.pointer (some ⟨w.heap.size, j, none⟩)) v).run Tryz.prog W0 = .ok () (puts w.heap.size j cs W0)) (hb : Box (puts w.heap.size j cs W0) w.heap.size (nv n')) (hw : W = W0) (hgd : o.guard = none) (ho : o.op = .store ty x y) (hx : a.eval x = .pointer (some ⟨w.heap.size, j, none⟩)) (hy : a.eval y = v) (hK : ∀ W', Nb w W' n' m → wpList Tryz.prog ops Q rest (a.put o.dst undef) W') : wpList Tryz.prog ops Q (o :: rest) a W :=
  w_store hr hw hgd ho hx hy (hK _ (h.one rfl hb))
theorem w_cell {x y : Operand} {ty : TypeId} {v : Value} {j : Nat} {n' : Tn} (h : Nb w W0 n m)
    (hr : (Instr.storeAt ty (.pointer (some ⟨w.heap.size, j, none⟩)) v).run Tryz.prog W0 = .ok () (W0.setCell ⟨w.heap.size, j, none⟩ v)) (hw : W = W0) (hgd : o.guard = none) (ho : o.op = .store ty x y) (hx : a.eval x = .pointer (some ⟨w.heap.size, j, none⟩)) (hy : a.eval y = v) (hl : j < 43) (hj : (nv n).take j ++ v :: (nv n).drop (j + 1) = nv n') (hK : ∀ W', Nb w W' n' m → wpList Tryz.prog ops Q rest (a.put o.dst undef) W') : wpList Tryz.prog ops Q (o :: rest) a W :=
  w_store hr hw hgd ho hx hy (hK _ (h.cell rfl hj hl))
/-- .. all of a turn into the second one. -/
theorem w_end {x y : Operand} {m' : Tn} (h : Nb w W0 n m) (hw : W = W0) (hgd : o.guard = none) (ho : o.op = .store 75 x y) (hx : a.eval x = .pointer (some ⟨w.heap.size + 1, 0, none⟩)) (hy : a.eval y = .agg (nv m').toArray) (hK : ∀ W', Nb w W' n m' → wpList Tryz.prog ops Q rest (a.put o.dst undef) W') : wpList Tryz.prog ops Q (o :: rest) a W :=
  w_store (stN h.res) hw hgd ho hx hy (hK _ (h.ends rfl))
end
/-- A turn was returned. -/
def TR (w : World) (n : Tn) (e : Ending) (w' : World) : Prop := e = .returned (.agg (nv n).toArray) ∧ Below w.heap.size w w'
def tellN (n : Tn) (e v : Int) : Tn := ⟨n.s, n.k, n.t, n.p, n.p, e, v, true⟩
theorem tr_end {w W : World} {n m : Tn} (B : Hid (Nb w W n m)) {fn : Func} {p : Tmp} (hf : fn.results = #[.cell p 75]) {a : Act} (hd : a.defers = []) (ht : a.tmps[p]? = some (.pointer (some ⟨w.heap.size + 1, 0, none⟩))) : bodyPost Tryz.prog fn (TR w m) .ret a W :=
  bodyPost_ret (v := .agg (nv m).toArray) (res_turn hf ht B.out.res) hd ⟨rfl, B.out.bel⟩
set_option maxHeartbeats 1000000 in
theorem tell_any (n : Tn) (e v : Int) (w : World) : Calls Tryz.prog 114 #[.agg (nv n).toArray, .int .i64 e, .int .i64 v] w (TR w (tellN n e v)) := by
  go_enter Tryz.func114, Tryz.ntmps114
  go_upto_region 1 with fail
  obtain ⟨W1, hW1⟩ : ∃ W1, W1 = (w.alloc (.cells (nv n).toArray 75)).alloc (.cells #[.slice none 0 0, .slice none 0 0, .slice none 0 0, .slice none 0 0, .slice none 0 0, .slice none 0 0, .int .i64 0, .int .i64 0, .bool false, .slice none 0 0, .bool false, .int .i64 0, .int .i64 0, .int .i64 0, .int .i64 0, .bool false, .bool false, .int .i64 0, .int .i64 0, .int .i64 0, .int .i64 0, .slice none 0 0, .slice none 0 0, .slice none 0 0, .int .i64 0, .int .i64 0, .int .i64 0, .slice none 0 0, .int .i64 0, .int .i64 0, .int .i64 0, .int .i64 0, .int .i64 0, .int .i64 0, .int .i64 0, .int .i64 0, .int .i64 0, .int .i64 0, .int .i64 0, .int .i64 0, .int .i64 0, .int .i64 0, .bool false] 75) := ⟨_, rfl⟩
  have B1 := Lib.hid (nb_start n hW1)
  rw [← hW1]
  clear hW1
  go_wp2_with (first
    | (refine w_load (ldP B1.out.box) rfl rfl rfl rfl ?_)
    | (refine w_one B1.out (stQ B1.out.box n.p e v) (bxQ B1.out.box n.p e v) rfl rfl rfl rfl rfl ?_; intro W2 h2; have B2 := Lib.hid h2; clear h2)
    | (refine w_cell (n' := ⟨n.s, n.k, n.t, n.p, n.p, e, v, true⟩) B2.out (st_bool B2.out.box (show 42 < 43 by decide) true) rfl rfl rfl rfl rfl (by decide) rfl ?_; intro W3 h3; have B3 := Lib.hid h3; clear h3)
    | (refine w_load (ldN B3.out.box) rfl rfl rfl rfl ?_)
    | (refine w_end B3.out rfl rfl rfl rfl rfl ?_; intro W4 h4; have B4 := Lib.hid h4; clear h4))
  exact tr_end B4 rfl rfl rfl
end Go.Proofs.YtfjhhfncapmnmaaGreatDoor.Mu
end
section
namespace Go.Proofs.YtfjhhfncapmnmaaGreatDoor.Mu
open Go.Proofs.YtfjhhfncapmnmaaGreatDoor Go.Proofs.YtfjhhfncapmnmaaGreatDoor.Rt
open Go.RowKit
set_option maxRecDepth 100000

/-- All but the first operation. -/
def dropSl (s : Ls.Sl) : Ls.Sl := ⟨if s.c = 1 then s.a else s.a.map (·.add 4), s.n - 1, s.c - 1⟩
def gS (g : Nat → O4) : Nat → O4 := fun i => g (i + 1)
/-- The thread, the turn, behind the operation's last step. -/
def doneT (t : Ts) : Ts := ⟨t.lv, t.r, t.u, t.ep, t.sg, t.rt, dropSl t.o, 0, 0, 0⟩
def doneN (n : Tn) : Tn := ⟨n.s, n.k, doneT n.t, n.p, n.q, n.e, n.v, n.b⟩
theorem run_drop (s : Ls.Sl) (hn : 1 ≤ s.n) (W : World) : (Instr.sliceAt 32 (.slice s.a s.n s.c) (some (.int .i64 1)) none none).run Tryz.prog W = .ok (.slice (dropSl s).a (dropSl s).n (dropSl s).c) W := by
  have h1 : (1 : Int) ≤ (s.n : Int) := by omega
  have u : Tryz.prog.underlying 32 = some (.slice (Tryz.prog.elem 32)) := by kernel_rfl
  have z : (sizeOf (Tryz.prog.elem 32)).run Tryz.prog W = .ok 4 W := by
    have : Tryz.prog.elem 32 = 39 := by kernel_rfl
    rw [this]
    go_simp
  rw [run_sliceAt_slice (h := u), run_slice_l (ht := u) (kl := .i64) (l := 1) (h0 := by decide) (h1 := h1), z]
  rfl
theorem drop_row {w : World} {B : Nat} {o : Ls.Sl} {g : Nat → O4} (h : ORow w B o.a o.n g) (hc : o.n ≤ o.c) : ORow w B (dropSl o).a (dropSl o).n (gS g) := fun hn => by
  have hn' : 0 < o.n - 1 := hn
  obtain ⟨b, off, e, hlt, hx⟩ := h (by omega)
  refine ⟨b, off + 4, ?_, hlt, fun i hi => ?_⟩
  · show (if o.c = 1 then o.a else o.a.map (·.add 4)) = _
    rw [if_neg (by omega), e]
    simp [Addr.add]
  · have hi' : i < o.n - 1 := hi
    have := hx (i + 1) (by omega)
    rw [show off + 4 + i * 4 = off + (i + 1) * 4 by omega]
    exact this
theorem drop_th {w : World} {B : Nat} {t : Ts} {F : Nat → List Int} {g : Nat → O4} (h : Th w B t F g) : Th w B (doneT t) F (gS g) := ⟨h.c, drop_row h.o h.k, by have := h.k; show t.o.n - 1 ≤ t.o.c - 1; omega⟩
section
variable {w W W0 : World} {n m : Tn} {ops : Array Oper} {rest : List Oper} {o : Oper} {a : Act} {Q : Exit → Act → World → Prop}
theorem w_drop {x : Operand} (s : Ls.Sl) (hn : 1 ≤ s.n) (hgd : o.guard = none) (ho : o.op = .slice 32 x (some (.const (.int .i64 1))) none none) (hx : a.eval x = .slice s.a s.n s.c) (hK : wpList Tryz.prog ops Q rest (a.put o.dst (.slice (dropSl s).a (dropSl s).n (dropSl s).c)) W) : wpList Tryz.prog ops Q (o :: rest) a W :=
  wpList_plain hgd fun _ hK' => by
    unfold Oper.wp execOp
    have he : a.eval (.const (.int .i64 1)) = .int .i64 1 := rfl
    simp only [ho, hx, Sem.run_bind, Option.map, he, run_drop s hn, Result.andThen_ok]
    exact hK' _ _ hK
end
set_option maxHeartbeats 1000000 in
theorem done_any (n : Tn) (hn : 1 ≤ n.t.o.n) (w : World) : Calls Tryz.prog 115 #[.agg (nv n).toArray] w (TR w (doneN n)) := by
  go_enter Tryz.func115, Tryz.ntmps115
  go_upto_region 1 with fail
  obtain ⟨W1, hW1⟩ : ∃ W1, W1 = (w.alloc (.cells (nv n).toArray 75)).alloc (.cells #[.slice none 0 0, .slice none 0 0, .slice none 0 0, .slice none 0 0, .slice none 0 0, .slice none 0 0, .int .i64 0, .int .i64 0, .bool false, .slice none 0 0, .bool false, .int .i64 0, .int .i64 0, .int .i64 0, .int .i64 0, .bool false, .bool false, .int .i64 0, .int .i64 0, .int .i64 0, .int .i64 0, .slice none 0 0, .slice none 0 0, .slice none 0 0, .int .i64 0, .int .i64 0, .int .i64 0, .slice none 0 0, .int .i64 0, .int .i64 0, .int .i64 0, .int .i64 0, .int .i64 0, .int .i64 0, .int .i64 0, .int .i64 0, .int .i64 0, .int .i64 0, .int .i64 0, .int .i64 0, .int .i64 0, .int .i64 0, .bool false] 75) := ⟨_, rfl⟩
  have B1 := Lib.hid (nb_start n hW1)
  rw [← hW1]
  clear hW1
  go_wp2_with (first
    | (refine w_load (ld_ops B1.out.box (j := 27) (x := n.t.o) rfl) rfl rfl rfl rfl ?_)
    | (refine w_drop n.t.o hn rfl rfl rfl ?_)
    | (refine w_cell (n' := ⟨n.s, n.k, ⟨n.t.lv, n.t.r, n.t.u, n.t.ep, n.t.sg, n.t.rt, dropSl n.t.o, n.t.pc, n.t.x, n.t.y⟩, n.p, n.q, n.e, n.v, n.b⟩) B1.out (st_ops B1.out.box (j := 27) (show 27 < 43 by decide) (dropSl n.t.o)) rfl rfl rfl rfl rfl (by decide) rfl ?_; intro W2 h2; have B2 := Lib.hid h2; clear h2)
    | (refine w_cell (n' := ⟨n.s, n.k, ⟨n.t.lv, n.t.r, n.t.u, n.t.ep, n.t.sg, n.t.rt, dropSl n.t.o, 0, n.t.x, n.t.y⟩, n.p, n.q, n.e, n.v, n.b⟩) B2.out (st_int B2.out.box (j := 28) (show 28 < 43 by decide) 0) rfl rfl rfl rfl rfl (by decide) rfl ?_; intro W3 h3; have B3 := Lib.hid h3; clear h3)
    | (refine w_cell (n' := ⟨n.s, n.k, ⟨n.t.lv, n.t.r, n.t.u, n.t.ep, n.t.sg, n.t.rt, dropSl n.t.o, 0, 0, n.t.y⟩, n.p, n.q, n.e, n.v, n.b⟩) B3.out (st_int B3.out.box (j := 29) (show 29 < 43 by decide) 0) rfl rfl rfl rfl rfl (by decide) rfl ?_; intro W4 h4; have B4 := Lib.hid h4; clear h4)
    | (refine w_cell (n' := doneN n) B4.out (st_int B4.out.box (j := 30) (show 30 < 43 by decide) 0) rfl rfl rfl rfl rfl (by decide) rfl ?_; intro W5 h5; have B5 := Lib.hid h5; clear h5)
    | (refine w_load (ldN B5.out.box) rfl rfl rfl rfl ?_)
    | (refine w_end B5.out rfl rfl rfl rfl rfl ?_; intro W6 h6; have B6 := Lib.hid h6; clear h6))
  exact tr_end B6 rfl rfl rfl
def endN (n : Tn) (e v : Int) : Tn := doneN (tellN n e v)
set_option maxHeartbeats 1000000 in
theorem end_any (n : Tn) (v : Int) (hn : 1 ≤ n.t.o.n) (w : World) : Calls Tryz.prog 166 #[.agg (nv n).toArray, .int .i64 v] w (TR w (endN n 0 v)) := by
  go_enter Tryz.func166, Tryz.ntmps166
  go_upto_region 1 with fail
  obtain ⟨W1, hW1⟩ : ∃ W1, W1 = (w.alloc (.cells (nv n).toArray 75)).alloc (.cells #[.slice none 0 0, .slice none 0 0, .slice none 0 0, .slice none 0 0, .slice none 0 0, .slice none 0 0, .int .i64 0, .int .i64 0, .bool false, .slice none 0 0, .bool false, .int .i64 0, .int .i64 0, .int .i64 0, .int .i64 0, .bool false, .bool false, .int .i64 0, .int .i64 0, .int .i64 0, .int .i64 0, .slice none 0 0, .slice none 0 0, .slice none 0 0, .int .i64 0, .int .i64 0, .int .i64 0, .slice none 0 0, .int .i64 0, .int .i64 0, .int .i64 0, .int .i64 0, .int .i64 0, .int .i64 0, .int .i64 0, .int .i64 0, .int .i64 0, .int .i64 0, .int .i64 0, .int .i64 0, .int .i64 0, .int .i64 0, .bool false] 75) := ⟨_, rfl⟩
  have B1 := Lib.hid (nb_start n hW1)
  rw [← hW1]
  clear hW1
  go_wp2_with (first
    | (refine w_load (ldN B1.out.box) rfl rfl rfl rfl ?_)
    | ((go_at_call 114); refine (tell_any n 0 v _).mono ?_; rintro e9 w2 ⟨rfl, hb2⟩; have B2 := Lib.hid (B1.out.next hb2); clear hb2)
    | ((go_at_call 115); refine (done_any (tellN n 0 v) hn _).mono ?_; rintro e9 w3 ⟨rfl, hb3⟩; have B3 := Lib.hid (B2.out.next hb3); clear hb3)
    | (refine w_end B3.out rfl rfl rfl rfl rfl ?_; intro W6 h6; have B6 := Lib.hid h6; clear h6))
  exact tr_end B6 rfl rfl rfl
set_option maxHeartbeats 1000000 in
theorem fail_any (n : Tn) (e : Int) (hn : 1 ≤ n.t.o.n) (w : World) : Calls Tryz.prog 75 #[.agg (nv n).toArray, .int .i64 e] w (TR w (endN n e 0)) := by
  go_enter Tryz.func75, Tryz.ntmps75
  go_upto_region 1 with fail
  obtain ⟨W1, hW1⟩ : ∃ W1, W1 = (w.alloc (.cells (nv n).toArray 75)).alloc (.cells #[.slice none 0 0, .slice none 0 0, .slice none 0 0, .slice none 0 0, .slice none 0 0, .slice none 0 0, .int .i64 0, .int .i64 0, .bool false, .slice none 0 0, .bool false, .int .i64 0, .int .i64 0, .int .i64 0, .int .i64 0, .bool false, .bool false, .int .i64 0, .int .i64 0, .int .i64 0, .int .i64 0, .slice none 0 0, .slice none 0 0, .slice none 0 0, .int .i64 0, .int .i64 0, .int .i64 0, .slice none 0 0, .int .i64 0, .int .i64 0, .int .i64 0, .int .i64 0, .int .i64 0, .int .i64 0, .int .i64 0, .int .i64 0, .int .i64 0, .int .i64 0, .int .i64 0, .int .i64 0, .int .i64 0, .int .i64 0, .bool false] 75) := ⟨_, rfl⟩
  have B1 := Lib.hid (nb_start n hW1)
  rw [← hW1]
  clear hW1
  go_wp2_with (first
    | (refine w_load (ldN B1.out.box) rfl rfl rfl rfl ?_)
    | ((go_at_call 114); refine (tell_any n e 0 _).mono ?_; rintro e9 w2 ⟨rfl, hb2⟩; have B2 := Lib.hid (B1.out.next hb2); clear hb2)
    | ((go_at_call 115); refine (done_any (tellN n e 0) hn _).mono ?_; rintro e9 w3 ⟨rfl, hb3⟩; have B3 := Lib.hid (B2.out.next hb3); clear hb3)
    | (refine w_end B3.out rfl rfl rfl rfl rfl ?_; intro W6 h6; have B6 := Lib.hid h6; clear h6))
  exact tr_end B6 rfl rfl rfl
theorem one_any (b : Bool) (w : World) : Calls Tryz.prog 167 #[.bool b] w fun e w' => e = .returned (.int .i64 (if b = true then 1 else 0)) ∧ w' = w := by
  cases b with
  | false =>
    go_enter Tryz.func167, Tryz.ntmps167
    go_wp2
    go_ret
    exact ⟨rfl, rfl⟩
  | true =>
    go_enter Tryz.func167, Tryz.ntmps167
    go_wp2
    go_ret
    exact ⟨rfl, rfl⟩
end Go.Proofs.YtfjhhfncapmnmaaGreatDoor.Mu
end
section
namespace Go.Proofs.YtfjhhfncapmnmaaGreatDoor.Mu
open Go.Proofs.YtfjhhfncapmnmaaGreatDoor Go.Proofs.YtfjhhfncapmnmaaGreatDoor.Rt
set_option maxRecDepth 100000

/-- Where the object begins, the field's address, the error. -/
def flE (s : Hs) (d : Hd_) (t : Ts) (r f : Int) : Int := if ofE s d t r = 0 then (if 0 ≤ f ∧ f < ofN s d t r then 0 else 3) else ofE s d t r
def flA (s : Hs) (d : Hd_) (t : Ts) (r f : Int) : Int := if flE s d t r f = 0 then ofA s d t r else 0
def flX (s : Hs) (d : Hd_) (t : Ts) (r f : Int) : Int := if flE s d t r f = 0 then ofA s d t r + 1 + f else 0
section
variable {s : Hs} {d : Hd_} {t : Ts} {r f a : Int}
theorem obj_at (h : ofE s d t r = 0) : inReg r = true ∧ headE s d (getV t r) = 0 ∧ ofA s d t r = getV t r ∧ ofN s d t r = nOf (wd d (getV t r)) := by
  cases hr : inReg r with
  | false =>
    unfold ofE at h
    rw [if_neg (by rw [hr]; decide)] at h
    omega
  | true =>
    have h1 : objE s d (getV t r) = 0 := by
      unfold ofE at h
      rwa [if_pos hr] at h
    have h2 : headE s d (getV t r) = 0 := by
      unfold objE at h1
      split at h1
      · assumption
      · omega
    refine ⟨rfl, h2, ?_, ?_⟩
    · unfold ofA
      rw [if_pos hr]
      exact if_pos h2
    · unfold ofN
      rw [if_pos hr]
      unfold objN
      rw [if_pos h2, (Sh.obj_of h2).val]
      rfl
theorem fld_in (h : headE s d a = 0) : 16 ≤ a ∧ 1 ≤ nOf (wd d a) ∧ a + nOf (wd d a) < 16 + (s.w.n : Int) ∧ Ar.mayB s.w.n = true ∧ nOf (wd d a) < Cl.bg d.f s.p.n a ∧ ¬ Cl.bg d.f s.p.n a = 0 := by
  have ho := Sh.obj_of h
  have hF := fit_first (mayH_all ho.may).1
  rcases used_head ho.may a with ⟨_, _, _, h1, h2⟩ | ⟨h1, _⟩
  · have hb : ¬ Cl.bg d.f s.p.n a = 0 := by omega
    have := cell_end hb
    have hw := hF.wp
    exact ⟨this.1, h1, by omega, hF.w, h2, hb⟩
  · exact absurd ho.used h1
theorem fl_ok (h : flE s d t r f = 0) : ofE s d t r = 0 ∧ 0 ≤ f ∧ f < ofN s d t r := by
  unfold flE at h
  split at h
  · next h1 =>
    split at h
    · next h2 => exact ⟨h1, h2⟩
    · omega
  · next h1 => exact absurd h h1
theorem fl_at (h : flE s d t r f = 0) : 16 ≤ flA s d t r f ∧ flX s d t r f = flA s d t r f + 1 + f ∧ 17 ≤ flX s d t r f ∧ flX s d t r f < 16 + (s.w.n : Int) ∧ Ar.mayB s.w.n = true := by
  obtain ⟨h1, h2, h3⟩ := fl_ok h
  obtain ⟨_, h4, h5, h6⟩ := obj_at h1
  have := fld_in h4
  have e1 : flA s d t r f = getV t r := by unfold flA; rw [if_pos h, h5]
  have e2 : flX s d t r f = getV t r + 1 + f := by unfold flX; rw [if_pos h, h5]
  rw [e1, e2]
  exact ⟨this.1, rfl, by omega, by omega, this.2.2.2.1⟩
end
end Go.Proofs.YtfjhhfncapmnmaaGreatDoor.Mu
end
section
namespace Go.Proofs.YtfjhhfncapmnmaaGreatDoor.Mu
open Go.Proofs.YtfjhhfncapmnmaaGreatDoor Go.Proofs.YtfjhhfncapmnmaaGreatDoor.Rt
open Go.RowKit
set_option maxRecDepth 100000

theorem ob_start (w : World) (n : Tn) (ty : TypeId) : Below w.heap.size w (w.alloc (.cells (nv n).toArray ty)) ∧ Box (w.alloc (.cells (nv n).toArray ty)) w.heap.size (nv n) := ⟨(Below.refl _ _).alloc (Nat.le_refl _) _, Box.new w (nv n) ty⟩
def Three (w : World) (a b c : Int) (e : Ending) (w' : World) : Prop := e = .returned (.tuple #[.int .i64 a, .int .i64 b, .int .i64 c]) ∧ Below w.heap.size w w'
section
variable (n : Tn) (d : Hd_) (w : World)
set_option maxHeartbeats 1000000 in
theorem field_core (r f A N x : Int) (b1 b2 : Bool) (hb1 : decide (f < 0) = b1) (hb2 : decide (N ≤ f) = b2) (hA : x = 0 → b1 = false → b2 = false → 0 ≤ A ∧ A + 1 + f ≤ 100000)
    (hO : ∀ W, Below w.heap.size w W → Calls Tryz.prog 25 #[(.agg #[.slice n.s.w.a n.s.w.n n.s.w.c, .slice n.s.p.a n.s.p.n n.s.p.c, .slice (n.s.u 0).a (n.s.u 0).n (n.s.u 0).c, .slice (n.s.u 1).a (n.s.u 1).n (n.s.u 1).c, .slice (n.s.u 2).a (n.s.u 2).n (n.s.u 2).c, .slice n.s.c.a n.s.c.n n.s.c.c]), (.agg #[.bool n.t.lv, .int .i64 (n.t.r 0), .int .i64 (n.t.r 1), .int .i64 (n.t.r 2), .int .i64 (n.t.r 3), .slice (n.t.u 0).a (n.t.u 0).n (n.t.u 0).c, .slice (n.t.u 1).a (n.t.u 1).n (n.t.u 1).c, .slice (n.t.u 2).a (n.t.u 2).n (n.t.u 2).c, .int .i64 n.t.ep, .int .i64 n.t.sg, .int .i64 n.t.rt, .slice n.t.o.a n.t.o.n n.t.o.c, .int .i64 n.t.pc, .int .i64 n.t.x, .int .i64 n.t.y]), .int .i64 r] W (Rt.Three W A N x)) :
    Calls Tryz.prog 164 #[.agg (nv n).toArray, .int .i64 r, .int .i64 f] w (Three w (if x = 0 then (if b1 = false ∧ b2 = false then A else 0) else 0) (if x = 0 then (if b1 = false ∧ b2 = false then A + 1 + f else 0) else 0) (if x = 0 then (if b1 = false ∧ b2 = false then 0 else 3) else x)) := by
  have HO := Lib.hid hO
  clear hO
  by_cases h0 : x = 0
  · rw [if_pos h0, if_pos h0, if_pos h0]
    have d0 : (x != 0) = false := by simp [h0]
    cases b1 with
    | true =>
      rw [if_neg (fun h => by cases h.1), if_neg (fun h => by cases h.1), if_neg (fun h => by cases h.1)]
      clear hb2 hA h0
      go_enter Tryz.func164, Tryz.ntmps164
      go_upto_region 1 with fail
      obtain ⟨W1, hW1⟩ : ∃ W1, W1 = w.alloc (.cells (nv n).toArray 75) := ⟨_, rfl⟩
      have B1 := Lib.hid (ob_start w n 75)
      rw [← hW1] at B1 ⊢
      clear hW1
      go_wp2_with (first
        | (refine w_load (ldH B1.out.2) rfl rfl rfl rfl ?_)
        | (refine w_load (ldT B1.out.2) rfl rfl rfl rfl ?_)
        | ((go_at_call 25); refine (HO.out _ B1.out.1).mono ?_; rintro e9 w2 ⟨rfl, hb2⟩; have B2 := Lib.hid (B1.out.1.trans (hb2.mono B1.out.1.size)); clear hb2))
      go_ret3
      exact ⟨rfl, B2.out⟩
    | false =>
      cases b2 with
      | true =>
        rw [if_neg (by decide), if_neg (by decide), if_neg (by decide)]
        clear hA h0
        go_enter Tryz.func164, Tryz.ntmps164
        go_upto_region 1 with fail
        obtain ⟨W1, hW1⟩ : ∃ W1, W1 = w.alloc (.cells (nv n).toArray 75) := ⟨_, rfl⟩
        have B1 := Lib.hid (ob_start w n 75)
        rw [← hW1] at B1 ⊢
        clear hW1
        go_wp2_with (first
          | (refine w_load (ldH B1.out.2) rfl rfl rfl rfl ?_)
          | (refine w_load (ldT B1.out.2) rfl rfl rfl rfl ?_)
          | ((go_at_call 25); refine (HO.out _ B1.out.1).mono ?_; rintro e9 w2 ⟨rfl, hb2⟩; have B2 := Lib.hid (B1.out.1.trans (hb2.mono B1.out.1.size)); clear hb2))
        go_ret3
        exact ⟨rfl, B2.out⟩
      | false =>
        rw [if_pos ⟨rfl, rfl⟩, if_pos ⟨rfl, rfl⟩, if_pos ⟨rfl, rfl⟩]
        obtain ⟨a1, a2⟩ := hA h0 rfl rfl
        have a3 : 0 ≤ f := by have := of_decide_eq_false hb1; omega
        clear h0 hA
        go_enter Tryz.func164, Tryz.ntmps164
        go_upto_region 1 with fail
        obtain ⟨W1, hW1⟩ : ∃ W1, W1 = w.alloc (.cells (nv n).toArray 75) := ⟨_, rfl⟩
        have B1 := Lib.hid (ob_start w n 75)
        rw [← hW1] at B1 ⊢
        clear hW1
        go_wp2_with (first
          | (refine w_load (ldH B1.out.2) rfl rfl rfl rfl ?_)
          | (refine w_load (ldT B1.out.2) rfl rfl rfl rfl ?_)
          | ((go_at_call 25); refine (HO.out _ B1.out.1).mono ?_; rintro e9 w2 ⟨rfl, hb2⟩; have B2 := Lib.hid (B1.out.1.trans (hb2.mono B1.out.1.size)); clear hb2))
        go_ret3
        exact ⟨rfl, B2.out⟩
  · rw [if_neg h0, if_neg h0, if_neg h0]
    have d0 : (x != 0) = true := by simpa using h0
    clear h0 hA hb1 hb2
    go_enter Tryz.func164, Tryz.ntmps164
    go_upto_region 1 with fail
    obtain ⟨W1, hW1⟩ : ∃ W1, W1 = w.alloc (.cells (nv n).toArray 75) := ⟨_, rfl⟩
    have B1 := Lib.hid (ob_start w n 75)
    rw [← hW1] at B1 ⊢
    clear hW1
    go_wp2_with (first
      | (refine w_load (ldH B1.out.2) rfl rfl rfl rfl ?_)
      | (refine w_load (ldT B1.out.2) rfl rfl rfl rfl ?_)
      | ((go_at_call 25); refine (HO.out _ B1.out.1).mono ?_; rintro e9 w2 ⟨rfl, hb2⟩; have B2 := Lib.hid (B1.out.1.trans (hb2.mono B1.out.1.size)); clear hb2))
    go_ret3
    exact ⟨rfl, B2.out⟩
theorem field_any (r f : Int) (hp : Hp w w.heap.size n.s d) (hz : Cl.Sz w) (hf : Fine n.s d) : Calls Tryz.prog 164 #[.agg (nv n).toArray, .int .i64 r, .int .i64 f] w (Three w (flA n.s d n.t r f) (flX n.s d n.t r f) (flE n.s d n.t r f)) := by
  have hz0 := hz.pos
  have hC := field_core n w r f (ofA n.s d n.t r) (ofN n.s d n.t r) (ofE n.s d n.t r) _ _ rfl rfl (fun h1 h2 h3 => by
    have h4 : flE n.s d n.t r f = 0 := by
      unfold flE
      rw [if_pos h1, if_pos ⟨by have := of_decide_eq_false h2; omega, by have := of_decide_eq_false h3; omega⟩]
    have h5 := fl_at h4
    have e1 : flA n.s d n.t r f = ofA n.s d n.t r := if_pos h4
    have := hf.wn
    rw [e1] at h5
    omega) (fun W hb => pobj_any n.s d n.t r W (hp.next hb) (hz.over hb hz0) hf)
  by_cases h0 : ofE n.s d n.t r = 0
  · by_cases h1 : 0 ≤ f ∧ f < ofN n.s d n.t r
    · have h2 : decide (f < 0) = false ∧ decide (ofN n.s d n.t r ≤ f) = false := ⟨decide_eq_false (by omega), decide_eq_false (by omega)⟩
      have e : flE n.s d n.t r f = 0 := by unfold flE; rw [if_pos h0, if_pos h1]
      rw [if_pos h0, if_pos h0, if_pos h0, if_pos h2, if_pos h2, if_pos h2] at hC
      unfold flA flX
      rw [if_pos e, if_pos e, e]
      exact hC
    · have h2 : ¬ (decide (f < 0) = false ∧ decide (ofN n.s d n.t r ≤ f) = false) := fun h => h1 ⟨by have := of_decide_eq_false h.1; omega, by have := of_decide_eq_false h.2; omega⟩
      have e : flE n.s d n.t r f = 3 := by unfold flE; rw [if_pos h0, if_neg h1]
      rw [if_pos h0, if_pos h0, if_pos h0, if_neg h2, if_neg h2, if_neg h2] at hC
      unfold flA flX
      rw [if_neg (by rw [e]; decide), if_neg (by rw [e]; decide), e]
      exact hC
  · have e : flE n.s d n.t r f = ofE n.s d n.t r := by unfold flE; rw [if_neg h0]
    rw [if_neg h0, if_neg h0, if_neg h0] at hC
    unfold flA flX
    rw [if_neg (by rw [e]; exact h0), if_neg (by rw [e]; exact h0), e]
    exact hC
end
end Go.Proofs.YtfjhhfncapmnmaaGreatDoor.Mu
end
section
namespace Go.Proofs.YtfjhhfncapmnmaaGreatDoor
open Go.RowKit
set_option maxRecDepth 100000

/-- The boxes of the argument and of the result. -/
structure Fr (w W : World) (s : Hs) : Prop where
  bel : Below w.heap.size w W
  box : HBox W w.heap.size s
  res : ∀ j, j < 6 → ∃ v, W.cell? ⟨w.heap.size + 1, j, none⟩ = some v
  free : ∀ j, W.frozen? ⟨w.heap.size + 1, j, none⟩ = false
  lt : w.heap.size + 1 < W.heap.size
section
variable {w W W' : World} {s : Hs} {d : Hd_}
theorem Fr.next (h : Fr w W s) (hb : Below W.heap.size W W') : Fr w W' s :=
  ⟨h.bel.trans (hb.mono h.bel.size), h.box.next hb, fun j hj => by obtain ⟨v, e⟩ := h.res j hj; exact ⟨v, (hb.cell (p := ⟨w.heap.size + 1, j, none⟩) h.lt).trans e⟩, fun j => (hb.frozen (p := ⟨w.heap.size + 1, j, none⟩) h.lt).trans (h.free j), Nat.lt_of_lt_of_le h.lt hb.size⟩
theorem fr_start {t1 t2 : TypeId} (hW : W = (w.alloc (.cells #[.slice s.w.a s.w.n s.w.c, .slice s.p.a s.p.n s.p.c, .slice (s.u 0).a (s.u 0).n (s.u 0).c, .slice (s.u 1).a (s.u 1).n (s.u 1).c, .slice (s.u 2).a (s.u 2).n (s.u 2).c, .slice s.c.a s.c.n s.c.c] t1)).alloc (.cells #[.slice none 0 0, .slice none 0 0, .slice none 0 0, .slice none 0 0, .slice none 0 0, .slice none 0 0] t2)) : Fr w W s := by
  have b1 := HBox.new w s t1
  have b2 : Below (w.alloc (.cells #[.slice s.w.a s.w.n s.w.c, .slice s.p.a s.p.n s.p.c, .slice (s.u 0).a (s.u 0).n (s.u 0).c, .slice (s.u 1).a (s.u 1).n (s.u 1).c, .slice (s.u 2).a (s.u 2).n (s.u 2).c, .slice s.c.a s.c.n s.c.c] t1)).heap.size (w.alloc (.cells #[.slice s.w.a s.w.n s.w.c, .slice s.p.a s.p.n s.p.c, .slice (s.u 0).a (s.u 0).n (s.u 0).c, .slice (s.u 1).a (s.u 1).n (s.u 1).c, .slice (s.u 2).a (s.u 2).n (s.u 2).c, .slice s.c.a s.c.n s.c.c] t1)) W := by rw [hW]; exact (Below.refl _ _).alloc (Nat.le_refl _) _
  refine ⟨by rw [hW]; exact ((Below.refl _ _).alloc (Nat.le_refl _) _).alloc (by simp) _, b1.next b2, fun j hj => ?_, fun j => by rw [hW]; simp [go_sem], by rw [hW]; simp⟩
  match j, hj with
  | 0, _ => exact ⟨_, by rw [hW]; simp [go_sem]; rfl⟩
  | 1, _ => exact ⟨_, by rw [hW]; simp [go_sem]; rfl⟩
  | 2, _ => exact ⟨_, by rw [hW]; simp [go_sem]; rfl⟩
  | 3, _ => exact ⟨_, by rw [hW]; simp [go_sem]; rfl⟩
  | 4, _ => exact ⟨_, by rw [hW]; simp [go_sem]; rfl⟩
  | 5, _ => exact ⟨_, by rw [hW]; simp [go_sem]; rfl⟩
theorem fr_keep (h : Fr w W s ∧ True) (hb : Below W.heap.size W W') : (Fr w W' s ∧ True) ∧ w.heap.size < W'.heap.size ∧ W'.cell? ⟨w.heap.size, 0, none⟩ = some (.slice s.w.a s.w.n s.w.c) ∧ W'.cell? ⟨w.heap.size, 1, none⟩ = some (.slice s.p.a s.p.n s.p.c) ∧ W'.cell? ⟨w.heap.size, 2, none⟩ = some (.slice (s.u 0).a (s.u 0).n (s.u 0).c) ∧ W'.cell? ⟨w.heap.size, 3, none⟩ = some (.slice (s.u 1).a (s.u 1).n (s.u 1).c) ∧ W'.cell? ⟨w.heap.size, 4, none⟩ = some (.slice (s.u 2).a (s.u 2).n (s.u 2).c) ∧ W'.cell? ⟨w.heap.size, 5, none⟩ = some (.slice s.c.a s.c.n s.c.c) := by
  have g := h.1.next hb
  exact ⟨⟨g, trivial⟩, g.box.lt, g.box.c0, g.box.c1, g.box.c2, g.box.c3, g.box.c4, g.box.c5⟩
theorem Fr.put (h : Fr w W s) (v0 v1 v2 v3 v4 v5 : Value) : Fr w (put6 W (w.heap.size + 1) v0 v1 v2 v3 v4 v5) s := by
  have hz := put6_size W (w.heap.size + 1) v0 v1 v2 v3 v4 v5
  obtain ⟨x0, h0⟩ := h.res 0 (by decide)
  obtain ⟨x1, h1⟩ := h.res 1 (by decide)
  obtain ⟨x2, h2⟩ := h.res 2 (by decide)
  obtain ⟨x3, h3⟩ := h.res 3 (by decide)
  obtain ⟨x4, h4⟩ := h.res 4 (by decide)
  obtain ⟨x5, h5⟩ := h.res 5 (by decide)
  refine ⟨below_put6 h.bel (by omega) _ _ _ _ _ _, h.box.same (put6_other _ _ _ _ _ _ _ _ (by omega)) (by rw [hz]; exact Nat.le_refl _), fun j hj => ?_, fun j => ?_, by rw [hz]; exact h.lt⟩
  · match j, hj with
    | 0, _ => exact ⟨v0, by simp [put6, go_sem, h0]⟩
    | 1, _ => exact ⟨v1, by simp [put6, go_sem, h1]⟩
    | 2, _ => exact ⟨v2, by simp [put6, go_sem, h2]⟩
    | 3, _ => exact ⟨v3, by simp [put6, go_sem, h3]⟩
    | 4, _ => exact ⟨v4, by simp [put6, go_sem, h4]⟩
    | 5, _ => exact ⟨v5, by simp [put6, go_sem, h5]⟩
  · unfold put6
    simp only [World.frozen?_setCell]
    exact h.free j
theorem fr_put (h : Fr w W s ∧ True) (v0 v1 v2 v3 v4 v5 : Value) : (Fr w ((((((W.setCell ⟨w.heap.size + 1, 0, none⟩ v0).setCell ⟨w.heap.size + 1, 1, none⟩ v1).setCell ⟨w.heap.size + 1, 2, none⟩ v2).setCell ⟨w.heap.size + 1, 3, none⟩ v3).setCell ⟨w.heap.size + 1, 4, none⟩ v4).setCell ⟨w.heap.size + 1, 5, none⟩ v5) s ∧ True) ∧ w.heap.size < ((((((W.setCell ⟨w.heap.size + 1, 0, none⟩ v0).setCell ⟨w.heap.size + 1, 1, none⟩ v1).setCell ⟨w.heap.size + 1, 2, none⟩ v2).setCell ⟨w.heap.size + 1, 3, none⟩ v3).setCell ⟨w.heap.size + 1, 4, none⟩ v4).setCell ⟨w.heap.size + 1, 5, none⟩ v5).heap.size ∧ ((((((W.setCell ⟨w.heap.size + 1, 0, none⟩ v0).setCell ⟨w.heap.size + 1, 1, none⟩ v1).setCell ⟨w.heap.size + 1, 2, none⟩ v2).setCell ⟨w.heap.size + 1, 3, none⟩ v3).setCell ⟨w.heap.size + 1, 4, none⟩ v4).setCell ⟨w.heap.size + 1, 5, none⟩ v5).cell? ⟨w.heap.size, 0, none⟩ = some (.slice s.w.a s.w.n s.w.c) ∧ ((((((W.setCell ⟨w.heap.size + 1, 0, none⟩ v0).setCell ⟨w.heap.size + 1, 1, none⟩ v1).setCell ⟨w.heap.size + 1, 2, none⟩ v2).setCell ⟨w.heap.size + 1, 3, none⟩ v3).setCell ⟨w.heap.size + 1, 4, none⟩ v4).setCell ⟨w.heap.size + 1, 5, none⟩ v5).cell? ⟨w.heap.size, 1, none⟩ = some (.slice s.p.a s.p.n s.p.c) ∧ ((((((W.setCell ⟨w.heap.size + 1, 0, none⟩ v0).setCell ⟨w.heap.size + 1, 1, none⟩ v1).setCell ⟨w.heap.size + 1, 2, none⟩ v2).setCell ⟨w.heap.size + 1, 3, none⟩ v3).setCell ⟨w.heap.size + 1, 4, none⟩ v4).setCell ⟨w.heap.size + 1, 5, none⟩ v5).cell? ⟨w.heap.size, 2, none⟩ = some (.slice (s.u 0).a (s.u 0).n (s.u 0).c) ∧ ((((((W.setCell ⟨w.heap.size + 1, 0, none⟩ v0).setCell ⟨w.heap.size + 1, 1, none⟩ v1).setCell ⟨w.heap.size + 1, 2, none⟩ v2).setCell ⟨w.heap.size + 1, 3, none⟩ v3).setCell ⟨w.heap.size + 1, 4, none⟩ v4).setCell ⟨w.heap.size + 1, 5, none⟩ v5).cell? ⟨w.heap.size, 3, none⟩ = some (.slice (s.u 1).a (s.u 1).n (s.u 1).c) ∧ ((((((W.setCell ⟨w.heap.size + 1, 0, none⟩ v0).setCell ⟨w.heap.size + 1, 1, none⟩ v1).setCell ⟨w.heap.size + 1, 2, none⟩ v2).setCell ⟨w.heap.size + 1, 3, none⟩ v3).setCell ⟨w.heap.size + 1, 4, none⟩ v4).setCell ⟨w.heap.size + 1, 5, none⟩ v5).cell? ⟨w.heap.size, 4, none⟩ = some (.slice (s.u 2).a (s.u 2).n (s.u 2).c) ∧ ((((((W.setCell ⟨w.heap.size + 1, 0, none⟩ v0).setCell ⟨w.heap.size + 1, 1, none⟩ v1).setCell ⟨w.heap.size + 1, 2, none⟩ v2).setCell ⟨w.heap.size + 1, 3, none⟩ v3).setCell ⟨w.heap.size + 1, 4, none⟩ v4).setCell ⟨w.heap.size + 1, 5, none⟩ v5).cell? ⟨w.heap.size, 5, none⟩ = some (.slice s.c.a s.c.n s.c.c) := by
  have g := h.1.put v0 v1 v2 v3 v4 v5
  exact ⟨⟨g, trivial⟩, g.box.lt, g.box.c0, g.box.c1, g.box.c2, g.box.c3, g.box.c4, g.box.c5⟩
/-- What has been copied so far, slice by slice. -/
def RowN (w W : World) (v : Ls.Sl) (xs : List Int) : Prop := Row W W.heap.size v.a v.n xs ∧ v.n ≤ v.c ∧ v.c ≤ maxLen ∧ New (w.heap.size + 2) v
theorem RowN.next {v : Ls.Sl} {xs : List Int} (h : RowN w W v xs) (hb : Below W.heap.size W W') : RowN w W' v xs := ⟨(h.1.below hb).more hb.size, h.2⟩
theorem rown_of {v : Ls.Sl} {xs : List Int} (h : Fr w W s) (ho : W'.ownsRow W.heap.size 3 1 (.slice v.a v.n v.c) v.n (xs.map (Value.int .i64))) : RowN w W' v xs := by
  have hl := h.lt
  obtain ⟨h1, h2, h3, _, _⟩ := own_off ho (b := w.heap.size) (by omega)
  refine ⟨h1, h2, h3, fun _ x hx => ?_⟩
  have := (ho.lt x.block (by rw [Ls.ownBlock_slice, hx]; rfl)).1
  omega
def PgN (w W : World) (g n c : Nat) (f : Nat → Int × Int) : Prop := Cl.PRow W W.heap.size (some ⟨g, 0, none⟩) n f ∧ w.heap.size + 2 ≤ g ∧ n ≤ c
theorem PgN.next {g n c : Nat} {f : Nat → Int × Int} (h : PgN w W g n c f) (hb : Below W.heap.size W W') : PgN w W' g n c f := ⟨prow_more (h.1.below hb) hb.size, h.2⟩
def LsN (w W : World) (v : Nat → Ls.Sl) (F : Nat → List Int) : Prop := Ls.L3 W W.heap.size v F ∧ ∀ j, j < 3 → New (w.heap.size + 2) (v j)
theorem LsN.next {v : Nat → Ls.Sl} {F : Nat → List Int} (h : LsN w W v F) (hb : Below W.heap.size W W') : LsN w W' v F := ⟨h.1.next hb, h.2⟩
theorem lsn_of {v : Nat → Ls.Sl} {F : Nat → List Int} (h : Fr w W s) (ho : Ls.Own3 W' W.heap.size v F) : LsN w W' v F := by
  have hl := h.lt
  exact ⟨ho.l3, fun j hj _ x hx => by have := (ho.block j hj hx).1; omega⟩
end
theorem res_fresh {W : World} {b : Nat} {tm : Array Value} {v0 v1 v2 v3 v4 v5 : Value} (ht : tm[2]? = some (.pointer (some ⟨b, 0, none⟩))) (k0 : W.cell? ⟨b, 0, none⟩ = some v0) (k1 : W.cell? ⟨b, 1, none⟩ = some v1) (k2 : W.cell? ⟨b, 2, none⟩ = some v2) (k3 : W.cell? ⟨b, 3, none⟩ = some v3) (k4 : W.cell? ⟨b, 4, none⟩ = some v4) (k5 : W.cell? ⟨b, 5, none⟩ = some v5) :
    (results Tryz.f35 tm).run Tryz.prog W = .ok (.agg #[v0, v1, v2, v3, v4, v5]) W := by
  simp [results, Tryz.results35, go_sem, ht, k0, k1, k2, k3, k4, k5]
theorem put6_ex {w W : World} {s : Hs} (h : Fr w W s) (v0 v1 v2 v3 v4 v5 : Value) :
    (put6 W (w.heap.size + 1) v0 v1 v2 v3 v4 v5).cell? ⟨w.heap.size + 1, 0, none⟩ = some v0 ∧ (put6 W (w.heap.size + 1) v0 v1 v2 v3 v4 v5).cell? ⟨w.heap.size + 1, 1, none⟩ = some v1 ∧ (put6 W (w.heap.size + 1) v0 v1 v2 v3 v4 v5).cell? ⟨w.heap.size + 1, 2, none⟩ = some v2 ∧
    (put6 W (w.heap.size + 1) v0 v1 v2 v3 v4 v5).cell? ⟨w.heap.size + 1, 3, none⟩ = some v3 ∧ (put6 W (w.heap.size + 1) v0 v1 v2 v3 v4 v5).cell? ⟨w.heap.size + 1, 4, none⟩ = some v4 ∧ (put6 W (w.heap.size + 1) v0 v1 v2 v3 v4 v5).cell? ⟨w.heap.size + 1, 5, none⟩ = some v5 := by
  obtain ⟨x0, h0⟩ := h.res 0 (by decide)
  obtain ⟨x1, h1⟩ := h.res 1 (by decide)
  obtain ⟨x2, h2⟩ := h.res 2 (by decide)
  obtain ⟨x3, h3⟩ := h.res 3 (by decide)
  obtain ⟨x4, h4⟩ := h.res 4 (by decide)
  obtain ⟨x5, h5⟩ := h.res 5 (by decide)
  exact ⟨by simp [put6, go_sem, h0], by simp [put6, go_sem, h1], by simp [put6, go_sem, h2], by simp [put6, go_sem, h3], by simp [put6, go_sem, h4], by simp [put6, go_sem, h5]⟩
end Go.Proofs.YtfjhhfncapmnmaaGreatDoor
end
