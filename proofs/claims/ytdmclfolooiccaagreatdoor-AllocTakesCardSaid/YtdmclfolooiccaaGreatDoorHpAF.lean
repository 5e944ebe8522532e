/-
  Merged texts: Sep, ClOn.
-/
import Derived.RangeFuncNested
import Derived.RangeFuncBound
import Derived.RangeFuncCalls
import Derived.RangeFuncLeaves
import Derived.Below
import Derived.Test.YtdmclfolooiccaaGreatDoorHpAE
import Derived.Shelf.Abstract
import Derived.WalkKit
import Derived.OwnWalkIn
import Derived.TacticsInMore
import Derived.LoopNIn
import Derived.LoopIn
section
namespace Go.Proofs.YtdmclfolooiccaaGreatDoor.Cl
open Go.Proofs.YtdmclfolooiccaaGreatDoor
set_option maxRecDepth 100000
open Go.RowKit

section
variable {α : Type}
/-- What is said of M and what has come abides whatever turns blocks of M, and lays new ones. -/
def Bides (n₀ : Nat) (J : (Nat → Prop) → List α → World → Prop) : Prop :=
  ∀ M M' pre W W', J M pre W → Below n₀ W W' → (∀ k, k < W.heap.size → ¬ M k → W'.heap[k]? = W.heap[k]?) → (∀ k, M' k → M k ∨ (W.heap.size ≤ k ∧ k < W'.heap.size)) → J M' pre W'
/-- What lay below n₀, and the blocks of M, are as they were. -/
def Kept (n₀ : Nat) (M : Nat → Prop) (W W' : World) : Prop := Below n₀ W W' ∧ ∀ k, M k → k < W.heap.size → W'.heap[k]? = W.heap[k]?
theorem Kept.refl (n₀ : Nat) (M : Nat → Prop) (W : World) : Kept n₀ M W W := ⟨Below.refl _ _, fun _ _ _ => rfl⟩
theorem Kept.trans {n₀ : Nat} {M : Nat → Prop} {A B C : World} (h : Kept n₀ M A B) (k : Kept n₀ M B C) : Kept n₀ M A C :=
  ⟨h.1.trans k.1, fun i hi hl => (k.2 i hi (Nat.lt_of_lt_of_le hl h.1.size)).trans (h.2 i hi hl)⟩
theorem Kept.less {n₀ : Nat} {M M' : Nat → Prop} {A B : World} (h : Kept n₀ M A B) (hm : ∀ k, M' k → M k) : Kept n₀ M' A B := ⟨h.1, fun i hi hl => h.2 i (hm i hi) hl⟩

/-- An iterator's value: it hands on the elements of L in their order, till a round says 'no more'. C: the blocks that it reads. -/
def Gives (P : Program) (g : Nat) (lb : Array Value) (encs : α → Array Value) (n₀ : Nat) (C : Nat → Prop) (L : List α) (w : World) : Prop :=
  ∀ (l : Nat) (J Jx : (Nat → Prop) → List α → World → Prop) (M : Nat → Prop) (W : World), Below w.heap.size w W → (∀ k, C k → M k ∨ k < n₀) → Bides n₀ J → Bides n₀ Jx →
    (∀ M pre x W1, pre ++ [x] <+: L → J M pre W1 → YieldAt Fence.wide 0 P l (encs x) W1 fun e W' => Kept n₀ M W1 W' ∧
      ((e = .returned (.bool true) ∧ J M (pre ++ [x]) W') ∨ (e = .returned (.bool false) ∧ Jx M (pre ++ [x]) W'))) →
    J M [] W →
    Calls P g (#[.func (.yield l) #[] #[]] ++ lb) W fun e W' => (∃ v, e = .returned v) ∧ ∃ M', J M' L W' ∨ ∃ pre, Jx M' pre W'
theorem Gives.later {P : Program} {g : Nat} {lb : Array Value} {encs : α → Array Value} {n₀ : Nat} {C : Nat → Prop} {L : List α} {w w' : World}
    (h : Gives P g lb encs n₀ C L w) (hb : Below w.heap.size w w') : Gives P g lb encs n₀ C L w' :=
  fun l J Jx M W hW => h l J Jx M W (hb.trans (hW.mono hb.size))

theorem roundIn_any {P : Program} {n m l : Nat} {f : FuncId} {tmps : Array Value} {assign body : Code} {w : World} {R : Ending → World → Prop}
    (h : RoundIn Fence.wide n P l f tmps assign body w R) : RoundIn Fence.wide m P l f tmps assign body w R := ⟨h.1, fun c cs _ => h.2 c cs (room_wide _)⟩
theorem roundIn_inner {P : Program} {n m l : Nat} {f : FuncId} {tmps : Array Value} {assign body : Code} {w : World} {R : Ending → World → Prop} (r : Nat)
    (h : RoundIn Fence.wide n P l f tmps assign body w R) : RoundIn (Fence.wide.inRound r) m P l f tmps assign body w R := ⟨h.1, fun c cs _ => h.2 c cs (room_wide _)⟩

/-- How a round's body may be left. -/
def Ends (n₀ : Nat) (M : Nat → Prop) (I : (Nat → Prop) → List α → World → Prop) (Ix : Code → (Nat → Prop) → List α → World → Prop) (xs : List α) (W : World) : Exit → Act → World → Prop
  | .normal, _, W' => Kept n₀ M W W' ∧ I M xs W'
  | .ret, _, W' => Kept n₀ M W W' ∧ Ix .ret M xs W'
  | .exit id, _, W' => Kept n₀ M W W' ∧ Ix (.exit id) M xs W'
  | .goto t, _, W' => Kept n₀ M W W' ∧ Ix (.goto t) M xs W'
  | .panic _, _, _ => False
  | .outgrown, _, _ => False

theorem below_turned {n₀ : Nat} {W : World} {l : Nat} (o : Obj) (h : n₀ ≤ l) : Below n₀ W (W.putObj l o) :=
  ⟨rfl, rfl, rfl, by simp, fun k hk => World.putObj_heap_other (by omega)⟩
theorem kept_turned {n₀ : Nat} {M : Nat → Prop} {W : World} {l : Nat} (o : Obj) (h : n₀ ≤ l) (hM : ¬ M l) : Kept n₀ M W (W.putObj l o) :=
  ⟨below_turned o h, fun _ hk _ => World.putObj_heap_other (fun e => hM (e ▸ hk))⟩
theorem Bides.turned {n₀ : Nat} {J : (Nat → Prop) → List α → World → Prop} (h : Bides n₀ J) {M : Nat → Prop} {pre : List α} {W : World} {l : Nat} (o : Obj) (hj : J M pre W) (hn : n₀ ≤ l) (hM : M l) : J M pre (W.putObj l o) :=
  h M M pre W _ hj (below_turned o hn) (fun _ _ hk => World.putObj_heap_other (fun e => hk (e ▸ hM))) (fun _ hk => .inl hk)
theorem Bides.more {n₀ : Nat} {J : (Nat → Prop) → List α → World → Prop} (h : Bides n₀ J) {M M' : Nat → Prop} {pre : List α} {W W' : World} (hj : J M pre W) (hb : Below W.heap.size W W') (hn : n₀ ≤ W.heap.size)
    (hM : ∀ k, M' k → M k ∨ (W.heap.size ≤ k ∧ k < W'.heap.size)) : J M' pre W' :=
  h M M' pre W W' hj (hb.mono hn) (fun k hk _ => hb.block k hk) hM

set_option maxHeartbeats 1000000 in
/-- A loop over an iterator's value, in a function's own frame. -/
theorem range_gives {P : Program} {n : Nat} {g : Operand} {ps : Array Tmp} {assign body : Code} {Q : Exit → Act → World → Prop} {a : Act} {w : World}
    {gf : Nat} {lb : Array Value} (hg : a.eval g = .func (.func gf) #[] lb) (eg : ∀ args w, (callFunc gf args).run P w = .ok (.enter gf args) w)
    {encs : α → Array Value} {n₀ : Nat} {C : Nat → Prop} {L : List α} (hseq : Gives P gf lb encs n₀ C L w) (hps : ∀ x, (encs x).size = ps.size) (hn₀ : n₀ ≤ w.heap.size)
    (M₀ : Nat → Prop) (hC : ∀ k, C k → M₀ k ∨ k < n₀) (hM₀ : ∀ k, M₀ k → k < w.heap.size)
    (I : (Nat → Prop) → List α → World → Prop) (Ix : Code → (Nat → Prop) → List α → World → Prop) (hI : Bides n₀ I) (hIx : ∀ c, Bides n₀ (Ix c)) (h0 : I M₀ [] w)
    (hround : ∀ (l : Nat) (M : Nat → Prop) (pre : List α) (x : α) (W : World), w.heap.size ≤ l → M l → l < W.heap.size → pre ++ [x] <+: L → I M pre W →
      assign.wpIn (Fence.wide.inRound l) n P (Exit.then (fun a' W' => Kept n₀ M W W' ∧ ∀ o, body.wpIn (Fence.wide.inRound l) n P (Ends n₀ M I Ix (pre ++ [x]) (W'.putObj l o)) a' (W'.putObj l o)) (fun _ _ _ => False))
        { tmps := (ps.zip (encs x)).foldl (fun t (p, v) => t.setIfInBounds p v) a.tmps, defers := [] } W)
    (hdone : ∀ (D : Nat) (M : Nat → Prop) (W : World), w.heap.size ≤ D → D < W.heap.size → M D → I M L W → W.heap[D]? = some (.deferred (some [])) → Q .normal { a with defers := { target := .collected D, args := #[] } :: a.defers } W)
    (hstop : ∀ (D : Nat) (c : Code) (M : Nat → Prop) (pre : List α) (W : World), w.heap.size ≤ D → D < W.heap.size → M D → Ix c M pre W → W.heap[D]? = some (.deferred (some [])) → c.wpIn Fence.wide n P Q { a with defers := { target := .collected D, args := #[] } :: a.defers } W) :
    (Code.rangeFunc g ps assign body).wpIn Fence.wide n P Q a w := by
  refine wpIn_rangeFunc fun fn hfn => ?_
  obtain ⟨rc, hrc⟩ : ∃ rc : LoopState → Option Code → Loop, rc = fun st pe => { state := st, pending := pe, fn, tmps := a.tmps, params := ps, assign, body, defers := w.heap.size } := ⟨_, rfl⟩
  obtain ⟨l, hl⟩ : ∃ l, l = w.heap.size + 1 := ⟨_, rfl⟩
  obtain ⟨D, hD⟩ : ∃ D, D = w.heap.size := ⟨_, rfl⟩
  obtain ⟨V, hV⟩ : ∃ V, V = (w.alloc (.deferred (some []))).alloc (.loop (rc .ready none)) := ⟨_, rfl⟩
  have hVs : V.heap.size = w.heap.size + 2 := by rw [hV]; simp
  have hVl : V.heap[l]? = some (.loop (rc .ready none)) := by
    rw [hV, hl]; have := World.alloc_heap_new (w.alloc (.deferred (some []))) (.loop (rc .ready none)); rwa [World.size_alloc] at this
  have hVD : V.heap[D]? = some (.deferred (some [])) := by
    rw [hV, hD]; exact (Below.heap_alloc _ _ _ (by simp)).trans (World.alloc_heap_new w _)
  have hVw : Below w.heap.size w V := by rw [hV]; exact ((Below.refl _ w).alloc (Nat.le_refl _) _).alloc (by simp) _
  have hDl : D < l := by omega
  -- what the iterator is told of M, and what the body is told
  let U : (Nat → Prop) → Nat → Prop := fun M k => M k ∨ k = D ∨ k = l
  let Book : (Nat → Prop) → Loop → World → Prop := fun M r W => ¬ M D ∧ ¬ M l ∧ l < W.heap.size ∧ W.heap[l]? = some (.loop r) ∧ W.heap[D]? = some (.deferred (some []))
  have book : ∀ {M M' : Nat → Prop} {r : Loop} {W W' : World}, Book M r W → Below n₀ W W' → (∀ k, k < W.heap.size → ¬ M k → W'.heap[k]? = W.heap[k]?) → (∀ k, M' k → M k ∨ (W.heap.size ≤ k ∧ k < W'.heap.size)) → Book M' r W' := by
    rintro M M' r W W' ⟨b1, b2, b3, b4, b5⟩ hb hs hm
    refine ⟨fun h => ?_, fun h => ?_, Nat.lt_of_lt_of_le b3 hb.size, (hs l b3 b2).trans b4, (hs D (by omega) b1).trans b5⟩
    · rcases hm D h with h | h
      · exact b1 h
      · omega
    · rcases hm l h with h | h
      · exact b2 h
      · omega
  have up : ∀ {M M' : Nat → Prop} {W W' : World}, (∀ k, M' k → M k ∨ (W.heap.size ≤ k ∧ k < W'.heap.size)) → ∀ k, U M' k → U M k ∨ (W.heap.size ≤ k ∧ k < W'.heap.size) := by
    rintro M M' W W' h k (hk | hk)
    · exact (h k hk).imp .inl id
    · exact .inl (.inr hk)
  have call := hseq l (fun M pre W => I (U M) pre W ∧ Book M (rc .ready none) W) (fun M pre W => ∃ c, Ix c (U M) pre W ∧ Book M (rc .done (some c)) W) M₀ V hVw hC
    (fun M M' pre W W' hj hb hs hm => ⟨hI _ _ pre W W' hj.1 hb (fun k hk hn => hs k hk (fun h => hn (.inl h))) (up hm), book hj.2 hb hs hm⟩)
    (fun M M' pre W W' hj hb hs hm => by
      obtain ⟨c, hc, hk⟩ := hj
      exact ⟨c, hIx c _ _ pre W W' hc hb (fun k hk hn => hs k hk (fun h => hn (.inl h))) (up hm), book hk hb hs hm⟩)
    (by
      rintro M pre x W hpre ⟨hi, b1, b2, b3, b4, b5⟩
      have hy := run_yield (P := P) (args := encs x) b4 (by rw [hrc]; exact hps x)
      rw [hrc] at hy
      refine ⟨fn, _, assign, body, hy, roundIn_any (n := n) (roundIn_of_wpIn hfn (wpIn_mono (hround l (U M) pre x W (by omega) (.inr (.inr rfl)) b3 hpre hi) ?_))⟩
      clear hy
      intro e1 a1 W1 h1
      cases e1 with
      | normal =>
        obtain ⟨hk1, hbody⟩ := h1
        have l1 := (hk1.2 l (.inr (.inr rfl)) b3).trans b4
        have d1 := (hk1.2 D (.inr (.inl rfl)) (by omega)).trans b5
        refine ⟨_, run_beginRound l1 (by rw [hrc]), ?_⟩
        have s1 : l < W1.heap.size := Nat.lt_of_lt_of_le b3 hk1.1.size
        refine wpIn_mono (hbody _) ?_
        have fin : ∀ (jump : Option Code) (W3 : World), Kept n₀ (U M) (W1.putObj l (.loop { rc .ready none with state := .busy })) W3 →
            (Instr.endRound l jump).run P W3 = .ok (.bool jump.isNone) (W3.putObj l (.loop (rc (if jump.isNone then .ready else .done) jump))) ∧
            Kept n₀ M W (W3.putObj l (.loop (rc (if jump.isNone then .ready else .done) jump))) ∧ Book M (rc (if jump.isNone then .ready else .done) jump) (W3.putObj l (.loop (rc (if jump.isNone then .ready else .done) jump))) := by
          intro jump W3 hk3
          have l2 : (W1.putObj l (.loop { rc .ready none with state := .busy })).heap[l]? = some (.loop { rc .ready none with state := .busy }) := World.putObj_heap_same s1
          have l3 := (hk3.2 l (.inr (.inr rfl)) (by simpa using s1)).trans l2
          have d3 := (hk3.2 D (.inr (.inl rfl)) (by simp; omega)).trans ((World.putObj_heap_other (by omega)).trans d1)
          have s3 : l < W3.heap.size := Nat.lt_of_lt_of_le s1 (by have := hk3.1.size; simpa using this)
          have r3 := run_endRound (P := P) jump l3
          rw [hrc] at r3 ⊢
          refine ⟨r3, ?_, b1, b2, by simpa using s3, World.putObj_heap_same s3, (World.putObj_heap_other (by omega)).trans d3⟩
          exact ((hk1.less (fun _ h => .inl h)).trans (kept_turned _ (by omega) b2)).trans ((hk3.less (fun _ h => .inl h)).trans (kept_turned _ (by omega) b2))
        rintro e a3 W3 hp
        cases e with
        | normal =>
          obtain ⟨hk3, hi3⟩ := hp
          obtain ⟨hr, hk, hbk⟩ := fin none W3 hk3
          exact ⟨_, _, hr, hk, .inl ⟨rfl, hI.turned _ hi3 (by omega) (.inr (.inr rfl)), hbk⟩⟩
        | ret =>
          obtain ⟨hk3, hi3⟩ := hp
          obtain ⟨hr, hk, hbk⟩ := fin (some .ret) W3 hk3
          exact ⟨_, _, hr, hk, .inr ⟨rfl, .ret, (hIx _).turned _ hi3 (by omega) (.inr (.inr rfl)), hbk⟩⟩
        | exit id =>
          obtain ⟨hk3, hi3⟩ := hp
          obtain ⟨hr, hk, hbk⟩ := fin (some (.exit id)) W3 hk3
          exact ⟨_, _, hr, hk, .inr ⟨rfl, .exit id, (hIx _).turned _ hi3 (by omega) (.inr (.inr rfl)), hbk⟩⟩
        | goto t =>
          obtain ⟨hk3, hi3⟩ := hp
          obtain ⟨hr, hk, hbk⟩ := fin (some (.goto t)) W3 hk3
          exact ⟨_, _, hr, hk, .inr ⟨rfl, .goto t, (hIx _).turned _ hi3 (by omega) (.inr (.inr rfl)), hbk⟩⟩
        | panic ch => exact hp.elim
        | outgrown => exact hp.elim
      | ret => exact h1.elim
      | exit id => exact h1.elim
      | goto t => exact h1.elim
      | panic ch => exact h1.elim
      | outgrown => exact h1.elim)
    ⟨hI.more h0 hVw hn₀ (fun k hk => by
        rcases hk with hk | hk | hk
        · exact .inl hk
        · exact .inr (by omega)
        · exact .inr (by omega)),
      fun h => by have := hM₀ D h; omega, fun h => by have := hM₀ l h; omega, by omega, hVl, hVD⟩
  refine ⟨l, [{ target := .collected D, args := #[] }], V, { target := .fn (.func gf) lb, args := #[.func (.yield l) #[] #[]] }, V, gf, #[.func (.yield l) #[] #[]] ++ lb, V, ?_, ?_, ?_, ?_, fun h => by simp [Fence.wide] at h, ?_⟩
  · rw [hV, hD, hl, hrc]; exact run_enterLoop_outer _ _ _ _ _
  · simp only [resolve, hg]
    simp [go_sem]
  · intro f' _; exact trivial
  · simp [invoke, go_sem, eg]
  · refine callsIn_wide.2 (call.mono ?_)
    rintro e W2 ⟨⟨v, rfl⟩, M, (⟨hi, b1, b2, b3, b4, b5⟩ | ⟨pre, c, hi, b1, b2, b3, b4, b5⟩)⟩
    · refine ⟨none, _, by have := run_endLoop (P := P) b4 (by rw [hrc]; simp); rw [hrc] at this; exact this, hdone D (U M) _ (by omega) (by simp; omega) (.inr (.inl rfl)) (hI.turned _ hi (by omega) (.inr (.inr rfl))) ((World.putObj_heap_other (by omega)).trans b5)⟩
    · refine ⟨some c, _, by have := run_endLoop (P := P) b4 (by rw [hrc]; simp); rw [hrc] at this; exact this, hstop D c (U M) pre _ (by omega) (by simp; omega) (.inr (.inl rfl)) ((hIx c).turned _ hi (by omega) (.inr (.inr rfl))) ((World.putObj_heap_other (by omega)).trans b5)⟩

/-- At a function's return: the marks of its loops are taken off, each block shut. -/
theorem leave_marks {F : Fence} {n : Nat} {P : Program} {fn : Func} {tmps : Array Value} {R : Ending → World → Prop} :
    ∀ (ds : List Nat) (W : World), ds.Nodup → (∀ D ∈ ds, W.heap[D]? = some (.deferred (some []))) →
      (∀ W', W'.os = W.os → W'.tape = W.tape → W'.output = W.output → W'.heap.size = W.heap.size → (∀ k, k ∉ ds → W'.heap[k]? = W.heap[k]?) → LeavesIn F n P fn tmps R [] .returning W') →
      LeavesInM F n P fn tmps R (ds.map fun D => { target := .collected D, args := #[] }) .returning W
  | [], W, _, _, h => h W rfl rfl rfl rfl (fun _ _ => rfl)
  | D :: ds, W, hnd, hd, h => by
    refine ⟨by simp, .inl ⟨D, _, rfl, run_takeDeferred (hd D (by simp)), ?_⟩⟩
    have hn := List.nodup_cons.1 hnd
    refine leave_marks ds _ hn.2 (fun E hE => (World.putObj_heap_other (by rintro rfl; exact hn.1 hE)).trans (hd E (by simp [hE]))) (fun W' h1 h2 h3 h4 h5 => ?_)
    refine h W' (h1.trans rfl) (h2.trans rfl) (h3.trans rfl) (h4.trans (by simp)) (fun k hk => ?_)
    simp only [List.mem_cons, not_or] at hk
    exact (h5 k hk.2).trans (World.putObj_heap_other hk.1)
end
end Go.Proofs.YtdmclfolooiccaaGreatDoor.Cl
end
section
namespace Go.Proofs.YtdmclfolooiccaaGreatDoor.Cl
open Go.Proofs.YtdmclfolooiccaaGreatDoor
set_option maxRecDepth 100000
open Go.RowKit Go.Shelf
attribute [local go_sem] Oper.semAt_some

/-- A page's cells: where each begins, and its room. -/
def pageL (k num : Nat) (room : Int) : List (Int × Int) := (List.range num).map fun (j : Nat) => (16 + (k : Int) * 16 + (j : Int) * room, room)
theorem pageL_length (k num : Nat) (room : Int) : (pageL k num room).length = num := by simp [pageL]
theorem pageL_get (k num : Nat) (room : Int) (j : Nat) (h : j < num) : (pageL k num room)[j]? = some (16 + k * 16 + j * room, room) := by simp [pageL, h]
theorem take_next {α : Type} {L : List α} {j : Nat} {x : α} (h : L[j]? = some x) : L.take (j + 1) = L.take j ++ [x] := by
  obtain ⟨hj, hx⟩ := List.getElem?_eq_some_iff.1 h
  rw [List.take_succ_eq_append_getElem hj, hx]
theorem take_pre {α : Type} {L : List α} {j : Nat} {x : α} (h : L[j]? = some x) : L.take j ++ [x] <+: L := by
  rw [← take_next h]
  exact List.take_prefix _ _
def encC (c : Int × Int) : Array Value := #[.agg #[.int .i64 c.1, .int .i64 c.2]]

theorem Kept.cell {n₀ : Nat} {M : Nat → Prop} {W W' : World} (h : Kept n₀ M W W') {b o : Nat} {v : Value} (hb : M b ∨ b < n₀) (hc : W.cell? ⟨b, o, none⟩ = some v) : W'.cell? ⟨b, o, none⟩ = some v := by
  have hlt : b < W.heap.size := World.block_lt_of_cell? W _ hc
  rcases hb with hb | hb
  · exact (World.cell?_of_block (a := ⟨b, o, none⟩) (h.2 b hb hlt)).trans hc
  · exact (h.1.cell (p := ⟨b, o, none⟩) hb).trans hc

set_option maxRecDepth 100000 in
set_option maxHeartbeats 1000000 in
theorem on_gives (n₀ k num : Nat) (room : Int) (b0 b1 b2 : Nat) (w : World) (hk : k ≤ 64) (hnum : num ≤ 8) (hr0 : 0 ≤ room) (hr1 : room ≤ 64)
    (h0 : w.cell? ⟨b0, 0, none⟩ = some (.int .i64 k)) (h1 : w.cell? ⟨b1, 0, none⟩ = some (.int .i64 num)) (h2 : w.cell? ⟨b2, 0, none⟩ = some (.int .i64 room)) :
    Gives Tryz.prog 135 #[.pointer (some ⟨b0, 0, none⟩), .pointer (some ⟨b1, 0, none⟩), .pointer (some ⟨b2, 0, none⟩)] encC n₀ (fun b => b = b0 ∨ b = b1 ∨ b = b2) (pageL k num room) w := by
  intro l J Jx M W hW hC _ _ hY hJ0
  have l0 : b0 < w.heap.size := World.block_lt_of_cell? w _ h0
  have l1 : b1 < w.heap.size := World.block_lt_of_cell? w _ h1
  have l2 : b2 < w.heap.size := World.block_lt_of_cell? w _ h2
  have c0 : W.cell? ⟨b0, 0, none⟩ = some (.int .i64 k) := (hW.cell (p := ⟨b0, 0, none⟩) l0).trans h0
  have c1 : W.cell? ⟨b1, 0, none⟩ = some (.int .i64 num) := (hW.cell (p := ⟨b1, 0, none⟩) l1).trans h1
  have c2 : W.cell? ⟨b2, 0, none⟩ = some (.int .i64 room) := (hW.cell (p := ⟨b2, 0, none⟩) l2).trans h2
  have HY := Lib.hid hY
  have HJ := Lib.hid hJ0
  have HC := Lib.hid (hC b2 (by simp))
  clear hY hJ0 hC hW h0 h1 h2 l0 l1 l2
  refine (callsIn_wide (n := 1)).1 ?_
  refine callsIn_of_wp Tryz.func135 rfl trivial ?_ rfl
  simp only [Tryz.ntmps135, List.size_toArray, List.length_cons, List.length_nil, Nat.reduceAdd, Nat.reduceSub, Array.replicate_succ, Array.replicate_zero, List.push_toArray, List.append_toArray, List.nil_append, List.cons_append]
  gi_wp2
  clear c0 c1
  gi_loopw [5, 10] (fun at_ i wr => ∃ (j : Nat) (q : Int), j ≤ num ∧ i = .int .i64 j ∧ at_ = .int .i64 q ∧ Hid (q = 16 + k * 16 + j * room) ∧ 0 ≤ q ∧ q ≤ 16 + k * 16 + 64 * j ∧ Hid (J M ((pageL k num room).take j) wr) ∧ wr.cell? ⟨b2, 0, none⟩ = some (.int .i64 room))
    (fun _ i _ => num - (intOf i).toNat)
  case atStart => exact ⟨0, 16 + k * 16, Nat.zero_le _, rfl, by go_num, Lib.hid (by simp), by omega, by omega, HJ, c2⟩
  case round =>
    clear c2 HJ
    obtain ⟨j, q, hj, rfl, rfl, HQ, hq0, hq1, HJ, c2⟩ := hrel
    by_cases hlt : j < num
    · have hg : (pageL k num room)[j]? = some (q, room) := by rw [pageL_get k num room j hlt, HQ.out]
      have HN := Lib.hid (take_next hg)
      have HL := Lib.hid (show ((j + 1 : Nat) : Int) * room = j * room + room by rw [Int.natCast_add, Int.add_mul]; simp)
      obtain ⟨fn, tmps, assign, body, hy, hR⟩ := HY.out M _ (q, room) wr (take_pre hg) HJ.out
      have HR := Lib.hid hR
      dsimp only [encC] at hy
      clear hg hR
      gi_wp2
      refine (roundIn_any HR.out).mono ?_
      rintro e W3 ⟨hk3, (⟨rfl, hJ3⟩ | ⟨rfl, hx3⟩)⟩
      · have c3 := hk3.cell HC.out c2
        have HJ3 := Lib.hid hJ3
        clear hk3 hJ3 c2 HR hy
        gi_wp2
        go_roundw
        case rel => exact ⟨j + 1, q + room, by omega, by go_num, by go_num, Lib.hid (by rw [HQ.out, HL.out]; omega), by omega, by omega, Lib.hid (by rw [HN.out]; exact HJ3.out), c3⟩
        case measure => simp [intOf]; omega
      · have HX := Lib.hid hx3
        clear hk3 hx3 c2 HR hy
        gi_wp2
        refine bodyPost_ret (results_none rfl _ _ _) rfl ?_
        exact ⟨⟨_, rfl⟩, M, .inr ⟨_, HX.out⟩⟩
    · obtain rfl : j = num := by omega
      have HT := Lib.hid (List.take_of_length_le (l := pageL k j room) (i := j) (by rw [pageL_length]; omega))
      gi_wp2
      go_end0
      exact ⟨⟨_, rfl⟩, M, .inl (by have := HJ.out; rwa [HT.out] at this)⟩
end Go.Proofs.YtdmclfolooiccaaGreatDoor.Cl
end
