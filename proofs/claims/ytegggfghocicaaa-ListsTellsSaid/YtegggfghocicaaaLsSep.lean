/-
  A range over a function whose iterator makes memory and loops of its own: the blocks that the iterator has laid (M) are told to the loop's body, which keeps them; the body's own are left by the iterator. One contract for an iterator, one law for a loop over it.
-/
import Derived.RangeFuncNested
import Derived.RangeFuncBound
import Derived.RangeFuncCalls
import Derived.RangeFuncLeaves
import Derived.Below
namespace Go.Proofs.Ytegggfghocicaaa
open Go.RowKit

/-- The blocks of Z are as they were; the streams too. -/
structure Hold (Z : Nat → Prop) (w w' : World) : Prop where
  os : w'.os = w.os
  tape : w'.tape = w.tape
  output : w'.output = w.output
  size : w.heap.size ≤ w'.heap.size
  block : ∀ k, Z k → k < w.heap.size → w'.heap[k]? = w.heap[k]?
theorem Hold.refl (Z : Nat → Prop) (w : World) : Hold Z w w := ⟨rfl, rfl, rfl, Nat.le_refl _, fun _ _ _ => rfl⟩
theorem Hold.trans {Z : Nat → Prop} {a b c : World} (h : Hold Z a b) (k : Hold Z b c) : Hold Z a c :=
  ⟨k.os.trans h.os, k.tape.trans h.tape, k.output.trans h.output, Nat.le_trans h.size k.size, fun i hi hl => (k.block i hi (Nat.lt_of_lt_of_le hl h.size)).trans (h.block i hi hl)⟩
theorem hold_of_below {Z : Nat → Prop} {w w' : World} (h : Below w.heap.size w w') : Hold Z w w' := ⟨h.os, h.tape, h.output, h.size, fun k _ hl => h.block k hl⟩

section
variable {α : Type}
/-- What is said of M and what has come abides whatever turns blocks of M, and lays new ones. -/
def BidesZ (Z : Nat → Prop) (J : (Nat → Prop) → List α → World → Prop) : Prop :=
  ∀ M M' pre W W', J M pre W → Hold Z W W' → (∀ k, k < W.heap.size → ¬ M k → W'.heap[k]? = W.heap[k]?) → (∀ k, M' k → M k ∨ (W.heap.size ≤ k ∧ k < W'.heap.size)) → J M' pre W'
/-- The blocks of Z, and the blocks of M, are as they were. -/
def KeptZ (Z : Nat → Prop) (M : Nat → Prop) (W W' : World) : Prop := Hold Z W W' ∧ ∀ k, M k → k < W.heap.size → W'.heap[k]? = W.heap[k]?
theorem KeptZ.refl (Z : Nat → Prop) (M : Nat → Prop) (W : World) : KeptZ Z M W W := ⟨Hold.refl _ _, fun _ _ _ => rfl⟩
theorem KeptZ.trans {Z : Nat → Prop} {M : Nat → Prop} {A B C : World} (h : KeptZ Z M A B) (k : KeptZ Z M B C) : KeptZ Z M A C :=
  ⟨h.1.trans k.1, fun i hi hl => (k.2 i hi (Nat.lt_of_lt_of_le hl h.1.size)).trans (h.2 i hi hl)⟩
theorem KeptZ.less {Z : Nat → Prop} {M M' : Nat → Prop} {A B : World} (h : KeptZ Z M A B) (hm : ∀ k, M' k → M k) : KeptZ Z M' A B := ⟨h.1, fun i hi hl => h.2 i (hm i hi) hl⟩

/-- An iterator's value: it hands on the elements of L in their order, till a round says 'no more'. C: the blocks that it reads. -/
def GivesZ (P : Program) (g : Nat) (lb : Array Value) (encs : α → Array Value) (Z : Nat → Prop) (C : Nat → Prop) (L : List α) (w : World) : Prop :=
  ∀ (l : Nat) (J Jx : (Nat → Prop) → List α → World → Prop) (M : Nat → Prop) (W : World), Below w.heap.size w W → (∀ k, C k → M k ∨ Z k) → BidesZ Z J → BidesZ Z Jx →
    (∀ M pre x W1, pre ++ [x] <+: L → J M pre W1 → YieldAt Fence.wide 0 P l (encs x) W1 fun e W' => KeptZ Z M W1 W' ∧
      ((e = .returned (.bool true) ∧ J M (pre ++ [x]) W') ∨ (e = .returned (.bool false) ∧ Jx M (pre ++ [x]) W'))) →
    J M [] W →
    Calls P g (#[.func (.yield l) #[] #[]] ++ lb) W fun e W' => (∃ v, e = .returned v) ∧ ∃ M', J M' L W' ∨ ∃ pre, Jx M' pre W'
theorem GivesZ.later {P : Program} {g : Nat} {lb : Array Value} {encs : α → Array Value} {Z : Nat → Prop} {C : Nat → Prop} {L : List α} {w w' : World}
    (h : GivesZ P g lb encs Z C L w) (hb : Below w.heap.size w w') : GivesZ P g lb encs Z C L w' :=
  fun l J Jx M W hW => h l J Jx M W (hb.trans (hW.mono hb.size))

theorem roundIn_anyZ {P : Program} {n m l : Nat} {f : FuncId} {tmps : Array Value} {assign body : Code} {w : World} {R : Ending → World → Prop}
    (h : RoundIn Fence.wide n P l f tmps assign body w R) : RoundIn Fence.wide m P l f tmps assign body w R := ⟨h.1, fun c cs _ => h.2 c cs (room_wide _)⟩
theorem roundIn_innerZ {P : Program} {n m l : Nat} {f : FuncId} {tmps : Array Value} {assign body : Code} {w : World} {R : Ending → World → Prop} (r : Nat)
    (h : RoundIn Fence.wide n P l f tmps assign body w R) : RoundIn (Fence.wide.inRound r) m P l f tmps assign body w R := ⟨h.1, fun c cs _ => h.2 c cs (room_wide _)⟩

/-- How a round's body may be left. -/
def EndsZ (Z : Nat → Prop) (M : Nat → Prop) (I : (Nat → Prop) → List α → World → Prop) (Ix : Code → (Nat → Prop) → List α → World → Prop) (xs : List α) (W : World) : Exit → Act → World → Prop
  | .normal, _, W' => KeptZ Z M W W' ∧ I M xs W'
  | .ret, _, W' => KeptZ Z M W W' ∧ Ix .ret M xs W'
  | .exit id, _, W' => KeptZ Z M W W' ∧ Ix (.exit id) M xs W'
  | .goto t, _, W' => KeptZ Z M W W' ∧ Ix (.goto t) M xs W'
  | .panic _, _, _ => False
  | .outgrown, _, _ => False

theorem hold_turned {Z : Nat → Prop} {W : World} {l : Nat} (o : Obj) (h : ¬ Z l) : Hold Z W (W.putObj l o) :=
  ⟨rfl, rfl, rfl, by simp, fun k hk _ => World.putObj_heap_other (by rintro rfl; exact h hk)⟩
theorem kept_turnedZ {Z : Nat → Prop} {M : Nat → Prop} {W : World} {l : Nat} (o : Obj) (h : ¬ Z l) (hM : ¬ M l) : KeptZ Z M W (W.putObj l o) :=
  ⟨hold_turned o h, fun _ hk _ => World.putObj_heap_other (fun e => hM (e ▸ hk))⟩
theorem BidesZ.turned {Z : Nat → Prop} {J : (Nat → Prop) → List α → World → Prop} (h : BidesZ Z J) {M : Nat → Prop} {pre : List α} {W : World} {l : Nat} (o : Obj) (hj : J M pre W) (hn : ¬ Z l) (hM : M l) : J M pre (W.putObj l o) :=
  h M M pre W _ hj (hold_turned o hn) (fun _ _ hk => World.putObj_heap_other (fun e => hk (e ▸ hM))) (fun _ hk => .inl hk)
theorem BidesZ.more {Z : Nat → Prop} {J : (Nat → Prop) → List α → World → Prop} (h : BidesZ Z J) {M M' : Nat → Prop} {pre : List α} {W W' : World} (hj : J M pre W) (hb : Below W.heap.size W W')
    (hM : ∀ k, M' k → M k ∨ (W.heap.size ≤ k ∧ k < W'.heap.size)) : J M' pre W' :=
  h M M' pre W W' hj (hold_of_below hb) (fun k hk _ => hb.block k hk) hM

set_option maxHeartbeats 1000000 in
/-- A loop over an iterator's value, in a function's own frame. -/
theorem range_givesZ {P : Program} {n : Nat} {g : Operand} {ps : Array Tmp} {assign body : Code} {Q : Exit → Act → World → Prop} {a : Act} {w : World}
    {gf : Nat} {lb : Array Value} (hg : a.eval g = .func (.func gf) #[] lb) (eg : ∀ args w, (callFunc gf args).run P w = .ok (.enter gf args) w)
    {encs : α → Array Value} {Z : Nat → Prop} {C : Nat → Prop} {L : List α} (hseq : GivesZ P gf lb encs Z C L w) (hps : ∀ x, (encs x).size = ps.size) (hZ : ∀ k, Z k → k < w.heap.size)
    (M₀ : Nat → Prop) (hC : ∀ k, C k → M₀ k ∨ Z k) (hM₀ : ∀ k, M₀ k → k < w.heap.size)
    (I : (Nat → Prop) → List α → World → Prop) (Ix : Code → (Nat → Prop) → List α → World → Prop) (hI : BidesZ Z I) (hIx : ∀ c, BidesZ Z (Ix c)) (h0 : I M₀ [] w)
    (hround : ∀ (l : Nat) (M : Nat → Prop) (pre : List α) (x : α) (W : World), w.heap.size ≤ l → M l → l < W.heap.size → pre ++ [x] <+: L → I M pre W →
      assign.wpIn (Fence.wide.inRound l) n P (Exit.then (fun a' W' => KeptZ Z M W W' ∧ ∀ o, body.wpIn (Fence.wide.inRound l) n P (EndsZ Z M I Ix (pre ++ [x]) (W'.putObj l o)) a' (W'.putObj l o)) (fun _ _ _ => False))
        { tmps := (ps.zip (encs x)).foldl (fun t (p, v) => t.setIfInBounds p v) a.tmps, defers := [] } W)
    (hdone : ∀ (D : Nat) (M : Nat → Prop) (W : World), w.heap.size ≤ D → D < W.heap.size → M D → I M L W → W.heap[D]? = some (.deferred (some [])) → Q .normal { a with defers := { target := .collected D, args := #[] } :: a.defers } W)
    (hstop : ∀ (D : Nat) (c : Code) (M : Nat → Prop) (pre : List α) (W : World), w.heap.size ≤ D → D < W.heap.size → M D → Ix c M pre W → W.heap[D]? = some (.deferred (some [])) → c.wpIn Fence.wide n P Q { a with defers := { target := .collected D, args := #[] } :: a.defers } W) :
    (Code.rangeFunc g ps assign body).wpIn Fence.wide n P Q a w := by
  refine wpIn_rangeFunc fun fn hfn => ?_
  obtain ⟨rc, hrc⟩ : ∃ rc : LoopState → Option Code → Loop, rc = fun st pe => { state := st, pending := pe, fn, tmps := a.tmps, params := ps, assign, body, defers := w.heap.size } := ⟨_, rfl⟩
  obtain ⟨l, hl⟩ : ∃ l, l = w.heap.size + 1 := ⟨_, rfl⟩
  obtain ⟨D, hD⟩ : ∃ D, D = w.heap.size := ⟨_, rfl⟩
  obtain ⟨V, hV⟩ : ∃ V, V = (w.alloc (.deferred (some []))).alloc (.loop (rc .ready none)) := ⟨_, rfl⟩
  have hVs : V.heap.size = w.heap.size + 2 := by rw [hV]; simp
  have hVl : V.heap[l]? = some (.loop (rc .ready none)) := by
    rw [hV, hl]; have := World.alloc_heap_new (w.alloc (.deferred (some []))) (.loop (rc .ready none)); rwa [World.size_alloc] at this
  have hVD : V.heap[D]? = some (.deferred (some [])) := by
    rw [hV, hD]; exact (Below.heap_alloc _ _ _ (by simp)).trans (World.alloc_heap_new w _)
  have hVw : Below w.heap.size w V := by rw [hV]; exact ((Below.refl _ w).alloc (Nat.le_refl _) _).alloc (by simp) _
  have hDl : D < l := by omega
  have hZl : ¬ Z l := fun h => by have := hZ l h; omega
  -- what the iterator is told of M, and what the body is told
  let U : (Nat → Prop) → Nat → Prop := fun M k => M k ∨ k = D ∨ k = l
  let Book : (Nat → Prop) → Loop → World → Prop := fun M r W => ¬ M D ∧ ¬ M l ∧ l < W.heap.size ∧ W.heap[l]? = some (.loop r) ∧ W.heap[D]? = some (.deferred (some []))
  have book : ∀ {M M' : Nat → Prop} {r : Loop} {W W' : World}, Book M r W → Hold Z W W' → (∀ k, k < W.heap.size → ¬ M k → W'.heap[k]? = W.heap[k]?) → (∀ k, M' k → M k ∨ (W.heap.size ≤ k ∧ k < W'.heap.size)) → Book M' r W' := by
    rintro M M' r W W' ⟨b1, b2, b3, b4, b5⟩ hb hs hm
    refine ⟨fun h => ?_, fun h => ?_, Nat.lt_of_lt_of_le b3 hb.size, (hs l b3 b2).trans b4, (hs D (by omega) b1).trans b5⟩
    · rcases hm D h with h | h
      · exact b1 h
      · omega
    · rcases hm l h with h | h
      · exact b2 h
      · omega
  have up : ∀ {M M' : Nat → Prop} {W W' : World}, (∀ k, M' k → M k ∨ (W.heap.size ≤ k ∧ k < W'.heap.size)) → ∀ k, U M' k → U M k ∨ (W.heap.size ≤ k ∧ k < W'.heap.size) := by
    rintro M M' W W' h k (hk | hk)
    · exact (h k hk).imp .inl id
    · exact .inl (.inr hk)
  have call := hseq l (fun M pre W => I (U M) pre W ∧ Book M (rc .ready none) W) (fun M pre W => ∃ c, Ix c (U M) pre W ∧ Book M (rc .done (some c)) W) M₀ V hVw hC
    (fun M M' pre W W' hj hb hs hm => ⟨hI _ _ pre W W' hj.1 hb (fun k hk hn => hs k hk (fun h => hn (.inl h))) (up hm), book hj.2 hb hs hm⟩)
    (fun M M' pre W W' hj hb hs hm => by
      obtain ⟨c, hc, hk⟩ := hj
      exact ⟨c, hIx c _ _ pre W W' hc hb (fun k hk hn => hs k hk (fun h => hn (.inl h))) (up hm), book hk hb hs hm⟩)
    (by
      rintro M pre x W hpre ⟨hi, b1, b2, b3, b4, b5⟩
      have hy := run_yield (P := P) (args := encs x) b4 (by rw [hrc]; exact hps x)
      rw [hrc] at hy
      refine ⟨fn, _, assign, body, hy, roundIn_anyZ (n := n) (roundIn_of_wpIn hfn (wpIn_mono (hround l (U M) pre x W (by omega) (.inr (.inr rfl)) b3 hpre hi) ?_))⟩
      clear hy
      intro e1 a1 W1 h1
      cases e1 with
      | normal =>
        obtain ⟨hk1, hbody⟩ := h1
        have l1 := (hk1.2 l (.inr (.inr rfl)) b3).trans b4
        have d1 := (hk1.2 D (.inr (.inl rfl)) (by omega)).trans b5
        refine ⟨_, run_beginRound l1 (by rw [hrc]), ?_⟩
        have s1 : l < W1.heap.size := Nat.lt_of_lt_of_le b3 hk1.1.size
        refine wpIn_mono (hbody _) ?_
        have fin : ∀ (jump : Option Code) (W3 : World), KeptZ Z (U M) (W1.putObj l (.loop { rc .ready none with state := .busy })) W3 →
            (Instr.endRound l jump).run P W3 = .ok (.bool jump.isNone) (W3.putObj l (.loop (rc (if jump.isNone then .ready else .done) jump))) ∧
            KeptZ Z M W (W3.putObj l (.loop (rc (if jump.isNone then .ready else .done) jump))) ∧ Book M (rc (if jump.isNone then .ready else .done) jump) (W3.putObj l (.loop (rc (if jump.isNone then .ready else .done) jump))) := by
          intro jump W3 hk3
          have l2 : (W1.putObj l (.loop { rc .ready none with state := .busy })).heap[l]? = some (.loop { rc .ready none with state := .busy }) := World.putObj_heap_same s1
          have l3 := (hk3.2 l (.inr (.inr rfl)) (by simpa using s1)).trans l2
          have d3 := (hk3.2 D (.inr (.inl rfl)) (by simp; omega)).trans ((World.putObj_heap_other (by omega)).trans d1)
          have s3 : l < W3.heap.size := Nat.lt_of_lt_of_le s1 (by have := hk3.1.size; simpa using this)
          have r3 := run_endRound (P := P) jump l3
          rw [hrc] at r3 ⊢
          refine ⟨r3, ?_, b1, b2, by simpa using s3, World.putObj_heap_same s3, (World.putObj_heap_other (by omega)).trans d3⟩
          exact ((hk1.less (fun _ h => .inl h)).trans (kept_turnedZ _ hZl b2)).trans ((hk3.less (fun _ h => .inl h)).trans (kept_turnedZ _ hZl b2))
        rintro e a3 W3 hp
        cases e with
        | normal =>
          obtain ⟨hk3, hi3⟩ := hp
          obtain ⟨hr, hk, hbk⟩ := fin none W3 hk3
          exact ⟨_, _, hr, hk, .inl ⟨rfl, hI.turned _ hi3 hZl (.inr (.inr rfl)), hbk⟩⟩
        | ret =>
          obtain ⟨hk3, hi3⟩ := hp
          obtain ⟨hr, hk, hbk⟩ := fin (some .ret) W3 hk3
          exact ⟨_, _, hr, hk, .inr ⟨rfl, .ret, (hIx _).turned _ hi3 hZl (.inr (.inr rfl)), hbk⟩⟩
        | exit id =>
          obtain ⟨hk3, hi3⟩ := hp
          obtain ⟨hr, hk, hbk⟩ := fin (some (.exit id)) W3 hk3
          exact ⟨_, _, hr, hk, .inr ⟨rfl, .exit id, (hIx _).turned _ hi3 hZl (.inr (.inr rfl)), hbk⟩⟩
        | goto t =>
          obtain ⟨hk3, hi3⟩ := hp
          obtain ⟨hr, hk, hbk⟩ := fin (some (.goto t)) W3 hk3
          exact ⟨_, _, hr, hk, .inr ⟨rfl, .goto t, (hIx _).turned _ hi3 hZl (.inr (.inr rfl)), hbk⟩⟩
        | panic ch => exact hp.elim
        | outgrown => exact hp.elim
      | ret => exact h1.elim
      | exit id => exact h1.elim
      | goto t => exact h1.elim
      | panic ch => exact h1.elim
      | outgrown => exact h1.elim)
    ⟨hI.more h0 hVw (fun k hk => by
        rcases hk with hk | hk | hk
        · exact .inl hk
        · exact .inr (by omega)
        · exact .inr (by omega)),
      fun h => by have := hM₀ D h; omega, fun h => by have := hM₀ l h; omega, by omega, hVl, hVD⟩
  refine ⟨l, [{ target := .collected D, args := #[] }], V, { target := .fn (.func gf) lb, args := #[.func (.yield l) #[] #[]] }, V, gf, #[.func (.yield l) #[] #[]] ++ lb, V, ?_, ?_, ?_, ?_, fun h => by simp [Fence.wide] at h, ?_⟩
  · rw [hV, hD, hl, hrc]; exact run_enterLoop_outer _ _ _ _ _
  · simp only [resolve, hg]
    simp [go_sem]
  · intro f' _; exact trivial
  · simp [invoke, go_sem, eg]
  · refine callsIn_wide.2 (call.mono ?_)
    rintro e W2 ⟨⟨v, rfl⟩, M, (⟨hi, b1, b2, b3, b4, b5⟩ | ⟨pre, c, hi, b1, b2, b3, b4, b5⟩)⟩
    · refine ⟨none, _, by have := run_endLoop (P := P) b4 (by rw [hrc]; simp); rw [hrc] at this; exact this, hdone D (U M) _ (by omega) (by simp; omega) (.inr (.inl rfl)) (hI.turned _ hi hZl (.inr (.inr rfl))) ((World.putObj_heap_other (by omega)).trans b5)⟩
    · refine ⟨some c, _, by have := run_endLoop (P := P) b4 (by rw [hrc]; simp); rw [hrc] at this; exact this, hstop D c (U M) pre _ (by omega) (by simp; omega) (.inr (.inl rfl)) ((hIx c).turned _ hi hZl (.inr (.inr rfl))) ((World.putObj_heap_other (by omega)).trans b5)⟩

/-- At a function's return: the marks of its loops are taken off, each block shut. -/
theorem leave_marksZ {F : Fence} {n : Nat} {P : Program} {fn : Func} {tmps : Array Value} {R : Ending → World → Prop} :
    ∀ (ds : List Nat) (W : World), ds.Nodup → (∀ D ∈ ds, W.heap[D]? = some (.deferred (some []))) →
      (∀ W', W'.os = W.os → W'.tape = W.tape → W'.output = W.output → W'.heap.size = W.heap.size → (∀ k, k ∉ ds → W'.heap[k]? = W.heap[k]?) → LeavesIn F n P fn tmps R [] .returning W') →
      LeavesInM F n P fn tmps R (ds.map fun D => { target := .collected D, args := #[] }) .returning W
  | [], W, _, _, h => h W rfl rfl rfl rfl (fun _ _ => rfl)
  | D :: ds, W, hnd, hd, h => by
    refine ⟨by simp, .inl ⟨D, _, rfl, run_takeDeferred (hd D (by simp)), ?_⟩⟩
    have hn := List.nodup_cons.1 hnd
    refine leave_marksZ ds _ hn.2 (fun E hE => (World.putObj_heap_other (by rintro rfl; exact hn.1 hE)).trans (hd E (by simp [hE]))) (fun W' h1 h2 h3 h4 h5 => ?_)
    refine h W' (h1.trans rfl) (h2.trans rfl) (h3.trans rfl) (h4.trans (by simp)) (fun k hk => ?_)
    simp only [List.mem_cons, not_or] at hk
    exact (h5 k hk.2).trans (World.putObj_heap_other hk.1)
end
end Go.Proofs.Ytegggfghocicaaa
