/-
  Merged texts: ClShape, Sep, ClOn, ClEach, ClStarts, ClFind, ClCalls, ClPlain, ClApp, ClRefPlain, ClRef.
-/
import Derived.Test.YtccjelpfmkbmiaaGreatDoorHpXB
import Derived.RangeFuncNested
import Derived.RangeFuncBound
import Derived.RangeFuncCalls
import Derived.RangeFuncLeaves
import Derived.Below
import Derived.Shelf.Abstract
import Derived.WalkKit
import Derived.OwnWalkIn
import Derived.TacticsInMore
import Derived.LoopNIn
import Derived.LoopIn
import Derived.Test.YtccjelpfmkbmiaaGreatDoorHpXA
import Derived.Deep.AppendLies
import Derived.RangeFuncBox
import Derived.Deep.Upon
import Derived.Deep.RegionHeld3
section
namespace Go.Proofs.YtccjelpfmkbmiaaGreatDoor.Cl
open Go.Proofs.YtccjelpfmkbmiaaGreatDoor
set_option maxRecDepth 100000
open Go.RowKit

/-- How many cells begin on a page, and how many words each has. -/
def numOf (p : Int × Int) : Nat := if p.1 = 1 then (if p.2 = 0 then 8 else if p.2 = 1 then 4 else if p.2 = 2 then 2 else 0) else if p.1 = 2 then 1 else 0
def roomOf (p : Int × Int) : Int := if p.1 = 1 then wordsOf p.2 else if p.1 = 2 then p.2 * 16 else 0
/-- The pages that may be, seen alone. -/
theorem pm_cases {p : Int × Int} (h : pmB p = true) : p = (0, 0) ∨ p = (1, 0) ∨ p = (1, 1) ∨ p = (1, 2) ∨ p = (2, 1) ∨ p = (2, 2) ∨ p = (2, 3) ∨ p = (2, 4) ∨ p = (3, 0) := by
  obtain ⟨a, b⟩ := p
  have := (pmB_iff _).1 h
  simp only [Prod.mk.injEq]
  simp only at this
  omega
theorem num_room {p : Int × Int} (h : pmB p = true) : numOf p ≤ 8 ∧ 0 ≤ roomOf p ∧ roomOf p ≤ 64 := by
  rcases pm_cases h with rfl | rfl | rfl | rfl | rfl | rfl | rfl | rfl | rfl <;> decide

theorem Sz.over {w w' : World} (h : Sz w) {B : Nat} (hb : Below B w w') (hB : 0 < B) : Sz w' :=
  ⟨(hb.cell (p := ⟨0, 0, none⟩) hB).trans h.1, (hb.cell (p := ⟨0, 1, none⟩) hB).trans h.2.1, (hb.cell (p := ⟨0, 2, none⟩) hB).trans h.2.2⟩
theorem Sz.pos {w : World} (h : Sz w) : 0 < w.heap.size := World.block_lt_of_cell? w _ h.1
theorem Sz.alloc {w : World} (h : Sz w) (o : Obj) : Sz (w.alloc o) := h.over ((Below.refl _ _).alloc (Nat.le_refl _) o) h.pos
theorem Sz.drewN {w : World} (h : Sz w) (k : Nat) : Sz (w.drewN k) := h
theorem cells_same {w : World} {c : Int} {m : Int} (h : perPage c = m) (hz : Sz w) : Calls Tryz.prog 168 #[.int .i64 c] w fun e w' => e = .returned (.int .i64 m) ∧ w' = w := by
  rw [← h]; exact (cells_of c w hz).mono fun _ _ ⟨h1, h2⟩ => ⟨h1, h2.symm⟩
theorem words_same {w : World} {c : Int} {m : Int} (h : wordsOf c = m) (hz : Sz w) : Calls Tryz.prog 169 #[.int .i64 c] w fun e w' => e = .returned (.int .i64 m) ∧ w' = w := by
  rw [← h]; exact (words_of c w hz).mono fun _ _ ⟨h1, h2⟩ => ⟨h1, h2.symm⟩

theorem shape_small (c : Int) (a b : Int) (w : World) (hz : Sz w) (ha : perPage c = a) (hb : wordsOf c = b) :
    Calls Tryz.prog 160 #[.agg #[.int .i64 1, .int .i64 c]] w fun e w' => e = .returned (.tuple #[.int .i64 a, .int .i64 b]) ∧ Below w.heap.size w w' := by
  have H := Lib.hid hz
  have H1 := Lib.hid ha
  have H2 := Lib.hid hb
  have HA : Hid (Sz (w.alloc (.cells #[.int .i64 1, .int .i64 c] 81))) := Lib.hid (hz.alloc _)
  clear hz ha hb
  go_enter Tryz.func160, Tryz.ntmps160
  go_wp2
  go_quiet (first | (go_at_call 168; exact Calls.quiet_of_same (cells_same H1.out (HA.out.drewN _))) | (go_at_call 169; exact Calls.quiet_of_same (words_same H2.out (HA.out.drewN _))))
  go_wp2
  go_ret2
  exact ⟨rfl, below_drewN ((Below.refl _ _).alloc (Nat.le_refl _) _) _⟩
theorem shape_large (c : Int) (a : Int) (w : World) (h0 : 0 ≤ c) (h1 : c ≤ 4) (ha : c * 16 = a) :
    Calls Tryz.prog 160 #[.agg #[.int .i64 2, .int .i64 c]] w fun e w' => e = .returned (.tuple #[.int .i64 1, .int .i64 a]) ∧ Below w.heap.size w w' := by
  subst ha
  have hs : IntKind.i64.wrap (c * 16) = c * 16 := IntWalk.i64_in _ (by omega)
  go_enter Tryz.func160, Tryz.ntmps160
  go_wp2
  go_quiet (fail)
  go_wp2
  go_ret2
  exact ⟨rfl, below_drewN ((Below.refl _ _).alloc (Nat.le_refl _) _) _⟩
theorem shape_none (c k : Int) (w : World) (h1 : k ≠ 1) (h2 : k ≠ 2) :
    Calls Tryz.prog 160 #[.agg #[.int .i64 k, .int .i64 c]] w fun e w' => e = .returned (.tuple #[.int .i64 0, .int .i64 0]) ∧ Below w.heap.size w w' := by
  have e1 : (k == 1) = false := by simpa using h1
  have e2 : (k == 2) = false := by simpa using h2
  clear h1 h2
  go_enter Tryz.func160, Tryz.ntmps160
  go_wp2
  go_ret2
  exact ⟨rfl, (Below.refl _ _).alloc (Nat.le_refl _) _⟩
theorem shape_any (p : Int × Int) (w : World) (hz : Sz w) (h : pmB p = true) :
    Calls Tryz.prog 160 #[.agg #[.int .i64 p.1, .int .i64 p.2]] w fun e w' => e = .returned (.tuple #[.int .i64 (numOf p), .int .i64 (roomOf p)]) ∧ Below w.heap.size w w' := by
  rcases pm_cases h with rfl | rfl | rfl | rfl | rfl | rfl | rfl | rfl | rfl
  · exact shape_none 0 0 w (by decide) (by decide)
  · exact shape_small 0 8 2 w hz (by decide) (by decide)
  · exact shape_small 1 4 4 w hz (by decide) (by decide)
  · exact shape_small 2 2 8 w hz (by decide) (by decide)
  · exact shape_large 1 16 w (by decide) (by decide) (by decide)
  · exact shape_large 2 32 w (by decide) (by decide) (by decide)
  · exact shape_large 3 48 w (by decide) (by decide) (by decide)
  · exact shape_large 4 64 w (by decide) (by decide) (by decide)
  · exact shape_none 0 3 w (by decide) (by decide)

/-- The value that hands on the cells of a page: what it has captured. -/
def Seqd (w : World) (k num : Nat) (room : Int) (e : Ending) (w' : World) : Prop :=
  ∃ b0 b1 b2, e = .returned (.func (.func 161) #[] #[.pointer (some ⟨b0, 0, none⟩), .pointer (some ⟨b1, 0, none⟩), .pointer (some ⟨b2, 0, none⟩)]) ∧
    (w.heap.size ≤ b0 ∧ w.heap.size ≤ b1 ∧ w.heap.size ≤ b2) ∧
    w'.cell? ⟨b0, 0, none⟩ = some (.int .i64 k) ∧ w'.cell? ⟨b1, 0, none⟩ = some (.int .i64 num) ∧ w'.cell? ⟨b2, 0, none⟩ = some (.int .i64 room) ∧ Below w.heap.size w w'

theorem on_any (B : Nat) (A : Option Addr) (n c : Nat) (f : Nat → Int × Int) (k : Nat) (w : World) (hz : Sz w) (hn : n ≤ 1000) (hk : k < n) (hp : pmB (f k) = true) (hr : PRow w B A n f) (hB : B ≤ w.heap.size) :
    Calls Tryz.prog 147 #[.slice A n c, .int .i64 k] w (Seqd w k (numOf (f k)) (roomOf (f k))) := by
  have H := Lib.hid hz
  have HP := Lib.hid hp
  have HA : Hid (Sz (w.alloc (.cells #[.int .i64 k] 3))) := Lib.hid (hz.alloc _)
  obtain ⟨b, off, rfl, hbB, hc⟩ := hr (by omega)
  obtain ⟨c0, c1⟩ := hc k hk
  have hbw : b < w.heap.size := by omega
  clear hz hp hc hr
  go_enter Tryz.func147, Tryz.ntmps147
  go_wp2_with fail
  refine (shape_any _ _ HA.out HP.out).mono ?_
  rintro e w1 ⟨rfl, hb1⟩
  have k0 : w1.cell? ⟨w.heap.size, 0, none⟩ = some (.int .i64 k) := (hb1.cell (p := ⟨w.heap.size, 0, none⟩) (by simp)).trans (by simp [go_sem])
  have hs1 : w.heap.size < w1.heap.size := by have := hb1.size; simp at this; omega
  have HB := Lib.hid (below_pair (Below.refl w.heap.size w) hb1)
  clear hb1
  go_wp2
  go_ret
  refine ⟨w.heap.size, w1.heap.size, w1.heap.size + 1, rfl, ⟨Nat.le_refl _, by omega, by omega⟩, ?_, ?_, ?_, ?_⟩
  · rw [← k0]
    exact (((Below.refl w1.heap.size w1).alloc (Nat.le_refl _) _).alloc (by simp) _).cell (p := ⟨w.heap.size, 0, none⟩) hs1
  · simp [go_sem]
  · simp [go_sem]
  · exact (HB.out.alloc (by omega) _).alloc (by simp; omega) _
end Go.Proofs.YtccjelpfmkbmiaaGreatDoor.Cl
end
section
namespace Go.Proofs.YtccjelpfmkbmiaaGreatDoor.Cl
open Go.Proofs.YtccjelpfmkbmiaaGreatDoor
set_option maxRecDepth 100000
open Go.RowKit

section
variable {α : Type}
/-- What is said of M and what has come abides whatever turns blocks of M, and lays new ones. -/
def Bides (n₀ : Nat) (J : (Nat → Prop) → List α → World → Prop) : Prop :=
  ∀ M M' pre W W', J M pre W → Below n₀ W W' → (∀ k, k < W.heap.size → ¬ M k → W'.heap[k]? = W.heap[k]?) → (∀ k, M' k → M k ∨ (W.heap.size ≤ k ∧ k < W'.heap.size)) → J M' pre W'
/-- What lay below n₀, and the blocks of M, are as they were. -/
def Kept (n₀ : Nat) (M : Nat → Prop) (W W' : World) : Prop := Below n₀ W W' ∧ ∀ k, M k → k < W.heap.size → W'.heap[k]? = W.heap[k]?
theorem Kept.refl (n₀ : Nat) (M : Nat → Prop) (W : World) : Kept n₀ M W W := ⟨Below.refl _ _, fun _ _ _ => rfl⟩
theorem Kept.trans {n₀ : Nat} {M : Nat → Prop} {A B C : World} (h : Kept n₀ M A B) (k : Kept n₀ M B C) : Kept n₀ M A C :=
  ⟨h.1.trans k.1, fun i hi hl => (k.2 i hi (Nat.lt_of_lt_of_le hl h.1.size)).trans (h.2 i hi hl)⟩
theorem Kept.less {n₀ : Nat} {M M' : Nat → Prop} {A B : World} (h : Kept n₀ M A B) (hm : ∀ k, M' k → M k) : Kept n₀ M' A B := ⟨h.1, fun i hi hl => h.2 i (hm i hi) hl⟩

/-- An iterator's value: it hands on the elements of L in their order, till a round says 'no more'. C: the blocks that it reads. -/
def Gives (P : Program) (g : Nat) (lb : Array Value) (encs : α → Array Value) (n₀ : Nat) (C : Nat → Prop) (L : List α) (w : World) : Prop :=
  ∀ (l : Nat) (J Jx : (Nat → Prop) → List α → World → Prop) (M : Nat → Prop) (W : World), Below w.heap.size w W → (∀ k, C k → M k ∨ k < n₀) → Bides n₀ J → Bides n₀ Jx →
    (∀ M pre x W1, pre ++ [x] <+: L → J M pre W1 → YieldAt Fence.wide 0 P l (encs x) W1 fun e W' => Kept n₀ M W1 W' ∧
      ((e = .returned (.bool true) ∧ J M (pre ++ [x]) W') ∨ (e = .returned (.bool false) ∧ Jx M (pre ++ [x]) W'))) →
    J M [] W →
    Calls P g (#[.func (.yield l) #[] #[]] ++ lb) W fun e W' => (∃ v, e = .returned v) ∧ ∃ M', J M' L W' ∨ ∃ pre, Jx M' pre W'
theorem Gives.later {P : Program} {g : Nat} {lb : Array Value} {encs : α → Array Value} {n₀ : Nat} {C : Nat → Prop} {L : List α} {w w' : World}
    (h : Gives P g lb encs n₀ C L w) (hb : Below w.heap.size w w') : Gives P g lb encs n₀ C L w' :=
  fun l J Jx M W hW => h l J Jx M W (hb.trans (hW.mono hb.size))

theorem roundIn_any {P : Program} {n m l : Nat} {f : FuncId} {tmps : Array Value} {assign body : Code} {w : World} {R : Ending → World → Prop}
    (h : RoundIn Fence.wide n P l f tmps assign body w R) : RoundIn Fence.wide m P l f tmps assign body w R := ⟨h.1, fun c cs _ => h.2 c cs (room_wide _)⟩
theorem roundIn_inner {P : Program} {n m l : Nat} {f : FuncId} {tmps : Array Value} {assign body : Code} {w : World} {R : Ending → World → Prop} (r : Nat)
    (h : RoundIn Fence.wide n P l f tmps assign body w R) : RoundIn (Fence.wide.inRound r) m P l f tmps assign body w R := ⟨h.1, fun c cs _ => h.2 c cs (room_wide _)⟩

/-- How a round's body may be left. -/
def Ends (n₀ : Nat) (M : Nat → Prop) (I : (Nat → Prop) → List α → World → Prop) (Ix : Code → (Nat → Prop) → List α → World → Prop) (xs : List α) (W : World) : Exit → Act → World → Prop
  | .normal, _, W' => Kept n₀ M W W' ∧ I M xs W'
  | .ret, _, W' => Kept n₀ M W W' ∧ Ix .ret M xs W'
  | .exit id, _, W' => Kept n₀ M W W' ∧ Ix (.exit id) M xs W'
  | .goto t, _, W' => Kept n₀ M W W' ∧ Ix (.goto t) M xs W'
  | .panic _, _, _ => False
  | .outgrown, _, _ => False

theorem below_turned {n₀ : Nat} {W : World} {l : Nat} (o : Obj) (h : n₀ ≤ l) : Below n₀ W (W.putObj l o) :=
  ⟨rfl, rfl, rfl, by simp, fun k hk => World.putObj_heap_other (by omega)⟩
theorem kept_turned {n₀ : Nat} {M : Nat → Prop} {W : World} {l : Nat} (o : Obj) (h : n₀ ≤ l) (hM : ¬ M l) : Kept n₀ M W (W.putObj l o) :=
  ⟨below_turned o h, fun _ hk _ => World.putObj_heap_other (fun e => hM (e ▸ hk))⟩
theorem Bides.turned {n₀ : Nat} {J : (Nat → Prop) → List α → World → Prop} (h : Bides n₀ J) {M : Nat → Prop} {pre : List α} {W : World} {l : Nat} (o : Obj) (hj : J M pre W) (hn : n₀ ≤ l) (hM : M l) : J M pre (W.putObj l o) :=
  h M M pre W _ hj (below_turned o hn) (fun _ _ hk => World.putObj_heap_other (fun e => hk (e ▸ hM))) (fun _ hk => .inl hk)
theorem Bides.more {n₀ : Nat} {J : (Nat → Prop) → List α → World → Prop} (h : Bides n₀ J) {M M' : Nat → Prop} {pre : List α} {W W' : World} (hj : J M pre W) (hb : Below W.heap.size W W') (hn : n₀ ≤ W.heap.size)
    (hM : ∀ k, M' k → M k ∨ (W.heap.size ≤ k ∧ k < W'.heap.size)) : J M' pre W' :=
  h M M' pre W W' hj (hb.mono hn) (fun k hk _ => hb.block k hk) hM

set_option maxHeartbeats 1000000 in
/-- A loop over an iterator's value, in a function's own frame. -/
theorem range_gives {P : Program} {n : Nat} {g : Operand} {ps : Array Tmp} {assign body : Code} {Q : Exit → Act → World → Prop} {a : Act} {w : World}
    {gf : Nat} {lb : Array Value} (hg : a.eval g = .func (.func gf) #[] lb) (eg : ∀ args w, (callFunc gf args).run P w = .ok (.enter gf args) w)
    {encs : α → Array Value} {n₀ : Nat} {C : Nat → Prop} {L : List α} (hseq : Gives P gf lb encs n₀ C L w) (hps : ∀ x, (encs x).size = ps.size) (hn₀ : n₀ ≤ w.heap.size)
    (M₀ : Nat → Prop) (hC : ∀ k, C k → M₀ k ∨ k < n₀) (hM₀ : ∀ k, M₀ k → k < w.heap.size)
    (I : (Nat → Prop) → List α → World → Prop) (Ix : Code → (Nat → Prop) → List α → World → Prop) (hI : Bides n₀ I) (hIx : ∀ c, Bides n₀ (Ix c)) (h0 : I M₀ [] w)
    (hround : ∀ (l : Nat) (M : Nat → Prop) (pre : List α) (x : α) (W : World), w.heap.size ≤ l → M l → l < W.heap.size → pre ++ [x] <+: L → I M pre W →
      assign.wpIn (Fence.wide.inRound l) n P (Exit.then (fun a' W' => Kept n₀ M W W' ∧ ∀ o, body.wpIn (Fence.wide.inRound l) n P (Ends n₀ M I Ix (pre ++ [x]) (W'.putObj l o)) a' (W'.putObj l o)) (fun _ _ _ => False))
        { tmps := (ps.zip (encs x)).foldl (fun t (p, v) => t.setIfInBounds p v) a.tmps, defers := [] } W)
    (hdone : ∀ (D : Nat) (M : Nat → Prop) (W : World), w.heap.size ≤ D → D < W.heap.size → M D → I M L W → W.heap[D]? = some (.deferred (some [])) → Q .normal { a with defers := { target := .collected D, args := #[] } :: a.defers } W)
    (hstop : ∀ (D : Nat) (c : Code) (M : Nat → Prop) (pre : List α) (W : World), w.heap.size ≤ D → D < W.heap.size → M D → Ix c M pre W → W.heap[D]? = some (.deferred (some [])) → c.wpIn Fence.wide n P Q { a with defers := { target := .collected D, args := #[] } :: a.defers } W) :
    (Code.rangeFunc g ps assign body).wpIn Fence.wide n P Q a w := by
  refine wpIn_rangeFunc fun fn hfn => ?_
  obtain ⟨rc, hrc⟩ : ∃ rc : LoopState → Option Code → Loop, rc = fun st pe => { state := st, pending := pe, fn, tmps := a.tmps, params := ps, assign, body, defers := w.heap.size } := ⟨_, rfl⟩
  obtain ⟨l, hl⟩ : ∃ l, l = w.heap.size + 1 := ⟨_, rfl⟩
  obtain ⟨D, hD⟩ : ∃ D, D = w.heap.size := ⟨_, rfl⟩
  obtain ⟨V, hV⟩ : ∃ V, V = (w.alloc (.deferred (some []))).alloc (.loop (rc .ready none)) := ⟨_, rfl⟩
  have hVs : V.heap.size = w.heap.size + 2 := by rw [hV]; simp
  have hVl : V.heap[l]? = some (.loop (rc .ready none)) := by
    rw [hV, hl]; have := World.alloc_heap_new (w.alloc (.deferred (some []))) (.loop (rc .ready none)); rwa [World.size_alloc] at this
  have hVD : V.heap[D]? = some (.deferred (some [])) := by
    rw [hV, hD]; exact (Below.heap_alloc _ _ _ (by simp)).trans (World.alloc_heap_new w _)
  have hVw : Below w.heap.size w V := by rw [hV]; exact ((Below.refl _ w).alloc (Nat.le_refl _) _).alloc (by simp) _
  have hDl : D < l := by omega
  -- what the iterator is told of M, and what the body is told
  let U : (Nat → Prop) → Nat → Prop := fun M k => M k ∨ k = D ∨ k = l
  let Book : (Nat → Prop) → Loop → World → Prop := fun M r W => ¬ M D ∧ ¬ M l ∧ l < W.heap.size ∧ W.heap[l]? = some (.loop r) ∧ W.heap[D]? = some (.deferred (some []))
  have book : ∀ {M M' : Nat → Prop} {r : Loop} {W W' : World}, Book M r W → Below n₀ W W' → (∀ k, k < W.heap.size → ¬ M k → W'.heap[k]? = W.heap[k]?) → (∀ k, M' k → M k ∨ (W.heap.size ≤ k ∧ k < W'.heap.size)) → Book M' r W' := by
    rintro M M' r W W' ⟨b1, b2, b3, b4, b5⟩ hb hs hm
    refine ⟨fun h => ?_, fun h => ?_, Nat.lt_of_lt_of_le b3 hb.size, (hs l b3 b2).trans b4, (hs D (by omega) b1).trans b5⟩
    · rcases hm D h with h | h
      · exact b1 h
      · omega
    · rcases hm l h with h | h
      · exact b2 h
      · omega
  have up : ∀ {M M' : Nat → Prop} {W W' : World}, (∀ k, M' k → M k ∨ (W.heap.size ≤ k ∧ k < W'.heap.size)) → ∀ k, U M' k → U M k ∨ (W.heap.size ≤ k ∧ k < W'.heap.size) := by
    rintro M M' W W' h k (hk | hk)
    · exact (h k hk).imp .inl id
    · exact .inl (.inr hk)
  have call := hseq l (fun M pre W => I (U M) pre W ∧ Book M (rc .ready none) W) (fun M pre W => ∃ c, Ix c (U M) pre W ∧ Book M (rc .done (some c)) W) M₀ V hVw hC
    (fun M M' pre W W' hj hb hs hm => ⟨hI _ _ pre W W' hj.1 hb (fun k hk hn => hs k hk (fun h => hn (.inl h))) (up hm), book hj.2 hb hs hm⟩)
    (fun M M' pre W W' hj hb hs hm => by
      obtain ⟨c, hc, hk⟩ := hj
      exact ⟨c, hIx c _ _ pre W W' hc hb (fun k hk hn => hs k hk (fun h => hn (.inl h))) (up hm), book hk hb hs hm⟩)
    (by
      rintro M pre x W hpre ⟨hi, b1, b2, b3, b4, b5⟩
      have hy := run_yield (P := P) (args := encs x) b4 (by rw [hrc]; exact hps x)
      rw [hrc] at hy
      refine ⟨fn, _, assign, body, hy, roundIn_any (n := n) (roundIn_of_wpIn hfn (wpIn_mono (hround l (U M) pre x W (by omega) (.inr (.inr rfl)) b3 hpre hi) ?_))⟩
      clear hy
      intro e1 a1 W1 h1
      cases e1 with
      | normal =>
        obtain ⟨hk1, hbody⟩ := h1
        have l1 := (hk1.2 l (.inr (.inr rfl)) b3).trans b4
        have d1 := (hk1.2 D (.inr (.inl rfl)) (by omega)).trans b5
        refine ⟨_, run_beginRound l1 (by rw [hrc]), ?_⟩
        have s1 : l < W1.heap.size := Nat.lt_of_lt_of_le b3 hk1.1.size
        refine wpIn_mono (hbody _) ?_
        have fin : ∀ (jump : Option Code) (W3 : World), Kept n₀ (U M) (W1.putObj l (.loop { rc .ready none with state := .busy })) W3 →
            (Instr.endRound l jump).run P W3 = .ok (.bool jump.isNone) (W3.putObj l (.loop (rc (if jump.isNone then .ready else .done) jump))) ∧
            Kept n₀ M W (W3.putObj l (.loop (rc (if jump.isNone then .ready else .done) jump))) ∧ Book M (rc (if jump.isNone then .ready else .done) jump) (W3.putObj l (.loop (rc (if jump.isNone then .ready else .done) jump))) := by
          intro jump W3 hk3
          have l2 : (W1.putObj l (.loop { rc .ready none with state := .busy })).heap[l]? = some (.loop { rc .ready none with state := .busy }) := World.putObj_heap_same s1
          have l3 := (hk3.2 l (.inr (.inr rfl)) (by simpa using s1)).trans l2
          have d3 := (hk3.2 D (.inr (.inl rfl)) (by simp; omega)).trans ((World.putObj_heap_other (by omega)).trans d1)
          have s3 : l < W3.heap.size := Nat.lt_of_lt_of_le s1 (by have := hk3.1.size; simpa using this)
          have r3 := run_endRound (P := P) jump l3
          rw [hrc] at r3 ⊢
          refine ⟨r3, ?_, b1, b2, by simpa using s3, World.putObj_heap_same s3, (World.putObj_heap_other (by omega)).trans d3⟩
          exact ((hk1.less (fun _ h => .inl h)).trans (kept_turned _ (by omega) b2)).trans ((hk3.less (fun _ h => .inl h)).trans (kept_turned _ (by omega) b2))
        rintro e a3 W3 hp
        cases e with
        | normal =>
          obtain ⟨hk3, hi3⟩ := hp
          obtain ⟨hr, hk, hbk⟩ := fin none W3 hk3
          exact ⟨_, _, hr, hk, .inl ⟨rfl, hI.turned _ hi3 (by omega) (.inr (.inr rfl)), hbk⟩⟩
        | ret =>
          obtain ⟨hk3, hi3⟩ := hp
          obtain ⟨hr, hk, hbk⟩ := fin (some .ret) W3 hk3
          exact ⟨_, _, hr, hk, .inr ⟨rfl, .ret, (hIx _).turned _ hi3 (by omega) (.inr (.inr rfl)), hbk⟩⟩
        | exit id =>
          obtain ⟨hk3, hi3⟩ := hp
          obtain ⟨hr, hk, hbk⟩ := fin (some (.exit id)) W3 hk3
          exact ⟨_, _, hr, hk, .inr ⟨rfl, .exit id, (hIx _).turned _ hi3 (by omega) (.inr (.inr rfl)), hbk⟩⟩
        | goto t =>
          obtain ⟨hk3, hi3⟩ := hp
          obtain ⟨hr, hk, hbk⟩ := fin (some (.goto t)) W3 hk3
          exact ⟨_, _, hr, hk, .inr ⟨rfl, .goto t, (hIx _).turned _ hi3 (by omega) (.inr (.inr rfl)), hbk⟩⟩
        | panic ch => exact hp.elim
        | outgrown => exact hp.elim
      | ret => exact h1.elim
      | exit id => exact h1.elim
      | goto t => exact h1.elim
      | panic ch => exact h1.elim
      | outgrown => exact h1.elim)
    ⟨hI.more h0 hVw hn₀ (fun k hk => by
        rcases hk with hk | hk | hk
        · exact .inl hk
        · exact .inr (by omega)
        · exact .inr (by omega)),
      fun h => by have := hM₀ D h; omega, fun h => by have := hM₀ l h; omega, by omega, hVl, hVD⟩
  refine ⟨l, [{ target := .collected D, args := #[] }], V, { target := .fn (.func gf) lb, args := #[.func (.yield l) #[] #[]] }, V, gf, #[.func (.yield l) #[] #[]] ++ lb, V, ?_, ?_, ?_, ?_, fun h => by simp [Fence.wide] at h, ?_⟩
  · rw [hV, hD, hl, hrc]; exact run_enterLoop_outer _ _ _ _ _
  · simp only [resolve, hg]
    simp [go_sem]
  · intro f' _; exact trivial
  · simp [invoke, go_sem, eg]
  · refine callsIn_wide.2 (call.mono ?_)
    rintro e W2 ⟨⟨v, rfl⟩, M, (⟨hi, b1, b2, b3, b4, b5⟩ | ⟨pre, c, hi, b1, b2, b3, b4, b5⟩)⟩
    · refine ⟨none, _, by have := run_endLoop (P := P) b4 (by rw [hrc]; simp); rw [hrc] at this; exact this, hdone D (U M) _ (by omega) (by simp; omega) (.inr (.inl rfl)) (hI.turned _ hi (by omega) (.inr (.inr rfl))) ((World.putObj_heap_other (by omega)).trans b5)⟩
    · refine ⟨some c, _, by have := run_endLoop (P := P) b4 (by rw [hrc]; simp); rw [hrc] at this; exact this, hstop D c (U M) pre _ (by omega) (by simp; omega) (.inr (.inl rfl)) ((hIx c).turned _ hi (by omega) (.inr (.inr rfl))) ((World.putObj_heap_other (by omega)).trans b5)⟩

/-- At a function's return: the marks of its loops are taken off, each block shut. -/
theorem leave_marks {F : Fence} {n : Nat} {P : Program} {fn : Func} {tmps : Array Value} {R : Ending → World → Prop} :
    ∀ (ds : List Nat) (W : World), ds.Nodup → (∀ D ∈ ds, W.heap[D]? = some (.deferred (some []))) →
      (∀ W', W'.os = W.os → W'.tape = W.tape → W'.output = W.output → W'.heap.size = W.heap.size → (∀ k, k ∉ ds → W'.heap[k]? = W.heap[k]?) → LeavesIn F n P fn tmps R [] .returning W') →
      LeavesInM F n P fn tmps R (ds.map fun D => { target := .collected D, args := #[] }) .returning W
  | [], W, _, _, h => h W rfl rfl rfl rfl (fun _ _ => rfl)
  | D :: ds, W, hnd, hd, h => by
    refine ⟨by simp, .inl ⟨D, _, rfl, run_takeDeferred (hd D (by simp)), ?_⟩⟩
    have hn := List.nodup_cons.1 hnd
    refine leave_marks ds _ hn.2 (fun E hE => (World.putObj_heap_other (by rintro rfl; exact hn.1 hE)).trans (hd E (by simp [hE]))) (fun W' h1 h2 h3 h4 h5 => ?_)
    refine h W' (h1.trans rfl) (h2.trans rfl) (h3.trans rfl) (h4.trans (by simp)) (fun k hk => ?_)
    simp only [List.mem_cons, not_or] at hk
    exact (h5 k hk.2).trans (World.putObj_heap_other hk.1)
end
end Go.Proofs.YtccjelpfmkbmiaaGreatDoor.Cl
end
section
namespace Go.Proofs.YtccjelpfmkbmiaaGreatDoor.Cl
open Go.Proofs.YtccjelpfmkbmiaaGreatDoor
set_option maxRecDepth 100000
open Go.RowKit Go.Shelf
attribute [local go_sem] Oper.semAt_some

/-- A page's cells: where each begins, and its room. -/
def pageL (k num : Nat) (room : Int) : List (Int × Int) := (List.range num).map fun (j : Nat) => (16 + (k : Int) * 16 + (j : Int) * room, room)
theorem pageL_length (k num : Nat) (room : Int) : (pageL k num room).length = num := by simp [pageL]
theorem pageL_get (k num : Nat) (room : Int) (j : Nat) (h : j < num) : (pageL k num room)[j]? = some (16 + k * 16 + j * room, room) := by simp [pageL, h]
theorem take_next {α : Type} {L : List α} {j : Nat} {x : α} (h : L[j]? = some x) : L.take (j + 1) = L.take j ++ [x] := by
  obtain ⟨hj, hx⟩ := List.getElem?_eq_some_iff.1 h
  rw [List.take_succ_eq_append_getElem hj, hx]
theorem take_pre {α : Type} {L : List α} {j : Nat} {x : α} (h : L[j]? = some x) : L.take j ++ [x] <+: L := by
  rw [← take_next h]
  exact List.take_prefix _ _
def encC (c : Int × Int) : Array Value := #[.agg #[.int .i64 c.1, .int .i64 c.2]]

theorem Kept.cell {n₀ : Nat} {M : Nat → Prop} {W W' : World} (h : Kept n₀ M W W') {b o : Nat} {v : Value} (hb : M b ∨ b < n₀) (hc : W.cell? ⟨b, o, none⟩ = some v) : W'.cell? ⟨b, o, none⟩ = some v := by
  have hlt : b < W.heap.size := World.block_lt_of_cell? W _ hc
  rcases hb with hb | hb
  · exact (World.cell?_of_block (a := ⟨b, o, none⟩) (h.2 b hb hlt)).trans hc
  · exact (h.1.cell (p := ⟨b, o, none⟩) hb).trans hc

set_option maxRecDepth 100000 in
set_option maxHeartbeats 1000000 in
theorem on_gives (n₀ k num : Nat) (room : Int) (b0 b1 b2 : Nat) (w : World) (hk : k ≤ 64) (hnum : num ≤ 8) (hr0 : 0 ≤ room) (hr1 : room ≤ 64)
    (h0 : w.cell? ⟨b0, 0, none⟩ = some (.int .i64 k)) (h1 : w.cell? ⟨b1, 0, none⟩ = some (.int .i64 num)) (h2 : w.cell? ⟨b2, 0, none⟩ = some (.int .i64 room)) :
    Gives Tryz.prog 161 #[.pointer (some ⟨b0, 0, none⟩), .pointer (some ⟨b1, 0, none⟩), .pointer (some ⟨b2, 0, none⟩)] encC n₀ (fun b => b = b0 ∨ b = b1 ∨ b = b2) (pageL k num room) w := by
  intro l J Jx M W hW hC _ _ hY hJ0
  have l0 : b0 < w.heap.size := World.block_lt_of_cell? w _ h0
  have l1 : b1 < w.heap.size := World.block_lt_of_cell? w _ h1
  have l2 : b2 < w.heap.size := World.block_lt_of_cell? w _ h2
  have c0 : W.cell? ⟨b0, 0, none⟩ = some (.int .i64 k) := (hW.cell (p := ⟨b0, 0, none⟩) l0).trans h0
  have c1 : W.cell? ⟨b1, 0, none⟩ = some (.int .i64 num) := (hW.cell (p := ⟨b1, 0, none⟩) l1).trans h1
  have c2 : W.cell? ⟨b2, 0, none⟩ = some (.int .i64 room) := (hW.cell (p := ⟨b2, 0, none⟩) l2).trans h2
  have HY := Lib.hid hY
  have HJ := Lib.hid hJ0
  have HC := Lib.hid (hC b2 (by simp))
  clear hY hJ0 hC hW h0 h1 h2 l0 l1 l2
  refine (callsIn_wide (n := 1)).1 ?_
  refine callsIn_of_wp Tryz.func161 rfl trivial ?_ rfl
  simp only [Tryz.ntmps161, List.size_toArray, List.length_cons, List.length_nil, Nat.reduceAdd, Nat.reduceSub, Array.replicate_succ, Array.replicate_zero, List.push_toArray, List.append_toArray, List.nil_append, List.cons_append]
  gi_wp2
  clear c0 c1
  gi_loopw [5, 10] (fun at_ i wr => ∃ (j : Nat) (q : Int), j ≤ num ∧ i = .int .i64 j ∧ at_ = .int .i64 q ∧ Hid (q = 16 + k * 16 + j * room) ∧ 0 ≤ q ∧ q ≤ 16 + k * 16 + 64 * j ∧ Hid (J M ((pageL k num room).take j) wr) ∧ wr.cell? ⟨b2, 0, none⟩ = some (.int .i64 room))
    (fun _ i _ => num - (intOf i).toNat)
  case atStart => exact ⟨0, 16 + k * 16, Nat.zero_le _, rfl, by go_num, Lib.hid (by simp), by omega, by omega, HJ, c2⟩
  case round =>
    clear c2 HJ
    obtain ⟨j, q, hj, rfl, rfl, HQ, hq0, hq1, HJ, c2⟩ := hrel
    by_cases hlt : j < num
    · have hg : (pageL k num room)[j]? = some (q, room) := by rw [pageL_get k num room j hlt, HQ.out]
      have HN := Lib.hid (take_next hg)
      have HL := Lib.hid (show ((j + 1 : Nat) : Int) * room = j * room + room by rw [Int.natCast_add, Int.add_mul]; simp)
      obtain ⟨fn, tmps, assign, body, hy, hR⟩ := HY.out M _ (q, room) wr (take_pre hg) HJ.out
      have HR := Lib.hid hR
      dsimp only [encC] at hy
      clear hg hR
      gi_wp2
      refine (roundIn_any HR.out).mono ?_
      rintro e W3 ⟨hk3, (⟨rfl, hJ3⟩ | ⟨rfl, hx3⟩)⟩
      · have c3 := hk3.cell HC.out c2
        have HJ3 := Lib.hid hJ3
        clear hk3 hJ3 c2 HR hy
        gi_wp2
        go_roundw
        case rel => exact ⟨j + 1, q + room, by omega, by go_num, by go_num, Lib.hid (by rw [HQ.out, HL.out]; omega), by omega, by omega, Lib.hid (by rw [HN.out]; exact HJ3.out), c3⟩
        case measure => simp [intOf]; omega
      · have HX := Lib.hid hx3
        clear hk3 hx3 c2 HR hy
        gi_wp2
        refine bodyPost_ret (results_none rfl _ _ _) rfl ?_
        exact ⟨⟨_, rfl⟩, M, .inr ⟨_, HX.out⟩⟩
    · obtain rfl : j = num := by omega
      have HT := Lib.hid (List.take_of_length_le (l := pageL k j room) (i := j) (by rw [pageL_length]; omega))
      gi_wp2
      go_end0
      exact ⟨⟨_, rfl⟩, M, .inl (by have := HJ.out; rwa [HT.out] at this)⟩
end Go.Proofs.YtccjelpfmkbmiaaGreatDoor.Cl
end
section
namespace Go.Proofs.YtccjelpfmkbmiaaGreatDoor.Cl
open Go.Proofs.YtccjelpfmkbmiaaGreatDoor
set_option maxRecDepth 100000
open Go.RowKit Go.Shelf
attribute [local go_sem] Oper.semAt_some

/-- The cells of the first k pages; of pages that may be, or none. -/
def cellsL (f : Nat → Int × Int) : Nat → List (Int × Int)
  | 0 => []
  | k + 1 => cellsL f k ++ pageL k (numOf (f k)) (roomOf (f k))
def allL (f : Nat → Int × Int) (n : Nat) : List (Int × Int) := if mayB f n = true then cellsL f n else []
theorem cellsL_succ (f : Nat → Int × Int) (k : Nat) : cellsL f (k + 1) = cellsL f k ++ pageL k (numOf (f k)) (roomOf (f k)) := rfl
theorem cellsL_prefix (f : Nat → Int × Int) {j : Nat} : ∀ {k : Nat}, j ≤ k → cellsL f j <+: cellsL f k
  | 0, h => by obtain rfl : j = 0 := by omega
               exact List.prefix_refl _
  | k + 1, h => by
    by_cases e : j = k + 1
    · subst e; exact List.prefix_refl _
    · exact (cellsL_prefix f (k := k) (by omega)).trans (List.prefix_append _ _)
theorem cellsL_in {f : Nat → Int × Int} {k n : Nat} (hk : k < n) {pre : List (Int × Int)} {x : Int × Int} (h : pre ++ [x] <+: pageL k (numOf (f k)) (roomOf (f k))) : (cellsL f k ++ pre) ++ [x] <+: cellsL f n := by
  refine List.IsPrefix.trans ?_ (cellsL_prefix f (j := k + 1) hk)
  rw [List.append_assoc, cellsL_succ]
  exact (List.prefix_append_right_inj _).2 h

theorem each_any (A : Option Addr) (n c : Nat) (w : World) :
    Calls Tryz.prog 131 #[.slice A n c] w fun e w' => e = .returned (.func (.func 146) #[] #[.pointer (some ⟨w.heap.size, 0, none⟩)]) ∧ w' = w.alloc (.cells #[.slice A n c] 23) := by
  go_enter Tryz.func131, Tryz.ntmps131
  go_wp2
  go_ret
  exact ⟨rfl, rfl⟩

/-- Between two pages: what the walk over all cells holds. -/
structure Going (n₀ : Nat) (W : World) (J : List (Int × Int) → World → Prop) (L : (Nat → Int × Int) → Nat → List (Int × Int)) (f : Nat → Int × Int) (n : Nat) (A : Option Addr) (c b l y : Nat) (M : Nat → Prop) (ds : List Nat) (k : Nat) (wr : World) : Prop where
  le : k ≤ n
  j : J (L f k) wr
  my : M y
  mb : M b ∨ b < n₀
  y : wr.cell? ⟨y, 0, none⟩ = some (.func (.yield l) #[] #[])
  d : wr.cell? ⟨b, 0, none⟩ = some (.slice A n c)
  bel : Below n₀ W wr
  nd : ds.Nodup
  ds : ∀ D ∈ ds, M D ∧ n₀ ≤ D ∧ wr.heap[D]? = some (.deferred (some []))

/-- .. and between two cells of a page. -/
structure Within (n₀ : Nat) (W : World) (J : (Nat → Prop) → List (Int × Int) → World → Prop) (done : List (Int × Int)) (A : Option Addr) (n c b l y : Nat) (M : Nat → Prop) (ds : List Nat) (M' : Nat → Prop) (pre : List (Int × Int)) (V : World) : Prop where
  j : J (fun k => M k ∨ M' k) (done ++ pre) V
  my : M y ∧ ¬ M' y
  mb : (M b ∨ b < n₀) ∧ ¬ M' b
  y : V.cell? ⟨y, 0, none⟩ = some (.func (.yield l) #[] #[])
  d : V.cell? ⟨b, 0, none⟩ = some (.slice A n c)
  bel : Below n₀ W V
  nd : ds.Nodup
  ds : ∀ D ∈ ds, M D ∧ ¬ M' D ∧ n₀ ≤ D ∧ V.heap[D]? = some (.deferred (some []))
theorem Within.bides {n₀ : Nat} {W : World} {J : (Nat → Prop) → List (Int × Int) → World → Prop} {done : List (Int × Int)} {A : Option Addr} {n c b l y : Nat} {M : Nat → Prop} {ds : List Nat} (h : Bides n₀ J) :
    Bides n₀ (Within n₀ W J done A n c b l y M ds) := by
  intro M' M'' pre V V' hw hb hs hm
  have hy := World.block_lt_of_cell? V _ hw.y
  have hd := World.block_lt_of_cell? V _ hw.d
  have no : ∀ k, k < V.heap.size → ¬ M' k → ¬ M'' k := fun k hk hn h => by
    rcases hm k h with h | h
    · exact hn h
    · omega
  refine ⟨h _ _ _ V V' hw.j hb (fun k hk hn => hs k hk (fun h => hn (.inr h))) (fun k hk => ?_), ⟨hw.my.1, no _ hy hw.my.2⟩, ⟨hw.mb.1, no _ hd hw.mb.2⟩, (World.cell?_of_block (a := ⟨y, 0, none⟩) (hs _ hy hw.my.2)).trans hw.y, (World.cell?_of_block (a := ⟨b, 0, none⟩) (hs _ hd hw.mb.2)).trans hw.d, hw.bel.trans hb, hw.nd, fun D hD => ?_⟩
  · rcases hk with hk | hk
    · exact .inl (.inl hk)
    · exact (hm k hk).imp .inr id
  · obtain ⟨h1, h2, h3, h4⟩ := hw.ds D hD
    have hlt := (Array.getElem?_eq_some_iff.1 h4).1
    exact ⟨h1, no _ hlt h2, h3, (hs _ hlt h2).trans h4⟩
theorem Within.round {n₀ : Nat} {W : World} {J J' : (Nat → Prop) → List (Int × Int) → World → Prop} {done : List (Int × Int)} {A : Option Addr} {n c b l y : Nat} {M : Nat → Prop} {ds : List Nat} {M' : Nat → Prop} {pre pre' : List (Int × Int)} {V V' : World}
    (hw : Within n₀ W J done A n c b l y M ds M' pre V) (hk : Kept n₀ (fun i => M i ∨ M' i) V V') (hj : J' (fun i => M i ∨ M' i) (done ++ pre') V') : Within n₀ W J' done A n c b l y M ds M' pre' V' := by
  refine ⟨hj, hw.my, hw.mb, hk.cell (.inl (.inl hw.my.1)) hw.y, hk.cell (hw.mb.1.imp .inl id) hw.d, hw.bel.trans hk.1, hw.nd, fun D hD => ?_⟩
  obtain ⟨h1, h2, h3, h4⟩ := hw.ds D hD
  exact ⟨h1, h2, h3, (hk.2 D (.inl h1) (Array.getElem?_eq_some_iff.1 h4).1).trans h4⟩
/-- A word of the caller's behind the marks' blocks. -/
theorem Bides.left {α : Type} {n₀ : Nat} {J : (Nat → Prop) → List α → World → Prop} (h : Bides n₀ J) {M : Nat → Prop} {pre : List α} {W W' : World} {ds : List Nat} (hj : J M pre W) (hd : ∀ D ∈ ds, M D ∧ n₀ ≤ D)
    (h1 : W'.os = W.os) (h2 : W'.tape = W.tape) (h3 : W'.output = W.output) (h4 : W'.heap.size = W.heap.size) (h5 : ∀ k, k ∉ ds → W'.heap[k]? = W.heap[k]?) : J M pre W' :=
  h M M pre W W' hj ⟨h1, h2, h3, by omega, fun k hk => h5 k (fun hm => by have := (hd k hm).2; omega)⟩ (fun k _ hn => h5 k (fun hm => hn (hd k hm).1)) (fun _ hk => .inl hk)

set_option maxRecDepth 100000 in
set_option maxHeartbeats 1000000 in
theorem each_gives (B n₀ : Nat) (A : Option Addr) (n c b : Nat) (f : Nat → Int × Int) (w : World) (hn : n ≤ 1000) (hz : Sz w) (hr : PRow w B A n f) (hB : B ≤ n₀) (hp : 0 < n₀) (hn₀ : n₀ ≤ w.heap.size)
    (hb : w.cell? ⟨b, 0, none⟩ = some (.slice A n c)) :
    Gives Tryz.prog 146 #[.pointer (some ⟨b, 0, none⟩)] encC n₀ (fun k => k = b) (allL f n) w := by
  intro l J Jx M0 W hW hC hBJ hBX hY hJ0
  have lb : b < w.heap.size := World.block_lt_of_cell? w _ hb
  have cb : W.cell? ⟨b, 0, none⟩ = some (.slice A n c) := (hW.cell (p := ⟨b, 0, none⟩) lb).trans hb
  have HZ := Lib.hid (hz.over hW hz.pos)
  have HR := Lib.hid (hr.over hW (by omega))
  have hnW : n₀ ≤ W.heap.size := by have := hW.size; omega
  have HY := Lib.hid hY
  have HJ := Lib.hid hJ0
  have HC := Lib.hid (hC b rfl)
  have HBJ := Lib.hid hBJ
  have HBX := Lib.hid hBX
  have lbW : b < W.heap.size := by have := hW.size; omega
  clear hY hJ0 hC hW hb hBJ hBX hz hr
  have HZ1 : Hid (Sz (W.alloc (.cells #[.func (.yield l) #[] #[]] 126))) := Lib.hid (HZ.out.alloc _)
  have HR1 : Hid (PRow (W.alloc (.cells #[.func (.yield l) #[] #[]] 126)) B A n f) := Lib.hid (HR.out.alloc _ (by omega))
  refine (callsIn_wide (n := 1)).1 ?_
  refine callsIn_of_wp_marks Tryz.func146 rfl trivial ?_ rfl
  simp only [Tryz.ntmps146, List.size_toArray, List.length_cons, List.length_nil, Nat.reduceAdd, Nat.reduceSub, Array.replicate_succ, Array.replicate_zero, List.push_toArray, List.append_toArray, List.nil_append, List.cons_append]
  cases hM : mayB f n
  · have HM := Lib.hid hM
    have HL := Lib.hid (show allL f n = [] from if_neg (by rw [hM]; decide))
    clear hM
    gi_wp2_with fail
    refine ⟨trivial, (callsIn_wide.2 (may_no B _ _ _ _ _ HM.out hn HR1.out (by simp; omega))).mono ?_⟩
    rintro e w1 ⟨rfl, hb1⟩
    have HB := Lib.hid (below_pair (Below.refl W.heap.size W) hb1)
    clear hb1
    gi_wp2
    refine ⟨_, results_none rfl _ _ _, ⟨_, rfl⟩, M0, .inl ?_⟩
    rw [HL.out]
    exact HBJ.out.more HJ.out HB.out hnW (fun k hk => .inl hk)
  · have HM := Lib.hid hM
    have HL := Lib.hid (show allL f n = cellsL f n from if_pos hM)
    have hn64 := ((mayB_iff f n).1 hM).2.1
    clear hM
    gi_wp2_with fail
    refine ⟨trivial, (callsIn_wide.2 (may_yes B _ _ _ _ _ HM.out HR1.out (by simp; omega))).mono ?_⟩
    rintro e w1 ⟨rfl, hb1⟩
    have y1 : w1.cell? ⟨W.heap.size, 0, none⟩ = some (.func (.yield l) #[] #[]) := (hb1.cell (p := ⟨W.heap.size, 0, none⟩) (by simp)).trans (by simp [go_sem])
    have d1 : w1.cell? ⟨b, 0, none⟩ = some (.slice A n c) := by
      refine (hb1.cell (p := ⟨b, 0, none⟩) (by simp; omega)).trans ?_
      exact (((Below.refl W.heap.size W).alloc (Nat.le_refl _) _).cell (p := ⟨b, 0, none⟩) lbW).trans cb
    have hs1 : W.heap.size < w1.heap.size := by have := hb1.size; simp at this; omega
    have HB := Lib.hid (below_pair (Below.refl W.heap.size W) hb1)
    have HZ2 := Lib.hid (HZ1.out.over hb1 (by simp))
    have HR2 := Lib.hid (HR1.out.over hb1 (by simp; omega))
    clear hb1 cb
    gi_wp2
    refine wpIn_loop (fun a wr => ∃ (k : Nat) (u3 u11 u12 u13 u14 u15 u21 : Value) (M : Nat → Prop) (ds : List Nat),
        Hid (Going n₀ W (J M) cellsL f n A c b l W.heap.size M ds k wr) ∧
        a = { tmps := #[.func (.yield l) #[] #[], .pointer (some ⟨b, 0, none⟩), .pointer (some ⟨W.heap.size, 0, none⟩), u3, undef, .slice A n c, .bool true, .bool false, .slice A n c, .int .i64 n, .int .i64 k,
          u11, u12, u13, u14, u15, undef, undef, undef, undef, undef, u21], defers := ds.map fun D => { target := .collected D, args := #[] } })
      (fun a _ => n - (intOf (a.tmps.getD 10 undef)).toNat) ?_ ?_
    · refine ⟨0, _, _, _, _, _, _, _, fun k => M0 k ∨ k = W.heap.size, [], Lib.hid ⟨Nat.zero_le _, ?_, .inr rfl, HC.out.imp .inl id, y1, d1, HB.out.mono hnW, by simp, by simp⟩, rfl⟩
      refine HBJ.out.more HJ.out HB.out hnW ?_
      rintro k (hk | rfl)
      · exact .inl hk
      · exact .inr ⟨Nat.le_refl _, hs1⟩
    · rintro _ wr ⟨k, u3, u11, u12, u13, u14, u15, u21, M, ds, HG, rfl⟩
      clear y1 d1 HJ
      have hG := HG.out
      have y1 := hG.y
      have d1 := hG.d
      have hsz := hG.bel.size
      have hkn := hG.le
      have HRk := Lib.hid (HR.out.over hG.bel hB)
      have HZk := Lib.hid (HZ.out.over hG.bel hp)
      clear hG
      by_cases hlt : k < n
      · have HPk := Lib.hid ((okB_iff f k).1 (((mayB_iff f n).1 HM.out).2.2.1 k hlt)).1
        gi_wp2_with fail
        refine ⟨trivial, (callsIn_wide.2 (on_any B _ _ _ f k wr HZk.out hn hlt HPk.out HRk.out (by omega))).mono ?_⟩
        rintro e w2 ⟨b0, b1, b2, rfl, ⟨g0, g1, g2⟩, c0, c1, c2, hb2⟩
        have HB2 := Lib.hid hb2
        have hz2 := hb2.size
        have lb0 : b0 < w2.heap.size := World.block_lt_of_cell? w2 _ c0
        have lb1 : b1 < w2.heap.size := World.block_lt_of_cell? w2 _ c1
        have lb2 : b2 < w2.heap.size := World.block_lt_of_cell? w2 _ c2
        have HI : Hid (Within n₀ W J (cellsL f k) A n c b l W.heap.size M ds (fun i => i = b0 ∨ i = b1 ∨ i = b2) [] w2) := by
          have hG := HG.out
          have hy := World.block_lt_of_cell? wr _ y1
          have hd := World.block_lt_of_cell? wr _ d1
          refine ⟨?_, ⟨hG.my, by simp only at hy; omega⟩, ⟨hG.mb, by simp only at hd; omega⟩, (hb2.cell (p := ⟨W.heap.size, 0, none⟩) hy).trans y1, (hb2.cell (p := ⟨b, 0, none⟩) hd).trans d1, hG.bel.trans (hb2.mono (by omega)), hG.nd, fun D hD => ?_⟩
          · rw [List.append_nil]
            refine HBJ.out.more hG.j hb2 (by omega) (fun i hi => ?_)
            rcases hi with hi | rfl | rfl | rfl
            · exact .inl hi
            · exact .inr ⟨g0, lb0⟩
            · exact .inr ⟨g1, lb1⟩
            · exact .inr ⟨g2, lb2⟩
          · obtain ⟨h1, h2, h3⟩ := hG.ds D hD
            have hlt := (Array.getElem?_eq_some_iff.1 h3).1
            exact ⟨h1, by omega, h2, (hb2.block D hlt).trans h3⟩
        have HS := Lib.hid (on_gives n₀ k (numOf (f k)) (roomOf (f k)) b0 b1 b2 w2 (by omega) (num_room HPk.out).1 (num_room HPk.out).2.1 (num_room HPk.out).2.2 c0 c1 c2)
        clear hb2 c0 c1 c2 y1 d1
        gi_wp2
        refine range_gives (gf := 161) rfl (enters_of Tryz.func161 (by kernel_rfl) rfl) HS.out (fun _ => rfl) (by omega) (fun i => i = b0 ∨ i = b1 ∨ i = b2) (fun _ h => .inl h) (by rintro i (rfl | rfl | rfl) <;> assumption)
          (Within n₀ W J (cellsL f k) A n c b l W.heap.size M ds) (fun code M' pre V => code = .ret ∧ Within n₀ W Jx (cellsL f k) A n c b l W.heap.size M ds M' pre V) (Within.bides HBJ.out)
          (fun code M' M'' pre V V' hj hb hs hm => ⟨hj.1, Within.bides HBX.out M' M'' pre V V' hj.2 hb hs hm⟩) HI.out ?round ?done ?stop
        case round =>
          intro l2 M' pre x V hl2 hM2 hlt2 hpre hw
          obtain ⟨q, r⟩ := x
          have HW := Lib.hid hw
          have HP := Lib.hid (cellsL_in (n := n) hlt hpre)
          clear hw hpre
          dsimp only [encC]
          gi_wp2
          refine ⟨⟨(Below.refl _ _).alloc (by have := HW.out.bel.size; omega) _, fun i _ hi => Below.heap_alloc _ _ _ hi⟩, fun o => ?_⟩
          obtain ⟨V2, hV2⟩ : ∃ V2, V2 = (V.alloc (.cells #[.int .i64 q, .int .i64 r] 123)).putObj l2 o := ⟨_, rfl⟩
          rw [← hV2]
          have hb2 : Below n₀ V V2 := by rw [hV2]; exact ((Below.refl _ _).alloc (by have := HW.out.bel.size; omega) _).trans (below_turned _ (by omega))
          have hs2 : ∀ i, i < V.heap.size → i ≠ l2 → V2.heap[i]? = V.heap[i]? := fun i hi hn => by rw [hV2]; exact (World.putObj_heap_other hn).trans (Below.heap_alloc _ _ _ hi)
          have HW2 := Lib.hid (Within.bides HBJ.out M' M' pre V V2 HW.out hb2 (fun i hi hn => hs2 i hi (fun e => hn (e ▸ hM2))) (fun i hi => .inl hi))
          have e0 : V2.cell? ⟨V.heap.size, 0, none⟩ = some (.int .i64 q) := by
            rw [hV2, World.cell?_of_block (a := ⟨V.heap.size, 0, none⟩) (World.putObj_heap_other (w := V.alloc _) (k := V.heap.size) (by omega))]
            simp [go_sem]
          have e1 : V2.cell? ⟨V.heap.size, 1, none⟩ = some (.int .i64 r) := by
            rw [hV2, World.cell?_of_block (a := ⟨V.heap.size, 1, none⟩) (World.putObj_heap_other (w := V.alloc _) (k := V.heap.size) (by omega))]
            simp [go_sem]
          clear hV2 hb2 hs2
          have y2 := HW2.out.y
          obtain ⟨fn, tmps, assign, body, hy, hR⟩ := HY.out (fun i => M i ∨ M' i) _ (q, r) V2 (by rw [HL.out]; exact HP.out) HW2.out.j
          have HRR := Lib.hid hR
          dsimp only [encC] at hy
          clear hR
          gi_wp2
          refine (roundIn_inner l2 HRR.out).mono ?_
          rintro e W3 ⟨hk3, (⟨rfl, hJ3⟩ | ⟨rfl, hx3⟩)⟩
          · have HK := Lib.hid hk3
            have HJ3 := Lib.hid hJ3
            clear hk3 hJ3 hy HRR
            gi_wp2
            exact ⟨HK.out.less (fun _ h => .inr h), HW2.out.round HK.out (by rw [← List.append_assoc]; exact HJ3.out)⟩
          · have HK := Lib.hid hk3
            have HX := Lib.hid hx3
            clear hk3 hx3 hy HRR
            gi_wp2
            exact ⟨HK.out.less (fun _ h => .inr h), rfl, HW2.out.round HK.out (by rw [← List.append_assoc]; exact HX.out)⟩
        case done =>
          intro D M' V hD hDV hMD hw hdef
          have HG2 : Hid (Going n₀ W (J (fun i => M i ∨ M' i)) cellsL f n A c b l W.heap.size (fun i => M i ∨ M' i) (D :: ds) (k + 1) V) := Lib.hid ⟨hlt, by rw [cellsL_succ]; exact hw.j, .inl hw.my.1, hw.mb.1.imp .inl id, hw.y, hw.d, hw.bel,
            List.nodup_cons.2 ⟨fun h => (hw.ds D h).2.1 hMD, hw.nd⟩, by
              intro E hE
              rcases List.mem_cons.1 hE with rfl | hE
              · exact ⟨.inr hMD, by omega, hdef⟩
              · obtain ⟨h1, h2, h3, h4⟩ := hw.ds E hE
                exact ⟨.inl h1, h3, h4⟩⟩
          clear hw hdef
          dsimp only
          gi_wp2
          exact ⟨⟨k + 1, _, _, _, _, _, _, _, _, D :: ds, HG2, rfl⟩, by simp [intOf]; omega⟩
        case stop =>
          rintro D _ M' pre V hD hDV hMD ⟨rfl, hw⟩ hdef
          have HW := Lib.hid hw
          clear hw
          dsimp only
          gi_wp2
          refine leave_marks (D :: ds) V (List.nodup_cons.2 ⟨fun h => (HW.out.ds D h).2.1 hMD, HW.out.nd⟩) ?_ (fun W' h1 h2 h3 h4 h5 => ⟨_, results_none rfl _ _ _, ⟨_, rfl⟩, (fun i => M i ∨ M' i), .inr ⟨cellsL f k ++ pre, ?_⟩⟩)
          · intro E hE
            rcases List.mem_cons.1 hE with rfl | hE
            · exact hdef
            · exact (HW.out.ds E hE).2.2.2
          · refine HBX.out.left HW.out.j (ds := D :: ds) (fun E hE => ?_) h1 h2 h3 h4 h5
            rcases List.mem_cons.1 hE with rfl | hE
            · exact ⟨.inr hMD, by omega⟩
            · exact ⟨.inl (HW.out.ds E hE).1, (HW.out.ds E hE).2.2.1⟩
      · obtain rfl : k = n := by omega
        gi_wp2
        refine leave_marks ds wr HG.out.nd (fun D hD => (HG.out.ds D hD).2.2) (fun W' h1 h2 h3 h4 h5 => ⟨_, results_none rfl _ _ _, ⟨_, rfl⟩, M, .inl ?_⟩)
        rw [HL.out]
        exact HBJ.out.left HG.out.j (fun D hD => ⟨(HG.out.ds D hD).1, (HG.out.ds D hD).2.1⟩) h1 h2 h3 h4 h5
end Go.Proofs.YtccjelpfmkbmiaaGreatDoor.Cl
end
section
namespace Go.Proofs.YtccjelpfmkbmiaaGreatDoor.Cl
open Go.Proofs.YtccjelpfmkbmiaaGreatDoor
set_option maxRecDepth 100000
open Go.RowKit Go.Shelf
attribute [local go_sem] Oper.semAt_some

theorem info_int1 : (Tryz.prog.info? 3).map (fun i => (i.zero, i.size, i.bytes)) = some (some (.int .i64 0), 1, 8) := by kernel_rfl

/-- 'append' in a fenced walk, and where the new slice lies. -/
theorem listIn_append_lies {F : Fence} {n : Nat} {P : Program} (w : World) {ops : Array Oper} {rest : List Oper} {o : Oper} {a : Act} {Q : Exit → Act → World → Prop}
    (hg : o.guard = none) (s x : Operand) (t : TypeId) (hop : o.op = Op.call { callee := Callee.builtin Builtin.append, args := #[s, x], argTypes := #[t, t] })
    (base : Nat) (e : TypeId) (i : TypeInfo) (z : Value) (size bytes : Nat) (h1 : P.underlying t = some (.slice e)) (h2 : P.info? e = some i) (h3 : i.zero = some z) (h4 : i.size = size) (h5 : i.bytes = bytes) (h6 : z.cells.size = size) (h7 : 0 < size)
    (v : Value) (k : Nat) (xs : List Value) (hs : a.eval s = v) (hown : w.ownsRow base e size v k xs) (ad : Addr) (m c : Nat) (news : List Value) (hx : a.eval x = .slice (some ad) m c) (hn : news.length = m * size)
    (hc : ∀ j u, news[j]? = some u → w.cell? (ad.add j) = some u) (h1c : ∀ u ∈ news, u.oneCell' = true) (hm : 0 < m) (b1 : k + m ≤ maxLen) (b2 : (k + m) * bytes ≤ 140737488355328) (b3 : base ≤ w.heap.size) (H : Nat) (hH : w.heap.size = H)
    (hK : ∀ g cap w', w'.ownsRow base e size (.slice (some ⟨g, 0, none⟩) (k + m) cap) (k + m) (xs ++ news) → w.grownBy w' v.ownBlock → (v.ownBlock = some g ∨ g = H) → g < w'.heap.size → wpListIn F n P ops Q rest (a.put o.dst (.slice (some ⟨g, 0, none⟩) (k + m) cap)) w') :
    wpListIn F n P ops Q (o :: rest) a w := by
  refine wpListIn_plain hg fun K hK' => ?_
  obtain ⟨g, cap, w', hrun, r1, r2, r3, r4⟩ := run_append_lies (P := P) w t o.type base e i z size bytes h1 h2 h3 h4 h5 h6 h7 v k xs hown ad m c news hn hc h1c hm b1 b2 b3 H hH
  refine ⟨?_, ?_⟩
  · simp [Oper.about, hop, resolve, Target.leads, Sem.run_pure]
  · rw [Oper.semAt_plain F _ _ (by rw [hop]; intro c hc'; cases hc')]
    simp [execOp, hop, resolve, invoke, builtin, hs, hx, hrun, Result.andThen]
    exact hK' _ _ (hK g cap w' r1 r2 r3 r4)

/-- A slice of these numbers was returned; all that was there is as it was. -/
def Listed (w : World) (xs : List Int) (e : Ending) (w' : World) : Prop :=
  ∃ a c, e = .returned (.slice a xs.length c) ∧ Row w' w'.heap.size a xs.length xs ∧ xs.length ≤ c ∧ c ≤ maxLen ∧ Below w.heap.size w w'
theorem owns_row {w : World} {base e n : Nat} {v : Value} {xs : List Int} (h : w.ownsRow base e 1 v n (xs.map (Value.int .i64))) :
    ∃ a c, v = .slice a xs.length c ∧ Row w w.heap.size a xs.length xs ∧ xs.length ≤ c ∧ c ≤ maxLen := by
  have hl : xs.length = n := by simpa using h.1
  rcases h.2 with ⟨rfl, h0⟩ | ⟨g, c, cur, rfl, hb, hh, hnc, hcm, _⟩
  · obtain rfl : xs = [] := List.eq_nil_of_length_eq_zero (by omega)
    exact ⟨none, 0, rfl, Row.none_ _ _, Nat.le_refl _, by unfold maxLen; omega⟩
  · subst hl
    have hg := (Array.getElem?_eq_some_iff.1 hh).1
    have hm : Mine w base e g xs.length c xs := ⟨h, hb, hg, hnc, hcm⟩
    exact ⟨_, c, rfl, hm.row, hnc, hcm⟩
theorem World.ownsRow.same {w w' : World} {base e size n : Nat} {v : Value} {xs : List Value} (h : w.ownsRow base e size v n xs) (hs : ∀ g, v.ownBlock = some g → g < w.heap.size → w'.heap[g]? = w.heap[g]?) : w'.ownsRow base e size v n xs := by
  refine ⟨h.1, ?_⟩
  rcases h.2 with h2 | ⟨g, cap, cur, rfl, hb, hh, hr⟩
  · exact .inl h2
  · exact .inr ⟨g, cap, cur, rfl, hb, (hs g rfl (Array.getElem?_eq_some_iff.1 hh).1).trans hh, hr⟩

/-- .. in memory of the call's own. -/
def ListedN (w : World) (xs : List Int) (e : Ending) (w' : World) : Prop :=
  ∃ a c, e = .returned (.slice a xs.length c) ∧ Row w' w'.heap.size a xs.length xs ∧ xs.length ≤ c ∧ c ≤ maxLen ∧ Below w.heap.size w w' ∧ ∀ x, a = some x → w.heap.size ≤ x.block
theorem ListedN.listed {w w' : World} {xs : List Int} {e : Ending} (h : ListedN w xs e w') : Listed w xs e w' := by
  obtain ⟨a, c, h1, h2, h3, h4, h5, _⟩ := h
  exact ⟨a, c, h1, h2, h3, h4, h5⟩
/-- While a list is being filled: its box, its row. -/
structure Filling (w : World) (M : Nat → Prop) (pre : List (Int × Int)) (W : World) (v : Value) : Prop where
  box : Boxed W w.heap.size 22 v
  free : ¬ M w.heap.size
  row : W.ownsRow w.heap.size 3 1 v pre.length (pre.map fun c => Value.int .i64 c.1)
  off : ∀ g, v.ownBlock = some g → ¬ M g
  fit : ∀ k, M k → k < W.heap.size
  bel : Below w.heap.size w W
def Fills (w : World) (M : Nat → Prop) (pre : List (Int × Int)) (W : World) : Prop := ∃ v, Filling w M pre W v
theorem Fills.bides (w : World) : Bides w.heap.size (Fills w) := by
  rintro M M' pre W W' ⟨v, hv⟩ hb hs hm
  have no : ∀ k, k < W.heap.size → ¬ M k → ¬ M' k := fun k hk hn h => by
    rcases hm k h with h | h
    · exact hn h
    · omega
  refine ⟨v, ?_, no _ hv.box.lt hv.free, World.ownsRow.same hv.row (fun g hg hlt => hs g hlt (hv.off g hg)), fun g hg => no g (hv.row.lt g hg).2 (hv.off g hg), fun k hk => ?_, hv.bel.trans hb⟩
  · exact (hs _ hv.box.lt hv.free).trans hv.box
  · rcases hm k hk with h | h
    · exact Nat.lt_of_lt_of_le (hv.fit k h) hb.size
    · exact h.2

theorem filled {w V w1 : World} {M : Nat → Prop} {pre : List (Int × Int)} {q r : Int} {v : Value} {g cap : Nat} {tmp : Obj} {a : Act} (hv : Filling w M pre V v)
    (hown : w1.ownsRow w.heap.size 3 1 (.slice (some ⟨g, 0, none⟩) (pre.length + 1) cap) (pre.length + 1) ((pre.map fun c => Value.int .i64 c.1) ++ [.int .i64 q])) (hgrow : (V.alloc tmp).grownBy w1 v.ownBlock)
    (hat : v.ownBlock = some g ∨ g = V.heap.size + 1) (hbx : Boxed w1 w.heap.size 22 v) :
    Ends w.heap.size M (Fills w) (fun _ _ _ _ => False) (pre ++ [(q, r)]) V .normal a (w1.setCell ⟨w.heap.size, 0, none⟩ (.slice (some ⟨g, 0, none⟩) (pre.length + 1) cap)) := by
  have hn := hbx.not_row (by decide) hown
  have hzV := hv.bel.size
  have hb : Below w.heap.size V (w1.setCell ⟨w.heap.size, 0, none⟩ (.slice (some ⟨g, 0, none⟩) (pre.length + 1) cap)) :=
    (((Below.refl _ V).alloc hzV tmp).grown hgrow (by simp; omega) (fun k hk => (hv.row.lt k hk).1)).setCell (p := ⟨w.heap.size, 0, none⟩) (Nat.le_refl _) _
  have ks : ∀ k, M k → k < V.heap.size → (w1.setCell ⟨w.heap.size, 0, none⟩ (.slice (some ⟨g, 0, none⟩) (pre.length + 1) cap)).heap[k]? = V.heap[k]? := fun k hk hl => by
    refine (Below.heap_setCell _ _ _ k (fun e => hv.free (by rw [← (show k = w.heap.size from e)]; exact hk))).trans ((hgrow.block k (by simp; omega) (fun e => hv.off k e.symm hk)).trans (Below.heap_alloc _ _ _ hl))
  refine ⟨⟨hb, ks⟩, _, hbx.set _, hv.free, ?_, fun g' hg' hM => ?_, fun k hk => Nat.lt_of_lt_of_le (hv.fit k hk) hb.size, hv.bel.trans hb⟩
  · have := hown.kept (grownBy_setCell' w1 w.heap.size (.slice (some ⟨g, 0, none⟩) (pre.length + 1) cap)) (.inr hn.symm)
    simpa using this
  · obtain rfl : g = g' := by simpa [Value.ownBlock] using hg'
    rcases hat with h | h
    · exact hv.off _ h hM
    · have := hv.fit _ hM
      omega

set_option maxRecDepth 100000 in
set_option maxHeartbeats 1000000 in
theorem starts_new (gf : Nat) (lb : Array Value) (C : Nat → Prop) (L : List (Int × Int)) (w : World) (hL : L.length ≤ 1000) (hC : ∀ k, C k → k < w.heap.size) (eg : ∀ args w, (callFunc gf args).run Tryz.prog w = .ok (.enter gf args) w)
    (hs : Gives Tryz.prog gf lb encC w.heap.size C L w) :
    Calls Tryz.prog 130 #[.func (.func gf) #[] lb] w (ListedN w (L.map (·.1))) := by
  obtain ⟨i0, hi, hz0, hz1, hz2⟩ := info_parts info_int1
  have HS : Hid (Gives Tryz.prog gf lb encC w.heap.size C L (w.alloc (.cells #[.slice none 0 0] 22))) := Lib.hid (hs.later ((Below.refl _ _).alloc (Nat.le_refl _) _))
  have HC := Lib.hid hC
  have HE := Lib.hid eg
  clear hs hC eg
  refine (callsIn_wide (n := 1)).1 ?_
  refine callsIn_of_wp_marks Tryz.func130 rfl trivial ?_ rfl
  simp only [Tryz.ntmps130, List.size_toArray, List.length_cons, List.length_nil, Nat.reduceAdd, Nat.reduceSub, Array.replicate_succ, Array.replicate_zero, List.push_toArray, List.append_toArray, List.nil_append, List.cons_append]
  gi_wp2
  refine range_gives (gf := gf) rfl HE.out HS.out (fun _ => rfl) (by simp) (fun _ => False) (fun k h => .inr (HC.out k h)) (fun _ h => h.elim) (Fills w) (fun _ _ _ _ => False) (Fills.bides w) (fun _ _ _ _ _ _ h _ _ _ => h) ?start ?round ?done ?stop
  case start => exact ⟨.slice none 0 0, Boxed.new w _ _, fun h => h, World.ownsRow_nil _ _ _ _, by simp [Value.ownBlock], fun _ h => h.elim, (Below.refl _ _).alloc (Nat.le_refl _) _⟩
  case stop =>
    rintro D c M pre W _ _ _ h _
    exact h.elim
  case done =>
    rintro D M W hD hDW hM ⟨v, hv⟩ hdef
    have hc := hv.box.cell
    have HV := Lib.hid hv
    clear hv
    dsimp only
    gi_wp2
    refine leave_marks [D] W (by simp) (by simpa using hdef) (fun W' h1 h2 h3 h4 h5 => ⟨_, results_tmp rfl _ _ _, ?_⟩)
    have hv := HV.out
    have hrow : W'.ownsRow w.heap.size 3 1 v (L.map (·.1)).length ((L.map (·.1)).map (Value.int .i64)) := by
      have := World.ownsRow.same hv.row (w' := W') (fun g hg _ => h5 g (by simp; rintro rfl; exact hv.off _ hg hM))
      simpa [Function.comp_def] using this
    obtain ⟨a, c, rfl, hr, hc1, hc2⟩ := owns_row hrow
    refine ⟨a, c, rfl, hr, hc1, hc2, hv.bel.trans ⟨h1, h2, h3, by omega, fun k hk => h5 k ?_⟩, fun x hx => (hrow.lt x.block (by rw [hx]; rfl)).1⟩
    simp at hD ⊢
    omega
  case round =>
    intro l M pre x W hl hM hlt hpre hf
    obtain ⟨q, r⟩ := x
    have hlen : pre.length + 1 ≤ 1000 := by have := hpre.length_le; simp at this; omega
    have HF := Lib.hid hf
    have hz := HF.out.elim fun _ h => h.bel.size
    clear hf hpre
    dsimp only [encC]
    gi_wp2
    refine ⟨⟨(Below.refl _ _).alloc hz _, fun i _ hi => Below.heap_alloc _ _ _ hi⟩, fun o => ?_⟩
    obtain ⟨V, hV⟩ : ∃ V, V = (W.alloc (.cells #[.int .i64 q, .int .i64 r] 123)).putObj l o := ⟨_, rfl⟩
    rw [← hV]
    have hb2 : Below w.heap.size W V := by rw [hV]; exact ((Below.refl _ _).alloc hz _).trans (below_turned _ (by simp at hl; omega))
    have hs2 : ∀ i, i < W.heap.size → i ≠ l → V.heap[i]? = W.heap[i]? := fun i hi hn => by rw [hV]; exact (World.putObj_heap_other hn).trans (Below.heap_alloc _ _ _ hi)
    obtain ⟨v, hv⟩ := Fills.bides w M M pre W V HF.out hb2 (fun i hi hn => hs2 i hi (fun e => hn (e ▸ hM))) (fun i hi => .inl hi)
    have e0 : V.cell? ⟨W.heap.size, 0, none⟩ = some (.int .i64 q) := by
      rw [hV, World.cell?_of_block (a := ⟨W.heap.size, 0, none⟩) (World.putObj_heap_other (w := W.alloc _) (k := W.heap.size) (by omega))]
      simp [go_sem]
    have hc := hv.box.cell
    have hzV := hv.bel.size
    have hrow := hv.row
    have HV := Lib.hid hv
    clear hV hb2 hs2 hv
    gi_wp2_with (gi_at_builtin; refine listIn_append_lies _ rfl _ _ 22 rfl w.heap.size 3 i0 (.int .i64 0) 1 8 Tryz.underlying22 hi hz0 hz1 hz2 rfl (by decide) _ _ _ rfl (hrow.alloc _) ⟨V.heap.size, 0, none⟩ 1 1 [.int .i64 q] rfl rfl (cell_one_new _ _ _) (by simp [Value.oneCell']) (by decide) (by unfold maxLen; omega) (by omega) (by simp; omega) (V.heap.size + 1) (by simp) ?_; intro g cap w1 hown hgrow hat _; have hbx := (HV.out.box.alloc _).kept hgrow (HV.out.box.not_row (by decide) HV.out.row); have hc1 := hbx.cell; have hf1 := hbx.frozen)
    exact filled HV.out hown hgrow hat hbx
theorem starts_any (gf : Nat) (lb : Array Value) (C : Nat → Prop) (L : List (Int × Int)) (w : World) (hL : L.length ≤ 1000) (hC : ∀ k, C k → k < w.heap.size) (eg : ∀ args w, (callFunc gf args).run Tryz.prog w = .ok (.enter gf args) w)
    (hs : Gives Tryz.prog gf lb encC w.heap.size C L w) :
    Calls Tryz.prog 130 #[.func (.func gf) #[] lb] w (Listed w (L.map (·.1))) := (starts_new gf lb C L w hL hC eg hs).mono fun _ _ h => h.listed
end Go.Proofs.YtccjelpfmkbmiaaGreatDoor.Cl
end
section
namespace Go.Proofs.YtccjelpfmkbmiaaGreatDoor.Cl
open Go.Proofs.YtccjelpfmkbmiaaGreatDoor
set_option maxRecDepth 100000
open Go.RowKit Go.Shelf
attribute [local go_sem] Oper.semAt_some

/-- A function value that tells, of any cell, what p does. -/
def Tells (gf : Nat) (a : Int) (p : Int × Int → Bool) : Prop :=
  ∀ (q r : Int) (w : World), 0 ≤ q → q ≤ 100000 → 0 ≤ r → r ≤ 100 → Calls Tryz.prog gf #[.int .i64 a, .agg #[.int .i64 q, .int .i64 r]] w fun e w' => e = .returned (.bool (p (q, r))) ∧ Below w.heap.size w w'

/-- The first of L that is looked for, or the empty cell; and whether there is one. -/
def foundV (L : List (Int × Int)) (p : Int × Int → Bool) : Int × Int := (L.find? p).getD (0, 0)
def foundS (L : List (Int × Int)) (p : Int × Int → Bool) : Bool := (L.find? p).isSome
/-- While none is found: the call's own cells. -/
structure Finding (w : World) (gf : Nat) (a : Int) (s : Bool) (q r : Int) (M : Nat → Prop) (W : World) : Prop where
  look : W.cell? ⟨w.heap.size, 0, none⟩ = some (.func (.func gf) #[.int .i64 a] #[])
  at_ : W.cell? ⟨w.heap.size + 1, 0, none⟩ = some (.int .i64 q)
  room : W.cell? ⟨w.heap.size + 1, 1, none⟩ = some (.int .i64 r)
  is : W.cell? ⟨w.heap.size + 1 + 1, 0, none⟩ = some (.bool s)
  f0 : W.frozen? ⟨w.heap.size + 1, 0, none⟩ = false
  f1 : W.frozen? ⟨w.heap.size + 1, 1, none⟩ = false
  f2 : W.frozen? ⟨w.heap.size + 1 + 1, 0, none⟩ = false
  m0 : ¬ M w.heap.size
  m1 : ¬ M (w.heap.size + 1)
  m2 : ¬ M (w.heap.size + 1 + 1)
  bel : Below w.heap.size w W
theorem Finding.over {w : World} {gf : Nat} {a : Int} {s : Bool} {q r : Int} {M M' : Nat → Prop} {W W' : World} (h : Finding w gf a s q r M W) (hb : Below w.heap.size W W')
    (hs : ∀ k, k < W.heap.size → ¬ M k → W'.heap[k]? = W.heap[k]?) (hm : ∀ k, M' k → M k ∨ (W.heap.size ≤ k ∧ k < W'.heap.size)) : Finding w gf a s q r M' W' := by
  have no : ∀ k, k < W.heap.size → ¬ M k → ¬ M' k := fun k hk hn h => by
    rcases hm k h with h | h
    · exact hn h
    · omega
  have l0 := World.block_lt_of_cell? W _ h.look
  have l1 := World.block_lt_of_cell? W _ h.at_
  have l2 := World.block_lt_of_cell? W _ h.is
  simp only at l0 l1 l2
  exact ⟨(World.cell?_of_block (a := ⟨w.heap.size, 0, none⟩) (hs _ l0 h.m0)).trans h.look, (World.cell?_of_block (a := ⟨w.heap.size + 1, 0, none⟩) (hs _ l1 h.m1)).trans h.at_,
    (World.cell?_of_block (a := ⟨w.heap.size + 1, 1, none⟩) (hs _ l1 h.m1)).trans h.room, (World.cell?_of_block (a := ⟨w.heap.size + 1 + 1, 0, none⟩) (hs _ l2 h.m2)).trans h.is,
    (World.frozen?_of_block (a := ⟨w.heap.size + 1, 0, none⟩) (hs _ l1 h.m1)).trans h.f0, (World.frozen?_of_block (a := ⟨w.heap.size + 1, 1, none⟩) (hs _ l1 h.m1)).trans h.f1,
    (World.frozen?_of_block (a := ⟨w.heap.size + 1 + 1, 0, none⟩) (hs _ l2 h.m2)).trans h.f2, no _ l0 h.m0, no _ l1 h.m1, no _ l2 h.m2, h.bel.trans hb⟩

theorem Finding.stored {w : World} {gf : Nat} {a : Int} {s : Bool} {q r : Int} {M : Nat → Prop} {W : World} (h : Finding w gf a s q r M W) (s' : Bool) (q' r' : Int) :
    Finding w gf a s' q' r' M (((W.setCell ⟨w.heap.size + 1, 0, none⟩ (.int .i64 q')).setCell ⟨w.heap.size + 1, 1, none⟩ (.int .i64 r')).setCell ⟨w.heap.size + 1 + 1, 0, none⟩ (.bool s')) ∧
    ∀ k, k ≠ w.heap.size + 1 → k ≠ w.heap.size + 1 + 1 → (((W.setCell ⟨w.heap.size + 1, 0, none⟩ (.int .i64 q')).setCell ⟨w.heap.size + 1, 1, none⟩ (.int .i64 r')).setCell ⟨w.heap.size + 1 + 1, 0, none⟩ (.bool s')).heap[k]? = W.heap[k]? := by
  have hs : ∀ k, k ≠ w.heap.size + 1 → k ≠ w.heap.size + 1 + 1 → (((W.setCell ⟨w.heap.size + 1, 0, none⟩ (.int .i64 q')).setCell ⟨w.heap.size + 1, 1, none⟩ (.int .i64 r')).setCell ⟨w.heap.size + 1 + 1, 0, none⟩ (.bool s')).heap[k]? = W.heap[k]? :=
    fun k h1 h2 => ((Below.heap_setCell _ _ _ k h2).trans (Below.heap_setCell _ _ _ k h1)).trans (Below.heap_setCell _ _ _ k h1)
  have h0 := h.look
  have h1 := h.at_
  have h2 := h.room
  have h3 := h.is
  refine ⟨⟨(World.cell?_of_block (a := ⟨w.heap.size, 0, none⟩) (hs _ (by simp; try omega) (by simp; try omega))).trans h0, by simp [go_sem, h1], by simp [go_sem, h2], by simp [go_sem, h3], ?_, ?_, ?_, h.m0, h.m1, h.m2, ((h.bel.setCell (by simp; try omega) _).setCell (by simp; try omega) _).setCell (by simp; omega) _⟩, hs⟩
  · simp only [World.frozen?_setCell]; exact h.f0
  · simp only [World.frozen?_setCell]; exact h.f1
  · simp only [World.frozen?_setCell]; exact h.f2
/-- The results, read out of the cells. -/
theorem Finding.left {w : World} {gf : Nat} {a : Int} {s : Bool} {q r : Int} {M : Nat → Prop} {W : World} (h : Finding w gf a s q r M W) {L : List (Int × Int)} {p : Int × Int → Bool} (tmps : Array Value)
    (ht : tmps[4]?.getD undef = .pointer (some ⟨w.heap.size + 1, 0, none⟩)) (ht' : tmps[5]?.getD undef = .pointer (some ⟨w.heap.size + 1 + 1, 0, none⟩)) (hq : (foundV L p).1 = q) (hr : (foundV L p).2 = r) (hs : foundS L p = s) :
    LeavesIn Fence.wide 1 Tryz.prog Tryz.f108 tmps (fun e w' => e = .returned (.tuple #[.agg #[.int .i64 (foundV L p).1, .int .i64 (foundV L p).2], .bool (foundS L p)]) ∧ Below w.heap.size w w') [] .returning W := by
  refine ⟨_, ?_, by rw [hq, hr, hs], h.bel⟩
  have h1 := h.at_
  have h2 := h.room
  have h3 := h.is
  simp [results, Tryz.f108, go_sem, ht, ht', h1, h2, h3]


def NoneYet (w : World) (gf : Nat) (a : Int) (L : List (Int × Int)) (p : Int × Int → Bool) (M : Nat → Prop) (pre : List (Int × Int)) (W : World) : Prop := pre.find? p = none ∧ pre <+: L ∧ Finding w gf a false 0 0 M W
def OneNow (w : World) (gf : Nat) (a : Int) (L : List (Int × Int)) (p : Int × Int → Bool) (c : Code) (M : Nat → Prop) (_ : List (Int × Int)) (W : World) : Prop := c = .ret ∧ ∃ q r, L.find? p = some (q, r) ∧ Finding w gf a true q r M W
theorem find_none_snoc {pre : List (Int × Int)} {p : Int × Int → Bool} {x : Int × Int} (h : pre.find? p = none) (hx : p x = false) : (pre ++ [x]).find? p = none := by simp [List.find?_append, h, hx]
theorem find_now {L pre : List (Int × Int)} {p : Int × Int → Bool} {x : Int × Int} (h : pre.find? p = none) (hx : p x = true) (hp : pre ++ [x] <+: L) : L.find? p = some x := by
  obtain ⟨t, rfl⟩ := hp
  simp [List.find?_append, h, hx]

/-- What all cells of pages that may be meet. -/
def Bounded (L : List (Int × Int)) : Prop := ∀ c ∈ L, 0 ≤ c.1 ∧ c.1 ≤ 100000 ∧ 0 ≤ c.2 ∧ c.2 ≤ 100

set_option maxRecDepth 100000 in
set_option maxHeartbeats 1000000 in
theorem find_any (B : Nat) (A : Option Addr) (n c : Nat) (f : Nat → Int × Int) (gf : Nat) (a : Int) (p : Int × Int → Bool) (w : World) (hn : n ≤ 1000) (hz : Sz w) (hr : PRow w B A n f) (hB : B ≤ w.heap.size) (hL : Bounded (allL f n)) (eg : ∀ args w, (callFunc gf args).run Tryz.prog w = .ok (.enter gf args) w)
    (ht : Tells gf a p) :
    Calls Tryz.prog 108 #[.slice A n c, .func (.func gf) #[.int .i64 a] #[]] w fun e w' =>
      e = .returned (.tuple #[.agg #[.int .i64 (foundV (allL f n) p).1, .int .i64 (foundV (allL f n) p).2], .bool (foundS (allL f n) p)]) ∧ Below w.heap.size w w' := by
  have HT := Lib.hid ht
  have HL := Lib.hid hL
  obtain ⟨w3, hw3⟩ : ∃ w3, w3 = ((w.alloc (.cells #[.func (.func gf) #[.int .i64 a] #[]] 126)).alloc (.cells #[.int .i64 0, .int .i64 0] 123)).alloc (.cells #[.bool false] 4) := ⟨_, rfl⟩
  have hb3 : Below w.heap.size w w3 := by rw [hw3]; exact (((Below.refl _ _).alloc (Nat.le_refl _) _).alloc (by simp) _).alloc (by simp; omega) _
  have hz3 : w3.heap.size = w.heap.size + 1 + 1 + 1 := by rw [hw3]; simp
  have hF : Finding w gf a false 0 0 (fun k => k = w.heap.size + 1 + 1 + 1) (w3.alloc (.cells #[.slice A n c] 23)) := by
    refine ⟨?_, ?_, ?_, ?_, ?_, ?_, ?_, by omega, by omega, by omega, hb3.alloc (by omega) _⟩ <;> (rw [hw3]; simp [go_sem])
  have hG : Gives Tryz.prog 146 #[.pointer (some ⟨w.heap.size + 1 + 1 + 1, 0, none⟩)] encC w.heap.size (fun k => k = w.heap.size + 1 + 1 + 1) (allL f n) (w3.alloc (.cells #[.slice A n c] 23)) :=
    each_gives B w.heap.size A n c _ f _ hn ((hz.over hb3 hz.pos).alloc _) ((hr.over hb3 hB).alloc _ (by omega)) hB hz.pos (by simp; omega) (by rw [← hz3]; simp [go_sem])
  have HF := Lib.hid hF
  have HG := Lib.hid hG
  clear ht hL hF hG hz hr hb3
  refine (callsIn_wide (n := 1)).1 ?_
  refine callsIn_of_wp_marks Tryz.func108 rfl trivial ?_ rfl
  simp only [Tryz.ntmps108, List.size_toArray, List.length_cons, List.length_nil, Nat.reduceAdd, Nat.reduceSub, Array.replicate_succ, Array.replicate_zero, List.push_toArray, List.append_toArray, List.nil_append, List.cons_append]
  gi_wp2_with fail
  rw [← hw3]
  refine ⟨trivial, (callsIn_wide.2 (each_any _ _ _ _)).mono ?_⟩
  rintro e w' ⟨rfl, rfl⟩
  rw [hz3]
  have HZ3 := Lib.hid hz3
  clear hw3 hz3
  gi_wp2
  have hz3 := HZ3.out
  refine range_gives (gf := 146) rfl (enters_of Tryz.func146 (by kernel_rfl) rfl) HG.out (fun _ => rfl) (by simp; omega) (fun k => k = w.heap.size + 1 + 1 + 1) (fun _ h => .inl h) (by rintro k rfl; simp; omega)
    (NoneYet w gf a (allL f n) p) (OneNow w gf a (allL f n) p) (fun M M' pre W W' h hb hs hm => ⟨h.1, h.2.1, h.2.2.over hb hs hm⟩)
    (fun c M M' pre W W' h hb hs hm => by obtain ⟨h1, q, r, h2, h3⟩ := h; exact ⟨h1, q, r, h2, h3.over hb hs hm⟩) ⟨rfl, List.nil_prefix, HF.out⟩ ?round ?done ?stop
  case round =>
    intro l M pre x W hl hM hlt hpre ⟨hno, _, hf⟩
    obtain ⟨q, r⟩ := x
    obtain ⟨bq0, bq1, br0, br1⟩ := HL.out (q, r) (hpre.subset (by simp))
    simp only at bq0 bq1 br0 br1
    have hz := hf.bel.size
    have HFd := Lib.hid hf
    have HP := Lib.hid hpre
    have HN := Lib.hid hno
    clear hf hpre hno
    dsimp only [encC]
    gi_wp2
    refine ⟨⟨(Below.refl _ _).alloc hz _, fun i _ hi => Below.heap_alloc _ _ _ hi⟩, fun o => ?_⟩
    obtain ⟨V, hV⟩ : ∃ V, V = (W.alloc (.cells #[.int .i64 q, .int .i64 r] 123)).putObj l o := ⟨_, rfl⟩
    rw [← hV]
    have hb2 : Below w.heap.size W V := by rw [hV]; exact ((Below.refl _ _).alloc hz _).trans (below_turned _ (by simp at hl; omega))
    have hs2 : ∀ i, i < W.heap.size → i ≠ l → V.heap[i]? = W.heap[i]? := fun i hi hn => by rw [hV]; exact (World.putObj_heap_other hn).trans (Below.heap_alloc _ _ _ hi)
    have hv := HFd.out.over (M' := M) hb2 (fun i hi hn => hs2 i hi (fun e => hn (e ▸ hM))) (fun i hi => .inl hi)
    have e0 : V.cell? ⟨W.heap.size, 0, none⟩ = some (.int .i64 q) := by
      rw [hV, World.cell?_of_block (a := ⟨W.heap.size, 0, none⟩) (World.putObj_heap_other (w := W.alloc _) (k := W.heap.size) (by omega))]
      simp [go_sem]
    have e1 : V.cell? ⟨W.heap.size, 1, none⟩ = some (.int .i64 r) := by
      rw [hV, World.cell?_of_block (a := ⟨W.heap.size, 1, none⟩) (World.putObj_heap_other (w := W.alloc _) (k := W.heap.size) (by omega))]
      simp [go_sem]
    have hWV : W.heap.size < V.heap.size := by have := World.block_lt_of_cell? V _ e0; exact this
    have hlk := hv.look
    have HV := Lib.hid hv
    clear hV hb2 hs2 hv
    gi_wp2_with fail
    refine ⟨trivial, (CallsIn.inRound l (callsIn_wide.2 (HT.out q r V bq0 bq1 br0 br1))).mono ?_⟩
    rintro e w1 ⟨rfl, hb1⟩
    have hv1 := HV.out.over (M' := M) (hb1.mono HV.out.bel.size) (fun i hi _ => hb1.block i hi) (fun i hi => .inl hi)
    have hk1 : Kept w.heap.size M V w1 := ⟨hb1.mono HV.out.bel.size, fun i _ hi => hb1.block i hi⟩
    have x0 : w1.cell? ⟨W.heap.size, 0, none⟩ = some (.int .i64 q) := (hb1.cell (p := ⟨W.heap.size, 0, none⟩) hWV).trans e0
    have x1 : w1.cell? ⟨W.heap.size, 1, none⟩ = some (.int .i64 r) := (hb1.cell (p := ⟨W.heap.size, 1, none⟩) hWV).trans e1
    have HK := Lib.hid hk1
    clear hb1 hk1 e0 e1 hlk
    cases hp : p (q, r)
    · have HQ := Lib.hid hp
      have HV1 := Lib.hid hv1
      clear hp hv1
      gi_wp2
      exact ⟨HK.out, find_none_snoc HN.out HQ.out, HP.out, HV1.out⟩
    · have HQ := Lib.hid (find_now HN.out hp HP.out)
      have a0 := hv1.at_
      have a1 := hv1.room
      have a2 := hv1.is
      have f0 := hv1.f0
      have f1 := hv1.f1
      have f2 := hv1.f2
      have HV1 := Lib.hid hv1
      clear hp hv1
      gi_wp2
      obtain ⟨hv2, hs2⟩ := HV1.out.stored true q r
      refine ⟨HK.out.trans ⟨(((Below.refl _ _).setCell (by simp; try omega) _).setCell (by simp; try omega) _).setCell (by simp; omega) _, fun k hk _ => hs2 k ?_ ?_⟩, rfl, q, r, HQ.out, hv2⟩
      · rintro rfl; exact hv2.m1 hk
      · rintro rfl; exact hv2.m2 hk
  case done =>
    intro D M W hD hDW hM ⟨hno, _, hf⟩ hdef
    have HN := Lib.hid hno
    have a0 := hf.at_
    have a1 := hf.room
    have a2 := hf.is
    have f0 := hf.f0
    have f1 := hf.f1
    have f2 := hf.f2
    have HFd := Lib.hid hf
    clear hno hf
    dsimp only
    gi_wp2
    obtain ⟨hv2, hs2⟩ := HFd.out.stored false 0 0
    refine leave_marks [D] _ (by simp) ?_ (fun W' h1 h2 h3 h4 h5 => ?_)
    · intro E hE
      obtain rfl : E = D := by simpa using hE
      exact (hs2 E (by rintro rfl; exact hv2.m1 hM) (by rintro rfl; exact hv2.m2 hM)).trans hdef
    · refine (hv2.over (M' := M) ⟨h1, h2, h3, by omega, fun k hk => h5 k (by simp at hD ⊢; omega)⟩ (fun k _ hk => h5 k (by simp; rintro rfl; exact hk hM)) (fun _ h => .inl h)).left _ rfl rfl ?_ ?_ ?_ <;> simp [foundV, foundS, HN.out]
  case stop =>
    rintro D _ M pre W hD hDW hM ⟨rfl, q, r, hfd, hf⟩ hdef
    have HFd := Lib.hid hf
    have HQ := Lib.hid hfd
    clear hf hfd
    dsimp only
    gi_wp2
    refine leave_marks [D] W (by simp) (by simpa using hdef) (fun W' h1 h2 h3 h4 h5 => ?_)
    refine (HFd.out.over (M' := M) ⟨h1, h2, h3, by omega, fun k hk => h5 k (by simp at hD ⊢; omega)⟩ (fun k _ hk => h5 k (by simp; rintro rfl; exact hk hM)) (fun _ h => .inl h)).left _ rfl rfl ?_ ?_ ?_ <;> simp [foundV, foundS, HQ.out]
end Go.Proofs.YtccjelpfmkbmiaaGreatDoor.Cl
end
section
namespace Go.Proofs.YtccjelpfmkbmiaaGreatDoor.Cl
open Go.Proofs.YtccjelpfmkbmiaaGreatDoor
set_option maxRecDepth 100000
open Go.RowKit Go.Shelf

theorem pageL_bounds {k num : Nat} {room : Int} (hk : k ≤ 1000) (hn : num ≤ 8) (h0 : 0 ≤ room) (h1 : room ≤ 64) : Bounded (pageL k num room) := by
  intro c hc
  obtain ⟨j, hj, rfl⟩ := List.mem_map.1 hc
  have hj := List.mem_range.1 hj
  have a1 : (0 : Int) ≤ j * room := Int.mul_nonneg (by omega) h0
  have a2 : (j : Int) * room ≤ 8 * 64 := Int.mul_le_mul (by omega) h1 h0 (by omega)
  simp only
  omega
theorem cellsL_bounds {f : Nat → Int × Int} {n : Nat} (hp : ∀ k, k < n → pmB (f k) = true) (hn : n ≤ 1000) : Bounded (cellsL f n) := by
  induction n with
  | zero => intro c hc; simp [cellsL] at hc
  | succ n ih =>
    intro c hc
    rw [cellsL_succ] at hc
    rcases List.mem_append.1 hc with hc | hc
    · exact ih (fun k hk => hp k (by omega)) (by omega) c hc
    · have := num_room (hp n (by omega))
      exact pageL_bounds (by omega) this.1 this.2.1 this.2.2 c hc
theorem may_pm {f : Nat → Int × Int} {n k : Nat} (h : mayB f n = true) (hk : k < n) : pmB (f k) = true := ((okB_iff f k).1 (((mayB_iff f n).1 h).2.2.1 k hk)).1
theorem allL_bounds (f : Nat → Int × Int) (n : Nat) : Bounded (allL f n) := by
  unfold allL
  split
  · next h => exact cellsL_bounds (fun k hk => may_pm h hk) (by have := (mayB_iff f n).1 h; omega)
  · intro c hc; simp at hc
theorem cellsL_length {f : Nat → Int × Int} : ∀ {n : Nat}, (∀ k, k < n → pmB (f k) = true) → (cellsL f n).length ≤ 8 * n
  | 0, _ => by simp [cellsL]
  | n + 1, hp => by
    have := cellsL_length (f := f) (n := n) (fun k hk => hp k (by omega))
    have := (num_room (hp n (by omega))).1
    rw [cellsL_succ, List.length_append, pageL_length]
    omega
theorem allL_length (f : Nat → Int × Int) (n : Nat) : (allL f n).length ≤ 512 := by
  unfold allL
  split
  · next h =>
    have := cellsL_length (f := f) (n := n) (fun k hk => may_pm h hk)
    have := (mayB_iff f n).1 h
    omega
  · simp

/-- Which cell is looked for. -/
def pIn (a : Int) (c : Int × Int) : Bool := decide (c.1 ≤ a) && decide (a < c.1 + c.2)
def pAt (a : Int) (c : Int × Int) : Bool := c.1 == a
def pUp (a : Int) (c : Int × Int) : Bool := decide (a < c.1)

theorem tells_at (a : Int) : Tells 109 a (pAt a) := by
  intro q r w _ _ _ _
  have HE := Lib.hid (show pAt a (q, r) = (q == a) from rfl)
  go_enter Tryz.func109, Tryz.ntmps109
  go_wp2
  go_ret
  exact ⟨rint HE.out.symm, (Below.refl _ _).alloc (Nat.le_refl _) _⟩
theorem tells_up (a : Int) : Tells 139 a (pUp a) := by
  intro q r w _ _ _ _
  have HE := Lib.hid (show pUp a (q, r) = decide (a < q) from rfl)
  go_enter Tryz.func139, Tryz.ntmps139
  go_wp2
  go_ret
  exact ⟨rint HE.out.symm, (Below.refl _ _).alloc (Nat.le_refl _) _⟩

section
variable (B : Nat) (A : Option Addr) (n c : Nat) (f : Nat → Int × Int) (a : Int) (w : World)
theorem room_any (hn : n ≤ 1000) (hz : Sz w) (hr : PRow w B A n f) (hB : B ≤ w.heap.size) :
    Calls Tryz.prog 68 #[.slice A n c, .int .i64 a] w fun e w' => e = .returned (.int .i64 (foundV (allL f n) (pAt a)).2) ∧ Below w.heap.size w w' := by
  have HZ := Lib.hid hz
  have HR := Lib.hid hr
  clear hz hr
  go_enter Tryz.func68, Tryz.ntmps68
  go_wp2_with fail
  refine (find_any B A n c f _ a (pAt a) w hn HZ.out HR.out hB (allL_bounds f n) (enters_of Tryz.func109 (by kernel_rfl) rfl) (tells_at a)).mono ?_
  rintro e w1 ⟨rfl, hb1⟩
  have HB := Lib.hid hb1
  have hz1 := hb1.size
  clear hb1
  go_wp2
  go_ret
  exact ⟨rfl, HB.out.alloc hz1 _⟩
theorem next_any (hn : n ≤ 1000) (hz : Sz w) (hr : PRow w B A n f) (hB : B ≤ w.heap.size) :
    Calls Tryz.prog 116 #[.slice A n c, .int .i64 a] w fun e w' => e = .returned (.tuple #[.int .i64 (foundV (allL f n) (pUp a)).1, .bool (foundS (allL f n) (pUp a))]) ∧ Below w.heap.size w w' := by
  have HZ := Lib.hid hz
  have HR := Lib.hid hr
  clear hz hr
  go_enter Tryz.func116, Tryz.ntmps116
  go_wp2_with fail
  refine (find_any B A n c f _ a (pUp a) w hn HZ.out HR.out hB (allL_bounds f n) (enters_of Tryz.func139 (by kernel_rfl) rfl) (tells_up a)).mono ?_
  rintro e w1 ⟨rfl, hb1⟩
  have HB := Lib.hid hb1
  have hz1 := hb1.size
  clear hb1
  go_wp2
  go_ret2
  exact ⟨rfl, HB.out.alloc hz1 _⟩

/-- Where all cells begin, and those of a page. -/
def allS (f : Nat → Int × Int) (n : Nat) : List Int := (allL f n).map (·.1)
theorem Listed.over {w0 w w' : World} {xs : List Int} {e : Ending} (h : Listed w xs e w') (hb : Below w0.heap.size w0 w) : Listed w0 xs e w' := by
  obtain ⟨a, c, h1, h2, h3, h4, h5⟩ := h
  exact ⟨a, c, h1, h2, h3, h4, hb.trans (h5.mono hb.size)⟩

theorem Listed.out {w w' : World} {xs : List Int} {e : Ending} (h : Listed w xs e w') : ∃ a m c, e = .returned (.slice a m c) ∧ Hid (Listed w xs (.returned (.slice a m c)) w') := by
  obtain ⟨a, c, rfl, r⟩ := h
  exact ⟨a, xs.length, c, rfl, Lib.hid ⟨a, c, rfl, r⟩⟩

theorem all_any (hn : n ≤ 1000) (hz : Sz w) (hr : PRow w B A n f) (hB : B ≤ w.heap.size) :
    Calls Tryz.prog 97 #[.slice A n c] w (Listed w (allS f n)) := by
  have HZ := Lib.hid (hz.alloc (.cells #[.slice A n c] 23))
  have HR := Lib.hid (hr.alloc (.cells #[.slice A n c] 23) hB)
  have hp := hz.pos
  clear hz hr
  go_enter Tryz.func97, Tryz.ntmps97
  go_wp2_with fail
  refine (each_any _ _ _ _).mono ?_
  rintro e w1 ⟨rfl, rfl⟩
  go_wp2_with fail
  refine (starts_any _ _ (fun k => k = w.heap.size) (allL f n) _ (by have := allL_length f n; omega) (by rintro k rfl; simp) (enters_of Tryz.func146 (by kernel_rfl) rfl)
    (each_gives B _ A n c w.heap.size f _ hn HZ.out HR.out (by simp; omega) (by simp) (Nat.le_refl _) (by simp [go_sem]))).mono ?_
  rintro e w1 hl
  obtain ⟨a, m, c, rfl, HL⟩ := (hl.over ((Below.refl w.heap.size w).alloc (Nat.le_refl _) _)).out
  clear hl
  go_wp2
  go_ret
  exact HL.out
theorem ListedN.over {w0 w w' : World} {xs : List Int} {e : Ending} (h : ListedN w xs e w') (hb : Below w0.heap.size w0 w) : ListedN w0 xs e w' := by
  obtain ⟨a, c, h1, h2, h3, h4, h5, h6⟩ := h
  exact ⟨a, c, h1, h2, h3, h4, hb.trans (h5.mono hb.size), fun x hx => Nat.le_trans hb.size (h6 x hx)⟩
theorem ListedN.out {w w' : World} {xs : List Int} {e : Ending} (h : ListedN w xs e w') : ∃ a m c, e = .returned (.slice a m c) ∧ Hid (ListedN w xs (.returned (.slice a m c)) w') := by
  obtain ⟨a, c, rfl, r⟩ := h
  exact ⟨a, xs.length, c, rfl, Lib.hid ⟨a, c, rfl, r⟩⟩
/-- cells.All: in memory of the call's own. -/
theorem all_new (hn : n ≤ 1000) (hz : Sz w) (hr : PRow w B A n f) (hB : B ≤ w.heap.size) :
    Calls Tryz.prog 97 #[.slice A n c] w (ListedN w (allS f n)) := by
  have HZ := Lib.hid (hz.alloc (.cells #[.slice A n c] 23))
  have HR := Lib.hid (hr.alloc (.cells #[.slice A n c] 23) hB)
  have hp := hz.pos
  clear hz hr
  go_enter Tryz.func97, Tryz.ntmps97
  go_wp2_with fail
  refine (each_any _ _ _ _).mono ?_
  rintro e w1 ⟨rfl, rfl⟩
  go_wp2_with fail
  refine (starts_new _ _ (fun k => k = w.heap.size) (allL f n) _ (by have := allL_length f n; omega) (by rintro k rfl; simp) (enters_of Tryz.func146 (by kernel_rfl) rfl)
    (each_gives B _ A n c w.heap.size f _ hn HZ.out HR.out (by simp; omega) (by simp) (Nat.le_refl _) (by simp [go_sem]))).mono ?_
  rintro e w1 hl
  obtain ⟨a, m, c, rfl, HL⟩ := (hl.over ((Below.refl w.heap.size w).alloc (Nat.le_refl _) _)).out
  clear hl
  go_wp2
  go_ret
  exact HL.out
end
end Go.Proofs.YtccjelpfmkbmiaaGreatDoor.Cl
end
section
namespace Go.Proofs.YtccjelpfmkbmiaaGreatDoor.Cl
open Go.Proofs.YtccjelpfmkbmiaaGreatDoor
set_option maxRecDepth 100000

/-- Each cell's room ends ahead of the next one's first word; each has two words at least; the first words are addresses. -/
def Apart (L : List (Int × Int)) : Prop := L.Pairwise (fun c d => c.1 + c.2 ≤ d.1) ∧ ∀ c ∈ L, 16 ≤ c.1 ∧ 2 ≤ c.2
theorem Apart.tail {c : Int × Int} {L : List (Int × Int)} (h : Apart (c :: L)) : Apart L := ⟨(List.pairwise_cons.1 h.1).2, fun d hd => h.2 d (List.mem_cons_of_mem _ hd)⟩
theorem Apart.head {c d : Int × Int} {L : List (Int × Int)} (h : Apart (c :: L)) (hd : d ∈ L) : c.1 + c.2 ≤ d.1 := (List.pairwise_cons.1 h.1).1 d hd

theorem pIn_iff {a : Int} {c : Int × Int} : pIn a c = true ↔ c.1 ≤ a ∧ a < c.1 + c.2 := by simp [pIn]
theorem pAt_iff {a : Int} {c : Int × Int} : pAt a c = true ↔ c.1 = a := by simp [pAt]
/-- Just one cell has a word. -/
theorem Apart.one : ∀ {L : List (Int × Int)}, Apart L → ∀ {x : Int} {c d : Int × Int}, c ∈ L → d ∈ L → pIn x c = true → pIn x d = true → c = d
  | [], _, _, _, _, hc, _, _, _ => by simp at hc
  | h :: t, ha, x, c, d, hc, hd, pc, pd => by
    rw [pIn_iff] at pc pd
    rcases List.mem_cons.1 hc with rfl | hc' <;> rcases List.mem_cons.1 hd with rfl | hd'
    · rfl
    · have := ha.head hd'
      omega
    · have := ha.head hc'
      omega
    · exact Apart.one ha.tail hc' hd' (pIn_iff.2 pc) (pIn_iff.2 pd)
theorem Apart.in_at {L : List (Int × Int)} (h : Apart L) {x : Int} {c : Int × Int} (hc : c ∈ L) (hp : pAt x c = true) : pIn x c = true := by
  have := h.2 c hc
  rw [pAt_iff] at hp
  rw [pIn_iff]
  omega
theorem Apart.find_at {L : List (Int × Int)} (h : Apart L) {x : Int} {c : Int × Int} (hc : c ∈ L) (hp : c.1 = x) : L.find? (pAt x) = some c := by
  have hp' := pAt_iff.2 hp
  cases e : L.find? (pAt x) with
  | none => exact absurd hp' (List.find?_eq_none.1 e c hc)
  | some d => rw [h.one (List.mem_of_find?_eq_some e) hc (h.in_at (List.mem_of_find?_eq_some e) (List.find?_some e)) (h.in_at hc hp')]
/-- Places rise. -/
theorem Apart.rise {L : List (Int × Int)} (h : Apart L) {i j : Nat} {c d : Int × Int} (hij : i < j) (hc : L[i]? = some c) (hd : L[j]? = some d) : c.1 + c.2 ≤ d.1 := by
  obtain ⟨hi, rfl⟩ := List.getElem?_eq_some_iff.1 hc
  obtain ⟨hj, rfl⟩ := List.getElem?_eq_some_iff.1 hd
  exact List.pairwise_iff_getElem.1 h.1 i j hi hj hij

theorem mem_pageL {k num : Nat} {room : Int} {c : Int × Int} : c ∈ pageL k num room ↔ ∃ j : Nat, j < num ∧ c = (16 + k * 16 + j * room, room) := by
  unfold pageL
  rw [List.mem_map]
  constructor
  · rintro ⟨j, hj, rfl⟩
    exact ⟨j, List.mem_range.1 hj, rfl⟩
  · rintro ⟨j, hj, rfl⟩
    exact ⟨j, List.mem_range.2 hj, rfl⟩
theorem mul_step {i j : Nat} {room : Int} (h : i < j) (h0 : 0 ≤ room) : (i : Int) * room + room ≤ j * room := by
  have e : (i : Int) * room + room = ((i + 1 : Nat) : Int) * room := by rw [Int.natCast_add, Int.add_mul]; simp
  rw [e]
  exact Int.mul_le_mul_of_nonneg_right (by omega) h0
theorem pageL_apart {k num : Nat} {room : Int} (h2 : 2 ≤ room ∨ num = 0) : Apart (pageL k num room) := by
  rcases h2 with h2 | rfl
  · refine ⟨?_, fun c hc => ?_⟩
    · unfold pageL
      rw [List.pairwise_map]
      refine List.Pairwise.imp ?_ (List.pairwise_lt_range (n := num))
      intro i j hij
      have := mul_step hij (show 0 ≤ room by omega)
      simp only
      omega
    · obtain ⟨j, hj, rfl⟩ := mem_pageL.1 hc
      have : (0 : Int) ≤ j * room := Int.mul_nonneg (by omega) (by omega)
      simp only
      omega
  · exact ⟨by simp [pageL], by simp [pageL]⟩
theorem num_some {p : Int × Int} (h : pmB p = true) : 2 ≤ roomOf p ∨ numOf p = 0 := by
  rcases pm_cases h with rfl | rfl | rfl | rfl | rfl | rfl | rfl | rfl | rfl <;> decide
/-- How many words the cells have that begin on a page. -/
def wordsIn (p : Int × Int) : Int := if p.1 = 1 then 16 else if p.1 = 2 then 16 * p.2 else 0
theorem num_words {p : Int × Int} (h : pmB p = true) : (numOf p : Int) * roomOf p = wordsIn p := by
  rcases pm_cases h with rfl | rfl | rfl | rfl | rfl | rfl | rfl | rfl | rfl <;> decide
theorem num_kind {p : Int × Int} (h : pmB p = true) : 0 < numOf p ↔ p.1 = 1 ∨ p.1 = 2 := by
  rcases pm_cases h with rfl | rfl | rfl | rfl | rfl | rfl | rfl | rfl | rfl <;> decide

/-- Words told for: those of the first k pages, and what a large object ahead still asks for. -/
theorem st_words {f : Nat → Int × Int} {k : Nat} (h : okB f k = true) (hs : 0 ≤ st f k) (hk : (f k).1 ≠ 0) : wordsIn (f k) + 16 * st f k = 16 + 16 * st f (k + 1) := by
  obtain ⟨hp, h3⟩ := (okB_iff f k).1 h
  have hp := (pmB_iff _).1 hp
  unfold wordsIn
  by_cases e2 : (f k).1 = 2
  · rw [st_large e2]
    have : ¬ 0 < st f k := fun hh => by have := h3.2 hh; omega
    rw [if_neg (by omega), if_pos e2]
    omega
  · by_cases e3 : (f k).1 = 3
    · rw [st_rest e3 (h3.1 e3)]
      rw [if_neg (by omega), if_neg (by omega)]
      omega
    · have hns : ¬ 0 < st f k := fun hh => e3 (h3.2 hh)
      rw [st_same e2 hns, if_pos (by omega)]
theorem st_free {f : Nat → Int × Int} {k : Nat} (h : okB f k = true) (hs : 0 ≤ st f k) (hk : (f k).1 = 0) : st f k = 0 ∧ st f (k + 1) = 0 := by
  obtain ⟨hp, h3⟩ := (okB_iff f k).1 h
  have hns : ¬ 0 < st f k := fun hh => by have := h3.2 hh; omega
  have h0 : st f k = 0 := by omega
  exact ⟨h0, by rw [st_same (by omega) hns, h0]⟩
theorem st_some {f : Nat → Int × Int} {k : Nat} (h : okB f k = true) (hs : 0 ≤ st f k) (hk : 0 < numOf (f k)) : st f k = 0 := by
  obtain ⟨hp, h3⟩ := (okB_iff f k).1 h
  have := (num_kind hp).1 hk
  by_cases e : 0 < st f k
  · have := h3.2 e
    omega
  · omega

/-- The cells of the first k pages end where they may. -/
theorem cellsL_ends {f : Nat → Int × Int} {n : Nat} (hf : ∀ k, k < n → okB f k = true) : ∀ k, k ≤ n → Apart (cellsL f k) ∧ ∀ c ∈ cellsL f k, c.1 + c.2 ≤ 16 + 16 * k + 16 * st f k
  | 0, _ => ⟨⟨List.Pairwise.nil, by simp [cellsL]⟩, by simp [cellsL]⟩
  | k + 1, hk => by
    obtain ⟨ha, he⟩ := cellsL_ends hf k (by omega)
    have ho := hf k (by omega)
    have hp := ((okB_iff f k).1 ho).1
    have hs := (st_nonneg hf k (by omega)).1
    have hs1 := (st_nonneg hf (k + 1) hk).1
    have hpa := pageL_apart (k := k) (num_some hp)
    rw [cellsL_succ]
    refine ⟨⟨List.pairwise_append.2 ⟨ha.1, hpa.1, ?_⟩, fun c hc => ?_⟩, fun c hc => ?_⟩
    · intro c hc d hd
      obtain ⟨j, hj, rfl⟩ := mem_pageL.1 hd
      have h0 := st_some ho hs (by omega)
      have := he c hc
      have : (0 : Int) ≤ j * roomOf (f k) := Int.mul_nonneg (by omega) (num_room hp).2.1
      simp only
      omega
    · rcases List.mem_append.1 hc with hc | hc
      · exact ha.2 c hc
      · exact hpa.2 c hc
    · rcases List.mem_append.1 hc with hc | hc
      · have := he c hc
        by_cases e : (f k).1 = 0
        · have := st_free ho hs e
          omega
        · have := st_words ho hs e
          have : 0 ≤ wordsIn (f k) := by rw [← num_words hp]; exact Int.mul_nonneg (by omega) (num_room hp).2.1
          omega
      · obtain ⟨j, hj, rfl⟩ := mem_pageL.1 hc
        have h0 := st_some ho hs (by omega)
        have hk := (num_kind hp).1 (by omega)
        have := st_words ho hs (by omega)
        have := num_words hp
        have := mul_step hj (num_room hp).2.1
        simp only
        omega
theorem allL_apart (f : Nat → Int × Int) (n : Nat) : Apart (allL f n) := by
  unfold allL
  split
  · next h => exact (cellsL_ends ((mayB_iff f n).1 h).2.2.1 n (Nat.le_refl _)).1
  · exact ⟨List.Pairwise.nil, by simp⟩
theorem allL_may {f : Nat → Int × Int} {n : Nat} (h : mayB f n = true) : allL f n = cellsL f n := if_pos h
theorem allL_no {f : Nat → Int × Int} {n : Nat} (h : mayB f n = false) : allL f n = [] := if_neg (by rw [h]; decide)
theorem allL_end {f : Nat → Int × Int} {n : Nat} {c : Int × Int} (hc : c ∈ allL f n) : mayB f n = true ∧ c.1 + c.2 ≤ 16 + 16 * n := by
  cases h : mayB f n
  · rw [allL_no h] at hc
    simp at hc
  · rw [allL_may h] at hc
    obtain ⟨_, _, h2, h3⟩ := (mayB_iff f n).1 h
    have := (cellsL_ends h2 n (Nat.le_refl _)).2 c hc
    exact ⟨rfl, by omega⟩
theorem mem_cellsL {f : Nat → Int × Int} {c : Int × Int} : ∀ {n : Nat}, c ∈ cellsL f n → ∃ k j : Nat, k < n ∧ j < numOf (f k) ∧ c = (16 + k * 16 + j * roomOf (f k), roomOf (f k))
  | 0, h => by simp [cellsL] at h
  | n + 1, h => by
    rw [cellsL_succ] at h
    rcases List.mem_append.1 h with h | h
    · obtain ⟨k, j, h1, h2, h3⟩ := mem_cellsL h
      exact ⟨k, j, by omega, h2, h3⟩
    · obtain ⟨j, h1, h2⟩ := mem_pageL.1 h
      exact ⟨n, j, by omega, h1, h2⟩
/-- Cell j of page k, at its place. -/
theorem allL_get {f : Nat → Int × Int} {n k j : Nat} (h : mayB f n = true) (hk : k < n) (hj : j < numOf (f k)) : (allL f n)[(cellsL f k).length + j]? = some (16 + k * 16 + j * roomOf (f k), roomOf (f k)) := by
  rw [allL_may h]
  obtain ⟨t, ht⟩ := cellsL_prefix f (j := k + 1) (k := n) hk
  rw [← ht, cellsL_succ, List.append_assoc, List.getElem?_append_right (by omega), Nat.add_sub_cancel_left, List.getElem?_append_left (by rw [pageL_length]; exact hj)]
  exact pageL_get k _ _ j hj
end Go.Proofs.YtccjelpfmkbmiaaGreatDoor.Cl
end
section
namespace Go.Proofs.YtccjelpfmkbmiaaGreatDoor.Cl
open Go.Proofs.YtccjelpfmkbmiaaGreatDoor
set_option maxRecDepth 100000
open Go.RowKit

/-- The value is a slice of the walk's own, from base on, that holds these numbers. -/
structure Lst (base : Nat) (W : World) (v : Value) (xs : List Int) : Prop where
  own : W.ownsRow base 3 1 v xs.length (xs.map (Value.int .i64))
theorem Lst.nil (base : Nat) (W : World) : Lst base W (.slice none 0 0) [] := ⟨World.ownsRow_nil _ _ _ _⟩
theorem Lst.over {base : Nat} {W W' : World} {v : Value} {xs : List Int} (h : Lst base W v xs) (hb : Below W.heap.size W W') : Lst base W' v xs := ⟨World.ownsRow.same h.own fun g _ hl => hb.block g hl⟩
theorem Lst.below {base B : Nat} {W W' : World} {v : Value} {xs : List Int} (h : Lst base W v xs) (hl : ∀ g, v.ownBlock = some g → g < B) (hb : Below B W W') : Lst base W' v xs := ⟨World.ownsRow.same h.own fun g hg _ => hb.block g (hl g hg)⟩
theorem Lst.row {base : Nat} {W : World} {v : Value} {xs : List Int} (h : Lst base W v xs) : ∃ a c, v = .slice a xs.length c ∧ Row W W.heap.size a xs.length xs ∧ xs.length ≤ c ∧ c ≤ maxLen := owns_row h.own

theorem src_none {w : World} (A : Option Addr) (c : Nat) : Src Tryz.prog 1 22 (.slice A 0 c) 0 [] w := by
  cases A with
  | none => exact Src.ofNil w Tryz.underlying22 c
  | some a => exact Src.ofSlice w Tryz.underlying22 a 0 c [] rfl (by simp) (by simp)
/-- 'append(v, s...)', of a list of one's own, and any slice of numbers. -/
theorem run_cat {w : World} {base B : Nat} {v : Value} {xs ys : List Int} {A : Option Addr} {c : Nat} (ty : TypeId) (h : Lst base w v xs) (hr : Row w B A ys.length ys) (hb : base ≤ w.heap.size) (hlen : xs.length + ys.length ≤ 100000) :
    ∃ v' w', (Builtin.append_ #[22, 22] ty #[v, .slice A ys.length c]).run Tryz.prog w = .ok v' w' ∧ Lst base w' v' (xs ++ ys) ∧ Below base w w' := by
  obtain ⟨i0, hi, hz0, hz1, hz2⟩ := info_parts info_int1
  by_cases hy : ys = []
  · subst hy
    obtain ⟨a, c', rfl, _, hle, _⟩ := h.row
    refine ⟨_, w, run_append_nothing w 22 22 ty 3 i0 Tryz.underlying22 hi a xs.length c' hle _ (by rw [hz1]; exact src_none A c), ?_, Below.refl _ _⟩
    rw [List.append_nil]
    exact h
  · have hpos : 0 < ys.length := by
      cases ys with
      | nil => exact absurd rfl hy
      | cons _ _ => simp
    obtain ⟨b, off, rfl, _, hc⟩ := hr.2 hpos
    obtain ⟨v', w', hrun, r1, r2, _⟩ := run_append_own (P := Tryz.prog) w base 22 ty 3 i0 (.int .i64 0) 1 8 Tryz.underlying22 hi hz0 hz1 hz2 rfl (by decide) v xs.length (xs.map (Value.int .i64)) h.own ⟨b, off, none⟩ ys.length c (ys.map (Value.int .i64)) (by simp) (by
      intro j u hj
      have hjn : j < ys.length := by
        have := (List.getElem?_eq_some_iff.1 hj).1
        simpa using this
      rw [Addr.add_lit, hc j hjn]
      have e : (ys.map (Value.int .i64))[j]? = some (Value.int .i64 (ys.getD j 0)) := by simp [List.getD, List.getElem?_eq_getElem hjn]
      rw [e] at hj
      exact hj) (by
      intro u hu
      obtain ⟨x, _, rfl⟩ := List.mem_map.1 hu
      rfl) (by unfold maxLen; omega) (by omega) hb
    refine ⟨v', w', hrun, ⟨?_⟩, (Below.refl base w).grown r2 hb (fun k hk => (h.own.lt k hk).1)⟩
    rw [List.length_append, List.map_append]
    exact r1

theorem list_cat {w : World} {ops : Array Oper} {rest : List Oper} {o : Oper} {a : Act} {Q : Exit → Act → World → Prop} (hgd : o.guard = none) (s x : Operand)
    (ho : o.op = .call { callee := .builtin .append, args := #[s, x], argTypes := #[22, 22] }) {v : Value} (hs : a.eval s = v) {base B : Nat} {xs ys : List Int} {A : Option Addr} {n c : Nat} (hx : a.eval x = .slice A n c) (hn : n = ys.length)
    (h : Lst base w v xs) (hr : Row w B A ys.length ys) (hb : base ≤ w.heap.size) (hlen : xs.length + ys.length ≤ 100000)
    (hK : ∀ v' w', Lst base w' v' (xs ++ ys) → Below base w w' → wpList Tryz.prog ops Q rest (a.put o.dst v') w') : wpList Tryz.prog ops Q (o :: rest) a w :=
  wpList_plain hgd fun _ hK' => by
    subst hn
    obtain ⟨v', w', hrun, h1, h2⟩ := run_cat (c := c) o.type h hr hb hlen
    unfold Oper.wp execOp
    simp only [ho, resolve, invoke, builtin, Sem.run_bind, Sem.run_pure, Result.andThen_ok, List.map_toArray, List.map_cons, List.map_nil, hs, hx, hrun]
    exact hK' _ _ (hK v' w' h1 h2)
theorem row_lit1 (w : World) (a : Int) : Row (w.alloc (.cells #[.int .i64 a] 3)) (w.heap.size + 1) (some ⟨w.heap.size, 0, none⟩) 1 [a] := by
  refine ⟨rfl, fun _ => ⟨_, _, rfl, by omega, fun i hi => ?_⟩⟩
  match i, hi with
  | 0, _ => simp [go_sem]
end Go.Proofs.YtccjelpfmkbmiaaGreatDoor.Cl
end
section
namespace Go.Proofs.YtccjelpfmkbmiaaGreatDoor.Cl
open Go.Proofs.YtccjelpfmkbmiaaGreatDoor
set_option maxRecDepth 100000

/-- How many words the cell has that begins at word r, on a page that is p. -/
def pg (p : Int × Int) (r : Int) : Int := if p.1 = 2 ∧ r % 16 = 0 then 16 * p.2 else if p.1 = 1 ∧ r % wordsOf p.2 = 0 then wordsOf p.2 else 0
def bg (f : Nat → Int × Int) (n : Nat) (a : Int) : Int := if mayB f n = true ∧ 16 ≤ a ∧ a < 16 + 16 * (n : Int) then pg (f (a / 16 - 1).toNat) a else 0
theorem bg_no {f : Nat → Int × Int} {n : Nat} {a : Int} (h : ¬ (mayB f n = true ∧ 16 ≤ a ∧ a < 16 + 16 * (n : Int))) : bg f n a = 0 := if_neg h
theorem bg_in {f : Nat → Int × Int} {n k : Nat} {a : Int} (h : mayB f n = true) (h0 : 16 ≤ a) (h1 : a < 16 + 16 * (n : Int)) (hk : a / 16 - 1 = k) : bg f n a = pg (f k) a := by
  unfold bg
  rw [if_pos ⟨h, h0, h1⟩, hk, Int.toNat_natCast]
theorem pg_shift {p : Int × Int} (h : pmB p = true) (k : Nat) (r : Int) : pg p (16 + k * 16 + r) = pg p r := by
  have e16 : (16 + (k : Int) * 16 + r) % 16 = r % 16 := by omega
  have e8 : (16 + (k : Int) * 16 + r) % 8 = r % 8 := by omega
  have e4 : (16 + (k : Int) * 16 + r) % 4 = r % 4 := by omega
  have e2 : (16 + (k : Int) * 16 + r) % 2 = r % 2 := by omega
  rcases pm_cases h with rfl | rfl | rfl | rfl | rfl | rfl | rfl | rfl | rfl <;> simp [pg, wordsOf, e16, e8, e4, e2]
theorem pg_cell {p : Int × Int} (h : pmB p = true) {j : Nat} (hj : j < numOf p) : pg p (j * roomOf p) = roomOf p := by
  have key : ∀ q : Int × Int, (∀ i, i < numOf q → pg q ((i : Nat) * roomOf q) = roomOf q) → p = q → pg p (j * roomOf p) = roomOf p := by
    rintro q hq rfl
    exact hq j hj
  rcases pm_cases h with e | e | e | e | e | e | e | e | e
  all_goals exact key _ (by decide) e
theorem pg_zero {p : Int × Int} (h : pmB p = true) {r : Nat} (hr : r < 16) : pg p r = 0 ∨ ∃ j, j < numOf p ∧ (r : Int) = (j : Nat) * roomOf p := by
  have key : ∀ q : Int × Int, (∀ r, r < 16 → pg q ((r : Nat) : Int) = 0 ∨ ∃ j, j < numOf q ∧ ((r : Nat) : Int) = (j : Nat) * roomOf q) → p = q → pg p r = 0 ∨ ∃ j, j < numOf p ∧ (r : Int) = (j : Nat) * roomOf p := by
    rintro q hq rfl
    exact hq r hr
  rcases pm_cases h with e | e | e | e | e | e | e | e | e
  all_goals exact key _ (by decide) e
theorem step_on {p : Int × Int} (h : pmB p = true) {j : Nat} (hj : j < numOf p) : (j : Int) * roomOf p < 16 := by
  rcases pm_cases h with rfl | rfl | rfl | rfl | rfl | rfl | rfl | rfl | rfl <;> simp [numOf, roomOf, wordsOf] at hj ⊢ <;> omega
/-- A cell lies on the page on which it begins. -/
theorem cell_page {f : Nat → Int × Int} {n : Nat} {c : Int × Int} (h : c ∈ allL f n) : mayB f n = true ∧ ∃ k j : Nat, k < n ∧ j < numOf (f k) ∧ pmB (f k) = true ∧ c = (16 + k * 16 + j * roomOf (f k), roomOf (f k)) ∧ 0 ≤ (j : Int) * roomOf (f k) ∧ (j : Int) * roomOf (f k) < 16 := by
  have hm := (allL_end h).1
  rw [allL_may hm] at h
  obtain ⟨k, j, hk, hj, hc⟩ := mem_cellsL h
  have hp := may_pm hm hk
  exact ⟨hm, k, j, hk, hj, hp, hc, Int.mul_nonneg (by omega) (num_room hp).2.1, step_on hp hj⟩
/-- Begins is Room. -/
theorem bg_room (f : Nat → Int × Int) (n : Nat) (a : Int) : (foundV (allL f n) (pAt a)).2 = bg f n a := by
  by_cases hex : ∃ c, c ∈ allL f n ∧ c.1 = a
  · obtain ⟨c, hc, rfl⟩ := hex
    have hf := (allL_apart f n).find_at hc rfl
    obtain ⟨hm, k, j, hk, hj, hp, rfl, h0, h1⟩ := cell_page hc
    rw [show (foundV (allL f n) (pAt (16 + (k : Int) * 16 + j * roomOf (f k), roomOf (f k)).1)).2 = roomOf (f k) by simp only [foundV, hf, Option.getD_some]]
    rw [bg_in (k := k) hm (by simp only; omega) (by simp only; omega) (by simp only; omega), pg_shift hp, pg_cell hp hj]
  · have hf : (allL f n).find? (pAt a) = none := by
      rw [List.find?_eq_none]
      intro c hc hp
      exact hex ⟨c, hc, pAt_iff.1 hp⟩
    rw [show (foundV (allL f n) (pAt a)).2 = 0 by simp [foundV, hf]]
    by_cases h : mayB f n = true ∧ 16 ≤ a ∧ a < 16 + 16 * (n : Int)
    · obtain ⟨hm, h0, h1⟩ := h
      obtain ⟨k, hk⟩ : ∃ k : Nat, a / 16 - 1 = k := ⟨(a / 16 - 1).toNat, by omega⟩
      obtain ⟨r, hr⟩ : ∃ r : Nat, a = 16 + k * 16 + r := ⟨(a - 16 - k * 16).toNat, by omega⟩
      have hp := may_pm hm (show k < n by omega)
      rw [bg_in hm h0 h1 hk, hr, pg_shift hp]
      rcases pg_zero hp (show r < 16 by omega) with h | ⟨j, hj, e⟩
      · exact h.symm
      · exfalso
        refine hex ⟨_, List.mem_of_getElem? (allL_get hm (show k < n by omega) hj), ?_⟩
        simp only
        omega
    · exact (bg_no h).symm
theorem bg_nonneg (f : Nat → Int × Int) (n : Nat) (a : Int) : 0 ≤ bg f n a ∧ bg f n a ≤ 100 := by
  rw [← bg_room]
  unfold foundV
  cases h : (allL f n).find? (pAt a) with
  | none => simp
  | some c =>
    have := allL_bounds f n c (List.mem_of_find?_eq_some h)
    simp only [Option.getD_some]
    omega
/-- Where Begins tells room, a cell begins; nowhere else. -/
theorem bg_some {f : Nat → Int × Int} {n : Nat} {a : Int} (h : 0 < bg f n a) : ∃ c, c ∈ allL f n ∧ c.1 = a := by
  rw [← bg_room] at h
  unfold foundV at h
  cases hf : (allL f n).find? (pAt a) with
  | none => rw [hf] at h; simp at h
  | some c => exact ⟨c, List.mem_of_find?_eq_some hf, pAt_iff.1 (List.find?_some hf)⟩
theorem bg_cell {f : Nat → Int × Int} {n : Nat} {c : Int × Int} (h : c ∈ allL f n) : bg f n c.1 = c.2 := by
  rw [← bg_room]
  unfold foundV
  rw [(allL_apart f n).find_at h rfl]
  rfl

end Go.Proofs.YtccjelpfmkbmiaaGreatDoor.Cl
end
section
namespace Go.Proofs.YtccjelpfmkbmiaaGreatDoor.Cl
open Go.Proofs.YtccjelpfmkbmiaaGreatDoor
set_option maxRecDepth 100000
open Go.RowKit

section
variable (B : Nat) (A : Option Addr) (n c : Nat) (f : Nat → Int × Int) (a : Int) (w : World)

theorem rbegins_out (hn : n ≤ 1000) (hr : PRow w B A n f) (hB : B ≤ w.heap.size) (h : ¬ (mayB f n = true ∧ 16 ≤ a ∧ a < 16 + 16 * (n : Int))) :
    Calls Tryz.prog 80 #[.slice A n c, .int .i64 a] w fun e w' => e = .returned (.int .i64 0) ∧ Below w.heap.size w w' := by
  have HR := Lib.hid hr
  clear hr
  cases hM : mayB f n
  · have HM := Lib.hid hM
    clear hM h
    go_enter Tryz.func80, Tryz.ntmps80
    go_wp2_with fail
    refine (rmay_no B _ _ _ _ _ HM.out hn HR.out hB).mono ?_
    rintro e w1 ⟨rfl, hb1⟩
    have HB := Lib.hid hb1
    clear hb1
    go_wp2
    go_ret
    exact ⟨rfl, HB.out⟩
  · have HM := Lib.hid hM
    by_cases h0 : a < 16
    · have d0 : decide (a < 16) = true := by simpa using h0
      clear hM h
      go_enter Tryz.func80, Tryz.ntmps80
      go_wp2_with fail
      refine (rmay_yes B _ _ _ _ _ HM.out HR.out hB).mono ?_
      rintro e w1 ⟨rfl, hb1⟩
      have HB := Lib.hid hb1
      clear hb1
      go_wp2
      go_ret
      exact ⟨rfl, HB.out⟩
    · have h1 : 16 + 16 * (n : Int) ≤ a := by
        by_cases h1 : 16 + 16 * (n : Int) ≤ a
        · exact h1
        · exact absurd ⟨hM, by omega, by omega⟩ h
      have d0 : decide (a < 16) = false := by simpa using h0
      have d1 : decide (16 + 16 * (n : Int) ≤ a) = true := by simpa using h1
      clear hM h
      go_enter Tryz.func80, Tryz.ntmps80
      go_wp2_with fail
      refine (rmay_yes B _ _ _ _ _ HM.out HR.out hB).mono ?_
      rintro e w1 ⟨rfl, hb1⟩
      have HB := Lib.hid hb1
      clear hb1
      go_wp2
      go_ret
      exact ⟨rfl, HB.out⟩

/-- What the page tells of the word. -/
theorem pg_kind {p : Int × Int} (h : pmB p = true) (r : Int) : (p.1 ≠ 1 ∧ p.1 ≠ 2 ∧ pg p r = 0) ∨ (p.1 = 2 ∧ 1 ≤ p.2 ∧ p.2 ≤ 4 ∧ ((r % 16 = 0 ∧ pg p r = 16 * p.2) ∨ (r % 16 ≠ 0 ∧ pg p r = 0))) ∨
    (p.1 = 1 ∧ (wordsOf p.2 = 2 ∨ wordsOf p.2 = 4 ∨ wordsOf p.2 = 8) ∧ ((r % wordsOf p.2 = 0 ∧ pg p r = wordsOf p.2) ∨ (r % wordsOf p.2 ≠ 0 ∧ pg p r = 0))) := by
  rcases pm_cases h with rfl | rfl | rfl | rfl | rfl | rfl | rfl | rfl | rfl <;> simp [pg, wordsOf] <;> omega

theorem rwords_is {cl x : Int} (h : wordsOf cl = x) (w : World) : Calls Tryz.prog 124 #[.int .i64 cl] w fun e w' => e = .returned (.int .i64 x) ∧ w = w' := by
  rw [← h]
  exact rwords_of cl w

set_option maxHeartbeats 1000000 in
theorem rbegins_in (k : Nat) (hn : n ≤ 1000) (hr : PRow w B A n f) (hB : B ≤ w.heap.size) (hM : mayB f n = true) (h0 : 16 ≤ a) (h1 : a < 16 + 16 * (n : Int)) (hk : a / 16 - 1 = k) :
    Calls Tryz.prog 80 #[.slice A n c, .int .i64 a] w fun e w' => e = .returned (.int .i64 (pg (f k) a)) ∧ Below w.heap.size w w' := by
  have HR := Lib.hid hr
  have HM := Lib.hid hM
  have hkn : k < n := by omega
  have hkind := pg_kind (may_pm hM hkn) a
  have d0 : decide (a < 16) = false := by simp; omega
  have d1 : decide (16 + 16 * (n : Int) ≤ a) = false := by simp; omega
  have ha : a ≤ 100000 := by omega
  obtain ⟨b, off, rfl, hbB, _⟩ := hr (by omega)
  clear hr hM
  rcases hkind with ⟨k1, k2, hv⟩ | ⟨k2, g0, g1, hx⟩ | ⟨k1, hw, hx⟩
  · have e1 : ((f k).1 == 1) = false := by simpa using k1
    have e2 : ((f k).1 == 2) = false := by simpa using k2
    have HV := Lib.hid hv
    have HK := Lib.hid hk
    clear hv k1 k2 hk
    go_enter Tryz.func80, Tryz.ntmps80
    go_wp2_with fail
    refine (rmay_yes B _ _ _ _ _ HM.out HR.out hB).mono ?_
    rintro e w1 ⟨rfl, hb1⟩
    obtain ⟨b', off', ea, _, hc⟩ := (HR.out.over hb1 hB) (by omega)
    simp at ea
    obtain ⟨rfl, rfl⟩ := ea
    obtain ⟨c0, c1⟩ := hc k hkn
    have hbw : b < w1.heap.size := by have := hb1.size; omega
    have HB := Lib.hid hb1
    have hz := hb1.size
    have hk := HK.out
    clear hb1 hc
    go_wp2
    go_ret
    exact ⟨by rw [HV.out]; rfl, HB.out.alloc hz _⟩
  · have e2 : ((f k).1 == 2) = true := by simpa using k2
    have e1 : ((f k).1 == 1) = false := by rw [k2]; decide
    rcases hx with ⟨hm, hv⟩ | ⟨hm, hv⟩
    · have m0 : (a % 16 == 0) = true := by simpa using hm
      have HV := Lib.hid hv
      have HK := Lib.hid hk
      clear hv hm k2 hk
      go_enter Tryz.func80, Tryz.ntmps80
      go_wp2_with fail
      refine (rmay_yes B _ _ _ _ _ HM.out HR.out hB).mono ?_
      rintro e w1 ⟨rfl, hb1⟩
      obtain ⟨b', off', ea, _, hc⟩ := (HR.out.over hb1 hB) (by omega)
      simp at ea
      obtain ⟨rfl, rfl⟩ := ea
      obtain ⟨c0, c1⟩ := hc k hkn
      have hbw : b < w1.heap.size := by have := hb1.size; omega
      have HB := Lib.hid hb1
      have hz := hb1.size
      have hk := HK.out
      clear hb1 hc
      go_wp2
      go_ret
      exact ⟨by rw [HV.out]; rfl, HB.out.alloc hz _⟩
    · have m0 : (a % 16 == 0) = false := by simpa using hm
      have HV := Lib.hid hv
      have HK := Lib.hid hk
      clear hv hm k2 hk
      go_enter Tryz.func80, Tryz.ntmps80
      go_wp2_with fail
      refine (rmay_yes B _ _ _ _ _ HM.out HR.out hB).mono ?_
      rintro e w1 ⟨rfl, hb1⟩
      obtain ⟨b', off', ea, _, hc⟩ := (HR.out.over hb1 hB) (by omega)
      simp at ea
      obtain ⟨rfl, rfl⟩ := ea
      obtain ⟨c0, c1⟩ := hc k hkn
      have hbw : b < w1.heap.size := by have := hb1.size; omega
      have HB := Lib.hid hb1
      have hz := hb1.size
      have hk := HK.out
      clear hb1 hc
      go_wp2
      go_ret
      exact ⟨by rw [HV.out]; rfl, HB.out.alloc hz _⟩
  · have e2 : ((f k).1 == 2) = false := by rw [k1]; decide
    have e1 : ((f k).1 == 1) = true := by simpa using k1
    rcases hw with hw | hw | hw
    · rw [hw] at hx
      have HW := Lib.hid hw
      clear hw
      rcases hx with ⟨hm, hv⟩ | ⟨hm, hv⟩
      · have m0 : (a % 2 == 0) = true := by simpa using hm
        have HV := Lib.hid hv
        have HK := Lib.hid hk
        clear hv hm k1 hk
        go_enter Tryz.func80, Tryz.ntmps80
        go_wp2_with fail
        refine (rmay_yes B _ _ _ _ _ HM.out HR.out hB).mono ?_
        rintro e w1 ⟨rfl, hb1⟩
        obtain ⟨b', off', ea, _, hc⟩ := (HR.out.over hb1 hB) (by omega)
        simp at ea
        obtain ⟨rfl, rfl⟩ := ea
        obtain ⟨c0, c1⟩ := hc k hkn
        have hbw : b < w1.heap.size := by have := hb1.size; omega
        have HB := Lib.hid hb1
        have hz := hb1.size
        have hk := HK.out
        clear hb1 hc
        go_wp2_with fail
        refine (rwords_is HW.out _).mono ?_
        rintro e w2 ⟨rfl, rfl⟩
        go_wp2
        go_ret
        exact ⟨by rw [HV.out]; rfl, HB.out.alloc hz _⟩
      · have m0 : (a % 2 == 0) = false := by simpa using hm
        have HV := Lib.hid hv
        have HK := Lib.hid hk
        clear hv hm k1 hk
        go_enter Tryz.func80, Tryz.ntmps80
        go_wp2_with fail
        refine (rmay_yes B _ _ _ _ _ HM.out HR.out hB).mono ?_
        rintro e w1 ⟨rfl, hb1⟩
        obtain ⟨b', off', ea, _, hc⟩ := (HR.out.over hb1 hB) (by omega)
        simp at ea
        obtain ⟨rfl, rfl⟩ := ea
        obtain ⟨c0, c1⟩ := hc k hkn
        have hbw : b < w1.heap.size := by have := hb1.size; omega
        have HB := Lib.hid hb1
        have hz := hb1.size
        have hk := HK.out
        clear hb1 hc
        go_wp2_with fail
        refine (rwords_is HW.out _).mono ?_
        rintro e w2 ⟨rfl, rfl⟩
        go_wp2
        go_ret
        exact ⟨by rw [HV.out]; rfl, HB.out.alloc hz _⟩
    · rw [hw] at hx
      have HW := Lib.hid hw
      clear hw
      rcases hx with ⟨hm, hv⟩ | ⟨hm, hv⟩
      · have m0 : (a % 4 == 0) = true := by simpa using hm
        have HV := Lib.hid hv
        have HK := Lib.hid hk
        clear hv hm k1 hk
        go_enter Tryz.func80, Tryz.ntmps80
        go_wp2_with fail
        refine (rmay_yes B _ _ _ _ _ HM.out HR.out hB).mono ?_
        rintro e w1 ⟨rfl, hb1⟩
        obtain ⟨b', off', ea, _, hc⟩ := (HR.out.over hb1 hB) (by omega)
        simp at ea
        obtain ⟨rfl, rfl⟩ := ea
        obtain ⟨c0, c1⟩ := hc k hkn
        have hbw : b < w1.heap.size := by have := hb1.size; omega
        have HB := Lib.hid hb1
        have hz := hb1.size
        have hk := HK.out
        clear hb1 hc
        go_wp2_with fail
        refine (rwords_is HW.out _).mono ?_
        rintro e w2 ⟨rfl, rfl⟩
        go_wp2
        go_ret
        exact ⟨by rw [HV.out]; rfl, HB.out.alloc hz _⟩
      · have m0 : (a % 4 == 0) = false := by simpa using hm
        have HV := Lib.hid hv
        have HK := Lib.hid hk
        clear hv hm k1 hk
        go_enter Tryz.func80, Tryz.ntmps80
        go_wp2_with fail
        refine (rmay_yes B _ _ _ _ _ HM.out HR.out hB).mono ?_
        rintro e w1 ⟨rfl, hb1⟩
        obtain ⟨b', off', ea, _, hc⟩ := (HR.out.over hb1 hB) (by omega)
        simp at ea
        obtain ⟨rfl, rfl⟩ := ea
        obtain ⟨c0, c1⟩ := hc k hkn
        have hbw : b < w1.heap.size := by have := hb1.size; omega
        have HB := Lib.hid hb1
        have hz := hb1.size
        have hk := HK.out
        clear hb1 hc
        go_wp2_with fail
        refine (rwords_is HW.out _).mono ?_
        rintro e w2 ⟨rfl, rfl⟩
        go_wp2
        go_ret
        exact ⟨by rw [HV.out]; rfl, HB.out.alloc hz _⟩
    · rw [hw] at hx
      have HW := Lib.hid hw
      clear hw
      rcases hx with ⟨hm, hv⟩ | ⟨hm, hv⟩
      · have m0 : (a % 8 == 0) = true := by simpa using hm
        have HV := Lib.hid hv
        have HK := Lib.hid hk
        clear hv hm k1 hk
        go_enter Tryz.func80, Tryz.ntmps80
        go_wp2_with fail
        refine (rmay_yes B _ _ _ _ _ HM.out HR.out hB).mono ?_
        rintro e w1 ⟨rfl, hb1⟩
        obtain ⟨b', off', ea, _, hc⟩ := (HR.out.over hb1 hB) (by omega)
        simp at ea
        obtain ⟨rfl, rfl⟩ := ea
        obtain ⟨c0, c1⟩ := hc k hkn
        have hbw : b < w1.heap.size := by have := hb1.size; omega
        have HB := Lib.hid hb1
        have hz := hb1.size
        have hk := HK.out
        clear hb1 hc
        go_wp2_with fail
        refine (rwords_is HW.out _).mono ?_
        rintro e w2 ⟨rfl, rfl⟩
        go_wp2
        go_ret
        exact ⟨by rw [HV.out]; rfl, HB.out.alloc hz _⟩
      · have m0 : (a % 8 == 0) = false := by simpa using hm
        have HV := Lib.hid hv
        have HK := Lib.hid hk
        clear hv hm k1 hk
        go_enter Tryz.func80, Tryz.ntmps80
        go_wp2_with fail
        refine (rmay_yes B _ _ _ _ _ HM.out HR.out hB).mono ?_
        rintro e w1 ⟨rfl, hb1⟩
        obtain ⟨b', off', ea, _, hc⟩ := (HR.out.over hb1 hB) (by omega)
        simp at ea
        obtain ⟨rfl, rfl⟩ := ea
        obtain ⟨c0, c1⟩ := hc k hkn
        have hbw : b < w1.heap.size := by have := hb1.size; omega
        have HB := Lib.hid hb1
        have hz := hb1.size
        have hk := HK.out
        clear hb1 hc
        go_wp2_with fail
        refine (rwords_is HW.out _).mono ?_
        rintro e w2 ⟨rfl, rfl⟩
        go_wp2
        go_ret
        exact ⟨by rw [HV.out]; rfl, HB.out.alloc hz _⟩
theorem rbegins_any (hn : n ≤ 1000) (hr : PRow w B A n f) (hB : B ≤ w.heap.size) :
    Calls Tryz.prog 80 #[.slice A n c, .int .i64 a] w fun e w' => e = .returned (.int .i64 (bg f n a)) ∧ Below w.heap.size w w' := by
  by_cases h : mayB f n = true ∧ 16 ≤ a ∧ a < 16 + 16 * (n : Int)
  · obtain ⟨hM, h0, h1⟩ := h
    obtain ⟨k, hk⟩ : ∃ k : Nat, a / 16 - 1 = k := ⟨(a / 16 - 1).toNat, by omega⟩
    rw [bg_in hM h0 h1 hk]
    exact rbegins_in B A n c f a w k hn hr hB hM h0 h1 hk
  · rw [bg_no h]
    exact rbegins_out B A n c f a w hn hr hB h
end
end Go.Proofs.YtccjelpfmkbmiaaGreatDoor.Cl
end
