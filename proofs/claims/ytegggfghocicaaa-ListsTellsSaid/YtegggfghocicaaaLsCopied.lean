/-
  Package lists' isClass and copied: whether there is such a class; lists with memory of their own.
-/
import Derived.Test.YtegggfghocicaaaLsRow
namespace Go.Proofs.Ytegggfghocicaaa
open Go.RowKit

def isCl (k : Int) : Bool := decide (0 ≤ k ∧ k < 3)
theorem isCl_iff {k : Int} : isCl k = true ↔ 0 ≤ k ∧ k < 3 := by simp [isCl]
theorem isCl_no {k : Int} (h : isCl k = false) : k < 0 ∨ 2 < k := by
  have : ¬ (0 ≤ k ∧ k < 3) := fun c => by rw [isCl_iff.2 c] at h; cases h
  omega
theorem class_yes (k : Int) (w : World) (h0 : 0 ≤ k) (h1 : k < 3) :
    Calls Try.prog 26 #[.int .i64 k] w fun e w' => e = .returned (.bool true) ∧ w = w' := by
  go_enter Try.func26, Try.ntmps26
  go_wp2
  go_ret
  exact ⟨rfl, rfl⟩
theorem class_no (k : Int) (w : World) (h : isCl k = false) :
    Calls Try.prog 26 #[.int .i64 k] w fun e w' => e = .returned (.bool false) ∧ w = w' := by
  have hk := isCl_no h
  clear h
  by_cases h0 : k < 0
  · clear hk
    go_enter Try.func26, Try.ntmps26
    go_wp2
    go_ret
    exact ⟨rfl, rfl⟩
  · have h1 : 0 ≤ k := by omega
    have h2 : decide (k < 3) = false := by simp; omega
    clear hk h0
    go_enter Try.func26, Try.ntmps26
    go_wp2
    go_ret
    exact ⟨rfl, rfl⟩

/-- Lists of the call's own were returned. -/
def COut (w : World) (f : Nat → List Int) (e : Ending) (w' : World) : Prop := ∃ u, e = .returned (.agg #[.slice (u 0).a (u 0).n (u 0).c, .slice (u 1).a (u 1).n (u 1).c, .slice (u 2).a (u 2).n (u 2).c]) ∧ Own3 w' w.heap.size u f ∧ Below w.heap.size w w'

structure Copying (w wr : World) (u : Nat → Sl) (f : Nat → List Int) (k : Nat) (v : Nat → Sl) (g : Nat → Nat) : Prop where
  box : Box3 wr w.heap.size v
  res : Box3 wr (w.heap.size + 1) noSl
  is : ∀ j, j < k → v j = ⟨some ⟨g j, 0, none⟩, (u j).n, (u j).n⟩
  own : ∀ j, j < k → wr.ownsRow (w.heap.size + 2) 3 1 (.slice (some ⟨g j, 0, none⟩) (u j).n (u j).n) (u j).n ((f j).map (Value.int .i64))
  up : ∀ i j, i < j → j < k → g i < g j
  bel : Below w.heap.size w wr
theorem Copying.size {w wr : World} {u v : Nat → Sl} {f : Nat → List Int} {k : Nat} {g : Nat → Nat} (h : Copying w wr u f k v g) : w.heap.size + 2 ≤ wr.heap.size := by have := h.res.lt; omega

theorem Copying.step {w wr w1 w2 w3 : World} {u v : Nat → Sl} {f : Nat → List Int} {k : Nat} {g : Nat → Nat} (h : Copying w wr u f k v g) (hk : k < 3)
    (g1 : wr.grownBy w1 none) (e2 : w2 = w1.setCell ⟨w.heap.size, k, none⟩ (.slice (some ⟨wr.heap.size, 0, none⟩) (u k).n (u k).n))
    (ho : w3.ownsRow (w.heap.size + 2) 3 1 (.slice (some ⟨wr.heap.size, 0, none⟩) (u k).n (u k).n) (u k).n ((f k).map (Value.int .i64))) (g3 : w2.grownBy w3 (some wr.heap.size)) :
    Copying w w3 u f (k + 1) (upd v k ⟨some ⟨wr.heap.size, 0, none⟩, (u k).n, (u k).n⟩) (upd g k wr.heap.size) := by
  have hs := h.size
  have b2 : Below w.heap.size w w2 := by
    rw [e2]
    exact (h.bel.grown g1 (by omega) (by intro j hj; cases hj)).setCell (Nat.le_refl _) _
  have x2 : ∀ j, j < wr.heap.size → ¬ j = w.heap.size → w2.heap[j]? = wr.heap[j]? := fun j hj hn => by
    rw [e2]
    exact (Below.heap_setCell _ _ _ _ (by exact hn)).trans (g1.block j hj (by simp))
  have hs2 : wr.heap.size ≤ w2.heap.size := by
    rw [e2]
    simpa [World.setCell] using g1.size
  have x3 : ∀ j, j < wr.heap.size → ¬ j = w.heap.size → w3.heap[j]? = wr.heap[j]? := fun j hj hn => (g3.block j (by omega) (by simp; omega)).trans (x2 j hj hn)
  refine ⟨?_, ?_, fun j hj => ?_, fun j hj => ?_, fun i j hij hj => ?_, ?_⟩
  · have := (h.box.grown g1 (by simp)).set hk ⟨some ⟨wr.heap.size, 0, none⟩, (u k).n, (u k).n⟩
    rw [← e2] at this
    exact this.grown g3 (by simp; omega)
  · exact h.res.same (x3 _ h.res.lt (by omega)) (Nat.le_trans hs2 g3.size)
  · by_cases e : j = k
    · subst e; rw [upd_same, upd_same]
    · rw [upd_other _ _ e, upd_other _ _ e]; exact h.is j (by omega)
  · by_cases e : j = k
    · subst e; rw [upd_same]; exact ho
    · rw [upd_other _ _ e]
      have ho' := h.own j (by omega)
      have hl := ho'.lt (g j) rfl
      exact World.ownsRow.same ho' (fun q hq hlt => by
        have : q = g j := by simpa [Value.ownBlock] using hq.symm
        subst this
        exact x3 _ hlt (by omega))
  · by_cases e : j = k
    · subst e
      rw [upd_same, upd_other _ _ (by omega)]
      exact ((h.own i (by omega)).lt (g i) rfl).2
    · rw [upd_other _ _ e, upd_other _ _ (by omega)]
      exact h.up i j hij (by omega)
  · exact b2.grown g3 (by omega) (by intro j hj; cases hj; omega)

theorem Copying.own3 {w wr : World} {u v : Nat → Sl} {f : Nat → List Int} {g : Nat → Nat} (h : Copying w wr u f 3 v g) : Own3 wr (w.heap.size + 2) v f :=
  ⟨fun j hj => by rw [h.is j hj]; exact h.own j hj, fun i j hi hj hij x y hx hy => by
    rw [h.is i hi] at hx
    rw [h.is j hj] at hy
    simp only [Option.some.injEq] at hx hy
    subst hx hy
    rcases Nat.lt_or_gt_of_ne hij with hlt | hlt
    · have := h.up i j hlt hj
      show ¬ g i = g j
      omega
    · have := h.up j i hlt hi
      show ¬ g i = g j
      omega⟩
theorem Own3.less {w : World} {base base' : Nat} {u : Nat → Sl} {f : Nat → List Int} (h : Own3 w base u f) (hb : base' ≤ base) : Own3 w base' u f :=
  ⟨fun j hj => ⟨(h.own j hj).1, (h.own j hj).2.imp id (fun ⟨g, cap, cur, e, hg, r⟩ => ⟨g, cap, cur, e, Nat.le_trans hb hg, r⟩)⟩, h.apart⟩

theorem index_of (u : Nat → Sl) (k : Nat) (hk : k < 3) (w : World) : (Instr.index 24 (.agg #[.slice (u 0).a (u 0).n (u 0).c, .slice (u 1).a (u 1).n (u 1).c, .slice (u 2).a (u 2).n (u 2).c]) (.int .i64 k)).run Try.prog w = .ok (.slice (u k).a (u k).n (u k).c) w := by
  rcases (show k = 0 ∨ k = 1 ∨ k = 2 by omega) with rfl | rfl | rfl
  · rfl
  · rfl
  · rfl

theorem copied_any (B : Nat) (u : Nat → Sl) (f : Nat → List Int) (w : World) (h : L3 w B u f) (hB : B ≤ w.heap.size) (hn : ∀ j, j < 3 → (u j).n ≤ 2000000) :
    Calls Try.prog 27 #[(.agg #[.slice (u 0).a (u 0).n (u 0).c, .slice (u 1).a (u 1).n (u 1).c, .slice (u 2).a (u 2).n (u 2).c])] w (COut w f) := by
  obtain ⟨i0, hi, hz0, hz1, hz2⟩ := info_parts info_int1
  have HL := Lib.hid h
  have HN := Lib.hid hn
  clear h hn
  go_enter Try.func27, Try.ntmps27
  go_wp2
  go_loopw [6] (fun i wr => ∃ (k : Nat) (v : Nat → Sl) (g : Nat → Nat), k ≤ 3 ∧ i = .int .i64 k ∧ Hid (Copying w wr u f k v g)) (fun i _ => 3 - (intOf i).toNat)
  case atStart =>
    refine ⟨0, u, fun _ => 0, by omega, rfl, Lib.hid ⟨(Box3.new w u 24).alloc _, ?_, fun j hj => by omega, fun j hj => by omega, fun i j _ hj => by omega, ((Below.refl _ _).alloc (Nat.le_refl _) _).alloc (by simp) _⟩⟩
    have := Box3.new (w.alloc (.cells #[.slice (u 0).a (u 0).n (u 0).c, .slice (u 1).a (u 1).n (u 1).c, .slice (u 2).a (u 2).n (u 2).c] 24)) noSl 24
    rw [World.size_alloc] at this
    exact this
  case round =>
    obtain ⟨k, v, g, hk, rfl, HC⟩ := hrel
    by_cases hlt : k < 3
    · have hix := index_of u k hlt
      have hsz := HC.out.size
      have hnk := HN.out k hlt
      go_wp2_with (at_make; refine wpList_make_full _ rfl _ _ 22 rfl (w.heap.size + 2) 3 i0 (.int .i64 0) 1 Try.underlying22 hi hz0 hz1 .i64 .i64 ((u k).n) ((u k).n) (u k).n rfl rfl rfl rfl ?c3 ?c4 ?c5 ?_)
      case c3 => rw [hz2]; omega
      case c4 => unfold maxLen; omega
      case c5 => exact hsz
      intro w1 hown hgrow
      have hb1 := HC.out.box.grown hgrow (by simp)
      have hc1 := hb1.cell k hlt
      have hf1 := hb1.free k
      have hl1 := hb1.lt
      have O1 := Lib.hid hown
      have G1 := Lib.hid hgrow
      have B1 := Lib.hid (((HC.out.bel.grown hgrow (by omega) (by intro j hj; cases hj)).setCell (p := ⟨w.heap.size, k, none⟩) (Nat.le_refl _) (.slice (some ⟨wr.heap.size, 0, none⟩) (u k).n (u k).n)))
      clear hown hgrow hb1
      go_wp2_with (refine list_copied rfl _ _ rfl rfl rfl (ownsRow_setCell_below O1.out (by show w.heap.size < _; omega) _) ((HL.out k hlt).1.over B1.out hB) ?_)
      intro w3 ho g3
      have S3 := Lib.hid (HC.out.step hlt G1.out rfl ho g3)
      clear ho g3
      go_wp2
      go_roundw
      case rel => exact ⟨k + 1, _, _, by omega, by go_num, S3⟩
      case measure => simp [intOf]; omega
    · obtain rfl : k = 3 := by omega
      have r0 := HC.out.box.cell 0 (by decide)
      have r1 := HC.out.box.cell 1 (by decide)
      have r2 := HC.out.box.cell 2 (by decide)
      have rl := HC.out.box.lt
      have x0 := HC.out.res.cell 0 (by decide)
      have x1 := HC.out.res.cell 1 (by decide)
      have x2 := HC.out.res.cell 2 (by decide)
      have y0 := HC.out.res.free 0
      have y1 := HC.out.res.free 1
      have y2 := HC.out.res.free 2
      have xl := HC.out.res.lt
      go_wp2
      refine bodyPost_ret (v := (.agg #[.slice (v 0).a (v 0).n (v 0).c, .slice (v 1).a (v 1).n (v 1).c, .slice (v 2).a (v 2).n (v 2).c])) ?_ rfl ⟨v, rfl, (HC.out.own3.put (b := w.heap.size + 1) (fun j x hj hx => by have := (HC.out.own3.block j hj hx).1; omega) v).less (by omega), below_put3 HC.out.bel (by omega) v⟩
      simp [results, Try.results27, go_sem, x0, x1, x2]
end Go.Proofs.Ytegggfghocicaaa
