/-
  All addresses, none of them twice: sorted and compacted by the library, or each with each, as the document's answer tells it.
-/
import Derived.Test.YtcbnefjfoeanoaaGreatDoorHpZC
import Derived.Test.YtcbnefjfoeanoaaGreatDoorZShelf
import Derived.Sort.OwnSortedInts
namespace Go.Proofs.YtcbnefjfoeanoaaGreatDoor.Ls
open Go.Proofs.YtcbnefjfoeanoaaGreatDoor
set_option maxRecDepth 100000
open Go.RowKit Go.Sort

/-- The library's order. -/
abbrev srt (xs : List Int) : List Int := xs.mergeSort fun x y => decide (x ≤ y)
theorem srt_len (xs : List Int) : (srt xs).length = xs.length := List.length_mergeSort xs
theorem srt_le (xs : List Int) : (srt xs).Pairwise (· ≤ ·) := by
  have := List.pairwise_mergeSort (le := fun x y : Int => decide (x ≤ y)) (fun a b c h1 h2 => by simp at *; omega) (fun a b => by simp; omega) xs
  exact this.imp (fun h => by simpa using h)
theorem compact_len (zs : List Int) : (Lib.compact zs).length = zs.length ↔ ∀ j, j < zs.length → Lib.keeps zs.toArray j = true := by
  unfold Lib.compact Lib.compactUpTo
  rw [List.length_map]
  constructor
  · intro h j hj
    have : ((List.range zs.length).filter (Lib.keeps zs.toArray)).length = (List.range zs.length).length := by rw [h, List.length_range]
    exact List.length_filter_eq_length_iff.1 this j (List.mem_range.2 hj)
  · intro h
    have := List.length_filter_eq_length_iff.2 (fun j hj => h j (List.mem_range.1 hj) : ∀ j ∈ List.range zs.length, Lib.keeps zs.toArray j = true)
    rw [this, List.length_range]
theorem keeps_iff (zs : List Int) {j : Nat} (hj : j < zs.length) (h0 : 0 < j) : Lib.keeps zs.toArray j = true ↔ ¬ zs[j] = zs[j - 1] := by
  unfold Lib.keeps
  rw [decide_eq_true_iff, getElem!_pos zs.toArray j (by simpa using hj), getElem!_pos zs.toArray (j - 1) (by simp; omega)]
  simp
  omega
theorem sorted_apart (zs : List Int) (hs : zs.Pairwise (· ≤ ·)) : (Lib.compact zs).length = zs.length ↔ zs.Nodup := by
  rw [compact_len]
  have hle := List.pairwise_iff_getElem.1 hs
  constructor
  · intro h
    unfold List.Nodup
    rw [List.pairwise_iff_getElem]
    intro i j hi hj hij
    have h1 := (keeps_iff zs hj (by omega)).1 (h j hj)
    have h2 := hle (j - 1) j (by omega) hj (by omega)
    by_cases e : i = j - 1
    · subst e
      intro e2
      exact h1 e2.symm
    · have h3 := hle i (j - 1) hi (by omega) (by omega)
      omega
  · intro h j hj
    by_cases h0 : j = 0
    · subst h0
      exact Lib.keeps_lt_one _ 0 (by omega)
    · refine (keeps_iff zs hj (by omega)).2 ?_
      unfold List.Nodup at h
      have := List.pairwise_iff_getElem.1 h (j - 1) j (by omega) hj (by omega)
      intro e
      exact this e.symm
theorem apart_iff (xs : List Int) : (Lib.compact (srt xs)).length = xs.length ↔ xs.Nodup := by
  rw [← srt_len xs, sorted_apart _ (srt_le xs)]
  exact (List.mergeSort_perm xs _).nodup_iff

theorem rint {a b : Bool} (h : a = b) : Ending.returned (.bool a) = .returned (.bool b) := by rw [h]
/-- A truth was returned. -/
def Tells (w : World) (p : Bool) (e : Ending) (w' : World) : Prop := e = .returned (.bool p) ∧ Below w.heap.size w w'

set_option maxHeartbeats 1000000 in
theorem apart_any (B : Nat) (A : Option Addr) (n c : Nat) (u : Nat → Nat → Sl) (f : Nat → Nat → List Int) (w : World) (h : LRow w B A n u f) (hB : B ≤ w.heap.size) (hn : n ≤ 1000000) (hlen : (allOf f n).length ≤ 2000000) :
    Calls Tryz.prog 78 #[.slice A n c] w (Tells w (decide (allOf f n).Nodup)) := by
  have HL := Lib.hid h
  have HN := Lib.hid hlen
  clear h hlen
  go_enter Tryz.func78, Tryz.ntmps78
  go_wp2_with (go_at_call 51; refine (all_any B A n c u f w HL.out hB hn HN.out).mono ?_; rintro e w1 ⟨s, rfl, ho, hb⟩)
  obtain ⟨xs, hxs⟩ : ∃ xs, xs = allOf f n := ⟨_, rfl⟩
  rw [← hxs] at ho HN ⊢
  have hl : s.n = xs.length := by simpa using ho.1.symm
  rw [hl] at ho ⊢
  obtain ⟨sa, sn, sc⟩ := s
  have HX := Lib.hid hxs
  clear hl hxs
  by_cases h0 : xs.length = 0
  · obtain rfl := List.eq_nil_of_length_eq_zero h0
    have HB := Lib.hid hb
    clear ho h0 hb
    go_wp2_with (go_at_call 53; refine (Tryz.slices_Sort_int_none sa sc w1).mono ?_; rintro e w2 ⟨rfl, rfl⟩)
    go_wp2_with (go_at_call 116; refine (Tryz.slices_Compact_int_empty sa sc w2).mono ?_; rintro e w3 ⟨rfl, rfl⟩)
    go_wp2
    go_ret
    exact ⟨by rw [← HX.out]; rfl, HB.out⟩
  · obtain ⟨_, h1⟩ := ho
    rcases h1 with ⟨_, h2⟩ | ⟨g, cap, cur, h2, hbase, hh, hc1, hc2, hsz, htk⟩
    · exact absurd h2 h0
    · simp only [Value.slice.injEq, true_and] at h2
      obtain ⟨rfl, rfl⟩ := h2
      rw [Nat.mul_one] at htk
      have hg : g < w1.heap.size := (Array.getElem?_eq_some_iff.1 hh).1
      have hH := holds_of_blockI (ss := xs) hh htk
      have hx4 : xs.length ≤ 2000000 := HN.out
      go_wp2_with (go_at_call 53; refine (Tryz.slices_Sort_int g 0 sc xs w1 hH hg (by omega)).mono ?_; rintro e w2 ⟨rfl, q, os, hw2⟩; replace hw2 := Lib.hid hw2)
      have ho2 := ownsRow_sortedI (base := w.heap.size) (n := q) (os := os) (ss := xs) (ts := srt xs) (srt_len xs) hbase hh hc1 hc2 hsz
      have hb2 := hb.grown (grownBy_sortedI (n := q) (os := os) (g := g) (srt xs).toArray) hb.size (fun k hk => by simp at hk; omega)
      rw [← hw2.out] at ho2 hb2
      clear hw2 hH htk hh hsz hb hbase
      obtain ⟨_, h3⟩ := ho2
      rcases h3 with ⟨h4, _⟩ | ⟨g', cap', cur', h4, hbase, hh, _, _, hsz, htk⟩
      · cases h4
      · simp only [Value.slice.injEq, Option.some.injEq, Addr.mk.injEq, and_true, true_and] at h4
        obtain ⟨rfl, rfl⟩ := h4
        rw [Nat.mul_one, ← srt_len xs] at htk
        have hH := holds_of_blockI (ss := srt xs) hh htk
        have hl2 := srt_len xs
        have hq : (srt xs).length ≤ 9223372036854775807 := by omega
        have hcp : (srt xs).length ≤ sc := by omega
        have HC := Tryz.slices_Compact_int g 0 sc (srt xs) w2 hH hq hcp
        rw [hl2] at HC
        have HI := apart_iff xs
        obtain ⟨m, hm⟩ : ∃ m, m = (Lib.compact (srt xs)).length := ⟨_, rfl⟩
        rw [← hm] at HC HI
        have hm2 : m ≤ 2000000 := by
          have := List.length_filter_le (Lib.keeps (srt xs).toArray) (List.range (srt xs).length)
          have e : m = ((List.range (srt xs).length).filter (Lib.keeps (srt xs).toArray)).length := by rw [hm]; simp [Lib.compact, Lib.compactUpTo]
          rw [List.length_range] at this
          omega
        have HB := Lib.hid hb2
        have HBs := Lib.hid hbase
        have HII := Lib.hid HI
        clear hb2 hbase HI hm hH htk hh hsz
        go_wp2_with (go_loud (go_at_call 116; refine HC.mono ?_; rintro e w3 ⟨rfl, q3, hw3⟩; replace hw3 := Lib.hid hw3))
        have hb3 : RowKit.Below w.heap.size w2 w3 := by
          rw [hw3.out]
          exact (Below.refl _ _).grown (row := some g) (by have := grownBy_sortedI (w := w2) (n := q3) (os := #[]) (g := g) (Lib.compact (srt xs) ++ List.replicate (xs.length - m) 0).toArray; rwa [grow_empty] at this) HB.out.size (fun k hk => by simp at hk; have := HBs.out; omega)
        have HB3 := Lib.hid (HB.out.trans hb3)
        clear hw3 hb3
        go_wp2
        go_ret
        refine ⟨rint ?_, HB3.out⟩
        rw [← HX.out, Bool.eq_iff_iff, beq_iff_eq, decide_eq_true_iff, ← HII.out]
        exact Int.ofNat_inj

theorem apart_next {xs : List Int} {k : Nat} (h : (xs.take k).Nodup) (hk : k < xs.length) (hm : ∀ m, m < k → ¬ xs.getD k 0 = xs.getD m 0) : (xs.take (k + 1)).Nodup := by
  rw [take_next rfl hk]
  unfold List.Nodup at h ⊢
  rw [List.pairwise_append]
  refine ⟨h, by simp, fun a ha b hb => ?_⟩
  simp only [List.mem_singleton] at hb
  subst hb
  obtain ⟨i, hi, rfl⟩ := List.getElem_of_mem ha
  have hik : i < k := by simp at hi; omega
  have := hm i hik
  intro e
  apply this
  rw [← e]
  simp [List.getD, show i < xs.length by omega]
theorem apart_not {xs : List Int} {k j : Nat} (hk : k < xs.length) (hj : j < k) (he : xs.getD k 0 = xs.getD j 0) : decide xs.Nodup = false := by
  simp only [decide_eq_false_iff_not]
  intro h
  unfold List.Nodup at h
  have := List.pairwise_iff_getElem.1 h j k (by omega) hk hj
  apply this
  simpa [List.getD, hk, show j < xs.length by omega] using he.symm

set_option maxHeartbeats 1000000 in
theorem rapart_any (B : Nat) (A : Option Addr) (n c : Nat) (u : Nat → Nat → Sl) (f : Nat → Nat → List Int) (w : World) (h : LRow w B A n u f) (hB : B ≤ w.heap.size) (hn : n ≤ 1000000) (hlen : (allOf f n).length ≤ 2000000) :
    Calls Tryz.prog 92 #[.slice A n c] w (Tells w (decide (allOf f n).Nodup)) := by
  have HL := Lib.hid h
  have HN := Lib.hid hlen
  clear h hlen
  go_enter Tryz.func92, Tryz.ntmps92
  go_wp2_with (go_at_call 123; refine (rall_any B A n c u f w HL.out hB hn HN.out).mono ?_; rintro e w1 ⟨s, rfl, ho, hb⟩; replace ho := Lib.hid ho; replace hb := Lib.hid hb)
  obtain ⟨a1, c1, e1, hr, _, _⟩ := owns_row ho.out
  obtain ⟨xs, hxs⟩ : ∃ xs, xs = allOf f n := ⟨_, rfl⟩
  rw [← hxs] at hr HN
  have hl : s.n = xs.length := hr.1.symm
  rw [hl] at e1 hr ⊢
  obtain ⟨sa, sn, sc⟩ := s
  simp only [Value.slice.injEq, true_and] at e1
  obtain ⟨rfl, rfl⟩ := e1
  have HX := Lib.hid hxs
  have HR := Lib.hid hr
  have hx4 : xs.length ≤ 2000000 := HN.out
  clear hl hxs hr
  go_wp2
  go_loopw [4] (fun i wr => ∃ k d : Nat, k ≤ xs.length ∧ i = .int .i64 k ∧ wr = w1.drewN d ∧ Hid (xs.take k).Nodup) (fun i _ => xs.length - (intOf i).toNat)
  case atStart => exact ⟨0, 0, Nat.zero_le _, rfl, rfl, Lib.hid (by simp)⟩
  case round =>
    obtain ⟨k, d, hk, rfl, rfl, HD⟩ := hrel
    by_cases hlt : k < xs.length
    · have hlt' : (k : Int) < xs.length := by omega
      go_wp2
      go_loopw [5] (fun i wr => ∃ j d : Nat, j ≤ k ∧ i = .int .i64 j ∧ wr = w1.drewN d ∧ Hid (∀ m, m < j → ¬ xs.getD k 0 = xs.getD m 0)) (fun i _ => k - (intOf i).toNat)
      case atStart => exact ⟨0, _, Nat.zero_le _, rfl, rfl, Lib.hid (fun m hm => absurd hm (by omega))⟩
      case round =>
        obtain ⟨j, d, hj, rfl, rfl, HE⟩ := hrel
        by_cases hjk : j < k
        · obtain ⟨b, off, rfl, _, hc⟩ := HR.out.2 (by omega)
          have h1 := hc k hlt
          have h2 := hc j (by omega)
          have hjl : j < xs.length := by omega
          obtain ⟨x, hx⟩ : ∃ x, x = xs.getD k 0 := ⟨_, rfl⟩
          obtain ⟨y, hy⟩ : ∃ y, y = xs.getD j 0 := ⟨_, rfl⟩
          rw [← hx] at h1
          rw [← hy] at h2
          clear hc
          by_cases he : x = y
          · have HO := Lib.hid (apart_not hlt hjk (hx.symm.trans (he.trans hy)))
            subst he
            clear hx hy HE
            go_wp2
            go_quiet (fail)
            go_wp2
            go_ret
            exact ⟨rint (by rw [← HX.out]; exact HO.out.symm), below_drewN (below_drewN hb.out _) _⟩
          · have HE2 : Hid (∀ m, m < j + 1 → ¬ xs.getD k 0 = xs.getD m 0) := Lib.hid fun m hm => by
              by_cases e : m = j
              · rw [e, ← hx, ← hy]; exact he
              · exact HE.out m (by omega)
            have hd : (x == y) = false := by simpa using he
            clear he hx hy HE
            go_wp2
            go_quiet (fail)
            go_wp2
            go_roundw
            case rel => exact ⟨j + 1, _, by omega, by go_num, rfl, HE2⟩
            case measure => simp [intOf]; omega
        · obtain rfl : j = k := by omega
          have HD2 := Lib.hid (apart_next HD.out hlt HE.out)
          clear HE
          go_wp2
          go_roundw
          case rel => exact ⟨j + 1, _, by omega, by go_num, rfl, HD2⟩
          case measure => simp [intOf]; omega
    · obtain rfl : k = xs.length := by omega
      have HO : Hid (decide xs.Nodup = true) := Lib.hid (by have := HD.out; rw [List.take_length] at this; simpa using this)
      go_wp2
      go_ret
      exact ⟨rint (by rw [← HX.out]; exact HO.out.symm), below_drewN hb.out _⟩
end Go.Proofs.YtcbnefjfoeanoaaGreatDoor.Ls
