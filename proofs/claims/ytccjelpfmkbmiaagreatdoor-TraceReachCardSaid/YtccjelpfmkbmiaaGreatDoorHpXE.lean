/-
  Merged texts: LsApart, HpMay, HpMayB, HpMayC, HpHead, HpHeadI, Plain, Make, HpEvery, HpNewP, PgFind, PgRefFind, PgFill, HpClone, AlOwn.
-/
import Derived.Test.YtccjelpfmkbmiaaGreatDoorHpXA
import Derived.Test.YtccjelpfmkbmiaaGreatDoorXShelf
import Derived.Sort.OwnSortedInts
import Derived.Test.YtccjelpfmkbmiaaGreatDoorHpXD
import Derived.Deep.RegionHeld3
import Derived.Deep.DrawnRows
import Derived.Test.YtccjelpfmkbmiaaGreatDoorRows
import Derived.WalkKit
import Derived.Below
import Derived.WalkSmall
import Derived.RegionTactic
import Derived.ChangeAlike
import Derived.Deep.QuietTactic
import Derived.BigQuiet
import Derived.Lib.Hide
import Derived.Lib.SliceRun
import Derived.WalkSpells
import Derived.StillTailTactics
import Derived.Test.YtccjelpfmkbmiaaGreatDoorHpXB
import Derived.Deep.LoopGhost
section
namespace Go.Proofs.YtccjelpfmkbmiaaGreatDoor.Ls
open Go.Proofs.YtccjelpfmkbmiaaGreatDoor
set_option maxRecDepth 100000
open Go.RowKit Go.Sort

/-- The library's order. -/
abbrev srt (xs : List Int) : List Int := xs.mergeSort fun x y => decide (x ≤ y)
theorem srt_len (xs : List Int) : (srt xs).length = xs.length := List.length_mergeSort xs
theorem srt_le (xs : List Int) : (srt xs).Pairwise (· ≤ ·) := by
  have := List.pairwise_mergeSort (le := fun x y : Int => decide (x ≤ y)) (fun a b c h1 h2 => by simp at *; omega) (fun a b => by simp; omega) xs
  exact this.imp (fun h => by simpa using h)
theorem compact_len (zs : List Int) : (Lib.compact zs).length = zs.length ↔ ∀ j, j < zs.length → Lib.keeps zs.toArray j = true := by
  unfold Lib.compact Lib.compactUpTo
  rw [List.length_map]
  constructor
  · intro h j hj
    have : ((List.range zs.length).filter (Lib.keeps zs.toArray)).length = (List.range zs.length).length := by rw [h, List.length_range]
    exact List.length_filter_eq_length_iff.1 this j (List.mem_range.2 hj)
  · intro h
    have := List.length_filter_eq_length_iff.2 (fun j hj => h j (List.mem_range.1 hj) : ∀ j ∈ List.range zs.length, Lib.keeps zs.toArray j = true)
    rw [this, List.length_range]
theorem keeps_iff (zs : List Int) {j : Nat} (hj : j < zs.length) (h0 : 0 < j) : Lib.keeps zs.toArray j = true ↔ ¬ zs[j] = zs[j - 1] := by
  unfold Lib.keeps
  rw [decide_eq_true_iff, getElem!_pos zs.toArray j (by simpa using hj), getElem!_pos zs.toArray (j - 1) (by simp; omega)]
  simp
  omega
theorem sorted_apart (zs : List Int) (hs : zs.Pairwise (· ≤ ·)) : (Lib.compact zs).length = zs.length ↔ zs.Nodup := by
  rw [compact_len]
  have hle := List.pairwise_iff_getElem.1 hs
  constructor
  · intro h
    unfold List.Nodup
    rw [List.pairwise_iff_getElem]
    intro i j hi hj hij
    have h1 := (keeps_iff zs hj (by omega)).1 (h j hj)
    have h2 := hle (j - 1) j (by omega) hj (by omega)
    by_cases e : i = j - 1
    · subst e
      intro e2
      exact h1 e2.symm
    · have h3 := hle i (j - 1) hi (by omega) (by omega)
      omega
  · intro h j hj
    by_cases h0 : j = 0
    · subst h0
      exact Lib.keeps_lt_one _ 0 (by omega)
    · refine (keeps_iff zs hj (by omega)).2 ?_
      unfold List.Nodup at h
      have := List.pairwise_iff_getElem.1 h (j - 1) j (by omega) hj (by omega)
      intro e
      exact this e.symm
theorem apart_iff (xs : List Int) : (Lib.compact (srt xs)).length = xs.length ↔ xs.Nodup := by
  rw [← srt_len xs, sorted_apart _ (srt_le xs)]
  exact (List.mergeSort_perm xs _).nodup_iff

theorem rint {a b : Bool} (h : a = b) : Ending.returned (.bool a) = .returned (.bool b) := by rw [h]
/-- A truth was returned. -/
def Tells (w : World) (p : Bool) (e : Ending) (w' : World) : Prop := e = .returned (.bool p) ∧ Below w.heap.size w w'

set_option maxHeartbeats 1000000 in
theorem apart_any (B : Nat) (A : Option Addr) (n c : Nat) (u : Nat → Nat → Sl) (f : Nat → Nat → List Int) (w : World) (h : LRow w B A n u f) (hB : B ≤ w.heap.size) (hn : n ≤ 1000000) (hlen : (allOf f n).length ≤ 2000000) :
    Calls Tryz.prog 67 #[.slice A n c] w (Tells w (decide (allOf f n).Nodup)) := by
  have HL := Lib.hid h
  have HN := Lib.hid hlen
  clear h hlen
  go_enter Tryz.func67, Tryz.ntmps67
  go_wp2_with (go_at_call 105; refine (all_any B A n c u f w HL.out hB hn HN.out).mono ?_; rintro e w1 ⟨s, rfl, ho, hb⟩)
  obtain ⟨xs, hxs⟩ : ∃ xs, xs = allOf f n := ⟨_, rfl⟩
  rw [← hxs] at ho HN ⊢
  have hl : s.n = xs.length := by simpa using ho.1.symm
  rw [hl] at ho ⊢
  obtain ⟨sa, sn, sc⟩ := s
  have HX := Lib.hid hxs
  clear hl hxs
  by_cases h0 : xs.length = 0
  · obtain rfl := List.eq_nil_of_length_eq_zero h0
    have HB := Lib.hid hb
    clear ho h0 hb
    go_wp2_with (go_at_call 106; refine (Tryz.slices_Sort_int_none sa sc w1).mono ?_; rintro e w2 ⟨rfl, rfl⟩)
    go_wp2_with (go_at_call 107; refine (Tryz.slices_Compact_int_empty sa sc w2).mono ?_; rintro e w3 ⟨rfl, rfl⟩)
    go_wp2
    go_ret
    exact ⟨by rw [← HX.out]; rfl, HB.out⟩
  · obtain ⟨_, h1⟩ := ho
    rcases h1 with ⟨_, h2⟩ | ⟨g, cap, cur, h2, hbase, hh, hc1, hc2, hsz, htk⟩
    · exact absurd h2 h0
    · simp only [Value.slice.injEq, true_and] at h2
      obtain ⟨rfl, rfl⟩ := h2
      rw [Nat.mul_one] at htk
      have hg : g < w1.heap.size := (Array.getElem?_eq_some_iff.1 hh).1
      have hH := holds_of_blockI (ss := xs) hh htk
      have hx4 : xs.length ≤ 2000000 := HN.out
      go_wp2_with (go_at_call 106; refine (Tryz.slices_Sort_int g 0 sc xs w1 hH hg (by omega)).mono ?_; rintro e w2 ⟨rfl, q, os, hw2⟩; replace hw2 := Lib.hid hw2)
      have ho2 := ownsRow_sortedI (base := w.heap.size) (n := q) (os := os) (ss := xs) (ts := srt xs) (srt_len xs) hbase hh hc1 hc2 hsz
      have hb2 := hb.grown (grownBy_sortedI (n := q) (os := os) (g := g) (srt xs).toArray) hb.size (fun k hk => by simp at hk; omega)
      rw [← hw2.out] at ho2 hb2
      clear hw2 hH htk hh hsz hb hbase
      obtain ⟨_, h3⟩ := ho2
      rcases h3 with ⟨h4, _⟩ | ⟨g', cap', cur', h4, hbase, hh, _, _, hsz, htk⟩
      · cases h4
      · simp only [Value.slice.injEq, Option.some.injEq, Addr.mk.injEq, and_true, true_and] at h4
        obtain ⟨rfl, rfl⟩ := h4
        rw [Nat.mul_one, ← srt_len xs] at htk
        have hH := holds_of_blockI (ss := srt xs) hh htk
        have hl2 := srt_len xs
        have hq : (srt xs).length ≤ 9223372036854775807 := by omega
        have hcp : (srt xs).length ≤ sc := by omega
        have HC := Tryz.slices_Compact_int g 0 sc (srt xs) w2 hH hq hcp
        rw [hl2] at HC
        have HI := apart_iff xs
        obtain ⟨m, hm⟩ : ∃ m, m = (Lib.compact (srt xs)).length := ⟨_, rfl⟩
        rw [← hm] at HC HI
        have hm2 : m ≤ 2000000 := by
          have := List.length_filter_le (Lib.keeps (srt xs).toArray) (List.range (srt xs).length)
          have e : m = ((List.range (srt xs).length).filter (Lib.keeps (srt xs).toArray)).length := by rw [hm]; simp [Lib.compact, Lib.compactUpTo]
          rw [List.length_range] at this
          omega
        have HB := Lib.hid hb2
        have HBs := Lib.hid hbase
        have HII := Lib.hid HI
        clear hb2 hbase HI hm hH htk hh hsz
        go_wp2_with (go_loud (go_at_call 107; refine HC.mono ?_; rintro e w3 ⟨rfl, q3, hw3⟩; replace hw3 := Lib.hid hw3))
        have hb3 : RowKit.Below w.heap.size w2 w3 := by
          rw [hw3.out]
          exact (Below.refl _ _).grown (row := some g) (by have := grownBy_sortedI (w := w2) (n := q3) (os := #[]) (g := g) (Lib.compact (srt xs) ++ List.replicate (xs.length - m) 0).toArray; rwa [grow_empty] at this) HB.out.size (fun k hk => by simp at hk; have := HBs.out; omega)
        have HB3 := Lib.hid (HB.out.trans hb3)
        clear hw3 hb3
        go_wp2
        go_ret
        refine ⟨rint ?_, HB3.out⟩
        rw [← HX.out, Bool.eq_iff_iff, beq_iff_eq, decide_eq_true_iff, ← HII.out]
        exact Int.ofNat_inj

theorem apart_next {xs : List Int} {k : Nat} (h : (xs.take k).Nodup) (hk : k < xs.length) (hm : ∀ m, m < k → ¬ xs.getD k 0 = xs.getD m 0) : (xs.take (k + 1)).Nodup := by
  rw [take_next rfl hk]
  unfold List.Nodup at h ⊢
  rw [List.pairwise_append]
  refine ⟨h, by simp, fun a ha b hb => ?_⟩
  simp only [List.mem_singleton] at hb
  subst hb
  obtain ⟨i, hi, rfl⟩ := List.getElem_of_mem ha
  have hik : i < k := by simp at hi; omega
  have := hm i hik
  intro e
  apply this
  rw [← e]
  simp [List.getD, show i < xs.length by omega]
theorem apart_not {xs : List Int} {k j : Nat} (hk : k < xs.length) (hj : j < k) (he : xs.getD k 0 = xs.getD j 0) : decide xs.Nodup = false := by
  simp only [decide_eq_false_iff_not]
  intro h
  unfold List.Nodup at h
  have := List.pairwise_iff_getElem.1 h j k (by omega) hk hj
  apply this
  simpa [List.getD, hk, show j < xs.length by omega] using he.symm

set_option maxHeartbeats 1000000 in
theorem rapart_any (B : Nat) (A : Option Addr) (n c : Nat) (u : Nat → Nat → Sl) (f : Nat → Nat → List Int) (w : World) (h : LRow w B A n u f) (hB : B ≤ w.heap.size) (hn : n ≤ 1000000) (hlen : (allOf f n).length ≤ 2000000) :
    Calls Tryz.prog 123 #[.slice A n c] w (Tells w (decide (allOf f n).Nodup)) := by
  have HL := Lib.hid h
  have HN := Lib.hid hlen
  clear h hlen
  go_enter Tryz.func123, Tryz.ntmps123
  go_wp2_with (go_at_call 142; refine (rall_any B A n c u f w HL.out hB hn HN.out).mono ?_; rintro e w1 ⟨s, rfl, ho, hb⟩; replace ho := Lib.hid ho; replace hb := Lib.hid hb)
  obtain ⟨a1, c1, e1, hr, _, _⟩ := owns_row ho.out
  obtain ⟨xs, hxs⟩ : ∃ xs, xs = allOf f n := ⟨_, rfl⟩
  rw [← hxs] at hr HN
  have hl : s.n = xs.length := hr.1.symm
  rw [hl] at e1 hr ⊢
  obtain ⟨sa, sn, sc⟩ := s
  simp only [Value.slice.injEq, true_and] at e1
  obtain ⟨rfl, rfl⟩ := e1
  have HX := Lib.hid hxs
  have HR := Lib.hid hr
  have hx4 : xs.length ≤ 2000000 := HN.out
  clear hl hxs hr
  go_wp2
  go_loopw [4] (fun i wr => ∃ k d : Nat, k ≤ xs.length ∧ i = .int .i64 k ∧ wr = w1.drewN d ∧ Hid (xs.take k).Nodup) (fun i _ => xs.length - (intOf i).toNat)
  case atStart => exact ⟨0, 0, Nat.zero_le _, rfl, rfl, Lib.hid (by simp)⟩
  case round =>
    obtain ⟨k, d, hk, rfl, rfl, HD⟩ := hrel
    by_cases hlt : k < xs.length
    · have hlt' : (k : Int) < xs.length := by omega
      go_wp2
      go_loopw [5] (fun i wr => ∃ j d : Nat, j ≤ k ∧ i = .int .i64 j ∧ wr = w1.drewN d ∧ Hid (∀ m, m < j → ¬ xs.getD k 0 = xs.getD m 0)) (fun i _ => k - (intOf i).toNat)
      case atStart => exact ⟨0, _, Nat.zero_le _, rfl, rfl, Lib.hid (fun m hm => absurd hm (by omega))⟩
      case round =>
        obtain ⟨j, d, hj, rfl, rfl, HE⟩ := hrel
        by_cases hjk : j < k
        · obtain ⟨b, off, rfl, _, hc⟩ := HR.out.2 (by omega)
          have h1 := hc k hlt
          have h2 := hc j (by omega)
          have hjl : j < xs.length := by omega
          obtain ⟨x, hx⟩ : ∃ x, x = xs.getD k 0 := ⟨_, rfl⟩
          obtain ⟨y, hy⟩ : ∃ y, y = xs.getD j 0 := ⟨_, rfl⟩
          rw [← hx] at h1
          rw [← hy] at h2
          clear hc
          by_cases he : x = y
          · have HO := Lib.hid (apart_not hlt hjk (hx.symm.trans (he.trans hy)))
            subst he
            clear hx hy HE
            go_wp2
            go_quiet (fail)
            go_wp2
            go_ret
            exact ⟨rint (by rw [← HX.out]; exact HO.out.symm), below_drewN (below_drewN hb.out _) _⟩
          · have HE2 : Hid (∀ m, m < j + 1 → ¬ xs.getD k 0 = xs.getD m 0) := Lib.hid fun m hm => by
              by_cases e : m = j
              · rw [e, ← hx, ← hy]; exact he
              · exact HE.out m (by omega)
            have hd : (x == y) = false := by simpa using he
            clear he hx hy HE
            go_wp2
            go_quiet (fail)
            go_wp2
            go_roundw
            case rel => exact ⟨j + 1, _, by omega, by go_num, rfl, HE2⟩
            case measure => simp [intOf]; omega
        · obtain rfl : j = k := by omega
          have HD2 := Lib.hid (apart_next HD.out hlt HE.out)
          clear HE
          go_wp2
          go_roundw
          case rel => exact ⟨j + 1, _, by omega, by go_num, rfl, HD2⟩
          case measure => simp [intOf]; omega
    · obtain rfl : k = xs.length := by omega
      have HO : Hid (decide xs.Nodup = true) := Lib.hid (by have := HD.out; rw [List.take_length] at this; simpa using this)
      go_wp2
      go_ret
      exact ⟨rint (by rw [← HX.out]; exact HO.out.symm), below_drewN hb.out _⟩
end Go.Proofs.YtccjelpfmkbmiaaGreatDoor.Ls
end
section
namespace Go.Proofs.YtccjelpfmkbmiaaGreatDoor
open Go.RowKit
set_option maxRecDepth 100000

def wordsB (n : Nat) : Bool := decide (16 ≤ n ∧ n ≤ 1024 ∧ n % 16 = 0)
theorem rwords_may (A : Option Addr) (n c : Nat) (w : World) (hn : n ≤ 9223372036854775807) : Calls Tryz.prog 119 #[.slice A n c] w fun e w' => e = .returned (.bool (wordsB n)) ∧ w = w' := by
  by_cases h0 : 16 ≤ n
  · have a0 : decide ((16 : Int) ≤ n) = true := by simp; omega
    by_cases h1 : n ≤ 1024
    · have a1 : decide ((n : Int) ≤ 1024) = true := by simp; omega
      by_cases h2 : n % 16 = 0
      · have a2 : ((n : Int) % 16 == 0) = true := by simp; omega
        rw [show wordsB n = true from decide_eq_true ⟨h0, h1, h2⟩]
        clear h0 h1 h2
        go_enter Tryz.func119, Tryz.ntmps119
        go_wp2
        go_ret
        exact ⟨rfl, rfl⟩
      · have a2 : ((n : Int) % 16 == 0) = false := by simp; omega
        rw [show wordsB n = false from decide_eq_false (fun h => h2 h.2.2)]
        clear h0 h1 h2
        go_enter Tryz.func119, Tryz.ntmps119
        go_wp2
        go_ret
        exact ⟨rfl, rfl⟩
    · have a1 : decide ((n : Int) ≤ 1024) = false := by simp; omega
      rw [show wordsB n = false from decide_eq_false (fun h => h1 h.2.1)]
      clear h0 h1
      go_enter Tryz.func119, Tryz.ntmps119
      go_wp2
      go_ret
      exact ⟨rfl, rfl⟩
  · have a0 : decide ((16 : Int) ≤ n) = false := by simp; omega
    rw [show wordsB n = false from decide_eq_false (fun h => h0 h.1)]
    clear h0
    go_enter Tryz.func119, Tryz.ntmps119
    go_wp2
    go_ret
    exact ⟨rfl, rfl⟩
/-- What is looked at first: words, pages, and that there are as many words, and cards, as pages have. -/
def firstB (s : Hs) (d : Hd_) : Bool := wordsB s.w.n && (Cl.mayB d.f s.p.n && (decide (s.w.n = 16 * s.p.n) && decide (s.c.n = 2 * s.p.n)))
theorem rmay_first (s : Hs) (d : Hd_) (A : Option Addr) (m c : Nat) (w : World) (hp : Hp w w.heap.size s d) (hwn : s.w.n ≤ 4000) (hpn : s.p.n ≤ 1000) (hf : firstB s d = false) :
    Calls Tryz.prog 77 #[(.agg #[.slice s.w.a s.w.n s.w.c, .slice s.p.a s.p.n s.p.c, .slice (s.u 0).a (s.u 0).n (s.u 0).c, .slice (s.u 1).a (s.u 1).n (s.u 1).c, .slice (s.u 2).a (s.u 2).n (s.u 2).c, .slice s.c.a s.c.n s.c.c]), .slice A m c] w fun e w' => e = .returned (.bool false) ∧ Below w.heap.size w w' := by
  have HP := Lib.hid hp
  have key : ∀ (b1 b2 b3 b4 : Bool), wordsB s.w.n = b1 → Cl.mayB d.f s.p.n = b2 → ((s.w.n : Int) == 16 * (s.p.n : Int)) = b3 → ((s.c.n : Int) == 2 * (s.p.n : Int)) = b4 → (b1 && (b2 && (b3 && b4))) = false →
      Calls Tryz.prog 77 #[(.agg #[.slice s.w.a s.w.n s.w.c, .slice s.p.a s.p.n s.p.c, .slice (s.u 0).a (s.u 0).n (s.u 0).c, .slice (s.u 1).a (s.u 1).n (s.u 1).c, .slice (s.u 2).a (s.u 2).n (s.u 2).c, .slice s.c.a s.c.n s.c.c]), .slice A m c] w fun e w' => e = .returned (.bool false) ∧ Below w.heap.size w w' := by
    intro b1 b2 b3 b4 e1 e2 e3 e4 hall
    have E1 := Lib.hid e1
    have E2 := Lib.hid e2
    have n3 : ((s.w.n : Int) != 16 * (s.p.n : Int)) = !b3 := by rw [← e3]; rfl
    have n4 : ((s.c.n : Int) != 2 * (s.p.n : Int)) = !b4 := by rw [← e4]; rfl
    clear e1 e2 e3 e4 hp hf
    go_enter Tryz.func77, Tryz.ntmps77
    go_wp2_with fail
    refine (rwords_may _ _ _ _ (by omega)).mono ?_
    rw [E1.out]
    rintro r w1 ⟨rfl, rfl⟩
    go_wp2_with fail
    have hb0 := (Below.refl w.heap.size w).alloc (Nat.le_refl _) (.cells #[.slice s.w.a s.w.n s.w.c, .slice s.p.a s.p.n s.p.c, .slice (s.u 0).a (s.u 0).n (s.u 0).c, .slice (s.u 1).a (s.u 1).n (s.u 1).c, .slice (s.u 2).a (s.u 2).n (s.u 2).c, .slice s.c.a s.c.n s.c.c] 28)
    refine (Cl.rmay_any w.heap.size s.p.a s.p.n s.p.c d.f _ hpn (HP.out.pages.below hb0) (by simp)).mono ?_
    rw [E2.out]
    rintro r w1 ⟨rfl, hb1⟩
    have HB1 := (HBox.new w s 28).next hb1
    have q0 := HB1.c0
    have q1 := HB1.c1
    have q5 := HB1.c5
    have ql := HB1.lt
    have BW := Lib.hid (hb0.trans (hb1.mono (by simp)))
    clear hb1 hb0 HB1
    cases b1
    · clear hall
      go_wp2
      go_ret
      exact ⟨rfl, BW.out⟩
    cases b2
    · clear hall
      go_wp2
      go_ret
      exact ⟨rfl, BW.out⟩
    cases b3
    · clear hall
      go_wp2
      go_ret
      exact ⟨rfl, BW.out⟩
    cases b4
    · clear hall
      go_wp2
      go_ret
      exact ⟨rfl, BW.out⟩
    · cases hall
  refine key _ _ _ _ rfl rfl rfl rfl ?_
  rw [← hf, firstB]
  congr 3
  · rw [Bool.eq_iff_iff, beq_iff_eq, decide_eq_true_iff]
    omega
  · rw [Bool.eq_iff_iff, beq_iff_eq, decide_eq_true_iff]
    omega
end Go.Proofs.YtccjelpfmkbmiaaGreatDoor
end
section
namespace Go.Proofs.YtccjelpfmkbmiaaGreatDoor
open Go.RowKit
set_option maxRecDepth 100000
attribute [local go_sem ↓] Go.wp_at_zero Go.wp_at_succ

def cellAt (d : Hd_) (a : Int) : Bool := cellB (d.ws.getD (a - 16).toNat 0) (d.f (a / 16 - 1).toNat)
/-- In the midst of a walk through a heap's function: the box, all that was there. -/
structure HNow (w wr : World) (s : Hs) (d : Hd_) : Prop where
  box : HBox wr w.heap.size s
  bel : Below w.heap.size w wr
  hp : Hp wr w.heap.size s d
theorem HNow.next {w wr w' : World} {s : Hs} {d : Hd_} (h : HNow w wr s d) (hb : Below wr.heap.size wr w') : HNow w w' s d :=
  ⟨h.box.next hb, h.bel.trans (hb.mono h.bel.size), h.hp.below (hb.mono h.bel.size)⟩
theorem HNow.all {w wr : World} {s : Hs} {d : Hd_} (h : HNow w wr s d) : Hp wr wr.heap.size s d := h.hp.more h.bel.size
theorem allS_in {d : Hd_} {n : Nat} {a : Int} (h : a ∈ Cl.allS d.f n) : 16 ≤ a ∧ a < 16 + 16 * (n : Int) := by
  obtain ⟨c, hc, rfl⟩ := List.mem_map.1 h
  obtain ⟨_, k, j, hk, _, _, rfl, h0, h1⟩ := Cl.cell_page hc
  simp only
  omega
theorem rcell_at {w wr : World} {s : Hs} {d : Hd_} (h : HNow w wr s d) (a : Int) (hw : s.w.n = 16 * s.p.n) (hpn : s.p.n ≤ 64) (ha : 16 ≤ a ∧ a < 16 + 16 * (s.p.n : Int)) (hv : ∀ i, -9223372036854775808 ≤ d.ws.getD i 0 ∧ d.ws.getD i 0 ≤ 9223372036854775807) :
    Calls Tryz.prog 121 #[(.agg #[.slice s.w.a s.w.n s.w.c, .slice s.p.a s.p.n s.p.c, .slice (s.u 0).a (s.u 0).n (s.u 0).c, .slice (s.u 1).a (s.u 1).n (s.u 1).c, .slice (s.u 2).a (s.u 2).n (s.u 2).c, .slice s.c.a s.c.n s.c.c]), .int .i64 a] wr fun e w' => e = .returned (.bool (cellAt d a)) ∧ Below wr.heap.size wr w' :=
  rcell_any s d wr a (a - 16).toNat (a / 16 - 1).toNat h.all (by omega) (by omega) (by omega) (by omega) (by omega) (by omega) (hv _).1 (hv _).2
theorem hold_of {w wr : World} {s : Hs} {d : Hd_} {b : Nat} {o : Nat} {y : Int} (h : HNow w wr s d) (hy : wr.cell? ⟨b, o, none⟩ = some (.int .i64 y)) (hl : b < wr.heap.size) :
    (HNow w wr s d ∧ b < wr.heap.size) ∧ w.heap.size < wr.heap.size ∧ wr.cell? ⟨w.heap.size, 0, none⟩ = some (.slice s.w.a s.w.n s.w.c) ∧ wr.cell? ⟨w.heap.size, 1, none⟩ = some (.slice s.p.a s.p.n s.p.c) ∧ wr.cell? ⟨w.heap.size, 2, none⟩ = some (.slice (s.u 0).a (s.u 0).n (s.u 0).c) ∧ wr.cell? ⟨w.heap.size, 3, none⟩ = some (.slice (s.u 1).a (s.u 1).n (s.u 1).c) ∧ wr.cell? ⟨w.heap.size, 4, none⟩ = some (.slice (s.u 2).a (s.u 2).n (s.u 2).c) ∧ wr.cell? ⟨w.heap.size, 5, none⟩ = some (.slice s.c.a s.c.n s.c.c) ∧ wr.cell? ⟨b, o, none⟩ = some (.int .i64 y) :=
  ⟨⟨h, hl⟩, h.box.lt, h.box.c0, h.box.c1, h.box.c2, h.box.c3, h.box.c4, h.box.c5, hy⟩
theorem hold_next {w W W' : World} {s : Hs} {d : Hd_} {b : Nat} {O : Nat} {y : Int} (h : (HNow w W s d ∧ b < W.heap.size) ∧ w.heap.size < W.heap.size ∧ W.cell? ⟨w.heap.size, 0, none⟩ = some (.slice s.w.a s.w.n s.w.c) ∧ W.cell? ⟨w.heap.size, 1, none⟩ = some (.slice s.p.a s.p.n s.p.c) ∧ W.cell? ⟨w.heap.size, 2, none⟩ = some (.slice (s.u 0).a (s.u 0).n (s.u 0).c) ∧ W.cell? ⟨w.heap.size, 3, none⟩ = some (.slice (s.u 1).a (s.u 1).n (s.u 1).c) ∧ W.cell? ⟨w.heap.size, 4, none⟩ = some (.slice (s.u 2).a (s.u 2).n (s.u 2).c) ∧ W.cell? ⟨w.heap.size, 5, none⟩ = some (.slice s.c.a s.c.n s.c.c) ∧ W.cell? ⟨b, O, none⟩ = some (.int .i64 y)) (hb : Below W.heap.size W W') : (HNow w W' s d ∧ b < W'.heap.size) ∧ w.heap.size < W'.heap.size ∧ W'.cell? ⟨w.heap.size, 0, none⟩ = some (.slice s.w.a s.w.n s.w.c) ∧ W'.cell? ⟨w.heap.size, 1, none⟩ = some (.slice s.p.a s.p.n s.p.c) ∧ W'.cell? ⟨w.heap.size, 2, none⟩ = some (.slice (s.u 0).a (s.u 0).n (s.u 0).c) ∧ W'.cell? ⟨w.heap.size, 3, none⟩ = some (.slice (s.u 1).a (s.u 1).n (s.u 1).c) ∧ W'.cell? ⟨w.heap.size, 4, none⟩ = some (.slice (s.u 2).a (s.u 2).n (s.u 2).c) ∧ W'.cell? ⟨w.heap.size, 5, none⟩ = some (.slice s.c.a s.c.n s.c.c) ∧ W'.cell? ⟨b, O, none⟩ = some (.int .i64 y) :=
  hold_of (h.1.1.next hb) ((hb.cell (p := ⟨b, O, none⟩) h.1.2).trans h.2.2.2.2.2.2.2.2) (Nat.lt_of_lt_of_le h.1.2 hb.size)

theorem hold2_of {w W : World} {s : Hs} {d : Hd_} {b b2 o o2 : Nat} {v v2 : Value} (h : HNow w W s d) (h1 : W.cell? ⟨b, o, none⟩ = some v) (h2 : W.cell? ⟨b2, o2, none⟩ = some v2) (l1 : b < W.heap.size) (l2 : b2 < W.heap.size) : (HNow w W s d ∧ b < W.heap.size ∧ b2 < W.heap.size) ∧ w.heap.size < W.heap.size ∧ W.cell? ⟨w.heap.size, 0, none⟩ = some (.slice s.w.a s.w.n s.w.c) ∧ W.cell? ⟨w.heap.size, 1, none⟩ = some (.slice s.p.a s.p.n s.p.c) ∧ W.cell? ⟨w.heap.size, 2, none⟩ = some (.slice (s.u 0).a (s.u 0).n (s.u 0).c) ∧ W.cell? ⟨w.heap.size, 3, none⟩ = some (.slice (s.u 1).a (s.u 1).n (s.u 1).c) ∧ W.cell? ⟨w.heap.size, 4, none⟩ = some (.slice (s.u 2).a (s.u 2).n (s.u 2).c) ∧ W.cell? ⟨w.heap.size, 5, none⟩ = some (.slice s.c.a s.c.n s.c.c) ∧ W.cell? ⟨b, o, none⟩ = some v ∧ W.cell? ⟨b2, o2, none⟩ = some v2 :=
  ⟨⟨h, l1, l2⟩, h.box.lt, h.box.c0, h.box.c1, h.box.c2, h.box.c3, h.box.c4, h.box.c5, h1, h2⟩
theorem hold2_next {w W W' : World} {s : Hs} {d : Hd_} {b b2 o o2 : Nat} {v v2 : Value} (h : (HNow w W s d ∧ b < W.heap.size ∧ b2 < W.heap.size) ∧ w.heap.size < W.heap.size ∧ W.cell? ⟨w.heap.size, 0, none⟩ = some (.slice s.w.a s.w.n s.w.c) ∧ W.cell? ⟨w.heap.size, 1, none⟩ = some (.slice s.p.a s.p.n s.p.c) ∧ W.cell? ⟨w.heap.size, 2, none⟩ = some (.slice (s.u 0).a (s.u 0).n (s.u 0).c) ∧ W.cell? ⟨w.heap.size, 3, none⟩ = some (.slice (s.u 1).a (s.u 1).n (s.u 1).c) ∧ W.cell? ⟨w.heap.size, 4, none⟩ = some (.slice (s.u 2).a (s.u 2).n (s.u 2).c) ∧ W.cell? ⟨w.heap.size, 5, none⟩ = some (.slice s.c.a s.c.n s.c.c) ∧ W.cell? ⟨b, o, none⟩ = some v ∧ W.cell? ⟨b2, o2, none⟩ = some v2) (hb : Below W.heap.size W W') : (HNow w W' s d ∧ b < W'.heap.size ∧ b2 < W'.heap.size) ∧ w.heap.size < W'.heap.size ∧ W'.cell? ⟨w.heap.size, 0, none⟩ = some (.slice s.w.a s.w.n s.w.c) ∧ W'.cell? ⟨w.heap.size, 1, none⟩ = some (.slice s.p.a s.p.n s.p.c) ∧ W'.cell? ⟨w.heap.size, 2, none⟩ = some (.slice (s.u 0).a (s.u 0).n (s.u 0).c) ∧ W'.cell? ⟨w.heap.size, 3, none⟩ = some (.slice (s.u 1).a (s.u 1).n (s.u 1).c) ∧ W'.cell? ⟨w.heap.size, 4, none⟩ = some (.slice (s.u 2).a (s.u 2).n (s.u 2).c) ∧ W'.cell? ⟨w.heap.size, 5, none⟩ = some (.slice s.c.a s.c.n s.c.c) ∧ W'.cell? ⟨b, o, none⟩ = some v ∧ W'.cell? ⟨b2, o2, none⟩ = some v2 :=
  hold2_of (h.1.1.next hb) ((hb.cell (p := ⟨b, o, none⟩) h.1.2.1).trans h.2.2.2.2.2.2.2.2.1) ((hb.cell (p := ⟨b2, o2, none⟩) h.1.2.2).trans h.2.2.2.2.2.2.2.2.2) (Nat.lt_of_lt_of_le h.1.2.1 hb.size) (Nat.lt_of_lt_of_le h.1.2.2 hb.size)

set_option maxHeartbeats 2000000 in
theorem rmay_rest (s : Hs) (d : Hd_) (A : Option Addr) (m c : Nat) (U : Nat → Nat → Ls.Sl) (F : Nat → Nat → List Int) (w : World) (hp : Hp w w.heap.size s d) (hl : Ls.LRow w w.heap.size A m U F) (hm : m ≤ 1000) (hw : s.w.n = 16 * s.p.n) (hcd : s.c.n = 2 * s.p.n) (hpm : Cl.mayB d.f s.p.n = true) (hwm : wordsB s.w.n = true)
    (hv : ∀ i, -9223372036854775808 ≤ d.ws.getD i 0 ∧ d.ws.getD i 0 ≤ 9223372036854775807) (hlen : (Ls.allOf (ahead d.F F) (1 + m)).length ≤ 2000000) (R : Bool) (h1 : (∃ a, a ∈ Cl.allS d.f s.p.n ∧ cellAt d a = false) → R = false)
    (h2 : (∃ k j q, k < 1 + m ∧ j < 3 ∧ q < (ahead d.F F k j).length ∧ freeH d s.p.n ((ahead d.F F k j).getD q 0) (j : Nat) = false) → R = false)
    (h3 : (∀ j, j < (Cl.allS d.f s.p.n).length → cellAt d ((Cl.allS d.f s.p.n).getD j 0) = true) → (∀ k, k < 1 + m → ∀ j, j < 3 → ∀ q, q < (ahead d.F F k j).length → freeH d s.p.n ((ahead d.F F k j).getD q 0) (j : Nat) = true) → R = decide (Ls.allOf (ahead d.F F) (1 + m)).Nodup) :
    Calls Tryz.prog 77 #[(.agg #[.slice s.w.a s.w.n s.w.c, .slice s.p.a s.p.n s.p.c, .slice (s.u 0).a (s.u 0).n (s.u 0).c, .slice (s.u 1).a (s.u 1).n (s.u 1).c, .slice (s.u 2).a (s.u 2).n (s.u 2).c, .slice s.c.a s.c.n s.c.c]), .slice A m c] w fun e w' => e = .returned (.bool R) ∧ Below w.heap.size w w' := by
  have hpn : s.p.n ≤ 64 := ((Cl.mayB_iff _ _).1 hpm).2.1
  have HP := Lib.hid hp
  have E1 := Lib.hid hwm
  have E2 := Lib.hid hpm
  have H1 := Lib.hid h1
  have HV := Lib.hid hv
  have HW := Lib.hid hw
  have n3 : ((s.w.n : Int) != 16 * (s.p.n : Int)) = false := by simp; omega
  have n4 : ((s.c.n : Int) != 2 * (s.p.n : Int)) = false := by simp; omega
  have HL := Lib.hid hl
  have H2 := Lib.hid h2
  have H3 := Lib.hid h3
  have HLEN := Lib.hid hlen
  clear hp hwm hpm h1 h2 h3 hlen hv hw hcd hl
  go_enter Tryz.func77, Tryz.ntmps77
  go_wp2_with fail
  refine (rwords_may _ _ _ _ (by have := HW.out; omega)).mono ?_
  rw [E1.out]
  rintro r w1 ⟨rfl, rfl⟩
  go_wp2_with fail
  have hb0 := (Below.refl w.heap.size w).alloc (Nat.le_refl _) (.cells #[.slice s.w.a s.w.n s.w.c, .slice s.p.a s.p.n s.p.c, .slice (s.u 0).a (s.u 0).n (s.u 0).c, .slice (s.u 1).a (s.u 1).n (s.u 1).c, .slice (s.u 2).a (s.u 2).n (s.u 2).c, .slice s.c.a s.c.n s.c.c] 28)
  refine (Cl.rmay_any w.heap.size s.p.a s.p.n s.p.c d.f _ (by omega) (HP.out.pages.below hb0) (by simp)).mono ?_
  rw [E2.out]
  rintro r w1 ⟨rfl, hb1⟩
  have HB1 := (HBox.new w s 28).next hb1
  have hbw := hb0.trans (hb1.mono (by simp))
  have N1 := Lib.hid (HNow.mk (d := d) HB1 hbw (HP.out.below hbw))
  have q0 := HB1.c0
  have q1 := HB1.c1
  have q5 := HB1.c5
  have ql := HB1.lt
  clear hb1 hb0 HB1 hbw
  go_wp2_with fail
  refine (Cl.rall_any w.heap.size s.p.a s.p.n s.p.c d.f _ (by omega) N1.out.hp.pages N1.out.bel.size).mono ?_
  rintro r w2 ⟨la, lc, rfl, hrow, _, _, hb2⟩
  have N2 := Lib.hid (N1.out.next hb2)
  have hxs : (Cl.allS d.f s.p.n).length ≤ 100000 := by
    have := Cl.allS_short d.f s.p.n (Cl.allS d.f s.p.n).length
    rw [List.take_length] at this
    omega
  have HIN := Lib.hid (fun a (h : a ∈ Cl.allS d.f s.p.n) => allS_in h)
  generalize Cl.allS d.f s.p.n = xs at hrow hxs H1 H3 HIN ⊢
  have HR := Lib.hid (And.intro hrow hb2)
  obtain ⟨n, hn⟩ : ∃ n, xs.length = n := ⟨_, rfl⟩
  have HN := Lib.hid hn
  rw [hn] at hxs HR ⊢
  clear hrow hb2 q0 q1 q5 ql N1 hn n3 n4
  go_wp2
  go_loopw [8] (fun i wr => ∃ q : Nat, q ≤ n ∧ i = .int .i64 q ∧ Hid (∀ j, j < q → cellAt d (xs.getD j 0) = true) ∧ Hid (HNow w wr s d) ∧ Hid (Row wr wr.heap.size la n xs)) (fun i _ => n - (intOf i).toNat)
  case atStart => exact ⟨0, Nat.zero_le _, rfl, Lib.hid (fun j h => absurd h (by omega)), N2, Lib.hid HR.out.1⟩
  case round =>
    obtain ⟨q, hq, rfl, HG, HH, HX⟩ := hrel
    by_cases hlt : q < n
    · obtain ⟨b, off, rfl, hbl, hcell⟩ := HX.out.2 (by omega)
      have hq1 := hcell q hlt
      obtain ⟨y, hy⟩ : ∃ y, y = xs.getD q 0 := ⟨_, rfl⟩
      rw [← hy] at hq1
      have hmem : y ∈ xs := by
        have : xs[q]? = some y := by rw [hy]; simp [List.getD, List.getElem?_eq_getElem (show q < xs.length by have := HN.out; omega)]
        exact List.mem_of_getElem? this
      have j0 : (0 : Int) ≤ q := by omega
      have j1 : (q : Int) < n := by omega
      have HC := Lib.hid (fun (W : World) (hW : HNow w W s d) => rcell_at hW y HW.out hpn (HIN.out y hmem) HV.out)
      have HM := Lib.hid hmem
      have HY := Lib.hid hy
      have HQ := Lib.hid (And.intro hq1 hbl)
      have bq := HH.out.box
      have q0 := bq.c0
      have q1 := bq.c1
      have q2 := bq.c2
      have q3 := bq.c3
      have q4 := bq.c4
      have q5 := bq.c5
      have ql := bq.lt
      clear hcell hmem hy bq
      go_wp2
      have hstart := hold_of HH.out HQ.out.1 HQ.out.2
      have HST := Lib.hid hstart
      clear hstart
      cases hc : cellAt d y
      · have HR0 : R = false := H1.out ⟨y, HM.out, hc⟩
        rw [hc] at HC
        subst HR0
        go_region_held3 (fun w' => (HNow w w' s d ∧ b < w'.heap.size) ∧ w.heap.size < w'.heap.size ∧ w'.cell? ⟨w.heap.size, 0, none⟩ = some (.slice s.w.a s.w.n s.w.c) ∧ w'.cell? ⟨w.heap.size, 1, none⟩ = some (.slice s.p.a s.p.n s.p.c) ∧ w'.cell? ⟨w.heap.size, 2, none⟩ = some (.slice (s.u 0).a (s.u 0).n (s.u 0).c) ∧ w'.cell? ⟨w.heap.size, 3, none⟩ = some (.slice (s.u 1).a (s.u 1).n (s.u 1).c) ∧ w'.cell? ⟨w.heap.size, 4, none⟩ = some (.slice (s.u 2).a (s.u 2).n (s.u 2).c) ∧ w'.cell? ⟨w.heap.size, 5, none⟩ = some (.slice s.c.a s.c.n s.c.c) ∧ w'.cell? ⟨b, off + q, none⟩ = some (.int .i64 y)) (first
          | exact hold_next HST.out (below_drawn' (Below.refl _ _) 1)
          | exact hold_next ‹(HNow w _ s d ∧ _) ∧ _› ‹Below _ _ _›) (first
          | ((go_at_call 121; refine (HC.out _ (‹(HNow w _ s d ∧ _) ∧ _›).1.1).mono ?_; rintro e w3 ⟨rfl, hb3⟩)))
        have HF := Lib.hid (‹(HNow w w3 s d ∧ _) ∧ _›).1.1
        clear q0 q1 q2 q3 q4 q5 ql hq1 hbl
        go_wp2
        go_ret
        exact ⟨rfl, HF.out.bel⟩
      · rw [hc] at HC
        go_region_held3 (fun w' => (HNow w w' s d ∧ b < w'.heap.size) ∧ w.heap.size < w'.heap.size ∧ w'.cell? ⟨w.heap.size, 0, none⟩ = some (.slice s.w.a s.w.n s.w.c) ∧ w'.cell? ⟨w.heap.size, 1, none⟩ = some (.slice s.p.a s.p.n s.p.c) ∧ w'.cell? ⟨w.heap.size, 2, none⟩ = some (.slice (s.u 0).a (s.u 0).n (s.u 0).c) ∧ w'.cell? ⟨w.heap.size, 3, none⟩ = some (.slice (s.u 1).a (s.u 1).n (s.u 1).c) ∧ w'.cell? ⟨w.heap.size, 4, none⟩ = some (.slice (s.u 2).a (s.u 2).n (s.u 2).c) ∧ w'.cell? ⟨w.heap.size, 5, none⟩ = some (.slice s.c.a s.c.n s.c.c) ∧ w'.cell? ⟨b, off + q, none⟩ = some (.int .i64 y)) (first
          | exact hold_next HST.out (below_drawn' (Below.refl _ _) 1)
          | exact hold_next ‹(HNow w _ s d ∧ _) ∧ _› ‹Below _ _ _›) (first
          | ((go_at_call 121; refine (HC.out _ (‹(HNow w _ s d ∧ _) ∧ _›).1.1).mono ?_; rintro e w3 ⟨rfl, hb3⟩)))
        have HF := Lib.hid (‹(HNow w w3 s d ∧ _) ∧ _›).1.1
        have HX3 : Hid (Row w3 w3.heap.size (some ⟨b, off, none⟩) n xs) := Lib.hid ((Row.below (HX.out.below (below_drawn' (Below.refl _ _) 1)) hb3).more hb3.size)
        have HG3 : Hid (∀ j, j < q + 1 → cellAt d (xs.getD j 0) = true) := Lib.hid (fun j hj => by
          by_cases e : j = q
          · rw [e, ← HY.out]; exact hc
          · exact HG.out j (by omega))
        clear q0 q1 q2 q3 q4 q5 ql hq1 hbl hb3 hc
        go_wp2
        go_roundw
        case rel => exact ⟨q + 1, by omega, by go_num, HG3, HF, HX3⟩
        case measure => simp [intOf]; omega
    · obtain rfl : q = n := by omega
      clear hlt
      have bq := HH.out.box
      have q0 := bq.c0
      have q1 := bq.c1
      have q2 := bq.c2
      have q3 := bq.c3
      have q4 := bq.c4
      have q5 := bq.c5
      have ql := bq.lt
      clear bq
      go_wp2_with (at_builtin; refine list_glue rfl (.tmp 63) (.tmp 64) rfl rfl rfl HH.out.hp.free HH.out.bel.size (HL.out.below HH.out.bel) hm ?_)
      intro A' cap w3 hl3 hb3
      have N3 := Lib.hid (HH.out.next hb3)
      have HL3 := Lib.hid hl3
      have HG3 := Lib.hid (H3.out (fun j hj => HG.out j (by have := HN.out; omega)))
      clear hl3 hb3 q0 q1 q2 q3 q4 q5 ql HX HG H3 HH HR HL N2
      generalize ahead s.u U = U' at HL3 ⊢
      generalize ahead d.F F = F' at HL3 HG3 H2 HLEN ⊢
      obtain ⟨N, hN⟩ : ∃ N, 1 + m = N := ⟨_, rfl⟩
      rw [hN] at HL3 HG3 H2 HLEN ⊢
      have hN2 : N ≤ 2000 := by omega
      clear hN
      go_wp2
      go_loopw [10, 11, 12] (fun i _ _ wr => ∃ k : Nat, k ≤ N ∧ i = .int .i64 k ∧ Hid (HNow w wr s d ∧ Below w3.heap.size w3 wr) ∧ Hid (∀ k', k' < k → ∀ j, j < 3 → ∀ q, q < (F' k' j).length → freeH d s.p.n ((F' k' j).getD q 0) (j : Nat) = true)) (fun i _ _ _ => N - (intOf i).toNat)
      case atStart => exact ⟨0, Nat.zero_le _, rfl, Lib.hid ⟨N3.out, Below.refl _ _⟩, Lib.hid (fun k' h => absurd h (by omega))⟩
      case round =>
        obtain ⟨k, hk, rfl, HS, HG1⟩ := hrel
        by_cases hlt : k < N
        · obtain ⟨b, off, rfl, hbB, hc⟩ := HL3.out (by omega)
          have HC := Lib.hid (hc k hlt)
          clear hc
          obtain ⟨wo, rfl⟩ : ∃ wo : World, wo = wr := ⟨_, rfl⟩
          go_wp2
          go_loopw [11, 12] (fun i _ wr => ∃ j : Nat, j ≤ 3 ∧ i = .int .i64 j ∧ Hid (HNow w wr s d ∧ Below w3.heap.size w3 wr) ∧ Hid (∀ j', j' < j → ∀ q, q < (F' k j').length → freeH d s.p.n ((F' k j').getD q 0) (j' : Nat) = true)) (fun i _ _ => 3 - (intOf i).toNat)
          case atStart => exact ⟨0, Nat.zero_le _, rfl, HS, Lib.hid (fun k' h => absurd h (by omega))⟩
          case round =>
            obtain ⟨j, hj, rfl, HS2, HG2⟩ := hrel
            by_cases hlt3 : j < 3
            · have HXX := Lib.hid (Ls.part_len F' hlt hlt3)
              obtain ⟨wi, rfl⟩ : ∃ wi : World, wi = wr := ⟨_, rfl⟩
              have hlt3' : (j : Int) < 3 := by omega
              have J3 := Lib.hid hlt3
              go_wp2
              go_loopw [12] (fun i wr => ∃ q : Nat, q ≤ (U' k j).n ∧ i = .int .i64 q ∧ Hid (HNow w wr s d ∧ Below w3.heap.size w3 wr) ∧ Hid (∀ q', q' < q → freeH d s.p.n ((F' k j).getD q' 0) (j : Nat) = true)) (fun i _ => (U' k j).n - (intOf i).toNat)
              case atStart => exact ⟨0, Nat.zero_le _, rfl, HS2, Lib.hid (fun k' h => absurd h (by omega))⟩
              case round =>
                obtain ⟨q, hq, rfl, HS3, HG4⟩ := hrel
                have hl3 := (HC.out.2.over HS3.out.2 (Nat.le_refl _)) j J3.out
                have hcj := (HS3.out.2.cell (p := ⟨b, off + k * 3 + j, none⟩) hbB).trans (HC.out.1 j J3.out)
                have hbs : b < wr.heap.size := by have := HS3.out.2.size; omega
                have hln := Lib.hid hl3.1.1
                by_cases hltq : q < (U' k j).n
                · obtain ⟨b2, off2, e2, hb2, hc2⟩ := hl3.1.2 (by omega)
                  have hnum := hc2 q hltq
                  have hbs2 : b2 < wr.heap.size := by have := HS3.out.2.size; omega
                  obtain ⟨y, hy⟩ : ∃ y, y = (F' k j).getD q 0 := ⟨_, rfl⟩
                  rw [← hy] at hnum
                  have HY := Lib.hid hy
                  clear hc2 hl3 hy
                  have hun : (U' k j).n ≤ 2000000 := by have := HXX.out; have := HLEN.out; have := hln.out; omega
                  have j0 : (0 : Int) ≤ q := by omega
                  have j1 : (q : Int) < (U' k j).n := by omega
                  have k0 : (0 : Int) ≤ k := by omega
                  have k1 : (k : Int) < N := by omega
                  have jj0 : (0 : Int) ≤ j := by omega
                  have HFR := Lib.hid (fun (W : World) (hW : HNow w W s d) => rfree_any s d W y (j : Nat) hW.all HW.out (by omega))
                  have hstart := hold2_of HS3.out.1 hcj hnum hbs hbs2
                  have HST := Lib.hid hstart
                  have bq := HS3.out.1.box
                  have q0 := bq.c0
                  have q1 := bq.c1
                  have q2 := bq.c2
                  have q3 := bq.c3
                  have q4 := bq.c4
                  have q5 := bq.c5
                  have ql := bq.lt
                  have HQ := Lib.hid hltq
                  clear hstart bq
                  go_wp2
                  cases hc : freeH d s.p.n y (j : Nat)
                  · have HR0 : R = false := H2.out ⟨k, j, q, hlt, J3.out, by have := hln.out; omega, by rw [← HY.out]; exact hc⟩
                    rw [hc] at HFR
                    subst HR0
                    go_region_held3 (fun w' => (HNow w w' s d ∧ b < w'.heap.size ∧ b2 < w'.heap.size) ∧ w.heap.size < w'.heap.size ∧ w'.cell? ⟨w.heap.size, 0, none⟩ = some (.slice s.w.a s.w.n s.w.c) ∧ w'.cell? ⟨w.heap.size, 1, none⟩ = some (.slice s.p.a s.p.n s.p.c) ∧ w'.cell? ⟨w.heap.size, 2, none⟩ = some (.slice (s.u 0).a (s.u 0).n (s.u 0).c) ∧ w'.cell? ⟨w.heap.size, 3, none⟩ = some (.slice (s.u 1).a (s.u 1).n (s.u 1).c) ∧ w'.cell? ⟨w.heap.size, 4, none⟩ = some (.slice (s.u 2).a (s.u 2).n (s.u 2).c) ∧ w'.cell? ⟨w.heap.size, 5, none⟩ = some (.slice s.c.a s.c.n s.c.c) ∧ w'.cell? ⟨b, off + k * 3 + j, none⟩ = some (.slice (U' k j).a (U' k j).n (U' k j).c) ∧ w'.cell? ⟨b2, off2 + q, none⟩ = some (.int .i64 y)) (first
                      | exact hold2_next HST.out (below_drawn' (Below.refl _ _) 1)
                      | exact hold2_next ‹(HNow w _ s d ∧ _) ∧ _› ‹Below _ _ _›) (first
                      | ((go_at_call 122; refine (HFR.out _ (‹(HNow w _ s d ∧ _) ∧ _›).1.1).mono ?_; rintro e w4 ⟨rfl, hb4⟩)))
                    have HF := Lib.hid (‹(HNow w w4 s d ∧ _) ∧ _›).1.1
                    clear q0 q1 q2 q3 q4 q5 ql hcj hnum hb4 hc
                    go_wp2
                    go_ret
                    exact ⟨rfl, HF.out.bel⟩
                  · rw [hc] at HFR
                    go_region_held3 (fun w' => (HNow w w' s d ∧ b < w'.heap.size ∧ b2 < w'.heap.size) ∧ w.heap.size < w'.heap.size ∧ w'.cell? ⟨w.heap.size, 0, none⟩ = some (.slice s.w.a s.w.n s.w.c) ∧ w'.cell? ⟨w.heap.size, 1, none⟩ = some (.slice s.p.a s.p.n s.p.c) ∧ w'.cell? ⟨w.heap.size, 2, none⟩ = some (.slice (s.u 0).a (s.u 0).n (s.u 0).c) ∧ w'.cell? ⟨w.heap.size, 3, none⟩ = some (.slice (s.u 1).a (s.u 1).n (s.u 1).c) ∧ w'.cell? ⟨w.heap.size, 4, none⟩ = some (.slice (s.u 2).a (s.u 2).n (s.u 2).c) ∧ w'.cell? ⟨w.heap.size, 5, none⟩ = some (.slice s.c.a s.c.n s.c.c) ∧ w'.cell? ⟨b, off + k * 3 + j, none⟩ = some (.slice (U' k j).a (U' k j).n (U' k j).c) ∧ w'.cell? ⟨b2, off2 + q, none⟩ = some (.int .i64 y)) (first
                      | exact hold2_next HST.out (below_drawn' (Below.refl _ _) 1)
                      | exact hold2_next ‹(HNow w _ s d ∧ _) ∧ _› ‹Below _ _ _›) (first
                      | ((go_at_call 122; refine (HFR.out _ (‹(HNow w _ s d ∧ _) ∧ _›).1.1).mono ?_; rintro e w4 ⟨rfl, hb4⟩)))
                    have HF := Lib.hid (‹(HNow w w4 s d ∧ _) ∧ _›).1.1
                    have HB4 : Hid (HNow w w4 s d ∧ Below w3.heap.size w3 w4) := Lib.hid ⟨HF.out, HS3.out.2.trans (((below_drawn' (Below.refl wr.heap.size wr) 1).trans hb4).mono HS3.out.2.size)⟩
                    have HG5 : Hid (∀ q', q' < q + 1 → freeH d s.p.n ((F' k j).getD q' 0) (j : Nat) = true) := Lib.hid (fun q' hq' => by
                      by_cases e : q' = q
                      · rw [e, ← HY.out]; exact hc
                      · exact HG4.out q' (by omega))
                    clear q0 q1 q2 q3 q4 q5 ql hcj hnum hb4 hc
                    go_wp2
                    go_roundw
                    case rel => exact ⟨q + 1, HQ.out, by go_num, HB4, HG5⟩
                    case measure => have := HQ.out; simp [intOf]; omega
                · obtain rfl : q = (U' k j).n := by omega
                  have HG5 : Hid (∀ j', j' < j + 1 → ∀ q, q < (F' k j').length → freeH d s.p.n ((F' k j').getD q 0) (j' : Nat) = true) := Lib.hid (fun j' hj' q hq => by
                    by_cases e : j' = j
                    · subst e
                      exact HG4.out q (by have := hln.out; omega)
                    · exact HG2.out j' (by omega) q hq)
                  clear hl3
                  go_wp2
                  go_roundw
                  case rel => exact ⟨j + 1, J3.out, by go_num, HS3, HG5⟩
                  case measure => have := J3.out; simp [intOf]; omega
            · obtain rfl : j = 3 := by omega
              have HG5 : Hid (∀ k', k' < k + 1 → ∀ j, j < 3 → ∀ q, q < (F' k' j).length → freeH d s.p.n ((F' k' j).getD q 0) (j : Nat) = true) := Lib.hid (fun k' hk' => by
                by_cases e : k' = k
                · subst e
                  exact HG2.out
                · exact HG1.out k' (by omega))
              go_wp2
              go_roundw
              case rel => exact ⟨k + 1, by omega, by go_num, HS2, HG5⟩
              case measure => simp [intOf]; omega
        · obtain rfl : k = N := by omega
          have HR0 := HG3.out HG1.out
          subst HR0
          clear hlt
          go_wp2_with fail
          refine (Ls.rapart_any w3.heap.size A' k cap U' F' wr (HL3.out.below HS.out.2) HS.out.2.size (by omega) HLEN.out).mono ?_
          rintro e w5 ⟨rfl, hb5⟩
          have HB5 := Lib.hid (HS.out.1.bel.trans (hb5.mono HS.out.1.bel.size))
          clear hb5
          go_wp2
          go_ret
          exact ⟨rfl, HB5.out⟩
end Go.Proofs.YtccjelpfmkbmiaaGreatDoor
end
section
namespace Go.Proofs.YtccjelpfmkbmiaaGreatDoor
open Go.RowKit

/-- Is all that is told of as free a cell of its class that is not used? -/
def freeAll (d : Hd_) (n N : Nat) (F : Nat → Nat → List Int) : Bool := (List.range N).all fun k => (List.range 3).all fun j => (F k j).all fun x => freeH d n x (j : Nat)
/-- May a heap be, with caches? -/
def mayH (s : Hs) (d : Hd_) (m : Nat) (F : Nat → Nat → List Int) : Bool :=
  firstB s d && ((Cl.allS d.f s.p.n).all (cellAt d) && (freeAll d s.p.n (1 + m) (ahead d.F F) && decide (Ls.allOf (ahead d.F F) (1 + m)).Nodup))
theorem getD_mem {xs : List Int} {q : Nat} (h : q < xs.length) : xs.getD q 0 ∈ xs := by
  have : xs.getD q 0 = xs[q] := by simp [List.getD, h]
  rw [this]
  exact List.getElem_mem h
theorem freeAll_no {d : Hd_} {n N : Nat} {F : Nat → Nat → List Int} {k j q : Nat} (hk : k < N) (hj : j < 3) (hq : q < (F k j).length) (h : freeH d n ((F k j).getD q 0) (j : Nat) = false) : freeAll d n N F = false := by
  cases e : freeAll d n N F
  · rfl
  · have h1 := List.all_eq_true.1 e k (List.mem_range.2 hk)
    have h2 := List.all_eq_true.1 h1 j (List.mem_range.2 hj)
    have h3 := List.all_eq_true.1 h2 _ (getD_mem hq)
    rw [h] at h3
    cases h3
theorem freeAll_yes {d : Hd_} {n N : Nat} {F : Nat → Nat → List Int} (h : ∀ k, k < N → ∀ j, j < 3 → ∀ q, q < (F k j).length → freeH d n ((F k j).getD q 0) (j : Nat) = true) : freeAll d n N F = true := by
  refine List.all_eq_true.2 fun k hk => List.all_eq_true.2 fun j hj => List.all_eq_true.2 fun x hx => ?_
  obtain ⟨q, hq, rfl⟩ := List.getElem_of_mem hx
  have := h k (List.mem_range.1 hk) j (List.mem_range.1 hj) q hq
  rwa [show (F k j).getD q 0 = (F k j)[q] by simp [List.getD, hq]] at this
theorem rmayH_any (s : Hs) (d : Hd_) (A : Option Addr) (m c : Nat) (U : Nat → Nat → Ls.Sl) (F : Nat → Nat → List Int) (w : World) (hp : Hp w w.heap.size s d) (hl : Ls.LRow w w.heap.size A m U F) (hm : m ≤ 1000) (hwn : s.w.n ≤ 4000) (hpn : s.p.n ≤ 1000)
    (hv : ∀ i, -9223372036854775808 ≤ d.ws.getD i 0 ∧ d.ws.getD i 0 ≤ 9223372036854775807) (hlen : (Ls.allOf (ahead d.F F) (1 + m)).length ≤ 2000000) :
    Calls Tryz.prog 77 #[(.agg #[.slice s.w.a s.w.n s.w.c, .slice s.p.a s.p.n s.p.c, .slice (s.u 0).a (s.u 0).n (s.u 0).c, .slice (s.u 1).a (s.u 1).n (s.u 1).c, .slice (s.u 2).a (s.u 2).n (s.u 2).c, .slice s.c.a s.c.n s.c.c]), .slice A m c] w fun e w' => e = .returned (.bool (mayH s d m F)) ∧ Below w.heap.size w w' := by
  cases hf : firstB s d
  · rw [show mayH s d m F = false by simp [mayH, hf]]
    exact rmay_first s d A m c w hp hwn hpn hf
  · have hf' := hf
    unfold firstB at hf'
    simp only [Bool.and_eq_true, decide_eq_true_eq] at hf'
    refine rmay_rest s d A m c U F w hp hl hm hf'.2.2.1 hf'.2.2.2 hf'.2.1 hf'.1 hv hlen _ ?_ ?_ ?_
    · rintro ⟨a, ha, hc⟩
      have : (Cl.allS d.f s.p.n).all (cellAt d) = false := by
        cases e : (Cl.allS d.f s.p.n).all (cellAt d)
        · rfl
        · have := List.all_eq_true.1 e a ha
          rw [hc] at this
          cases this
      simp [mayH, hf, this]
    · rintro ⟨k, j, q, hk, hj, hq, hc⟩
      have := freeAll_no hk hj hq hc
      simp [mayH, hf, this]
    · intro ha hb
      have h1 : (Cl.allS d.f s.p.n).all (cellAt d) = true := List.all_eq_true.2 fun x hx => by
        obtain ⟨q, hq, rfl⟩ := List.getElem_of_mem hx
        have := ha q hq
        rwa [show (Cl.allS d.f s.p.n).getD q 0 = (Cl.allS d.f s.p.n)[q] by simp [List.getD, hq]] at this
      have h2 := freeAll_yes hb
      rw [mayH, hf, h1, h2]
      simp
end Go.Proofs.YtccjelpfmkbmiaaGreatDoor
end
section
namespace Go.Proofs.YtccjelpfmkbmiaaGreatDoor
open Go.RowKit
set_option maxRecDepth 100000

def noCaches : Nat → Nat → List Int := fun _ _ => []
theorem lrow_none (w : World) (B : Nat) : ∃ U, Ls.LRow w B none 0 U noCaches := ⟨fun _ => Ls.noSl, fun h => absurd h (by omega)⟩
/-- A heap without caches may be. -/
def mayB0 (s : Hs) (d : Hd_) : Bool := mayH s d 0 noCaches
theorem rmay0_any (s : Hs) (d : Hd_) (w : World) (hp : Hp w w.heap.size s d) (hwn : s.w.n ≤ 4000) (hpn : s.p.n ≤ 1000) (hv : ∀ i, -9223372036854775808 ≤ d.ws.getD i 0 ∧ d.ws.getD i 0 ≤ 9223372036854775807) (hlen : (Ls.upTo d.F 3).length ≤ 2000000) :
    Calls Tryz.prog 77 #[(.agg #[.slice s.w.a s.w.n s.w.c, .slice s.p.a s.p.n s.p.c, .slice (s.u 0).a (s.u 0).n (s.u 0).c, .slice (s.u 1).a (s.u 1).n (s.u 1).c, .slice (s.u 2).a (s.u 2).n (s.u 2).c, .slice s.c.a s.c.n s.c.c]), .slice none 0 0] w fun e w' => e = .returned (.bool (mayB0 s d)) ∧ Below w.heap.size w w' := by
  obtain ⟨U, hU⟩ := lrow_none w w.heap.size
  refine rmayH_any s d none 0 0 U noCaches w hp hU (by omega) hwn hpn hv ?_
  rw [show Ls.allOf (ahead d.F noCaches) (1 + 0) = Ls.upTo d.F 3 by simp [Ls.allOf, ahead]]
  exact hlen
theorem may0_word {s : Hs} {d : Hd_} {a : Int} (h : mayB0 s d = true) (hb : ¬ Cl.bg d.f s.p.n a = 0) : s.w.n = 16 * s.p.n ∧ 16 ≤ a ∧ a < 16 + 16 * (s.p.n : Int) ∧ Hd.isWord (d.ws.getD (a - 16).toNat 0) = true := by
  unfold mayB0 mayH firstB at h
  simp only [Bool.and_eq_true, decide_eq_true_eq] at h
  obtain ⟨⟨_, hpm, hw, _⟩, hall, _⟩ := h
  have hin := Classical.byContradiction fun hn => hb (Cl.bg_no (f := d.f) (n := s.p.n) (a := a) hn)
  have hpos : 0 < Cl.bg d.f s.p.n a := by have := (Cl.bg_nonneg d.f s.p.n a).1; omega
  obtain ⟨c, hc, rfl⟩ := Cl.bg_some hpos
  have h1 := List.all_eq_true.1 hall c.1 (List.mem_map.2 ⟨c, hc, rfl⟩)
  refine ⟨hw, hin.2.1, hin.2.2, ?_⟩
  unfold cellAt cellB at h1
  split at h1
  · next hh => exact hh.1
  · exact (Bool.and_eq_true _ _ ▸ h1).1
def HeadOut (w : World) (V : Value) (er : Int) (e : Ending) (w' : World) : Prop := e = .returned (.tuple #[V, .int .i64 er]) ∧ Below w.heap.size w w'
def noHead : Value := .agg #[.bool false, .bool false, .bool false, .int .i64 0, .int .i64 0, .int .i64 0]
/-- The box of a head. -/
structure XBox (W : World) (b : Nat) : Prop where
  cell : ∀ k, k < 6 → W.cell? ⟨b, k, none⟩ = some (if k < 3 then .bool false else .int .i64 0)
  free : ∀ k, W.frozen? ⟨b, k, none⟩ = false
  lt : b < W.heap.size
theorem XBox.new (w : World) (t : TypeId) : XBox (w.alloc (.cells #[.bool false, .bool false, .bool false, .int .i64 0, .int .i64 0, .int .i64 0] t)) w.heap.size := by
  refine ⟨fun k hk => ?_, fun k => by simp [go_sem], by simp⟩
  match k, hk with
  | 0, _ => simp [go_sem]
  | 1, _ => simp [go_sem]
  | 2, _ => simp [go_sem]
  | 3, _ => simp [go_sem]
  | 4, _ => simp [go_sem]
  | 5, _ => simp [go_sem]
theorem XBox.next {W W' : World} {b : Nat} (h : XBox W b) (hb : Below W.heap.size W W') : XBox W' b :=
  ⟨fun k hk => (hb.cell (p := ⟨b, k, none⟩) h.lt).trans (h.cell k hk), fun k => (hb.frozen (p := ⟨b, k, none⟩) h.lt).trans (h.free k), Nat.lt_of_lt_of_le h.lt hb.size⟩
/-- A head is stored to its box. -/
def put6 (w : World) (b : Nat) (v0 v1 v2 v3 v4 v5 : Value) : World :=
  (((((w.setCell ⟨b, 0, none⟩ v0).setCell ⟨b, 1, none⟩ v1).setCell ⟨b, 2, none⟩ v2).setCell ⟨b, 3, none⟩ v3).setCell ⟨b, 4, none⟩ v4).setCell ⟨b, 5, none⟩ v5
theorem below_put6 {B : Nat} {a w : World} (h : Below B a w) {b : Nat} (hb : B ≤ b) (v0 v1 v2 v3 v4 v5 : Value) : Below B a (put6 w b v0 v1 v2 v3 v4 v5) :=
  (((((h.setCell (p := ⟨b, 0, none⟩) hb _).setCell (p := ⟨b, 1, none⟩) hb _).setCell (p := ⟨b, 2, none⟩) hb _).setCell (p := ⟨b, 3, none⟩) hb _).setCell (p := ⟨b, 4, none⟩) hb _).setCell (p := ⟨b, 5, none⟩) hb _
section
variable (s : Hs) (d : Hd_) (a : Int) (w : World)
theorem rhead_bad (hp : Hp w w.heap.size s d) (hwn : s.w.n ≤ 4000) (hpn : s.p.n ≤ 1000) (hv : ∀ i, -9223372036854775808 ≤ d.ws.getD i 0 ∧ d.ws.getD i 0 ≤ 9223372036854775807) (hlen : (Ls.upTo d.F 3).length ≤ 2000000) (hm : mayB0 s d = false) :
    Calls Tryz.prog 33 #[(.agg #[.slice s.w.a s.w.n s.w.c, .slice s.p.a s.p.n s.p.c, .slice (s.u 0).a (s.u 0).n (s.u 0).c, .slice (s.u 1).a (s.u 1).n (s.u 1).c, .slice (s.u 2).a (s.u 2).n (s.u 2).c, .slice s.c.a s.c.n s.c.c]), .int .i64 a] w (HeadOut w noHead 1) := by
  have HP := Lib.hid hp
  have HV := Lib.hid hv
  have HM := Lib.hid hm
  have HL := Lib.hid hlen
  clear hp hv hm hlen
  go_enter Tryz.func33, Tryz.ntmps33
  go_wp2_with fail
  have b0 := (Below.refl w.heap.size w).alloc (Nat.le_refl _) (.cells #[.slice s.w.a s.w.n s.w.c, .slice s.p.a s.p.n s.p.c, .slice (s.u 0).a (s.u 0).n (s.u 0).c, .slice (s.u 1).a (s.u 1).n (s.u 1).c, .slice (s.u 2).a (s.u 2).n (s.u 2).c, .slice s.c.a s.c.n s.c.c] 28)
  have b1 := b0.alloc (by simp) (.cells #[.bool false, .bool false, .bool false, .int .i64 0, .int .i64 0, .int .i64 0] 53)
  refine (rmay0_any s d _ ((HP.out.below b1).more b1.size) hwn hpn HV.out HL.out).mono ?_
  rw [HM.out]
  rintro e w1 ⟨rfl, hb1⟩
  have x0 := XBox.new (w.alloc (.cells #[.slice s.w.a s.w.n s.w.c, .slice s.p.a s.p.n s.p.c, .slice (s.u 0).a (s.u 0).n (s.u 0).c, .slice (s.u 1).a (s.u 1).n (s.u 1).c, .slice (s.u 2).a (s.u 2).n (s.u 2).c, .slice s.c.a s.c.n s.c.c] 28)) 53
  rw [World.size_alloc] at x0
  have X := x0.next hb1
  have BW := Lib.hid (b1.trans (hb1.mono b1.size))
  have y0 := X.cell 0 (by decide)
  have y1 := X.cell 1 (by decide)
  have y2 := X.cell 2 (by decide)
  have y3 := X.cell 3 (by decide)
  have y4 := X.cell 4 (by decide)
  have y5 := X.cell 5 (by decide)
  simp only [Nat.reduceLT, if_true, if_false] at y0 y1 y2 y3 y4 y5
  have z0 := X.free 0
  have z1 := X.free 1
  have z2 := X.free 2
  have z3 := X.free 3
  have z4 := X.free 4
  have z5 := X.free 5
  have zl := X.lt
  clear x0 X hb1 b0 b1
  go_wp2
  refine bodyPost_ret (v := .tuple #[noHead, .int .i64 1]) ?_ rfl ?_
  rotate_left
  · exact ⟨rfl, below_put6 BW.out (b := w.heap.size + 1) (by omega) _ _ _ _ _ _⟩
  simp [results, Tryz.results33, go_sem, noHead, y0, y1, y2, y3, y4, y5]
theorem rhead_none (hp : Hp w w.heap.size s d) (hwn : s.w.n ≤ 4000) (hpn : s.p.n ≤ 1000) (hv : ∀ i, -9223372036854775808 ≤ d.ws.getD i 0 ∧ d.ws.getD i 0 ≤ 9223372036854775807) (hlen : (Ls.upTo d.F 3).length ≤ 2000000) (hm : mayB0 s d = true) (hb : Cl.bg d.f s.p.n a = 0) :
    Calls Tryz.prog 33 #[(.agg #[.slice s.w.a s.w.n s.w.c, .slice s.p.a s.p.n s.p.c, .slice (s.u 0).a (s.u 0).n (s.u 0).c, .slice (s.u 1).a (s.u 1).n (s.u 1).c, .slice (s.u 2).a (s.u 2).n (s.u 2).c, .slice s.c.a s.c.n s.c.c]), .int .i64 a] w (HeadOut w noHead 3) := by
  have HP := Lib.hid hp
  have HV := Lib.hid hv
  have HM := Lib.hid hm
  have HL := Lib.hid hlen
  have HB := Lib.hid hb
  clear hp hv hm hlen hb
  go_enter Tryz.func33, Tryz.ntmps33
  go_wp2_with fail
  have b0 := (Below.refl w.heap.size w).alloc (Nat.le_refl _) (.cells #[.slice s.w.a s.w.n s.w.c, .slice s.p.a s.p.n s.p.c, .slice (s.u 0).a (s.u 0).n (s.u 0).c, .slice (s.u 1).a (s.u 1).n (s.u 1).c, .slice (s.u 2).a (s.u 2).n (s.u 2).c, .slice s.c.a s.c.n s.c.c] 28)
  have b1 := b0.alloc (by simp) (.cells #[.bool false, .bool false, .bool false, .int .i64 0, .int .i64 0, .int .i64 0] 53)
  have x0 := XBox.new (w.alloc (.cells #[.slice s.w.a s.w.n s.w.c, .slice s.p.a s.p.n s.p.c, .slice (s.u 0).a (s.u 0).n (s.u 0).c, .slice (s.u 1).a (s.u 1).n (s.u 1).c, .slice (s.u 2).a (s.u 2).n (s.u 2).c, .slice s.c.a s.c.n s.c.c] 28)) 53
  rw [World.size_alloc] at x0
  have g0 := (HBox.new w s 28).next ((Below.refl _ _).alloc (Nat.le_refl _) (.cells #[.bool false, .bool false, .bool false, .int .i64 0, .int .i64 0, .int .i64 0] 53))
  refine (rmay0_any s d _ ((HP.out.below b1).more b1.size) hwn hpn HV.out HL.out).mono ?_
  rw [show mayB0 _ d = true from HM.out]
  rintro e w1 ⟨rfl, hb1⟩
  have N1 := Lib.hid (HNow.mk (d := d) (g0.next hb1) (b1.trans (hb1.mono b1.size)) (HP.out.below (b1.trans (hb1.mono b1.size))))
  have X1 := Lib.hid (x0.next hb1)
  have q1 := N1.out.box.c1
  have ql := N1.out.box.lt
  try dsimp only at q1
  clear x0 g0 hb1 b0 b1
  go_wp2_with fail
  refine (Cl.rbegins_any w.heap.size s.p.a s.p.n s.p.c d.f a _ hpn N1.out.hp.pages N1.out.bel.size).mono ?_
  rw [HB.out]
  rintro e w2 ⟨rfl, hb2⟩
  have X := X1.out.next hb2
  have BW := Lib.hid (N1.out.next hb2).bel
  clear q1 ql X1 N1 hb2
  have y0 := X.cell 0 (by decide)
  have y1 := X.cell 1 (by decide)
  have y2 := X.cell 2 (by decide)
  have y3 := X.cell 3 (by decide)
  have y4 := X.cell 4 (by decide)
  have y5 := X.cell 5 (by decide)
  simp only [Nat.reduceLT, if_true, if_false] at y0 y1 y2 y3 y4 y5
  have z0 := X.free 0
  have z1 := X.free 1
  have z2 := X.free 2
  have z3 := X.free 3
  have z4 := X.free 4
  have z5 := X.free 5
  have zl := X.lt
  clear X
  go_wp2
  refine bodyPost_ret (v := .tuple #[noHead, .int .i64 3]) ?_ rfl ?_
  rotate_left
  · exact ⟨rfl, below_put6 BW.out (b := w.heap.size + 1) (by omega) _ _ _ _ _ _⟩
  simp [results, Tryz.results33, go_sem, noHead, y0, y1, y2, y3, y4, y5]
end
end Go.Proofs.YtccjelpfmkbmiaaGreatDoor
end
section
namespace Go.Proofs.YtccjelpfmkbmiaaGreatDoor
open Go.RowKit
set_option maxRecDepth 100000

theorem put6_size (w : World) (b : Nat) (v0 v1 v2 v3 v4 v5 : Value) : (put6 w b v0 v1 v2 v3 v4 v5).heap.size = w.heap.size := by simp [put6, World.setCell]
theorem put6_alloc {W : World} {b : Nat} (h : XBox W b) (v0 v1 v2 v3 v4 v5 : Value) (o : Obj) :
    ((put6 W b v0 v1 v2 v3 v4 v5).alloc o).cell? ⟨b, 0, none⟩ = some v0 ∧ ((put6 W b v0 v1 v2 v3 v4 v5).alloc o).cell? ⟨b, 1, none⟩ = some v1 ∧ ((put6 W b v0 v1 v2 v3 v4 v5).alloc o).cell? ⟨b, 2, none⟩ = some v2 ∧
    ((put6 W b v0 v1 v2 v3 v4 v5).alloc o).cell? ⟨b, 3, none⟩ = some v3 ∧ ((put6 W b v0 v1 v2 v3 v4 v5).alloc o).cell? ⟨b, 4, none⟩ = some v4 ∧ ((put6 W b v0 v1 v2 v3 v4 v5).alloc o).cell? ⟨b, 5, none⟩ = some v5 := by
  have h0 := h.cell 0 (by decide)
  have h1 := h.cell 1 (by decide)
  have h2 := h.cell 2 (by decide)
  have h3 := h.cell 3 (by decide)
  have h4 := h.cell 4 (by decide)
  have h5 := h.cell 5 (by decide)
  have hl := h.lt
  refine ⟨?_, ?_, ?_, ?_, ?_, ?_⟩ <;> (rw [World.cell?_alloc_past _ _ _ (by rw [put6_size]; exact hl)]; simp [put6, go_sem, h0, h1, h2, h3, h4, h5])

section
variable (s : Hs) (d : Hd_) (a : Int) (w : World)
set_option maxHeartbeats 1000000 in
theorem rhead_is (hp : Hp w w.heap.size s d) (hwn : s.w.n ≤ 4000) (hpn : s.p.n ≤ 200) (hv : ∀ i, -9223372036854775808 ≤ d.ws.getD i 0 ∧ d.ws.getD i 0 ≤ 9223372036854775807) (hlen : (Ls.upTo d.F 3).length ≤ 2000000) (hm : mayB0 s d = true) (hb : ¬ Cl.bg d.f s.p.n a = 0) (i : Nat) (ha : a - 16 = i) (x : Int) (hx : x = d.ws.getD i 0) (V : Value) (er : Int) (hV0 : x = 0 → V = noHead ∧ er = 3) (hV1 : ¬ x = 0 → V = headOf x ∧ er = 0) :
    Calls Tryz.prog 33 #[(.agg #[.slice s.w.a s.w.n s.w.c, .slice s.p.a s.p.n s.p.c, .slice (s.u 0).a (s.u 0).n (s.u 0).c, .slice (s.u 1).a (s.u 1).n (s.u 1).c, .slice (s.u 2).a (s.u 2).n (s.u 2).c, .slice s.c.a s.c.n s.c.c]), .int .i64 a] w (HeadOut w V er) := by
  have hmw := may0_word hm hb
  have hi : i < s.w.n := by omega
  have hwd : Hd.isWord x = true := by
    have := hmw.2.2.2
    rwa [show (a - 16).toNat = i by omega, ← hx] at this
  have hxb := hv i
  rw [← hx] at hxb
  rcases s with ⟨⟨aw, nw, cw⟩, ⟨pp, np, cp⟩, su, ⟨ac, nc, cc⟩⟩
  dsimp only at hi hwn hpn hb ⊢
  obtain ⟨bw, ow, rfl, hbw, hcw⟩ := hp.words.2 (show 0 < nw by omega)
  have hw0 := hcw i hi
  rw [← hx] at hw0
  have HV0 := Lib.hid hV0
  have HV1 := Lib.hid hV1
  have HP := Lib.hid hp
  have HV := Lib.hid hv
  have HM := Lib.hid hm
  have HL := Lib.hid hlen
  have hbz : (Cl.bg d.f np a == 0) = false := by simp [hb]
  have HX := Lib.hid (And.intro hxb hwd)
  have i0 : (0 : Int) ≤ i := by omega
  have i1 : (i : Int) < nw := by omega
  replace hpn : np ≤ 1000 := by omega
  clear hp hv hm hlen hb hcw hx hmw hxb hwd hV0 hV1
  go_enter Tryz.func33, Tryz.ntmps33
  go_wp2_with fail
  have b0 := (Below.refl w.heap.size w).alloc (Nat.le_refl _) (.cells #[.slice (some ⟨bw, ow, none⟩) nw cw, .slice pp np cp, .slice (su 0).a (su 0).n (su 0).c, .slice (su 1).a (su 1).n (su 1).c, .slice (su 2).a (su 2).n (su 2).c, .slice ac nc cc] 28)
  have b1 := b0.alloc (by simp) (.cells #[.bool false, .bool false, .bool false, .int .i64 0, .int .i64 0, .int .i64 0] 53)
  have x0 := XBox.new (w.alloc (.cells #[.slice (some ⟨bw, ow, none⟩) nw cw, .slice pp np cp, .slice (su 0).a (su 0).n (su 0).c, .slice (su 1).a (su 1).n (su 1).c, .slice (su 2).a (su 2).n (su 2).c, .slice ac nc cc] 28)) 53
  rw [World.size_alloc] at x0
  have g0 := (HBox.new w ⟨⟨some ⟨bw, ow, none⟩, nw, cw⟩, ⟨pp, np, cp⟩, su, ⟨ac, nc, cc⟩⟩ 28).next ((Below.refl _ _).alloc (Nat.le_refl _) (.cells #[.bool false, .bool false, .bool false, .int .i64 0, .int .i64 0, .int .i64 0] 53))
  refine (rmay0_any ⟨⟨some ⟨bw, ow, none⟩, nw, cw⟩, ⟨pp, np, cp⟩, su, ⟨ac, nc, cc⟩⟩ d _ ((HP.out.below b1).more b1.size) hwn hpn HV.out HL.out).mono ?_
  rw [show mayB0 _ d = true from HM.out]
  rintro e w1 ⟨rfl, hb1⟩
  have N1 := Lib.hid (HNow.mk (d := d) (g0.next hb1) (b1.trans (hb1.mono b1.size)) (HP.out.below (b1.trans (hb1.mono b1.size))))
  have X1 := Lib.hid (x0.next hb1)
  have q1 := N1.out.box.c1
  have ql := N1.out.box.lt
  try dsimp only at q1
  clear x0 g0 hb1 b0 b1
  go_wp2_with fail
  refine (Cl.rbegins_any w.heap.size pp np cp d.f a _ hpn N1.out.hp.pages N1.out.bel.size).mono ?_
  rintro e w2 ⟨rfl, hb2⟩
  have X := X1.out.next hb2
  have N2 := Lib.hid (N1.out.next hb2)
  have q0 := N2.out.box.c0
  have ql2 := N2.out.box.lt
  dsimp only at q0
  have hw1 := (N2.out.bel.cell (p := ⟨bw, ow + i, none⟩) hbw).trans hw0
  have hbl : bw < w2.heap.size := by have := N2.out.bel.size; omega
  clear q1 ql N1 hb2 hw0 X1
  by_cases hz : x = 0
  · subst hz
    obtain ⟨rfl, rfl⟩ := HV0.out rfl
    have y0 := X.cell 0 (by decide)
    have y1 := X.cell 1 (by decide)
    have y2 := X.cell 2 (by decide)
    have y3 := X.cell 3 (by decide)
    have y4 := X.cell 4 (by decide)
    have y5 := X.cell 5 (by decide)
    simp only [Nat.reduceLT, if_true, if_false] at y0 y1 y2 y3 y4 y5
    have z0 := X.free 0
    have z1 := X.free 1
    have z2 := X.free 2
    have z3 := X.free 3
    have z4 := X.free 4
    have z5 := X.free 5
    have zl := X.lt
    clear X
    go_wp2
    refine bodyPost_ret (v := .tuple #[noHead, .int .i64 3]) ?_ rfl ?_
    rotate_left
    · exact ⟨rfl, below_put6 N2.out.bel (b := w.heap.size + 1) (by omega) _ _ _ _ _ _⟩
    simp [results, Tryz.results33, go_sem, noHead, y0, y1, y2, y3, y4, y5]
  · have hz1 : (x == 0) = false := by simp [hz]
    obtain ⟨rfl, rfl⟩ := HV1.out hz
    rw [headOf_yes HX.out.2]
    have hz2 : decide (x = 0) = false := by simp [hz]
    have HXB := Lib.hid X
    clear X
    go_wp2_with fail
    refine (runpack_any x _ HX.out.1.1 HX.out.1.2).mono ?_
    rw [headOf_yes HX.out.2, HX.out.2]
    rintro e w3 ⟨rfl, hb3⟩
    have X := HXB.out.next hb3
    have BW := Lib.hid (N2.out.next hb3).bel
    have X3 := Lib.hid X
    have y0 := X.cell 0 (by decide)
    have y1 := X.cell 1 (by decide)
    have y2 := X.cell 2 (by decide)
    have y3 := X.cell 3 (by decide)
    have y4 := X.cell 4 (by decide)
    have y5 := X.cell 5 (by decide)
    simp only [Nat.reduceLT, if_true, if_false] at y0 y1 y2 y3 y4 y5
    have z0 := X.free 0
    have z1 := X.free 1
    have z2 := X.free 2
    have z3 := X.free 3
    have z4 := X.free 4
    have z5 := X.free 5
    have zl := X.lt
    clear X hb3 q0 hw1 hbz
    have K := put6_alloc (W := w3) (b := w.heap.size + 1) X3.out (.bool (decide (x % 2 = 1))) (.bool (decide (x / 2 % 2 = 1))) (.bool (decide (x / 4 % 2 = 1))) (.int .i64 (nOf x)) (.int .i64 (x / 1024 % 4194304)) (.int .i64 (x / 4294967296)) (.cells #[.bool (decide (x % 2 = 1)), .bool (decide (x / 2 % 2 = 1)), .bool (decide (x / 4 % 2 = 1)), .int .i64 (nOf x), .int .i64 (x / 1024 % 4194304), .int .i64 (x / 4294967296)] 53)
    have KK := Lib.hid K
    clear K
    go_wp2
    refine bodyPost_ret (v := .tuple #[.agg #[.bool (decide (x % 2 = 1)), .bool (decide (x / 2 % 2 = 1)), .bool (decide (x / 4 % 2 = 1)), .int .i64 (nOf x), .int .i64 (x / 1024 % 4194304), .int .i64 (x / 4294967296)], .int .i64 0]) ?_ rfl ?_
    rotate_left
    · rw [headOf_yes HX.out.2]
      exact ⟨rfl, (below_put6 BW.out (b := w.heap.size + 1) (by omega) (.bool (decide (x % 2 = 1))) (.bool (decide (x / 2 % 2 = 1))) (.bool (decide (x / 4 % 2 = 1))) (.int .i64 (nOf x)) (.int .i64 (x / 1024 % 4194304)) (.int .i64 (x / 4294967296))).alloc (by rw [put6_size]; exact BW.out.size) _⟩
    · obtain ⟨k0, k1, k2, k3, k4, k5⟩ := KK.out
      unfold put6 at k0 k1 k2 k3 k4 k5
      clear y0 y1 y2 y3 y4 y5
      simp [results, Tryz.results33, go_sem, k0, k1, k2, k3, k4, k5]

end
end Go.Proofs.YtccjelpfmkbmiaaGreatDoor
end
section
namespace Go.Proofs.YtccjelpfmkbmiaaGreatDoor.Ar
open Go.Proofs.YtccjelpfmkbmiaaGreatDoor
set_option maxRecDepth 100000
open Go.RowKit

/-- Words may be. -/
def mayB (n : Nat) : Bool := decide (16 ≤ n ∧ n ≤ 1024 ∧ n % 16 = 0)
theorem mayB_iff {n : Nat} : mayB n = true ↔ 16 ≤ n ∧ n ≤ 1024 ∧ n % 16 = 0 := by simp [mayB]
theorem mayB_no {n : Nat} (h : mayB n = false) : ¬ (16 ≤ n ∧ n ≤ 1024 ∧ n % 16 = 0) := fun c => by rw [mayB_iff.2 c] at h; cases h

theorem may_yes (A : Option Addr) (n c : Nat) (w : World) (h : mayB n = true) :
    Calls Tryz.prog 95 #[.slice A n c] w fun e w' => e = .returned (.bool true) ∧ w = w' := by
  obtain ⟨h1, h2, h3⟩ := mayB_iff.1 h
  have e1 : ((n : Int) % 16 == 0) = true := by simp; omega
  have e2 : (1 : Int) ≤ (n : Int) / 16 := by omega
  have e3 : (n : Int) / 16 ≤ 64 := by omega
  clear h h3
  go_enter Tryz.func95, Tryz.ntmps95
  go_wp2
  go_ret
  exact ⟨rfl, rfl⟩
theorem may_no (A : Option Addr) (n c : Nat) (w : World) (hn : n ≤ 9223372036854775807) (h : mayB n = false) :
    Calls Tryz.prog 95 #[.slice A n c] w fun e w' => e = .returned (.bool false) ∧ w = w' := by
  have h0 := mayB_no h
  clear h
  by_cases h1 : n % 16 = 0
  · have e1 : ((n : Int) % 16 == 0) = true := by simp; omega
    by_cases h2 : n < 16
    · have e2 : decide ((1 : Int) ≤ (n : Int) / 16) = false := by simp; omega
      clear h0 h1 h2
      go_enter Tryz.func95, Tryz.ntmps95
      go_wp2
      go_ret
      exact ⟨rfl, rfl⟩
    · have e2 : (1 : Int) ≤ (n : Int) / 16 := by omega
      have e3 : decide ((n : Int) / 16 ≤ 64) = false := by simp; omega
      clear h0 h1 h2
      go_enter Tryz.func95, Tryz.ntmps95
      go_wp2
      go_ret
      exact ⟨rfl, rfl⟩
  · have e1 : ((n : Int) % 16 == 0) = false := by simp; omega
    clear h0 h1
    go_enter Tryz.func95, Tryz.ntmps95
    go_wp2
    go_ret
    exact ⟨rfl, rfl⟩

theorem span_ok (A : Option Addr) (n c : Nat) (a k : Int) (w : World) (h : mayB n = true) (hk : 0 < k) (ha : 16 ≤ a) (hb : k ≤ 16 + n - a) :
    Calls Tryz.prog 110 #[.slice A n c, .int .i64 a, .int .i64 k] w fun e w' => e = .returned (.tuple #[.int .i64 (a - 16), .int .i64 (a - 16 + k), .int .i64 0]) ∧ w = w' := by
  have hn := (mayB_iff.1 h).2.1
  have e0 : (k == 0) = false := by simp; omega
  have e1 : ¬ k < 0 := by omega
  have H := Lib.hid h
  clear h
  go_enter Tryz.func110, Tryz.ntmps110
  go_wp2_with (go_at_call 95; refine (may_yes _ _ _ _ H.out).mono ?_; rintro e w' ⟨rfl, rfl⟩)
  go_ret3
  exact ⟨rfl, rfl⟩

theorem get_ok (B : Nat) (A : Option Addr) (n c : Nat) (xs : List Int) (a : Int) (w : World) (h : mayB n = true) (h0 : 16 ≤ a) (h1 : a < 16 + n) (hr : Row w B A n xs) :
    Calls Tryz.prog 69 #[.slice A n c, .int .i64 a] w fun e w' => e = .returned (.tuple #[.int .i64 (xs.getD (a - 16).toNat 0), .int .i64 0]) ∧ w = w' := by
  obtain ⟨i, rfl⟩ : ∃ i : Nat, a = 16 + i := ⟨(a - 16).toNat, by omega⟩
  have hn := (mayB_iff.1 h).2.1
  have hi : i < n := by omega
  obtain ⟨b, off, rfl, _, hc⟩ := hr.2 (by omega)
  have hcell := hc i hi
  have ei : (16 + (i : Int) - 16).toNat = i := by omega
  rw [ei]
  have EI : (16 : Int) + i - 16 = i := by omega
  have H := Lib.hid h
  clear h hc hr ei
  have HS : Calls Tryz.prog 110 #[.slice (some ⟨b, off, none⟩) n c, .int .i64 (16 + i), .int .i64 1] w fun e w' => e = .returned (.tuple #[.int .i64 i, .int .i64 (i + 1), .int .i64 0]) ∧ w = w' := by
    have := span_ok (some ⟨b, off, none⟩) n c (16 + i) 1 w H.out (by omega) (by omega) (by omega)
    rw [EI] at this
    exact this
  have HT := Lib.hid HS
  clear EI HS h0 h1
  go_enter Tryz.func69, Tryz.ntmps69
  go_wp2_with (go_at_call 110; refine (HT.out).mono ?_; rintro e w' ⟨rfl, rfl⟩)
  go_ret2
  exact ⟨rfl, rfl⟩
theorem page_ok (A : Option Addr) (n c : Nat) (a : Int) (w : World) (h : mayB n = true) (h0 : 16 ≤ a) (h1 : a < 16 + n) :
    Calls Tryz.prog 98 #[.slice A n c, .int .i64 a] w fun e w' => e = .returned (.tuple #[.int .i64 ((a - 16) / 16), .int .i64 0]) ∧ w = w' := by
  have hn := (mayB_iff.1 h).2.1
  have H := Lib.hid h
  clear h
  go_enter Tryz.func98, Tryz.ntmps98
  go_wp2_with (go_at_call 110; refine (span_ok _ _ _ _ _ _ H.out (by omega) (by omega) (by omega)).mono ?_; rintro e w' ⟨rfl, rfl⟩)
  go_ret2
  exact ⟨rfl, rfl⟩

end Go.Proofs.YtccjelpfmkbmiaaGreatDoor.Ar
end
section
namespace Go.Proofs.YtccjelpfmkbmiaaGreatDoor.Ar
open Go.Proofs.YtccjelpfmkbmiaaGreatDoor
set_option maxRecDepth 100000
open Go.RowKit

theorem info_int : (Tryz.prog.info? 3).map (fun i => (i.zero, i.size, i.bytes)) = some (some (.int .i64 0), 1, 8) := by kernel_rfl
/-- A slice of the call's own was returned, and no error; all that was there is as it was. -/
def Made (w : World) (n : Nat) (xs : List Int) (e : Ending) (w' : World) : Prop :=
  ∃ g c, e = .returned (.tuple #[.slice (some ⟨g, 0, none⟩) n c, .int .i64 0]) ∧ Mine w' w.heap.size 3 g n c xs ∧ Below w.heap.size w w'
/-- .. alone. -/
def MadeOne (w : World) (n : Nat) (xs : List Int) (e : Ending) (w' : World) : Prop :=
  ∃ g c, e = .returned (.slice (some ⟨g, 0, none⟩) n c) ∧ Mine w' w.heap.size 3 g n c xs ∧ Below w.heap.size w w'

theorem clone_ok (B : Nat) (A : Option Addr) (n c : Nat) (xs : List Int) (w : World) (hn : 0 < n) (hbig : n * 8 ≤ 140737488355328) (hr : Row w B A n xs) :
    Calls Tryz.prog 85 #[.slice A n c] w (MadeOne w n xs) := by
  obtain ⟨i0, hi, hz0, hz1, hz2⟩ := info_parts info_int
  obtain ⟨b, off, rfl, _, hc⟩ := hr.2 hn
  have hl := hr.1
  have HC := Lib.hid hc
  have q22 : ∀ (w : World) (a : Option Addr) (n c n' c' : Nat), (binOp .eql 22 (.slice a n c) (.slice none n' c')).run Tryz.prog w = .ok (.bool a.isNone) w := fun w a n c n' c' => Lib.run_eql_slice_nil w _ _ a n c n' c' Tryz.underlying22
  have u22 : ∀ w, Sem.run Tryz.prog (underlying 22) w = .ok (TypeDesc.slice 3) w := run_underlying Tryz.underlying22
  have HL := Lib.hid hl
  clear hc hr hl
  go_enter Tryz.func85, Tryz.ntmps85
  go_wp2_with (at_builtin; refine wpList_append_own _ rfl _ _ 22 rfl w.heap.size 3 i0 (.int .i64 0) 1 8 Tryz.underlying22 hi hz0 hz1 hz2 rfl (by decide) _ _ _ rfl (World.ownsRow_made w #[] 0 (Nat.le_refl _) (Nat.zero_le _) rfl) ⟨b, off, none⟩ n c (xs.map (Value.int .i64)) rfl ?qc1 ?qc2 ?qc3 ?qc4 ?qc5 ?qc6 ?_)
  case qc1 => simp [HL.out]
  case qc2 =>
    intro j u hj
    have hl := HL.out
    have hjn : j < n := by
      have := (List.getElem?_eq_some_iff.1 hj).1
      simp at this
      omega
    rw [Addr.add_lit]
    refine Lib.cell?_alloc_some _ ?_
    rw [HC.out j hjn]
    have e : (xs.map (Value.int .i64))[j]? = some (Value.int .i64 (xs.getD j 0)) := by simp [List.getD, List.getElem?_eq_getElem (show j < xs.length by omega)]
    rw [e] at hj
    exact hj
  case qc3 => intro u hu; obtain ⟨x, _, rfl⟩ := List.mem_map.1 hu; rfl
  case qc4 => unfold maxLen; omega
  case qc5 => omega
  case qc6 => simp
  intro v' w1 hown hgrow hnil
  have hown' : w1.ownsRow w.heap.size 3 1 v' n (xs.map (Value.int .i64)) := by simpa using hown
  obtain ⟨g, c', rfl, hm⟩ := mine_of hown' hn
  have HM := Lib.hid hm
  clear hown hown' hnil hm
  go_wp2
  go_ret
  exact ⟨g, c', rfl, HM.out, ((Below.refl _ w).alloc (Nat.le_refl _) _).grown hgrow (by simp) (by intro k hk; simp [Value.ownBlock] at hk; omega)⟩

theorem put_ok (B : Nat) (A : Option Addr) (n c : Nat) (xs : List Int) (a v : Int) (w : World) (h : mayB n = true) (h0 : 16 ≤ a) (h1 : a < 16 + n) (hr : Row w B A n xs) :
    Calls Tryz.prog 128 #[.slice A n c, .int .i64 a, .int .i64 v] w (Made w n (xs.set (a - 16).toNat v)) := by
  obtain ⟨i, rfl⟩ : ∃ i : Nat, a = 16 + i := ⟨(a - 16).toNat, by omega⟩
  have hn := (mayB_iff.1 h).2.1
  have hi : i < n := by omega
  have ei : (16 + (i : Int) - 16).toNat = i := by omega
  rw [ei]
  have EI : (16 : Int) + i - 16 = i := by omega
  have H := Lib.hid h
  have HR := Lib.hid hr
  clear h ei hr
  have HS : Calls Tryz.prog 110 #[.slice A n c, .int .i64 (16 + i), .int .i64 1] w fun e w' => e = .returned (.tuple #[.int .i64 i, .int .i64 (i + 1), .int .i64 0]) ∧ w = w' := by
    have := span_ok A n c (16 + i) 1 w H.out (by omega) (by omega) (by omega)
    rw [EI] at this
    exact this
  have HT := Lib.hid HS
  clear EI HS h0 h1
  go_enter Tryz.func128, Tryz.ntmps128
  go_wp2_with fail
  refine (HT.out).mono ?_
  rintro e w' ⟨rfl, rfl⟩
  go_wp2_with fail
  refine (clone_ok _ _ _ _ _ _ (by omega) (by omega) HR.out).mono ?_
  rintro e w1 ⟨g, c', rfl, hm, hb⟩
  have HM := Lib.hid hm
  have hcell := hm.cell i hi
  have hfree := hm.free i
  have hsz := hm.2.2.1
  have hg := hm.2.1
  clear hm
  go_wp2
  go_ret2
  exact ⟨g, c', rfl, HM.out.stored i v, hb.setCell (by simpa using hg) _⟩
end Go.Proofs.YtccjelpfmkbmiaaGreatDoor.Ar
end
section
namespace Go.Proofs.YtccjelpfmkbmiaaGreatDoor
open Go.RowKit
set_option maxRecDepth 100000
attribute [local go_sem] Oper.semAt_some

/-- The first word of the cell at a; the page that it begins on. -/
def wd (d : Hd_) (a : Int) : Int := d.ws.getD (a - 16).toNat 0
def pgAt (d : Hd_) (a : Int) : Int × Int := d.f (a / 16 - 1).toNat
/-- What is handed to the function: where the cell begins, its page, its head. -/
def cellV (a x : Int) (p : Int × Int) : Value := .agg #[.int .i64 a, .int .i64 p.1, .int .i64 p.2, .bool (decide (x % 2 = 1)), .bool (decide (x / 2 % 2 = 1)), .bool (decide (x / 4 % 2 = 1)), .int .i64 (nOf x), .int .i64 (x / 1024 % 4194304), .int .i64 (x / 4294967296)]
theorem HBox.same {W W' : World} {b : Nat} {s : Hs} (h : HBox W b s) (hs : W'.heap[b]? = W.heap[b]?) (hl : W.heap.size ≤ W'.heap.size) : HBox W' b s :=
  ⟨(World.cell?_of_block (a := ⟨b, 0, none⟩) hs).trans h.c0, (World.cell?_of_block (a := ⟨b, 1, none⟩) hs).trans h.c1, (World.cell?_of_block (a := ⟨b, 2, none⟩) hs).trans h.c2, (World.cell?_of_block (a := ⟨b, 3, none⟩) hs).trans h.c3, (World.cell?_of_block (a := ⟨b, 4, none⟩) hs).trans h.c4, (World.cell?_of_block (a := ⟨b, 5, none⟩) hs).trans h.c5, Nat.lt_of_lt_of_le h.lt hl⟩
theorem row_same {w w' : World} {B n : Nat} {a : Option Addr} {xs : List Int} (h : Row w B a n xs) (hs : 0 < n → ∀ x, a = some x → w'.heap[x.block]? = w.heap[x.block]?) : Row w' B a n xs :=
  ⟨h.1, fun hn => by
    obtain ⟨b, off, e, hlt, hc⟩ := h.2 hn
    exact ⟨b, off, e, hlt, fun i hi => (World.cell?_of_block (a := ⟨b, off + i, none⟩) (show w'.heap[b]? = w.heap[b]? from hs hn _ e)).trans (hc i hi)⟩⟩

/-- What the walk of every holds between the cells: its own blocks are M's. -/
structure Ev (w : World) (n₀ : Nat) (M₀ : Nat → Prop) (s : Hs) (la : Option Addr) (n : Nat) (xs : List Int) (M : Nat → Prop) (W : World) : Prop where
  box : HBox W w.heap.size s
  bel : Cl.Kept n₀ M₀ w W
  sup : ∀ k, M₀ k → M k
  row : Row W W.heap.size la n xs
  mb : M w.heap.size
  ml : 0 < n → ∀ x, la = some x → M x.block
  fit : ∀ k, M k → k < W.heap.size
theorem Ev.kept {w : World} {n₀ : Nat} {M₀ : Nat → Prop} {s : Hs} {la : Option Addr} {n : Nat} {xs : List Int} {M : Nat → Prop} {W W' : World} (h : Ev w n₀ M₀ s la n xs M W) (hk : Cl.Kept n₀ M W W') : Ev w n₀ M₀ s la n xs M W' :=
  ⟨h.box.same (hk.2 _ h.mb h.box.lt) hk.1.size, h.bel.trans (hk.less h.sup), h.sup, (row_same h.row fun h0 x hx => hk.2 _ (h.ml h0 x hx) (h.fit _ (h.ml h0 x hx))).more hk.1.size, h.mb, h.ml, fun k hM => Nat.lt_of_lt_of_le (h.fit k hM) hk.1.size⟩
/-- .. with M's blocks and those that the walk has laid since. -/
def more (M : Nat → Prop) (lo hi : Nat) : Nat → Prop := fun k => M k ∨ (lo ≤ k ∧ k < hi)
theorem Ev.next {w : World} {n₀ : Nat} {M₀ : Nat → Prop} {s : Hs} {la : Option Addr} {n : Nat} {xs : List Int} {M : Nat → Prop} {W W' : World} (h : Ev w n₀ M₀ s la n xs M W) (h0 : n₀ ≤ w.heap.size) (hb : Below W.heap.size W W') : Ev w n₀ M₀ s la n xs (more M W.heap.size W'.heap.size) W' := by
  have hs := h.bel.1.size
  have h1 := h.kept (W' := W') ⟨hb.mono (by omega), fun k _ hk => hb.block k hk⟩
  exact ⟨h1.box, h1.bel, fun k hk => .inl (h1.sup k hk), h1.row, .inl h1.mb, fun hl x hx => .inl (h1.ml hl x hx), fun k hk => hk.elim (h1.fit k) (·.2)⟩
theorem bides_more {n₀ : Nat} {J : (Nat → Prop) → List Int → World → Prop} (hJ : Cl.Bides n₀ J) {M : Nat → Prop} {pre : List Int} {W W' : World} (h : J M pre W) (hb : Below W.heap.size W W') (hn : n₀ ≤ W.heap.size) : J (more M W.heap.size W'.heap.size) pre W' :=
  hJ.more h hb hn (fun _ hk => hk)

def Asked (n₀ : Nat) (M₀ : Nat → Prop) (w : World) (J : (Nat → Prop) → List Int → World → Prop) (xs : List Int) (R : Bool) (e : Ending) (w' : World) : Prop :=
  e = .returned (.bool R) ∧ Cl.Kept n₀ M₀ w w' ∧ (R = true → ∃ M, J M xs w')
/-- Of a cell: is its first word a head's, and does what is asked hold of it? -/
def holdsAt (d : Hd_) (p : Int → Bool) (a : Int) : Bool := Hd.isWord (wd d a) && p a
def Asks (gf : Nat) (lb : Array Value) (n₀ : Nat) (d : Hd_) (p : Int → Bool) (xs : List Int) (J : (Nat → Prop) → List Int → World → Prop) : Prop :=
  ∀ M pre a W, pre ++ [a] <+: xs → Hd.isWord (wd d a) = true → J M pre W → Cl.Sz W → (∀ k, M k → k < W.heap.size) →
    Calls Tryz.prog gf (#[cellV a (wd d a) (pgAt d a)] ++ lb) W fun e W' => e = .returned (.bool (p a)) ∧ Cl.Kept n₀ M W W' ∧ (p a = true → J M (pre ++ [a]) W')
theorem all_snoc {xs : List Int} {q : Nat} {g : Int → Bool} (hq : q < xs.length) (hg : g (xs.getD q 0) = false) : xs.all g = false := by
  cases e : xs.all g
  · rfl
  · have := List.all_eq_true.1 e _ (getD_mem hq)
    rw [hg] at this
    cases this
theorem all_every {xs : List Int} {g : Int → Bool} (h : ∀ j, j < xs.length → g (xs.getD j 0) = true) : xs.all g = true := List.all_eq_true.2 fun x hx => by
  obtain ⟨q, hq, rfl⟩ := List.getElem_of_mem hx
  have := h q hq
  rwa [show xs.getD q 0 = xs[q] by simp [List.getD, hq]] at this
theorem prefix_next {xs : List Int} {q : Nat} (hq : q < xs.length) : xs.take q ++ [xs.getD q 0] = xs.take (q + 1) := by
  rw [List.take_succ_eq_append_getElem hq]
  simp [List.getD, hq]

section
variable (s : Hs) (d : Hd_) (w : World) (n₀ : Nat) (M₀ : Nat → Prop) (gf : Nat) (lb : Array Value) (p : Int → Bool) (J : (Nat → Prop) → List Int → World → Prop)
set_option maxHeartbeats 2000000 in
theorem every_core (xs : List Int) (R : Bool) (hxe : Cl.allS d.f s.p.n = xs) (hR : R = xs.all (holdsAt d p)) (hp : Hp w n₀ s d) (h0 : n₀ ≤ w.heap.size) (hn0 : 0 < n₀) (hz : Cl.Sz w) (hf : firstB s d = true) (eg : ∀ args w, (callFunc gf args).run Tryz.prog w = .ok (.enter gf args) w) (hJ : Cl.Bides n₀ J) (j0 : J M₀ [] w) (hm0 : ∀ k, M₀ k → k < w.heap.size)
    (hask : Asks gf lb n₀ d p xs J) :
    Calls Tryz.prog 62 #[(.agg #[.slice s.w.a s.w.n s.w.c, .slice s.p.a s.p.n s.p.c, .slice (s.u 0).a (s.u 0).n (s.u 0).c, .slice (s.u 1).a (s.u 1).n (s.u 1).c, .slice (s.u 2).a (s.u 2).n (s.u 2).c, .slice s.c.a s.c.n s.c.c]), .func (.func gf) #[] lb] w (Asked n₀ M₀ w J xs R) := by
  have hall := Cl.all_new n₀ s.p.a s.p.n s.p.c d.f
  have hxs : (Cl.allS d.f s.p.n).length ≤ 100000 := by
    have := Cl.allS_short d.f s.p.n (Cl.allS d.f s.p.n).length
    rw [List.take_length] at this
    omega
  have hin := fun a (h : a ∈ Cl.allS d.f s.p.n) => allS_in h
  rw [hxe] at hall hxs hin
  have HIN := Lib.hid hin
  have HALL := Lib.hid hall
  have HR := Lib.hid hR
  clear hall hin hR hxe
  have hf' := hf
  unfold firstB at hf'
  simp only [Bool.and_eq_true, decide_eq_true_eq] at hf'
  obtain ⟨hwm, hpm, hw, -⟩ := hf'
  have hpn : s.p.n ≤ 64 := ((Cl.mayB_iff _ _).1 hpm).2.1
  have hpn0 : 0 < s.p.n := by have := ((Cl.mayB_iff _ _).1 hpm).1; omega
  obtain ⟨bp, op, ep, hbp, -⟩ := hp.pages hpn0
  rcases s with ⟨sw, ⟨ap, np, cp⟩, su, sc⟩
  obtain rfl : ap = some ⟨bp, op, none⟩ := ep
  dsimp only at hwm hw hpn hpn0 HIN HALL ⊢
  have HP := Lib.hid hp
  have HZ := Lib.hid hz
  have HW := Lib.hid hw
  have HWM := Lib.hid hwm
  have HJ := Lib.hid hJ
  have HJ0 := Lib.hid j0
  have HK := Lib.hid hask
  have HM0 := Lib.hid hm0
  clear hp hz hw hf hJ j0 hask hpm hwm hm0
  go_enter Tryz.func62, Tryz.ntmps62
  go_wp2_with fail
  have b0 := (Below.refl w.heap.size w).alloc (Nat.le_refl _) (.cells #[.slice sw.a sw.n sw.c, .slice (some ⟨bp, op, none⟩) np cp, .slice (su 0).a (su 0).n (su 0).c, .slice (su 1).a (su 1).n (su 1).c, .slice (su 2).a (su 2).n (su 2).c, .slice sc.a sc.n sc.c] 28)

  refine (HALL.out _ (by omega) (HZ.out.alloc _) (HP.out.pages.below (b0.mono h0)) (by simp; omega)).mono ?_
  rintro r w2 hl
  obtain ⟨la, lc, rfl, hrow, _, _, hb2, hlies⟩ := hl
  have hbw := b0.trans (hb2.mono (by simp))
  have E2 : Hid (Ev w n₀ M₀ ⟨sw, ⟨some ⟨bp, op, none⟩, np, cp⟩, su, sc⟩ la xs.length xs (more M₀ w.heap.size w2.heap.size) w2) := Lib.hid
    ⟨(HBox.new w ⟨sw, ⟨some ⟨bp, op, none⟩, np, cp⟩, su, sc⟩ 28).next hb2, ⟨hbw.mono h0, fun k _ hk => hbw.block k hk⟩, fun k hk => .inl hk, hrow, .inr ⟨Nat.le_refl _, by have := hb2.size; simp at this; omega⟩, fun hl0 x hx => .inr ⟨by have := hlies x hx; simp at this; omega, by
      obtain ⟨b, off, e, hlt, _⟩ := hrow.2 hl0
      rw [hx] at e
      cases e
      exact hlt⟩, fun k hk => hk.elim (fun hf => Nat.lt_of_lt_of_le (HM0.out k hf) hbw.size) (·.2)⟩
  have J2 := Lib.hid (bides_more HJ.out HJ0.out hbw h0)
  obtain ⟨n, hn⟩ : ∃ n, xs.length = n := ⟨_, rfl⟩
  have HN := Lib.hid hn
  rw [hn] at E2 hxs ⊢
  clear hrow hb2 hlies hbw b0 hn
  go_wp2
  go_loopw [17] (fun i wr => ∃ q : Nat, q ≤ n ∧ i = .int .i64 q ∧ Hid (∀ j, j < q → holdsAt d p (xs.getD j 0) = true) ∧ Hid (∃ M, Ev w n₀ M₀ ⟨sw, ⟨some ⟨bp, op, none⟩, np, cp⟩, su, sc⟩ la n xs M wr ∧ J M (xs.take q) wr)) (fun i _ => n - (intOf i).toNat)
  case atStart => exact ⟨0, Nat.zero_le _, rfl, Lib.hid (fun j h => absurd h (by omega)), Lib.hid ⟨_, E2.out, J2.out⟩⟩
  case round =>
    obtain ⟨q, hq, rfl, HG, HM⟩ := hrel
    by_cases hlt : q < n
    · obtain ⟨M, hE, hj⟩ := HM.out
      have hsz := hE.bel.1.size
      obtain ⟨b, off, rfl, hbl, hcell⟩ := hE.row.2 (by omega)
      have hq1 := hcell q hlt
      obtain ⟨y, hy⟩ : ∃ y, y = xs.getD q 0 := ⟨_, rfl⟩
      rw [← hy] at hq1
      have hmem : y ∈ xs := by
        have : xs[q]? = some y := by rw [hy]; simp [List.getD, List.getElem?_eq_getElem (show q < xs.length by have := HN.out; omega)]
        exact List.mem_of_getElem? this
      have hyin := HIN.out y hmem
      obtain ⟨x, hx⟩ : ∃ x, x = wd d y := ⟨_, rfl⟩
      obtain ⟨pg, hpg⟩ : ∃ pg, pg = pgAt d y := ⟨_, rfl⟩
      obtain ⟨k, hk⟩ : ∃ k : Nat, (y - 16) / 16 = k := ⟨((y - 16) / 16).toNat, by omega⟩
      have hkp : k < np := by have := HW.out; omega
      have HPAGE := Lib.hid (fun (W : World) => by
        have := Ar.page_ok sw.a sw.n sw.c y W HWM.out hyin.1 (by have := HW.out; omega)
        rw [hk] at this
        exact this)
      have HGET := Lib.hid (fun (W : World) (hW : Row W n₀ sw.a sw.n d.ws) => by
        have := Ar.get_ok n₀ sw.a sw.n sw.c d.ws y W HWM.out hyin.1 (by have := HW.out; omega) hW
        rw [show d.ws.getD (y - 16).toNat 0 = x from hx.symm] at this
        exact this)
      have hws := Lib.hid ((HP.out.below hE.bel.1).words)
      have hps := Lib.hid ((HP.out.below hE.bel.1).pages)
      have HX := Lib.hid hx
      have HPG := Lib.hid hpg
      have HY := Lib.hid hy
      have HKK := Lib.hid hk
      have HE := Lib.hid hE
      have HJJ := Lib.hid hj
      have i0 : (0 : Int) ≤ q := by omega
      have i1 : (q : Int) < n := by omega
      have q0 := hE.box.c0
      have q1 := hE.box.c1
      have ql := hE.box.lt
      clear hcell hmem hE hj hx hpg hy hk hyin
      go_wp2_with fail
      refine (HPAGE.out _).mono ?_
      rintro e w3 ⟨rfl, rfl⟩
      go_wp2_with fail
      refine (HGET.out _ hws.out).mono ?_
      rintro e w3 ⟨rfl, rfl⟩
      go_wp2_with fail
      refine (unpack_any x _).mono ?_
      cases hw : Hd.isWord x
      · rw [headOf_no hw]
        rintro e w3 ⟨rfl, hb3⟩
        have hR0 : R = false := by rw [HR.out]; exact all_snoc (q := q) (by have := HN.out; omega) (by rw [holdsAt, ← HY.out, ← HX.out, hw]; rfl)
        have HB := Lib.hid (HE.out.bel.trans ⟨hb3.mono (by omega), fun k _ hk => hb3.block k hk⟩)
        have hz3 := hb3.size
        subst hR0
        clear hb3 q0 q1 ql hw hq1
        go_wp2
        go_quiet (fail)
        go_wp2
        go_ret
        exact ⟨rfl, ⟨below_drawn' (HB.out.1.alloc (by omega) _) _, fun k hM hk => (Below.heap_alloc _ _ _ (Nat.lt_of_lt_of_le hk (by omega))).trans (HB.out.2 k hM hk)⟩, fun h => by cases h⟩
      · rw [headOf_yes hw]
        rintro e w3 ⟨rfl, hb3⟩
        have HWD := Lib.hid hw
        obtain ⟨w4, hw4⟩ : ∃ w4, w4 = w3.alloc (.cells #[.bool (decide (x % 2 = 1)), .bool (decide (x / 2 % 2 = 1)), .bool (decide (x / 4 % 2 = 1)), .int .i64 (nOf x), .int .i64 (x / 1024 % 4194304), .int .i64 (x / 4294967296)] 53) := ⟨_, rfl⟩
        have hb4 : Below wr.heap.size wr w4 := by rw [hw4]; exact hb3.alloc hb3.size _
        have x0 : w4.cell? ⟨w3.heap.size, 0, none⟩ = some (.bool (decide (x % 2 = 1))) := by rw [hw4]; simp [go_sem]
        have x1 : w4.cell? ⟨w3.heap.size, 1, none⟩ = some (.bool (decide (x / 2 % 2 = 1))) := by rw [hw4]; simp [go_sem]
        have x2 : w4.cell? ⟨w3.heap.size, 2, none⟩ = some (.bool (decide (x / 4 % 2 = 1))) := by rw [hw4]; simp [go_sem]
        have x3 : w4.cell? ⟨w3.heap.size, 3, none⟩ = some (.int .i64 (nOf x)) := by rw [hw4]; simp [go_sem]
        have x4 : w4.cell? ⟨w3.heap.size, 4, none⟩ = some (.int .i64 (x / 1024 % 4194304)) := by rw [hw4]; simp [go_sem]
        have x5 : w4.cell? ⟨w3.heap.size, 5, none⟩ = some (.int .i64 (x / 4294967296)) := by rw [hw4]; simp [go_sem]
        have xl : w3.heap.size < w4.heap.size := by rw [hw4]; simp
        have hE4 := HE.out.next h0 hb4
        have hJ4 := bides_more HJ.out HJJ.out hb4 (by omega)
        have HW4 := Lib.hid hw4
        obtain ⟨bp', op', ep, _, hcp⟩ := ((HP.out.below hE4.bel.1).pages) hpn0
        simp only [Option.some.injEq, Addr.mk.injEq, and_true] at ep
        obtain ⟨rfl, rfl⟩ := ep
        obtain ⟨p0, p1⟩ := hcp k hkp
        rw [show d.f k = pg by rw [HPG.out, pgAt, show (y / 16 - 1).toNat = k by have := HKK.out; omega]] at p0 p1
        have hbp4 : bp < w4.heap.size := by have := hE4.bel.1.size; omega
        have c1 := hE4.box.c1
        dsimp only at c1
        have cl := hE4.box.lt
        have H4 := Lib.hid (And.intro hE4 hJ4)
        have k0 : (0 : Int) ≤ k := by omega
        have k1 : (k : Int) < np := by omega
        clear hcp hb3 hw hw4 hb4 hE4 hJ4 q0 q1 ql hq1
        go_wp2
        rw [← HW4.out]
        go_still_tail 12, (by kernel_rfl)
        change wpList _ _ _ _ _ w4.drew
        have hb5 : Below w4.heap.size w4 w4.drew := below_drawn' (Below.refl _ _) 1
        have hE5 := H4.out.1.kept (W' := w4.drew) ⟨hb5.mono (by have := H4.out.1.bel.1.size; omega), fun _ _ _ => rfl⟩
        have hJ5 := HJ.out _ (more M wr.heap.size w4.heap.size) _ _ w4.drew H4.out.2 (hb5.mono (by have := H4.out.1.bel.1.size; omega)) (fun _ _ _ => rfl) (fun _ hk => .inl hk)
        have HCALL := Lib.hid (HK.out _ _ y w4.drew (show xs.take q ++ [y] <+: xs by rw [HY.out, prefix_next (by have := HN.out; omega)]; exact List.take_prefix _ _) (by rw [← HX.out]; exact HWD.out) hJ5 (HZ.out.over hE5.bel.1 hn0) hE5.fit)
        rw [← HX.out, ← HPG.out] at HCALL
        have HE5 := Lib.hid hE5
        clear hb5 hE5 hJ5 x0 x1 x2 x3 x4 x5 xl p0 p1 hbp4 c1 cl
        generalize w4.drew = w5 at HCALL HE5 ⊢
        go_wp2_with fail
        refine HCALL.out.mono ?_
        rintro e w6 ⟨rfl, hk6, hj6⟩
        have HE6 := Lib.hid (HE5.out.kept hk6)
        have HJ6 := Lib.hid hj6
        clear hk6 hj6
        cases hpy : p y
        · have hR0 : R = false := by rw [HR.out]; exact all_snoc (q := q) (by have := HN.out; omega) (by rw [holdsAt, ← HY.out, hpy, Bool.and_false])
          subst hR0
          clear hpy
          go_wp2
          go_ret
          exact ⟨rfl, HE6.out.bel, fun h => by cases h⟩
        · have HG2 : Hid (∀ j, j < q + 1 → holdsAt d p (xs.getD j 0) = true) := Lib.hid (fun j hj => by
            by_cases e : j = q
            · rw [e, ← HY.out, holdsAt, ← HX.out, HWD.out, hpy]; rfl
            · exact HG.out j (by omega))
          have HM2 : Hid (∃ M, Ev w n₀ M₀ ⟨sw, ⟨some ⟨bp, op, none⟩, np, cp⟩, su, sc⟩ (some ⟨b, off, none⟩) n xs M w6 ∧ J M (xs.take (q + 1)) w6) := Lib.hid ⟨_, HE6.out, by
            have := HJ6.out hpy
            rwa [HY.out, prefix_next (by have := HN.out; omega)] at this⟩
          clear hpy
          go_wp2
          go_roundw
          case rel => exact ⟨q + 1, by omega, by go_num, HG2, HM2⟩
          case measure => simp [intOf]; omega
    · obtain rfl : q = n := by omega
      have hRt : R = true := by rw [HR.out]; exact all_every (fun j hj => HG.out j (by have := HN.out; omega))
      obtain ⟨M, hE, hj⟩ := HM.out
      rw [List.take_of_length_le (by have := HN.out; omega)] at hj
      have HE := Lib.hid hE
      have HJJ := Lib.hid hj
      subst hRt
      clear hE hj
      go_wp2
      go_ret
      exact ⟨rfl, HE.out.bel, fun _ => ⟨_, HJJ.out⟩⟩
theorem every_any (hp : Hp w n₀ s d) (h0 : n₀ ≤ w.heap.size) (hn0 : 0 < n₀) (hz : Cl.Sz w) (hf : firstB s d = true) (eg : ∀ args w, (callFunc gf args).run Tryz.prog w = .ok (.enter gf args) w) (hJ : Cl.Bides n₀ J) (j0 : J M₀ [] w) (hm0 : ∀ k, M₀ k → k < w.heap.size)
    (hask : Asks gf lb n₀ d p (Cl.allS d.f s.p.n) J) :
    Calls Tryz.prog 62 #[(.agg #[.slice s.w.a s.w.n s.w.c, .slice s.p.a s.p.n s.p.c, .slice (s.u 0).a (s.u 0).n (s.u 0).c, .slice (s.u 1).a (s.u 1).n (s.u 1).c, .slice (s.u 2).a (s.u 2).n (s.u 2).c, .slice s.c.a s.c.n s.c.c]), .func (.func gf) #[] lb] w (Asked n₀ M₀ w J (Cl.allS d.f s.p.n) ((Cl.allS d.f s.p.n).all (holdsAt d p))) :=
  every_core s d w n₀ M₀ gf lb p J _ _ rfl rfl hp h0 hn0 hz hf eg hJ j0 hm0 hask
end
end Go.Proofs.YtccjelpfmkbmiaaGreatDoor
end
section
namespace Go.Proofs.YtccjelpfmkbmiaaGreatDoor
open Go.RowKit
set_option maxRecDepth 100000

theorem info_page : (Tryz.prog.info? 81).map (fun i => (i.zero, i.size, i.bytes)) = some (some (.agg #[.int .i64 0, .int .i64 0]), 2, 16) := by kernel_rfl
theorem info_boolT : (Tryz.prog.info? 4).map (fun i => (i.zero, i.size, i.bytes)) = some (some (.bool false), 1, 1) := by kernel_rfl
def zBools (n : Nat) : Obj := .cells (madeCells #[.bool false] n) 4
theorem make_bools (n : Nat) (h : n ≤ 1000) (w : World) : (Instr.makeSlice 26 (.int .i64 (n : Int)) (.int .i64 (n : Int))).run Tryz.prog w = .ok (.slice (some ⟨w.heap.size, 0, none⟩) n n) (w.alloc (zBools n)) := by
  obtain ⟨i0, hi, hz0, hz1, hz2⟩ := info_parts info_boolT
  have := run_make (P := Tryz.prog) w 26 4 i0 _ Tryz.underlying26 hi hz0 .i64 .i64 n n (by omega) (Int.le_refl _) (by rw [hz2]; omega) (by omega)
  rw [hz1] at this
  unfold zBools
  simpa [Value.cells] using this
def noHs : Hs := ⟨⟨none, 0, 0⟩, ⟨none, 0, 0⟩, Ls.noSl, ⟨none, 0, 0⟩⟩
theorem put6_other (w : World) (b : Nat) (v0 v1 v2 v3 v4 v5 : Value) {k : Nat} (h : ¬ k = b) : (put6 w b v0 v1 v2 v3 v4 v5).heap[k]? = w.heap[k]? :=
  (Below.heap_setCell _ _ _ _ h).trans ((Below.heap_setCell _ _ _ _ h).trans ((Below.heap_setCell _ _ _ _ h).trans ((Below.heap_setCell _ _ _ _ h).trans ((Below.heap_setCell _ _ _ _ h).trans (Below.heap_setCell _ _ _ _ h)))))
end Go.Proofs.YtccjelpfmkbmiaaGreatDoor
end
section
namespace Go.Proofs.YtccjelpfmkbmiaaGreatDoor.Cl
open Go.Proofs.YtccjelpfmkbmiaaGreatDoor
set_option maxRecDepth 100000
open Go.RowKit

def findO (f : Nat → Int × Int) (n : Nat) (m : Int) : Option Nat := if mayB f n && runB m then (List.range (n + 1 - m.toNat)).find? (fun k => freeB f k m.toNat) else none
def findV (f : Nat → Int × Int) (n : Nat) (m : Int) : Int := match findO f n m with | some k => k | none => 0
def findS (f : Nat → Int × Int) (n : Nat) (m : Int) : Bool := (findO f n m).isSome
theorem found {f : Nat → Int × Int} {n : Nat} {m : Int} {k : Nat} (h : findO f n m = some k) :
    Ending.returned (.tuple #[.int .i64 k, .bool true]) = .returned (.tuple #[.int .i64 (findV f n m), .bool (findS f n m)]) := by
  unfold findV findS; rw [h]; rfl
theorem nowhere {f : Nat → Int × Int} {n : Nat} {m : Int} (h : findO f n m = none) :
    Ending.returned (.tuple #[.int .i64 0, .bool false]) = .returned (.tuple #[.int .i64 (findV f n m), .bool (findS f n m)]) := by
  unfold findV findS; rw [h]; rfl

/-- None of the places before j serves. -/
def Passed (f : Nat → Int × Int) (m : Nat) (j : Nat) : Prop := ∀ i, i < j → freeB f i m = false
theorem Passed.zero (f : Nat → Int × Int) (m : Nat) : Passed f m 0 := fun i h => absurd h (by omega)
theorem Passed.next {f : Nat → Int × Int} {m j : Nat} (h : Passed f m j) (hj : freeB f j m = false) : Passed f m (j + 1) := fun i hi => by
  by_cases e : i = j
  · rw [e]; exact hj
  · exact h i (by omega)
/-- The first t pages from j on are free. -/
def Open (f : Nat → Int × Int) (j t : Nat) : Prop := ∀ i, i < t → (f (j + i)).1 = 0
theorem Open.zero (f : Nat → Int × Int) (j : Nat) : Open f j 0 := fun i h => absurd h (by omega)
theorem Open.next {f : Nat → Int × Int} {j t : Nat} (h : Open f j t) (ht : (f (j + t)).1 = 0) : Open f j (t + 1) := fun i hi => by
  by_cases e : i = t
  · rw [e]; exact ht
  · exact h i (by omega)

end Go.Proofs.YtccjelpfmkbmiaaGreatDoor.Cl
end
section
namespace Go.Proofs.YtccjelpfmkbmiaaGreatDoor.Cl
open Go.Proofs.YtccjelpfmkbmiaaGreatDoor
set_option maxRecDepth 100000
open Go.RowKit

end Go.Proofs.YtccjelpfmkbmiaaGreatDoor.Cl
end
section
namespace Go.Proofs.YtccjelpfmkbmiaaGreatDoor.Cl
open Go.Proofs.YtccjelpfmkbmiaaGreatDoor
set_option maxRecDepth 100000
open Go.RowKit

theorem info_page : (Tryz.prog.info? 81).map (fun i => (i.zero, i.size, i.bytes)) = some (some (.agg #[.int .i64 0, .int .i64 0]), 2, 16) := by kernel_rfl

/-- The row's block is as it was. -/
theorem PMine.kept {w w' : World} {base e g n c : Nat} {f : Nat → Int × Int} (h : PMine w base e g n c f) (hg : w'.heap[g]? = w.heap[g]?) (hs : w.heap.size ≤ w'.heap.size) : PMine w' base e g n c f := by
  obtain ⟨⟨h1, h2⟩, h3, h4, h5⟩ := h
  refine ⟨⟨h1, ?_⟩, h3, by omega, h5⟩
  rcases h2 with h2 | ⟨g', cap, cur, hv, hb, hh, hr⟩
  · exact .inl h2
  · simp only [Value.slice.injEq, Option.some.injEq, Addr.mk.injEq, and_true, true_and] at hv
    obtain ⟨rfl, rfl⟩ := hv
    exact .inr ⟨g, c, cur, rfl, hb, hg.trans hh, hr⟩
theorem PMine.alloc {w : World} {base e g n c : Nat} {f : Nat → Int × Int} (h : PMine w base e g n c f) (o : Obj) : PMine (w.alloc o) base e g n c f :=
  h.kept (Below.heap_alloc w o g h.2.2.1) (by simp)
theorem PMine.below {w w' : World} {base e g n c B : Nat} {f : Nat → Int × Int} (h : PMine w base e g n c f) (hb : Below B w w') (hg : g < B) : PMine w' base e g n c f :=
  h.kept (hb.block g hg) hb.size

/-- A copy of the call's own was returned; all that was there is as it was. -/
def PMade (w : World) (n : Nat) (f : Nat → Int × Int) (e : Ending) (w' : World) : Prop :=
  ∃ g c, e = .returned (.slice (some ⟨g, 0, none⟩) n c) ∧ PMine w' w.heap.size 81 g n c f ∧ Below w.heap.size w w'

theorem pcells_of {w : World} {b off n : Nat} {f : Nat → Int × Int} (hc : ∀ i, i < n → w.cell? ⟨b, off + i * 2, none⟩ = some (.int .i64 (f i).1) ∧ w.cell? ⟨b, off + i * 2 + 1, none⟩ = some (.int .i64 (f i).2))
    (j : Nat) (u : Value) (hj : (pcells f n)[j]? = some u) : w.cell? ⟨b, off + j, none⟩ = some u := by
  have hjn : j < n * 2 := by
    have := (List.getElem?_eq_some_iff.1 hj).1
    rwa [pcells_length] at this
  rw [pcells_at f n j hjn] at hj
  obtain rfl := Option.some.inj hj
  by_cases hm : j % 2 = 0
  · have := (hc (j / 2) (by omega)).1
    rw [show off + j / 2 * 2 = off + j by omega] at this
    rw [this]
    simp [pcell, hm]
  · have := (hc (j / 2) (by omega)).2
    rw [show off + j / 2 * 2 + 1 = off + j by omega] at this
    rw [this]
    simp [pcell, hm]
theorem pcells_one {f : Nat → Int × Int} {n : Nat} : ∀ u ∈ pcells f n, u.oneCell' = true := by
  intro u hu
  obtain ⟨x, _, rfl⟩ := List.mem_map.1 hu
  rfl

theorem pclone_ok (B : Nat) (A : Option Addr) (n c : Nat) (f : Nat → Int × Int) (w : World) (hn : 0 < n) (hbig : n ≤ 1000) (hr : PRow w B A n f) :
    Calls Tryz.prog 86 #[.slice A n c] w (PMade w n f) := by
  obtain ⟨i0, hi, hz0, hz1, hz2⟩ := info_parts info_page
  obtain ⟨b, off, rfl, _, hc⟩ := hr hn
  have HC := Lib.hid hc
  have q22 : ∀ (w : World) (a : Option Addr) (n c n' c' : Nat), (binOp .eql 23 (.slice a n c) (.slice none n' c')).run Tryz.prog w = .ok (.bool a.isNone) w := fun w a n c n' c' => Lib.run_eql_slice_nil w _ _ a n c n' c' Tryz.underlying23
  have u22 : ∀ w, Sem.run Tryz.prog (underlying 23) w = .ok (TypeDesc.slice 81) w := run_underlying Tryz.underlying23
  clear hc hr
  go_enter Tryz.func86, Tryz.ntmps86
  go_wp2_with (at_builtin; refine wpList_append_own _ rfl _ _ 23 rfl w.heap.size 81 i0 (.agg #[.int .i64 0, .int .i64 0]) 2 16 Tryz.underlying23 hi hz0 hz1 hz2 rfl (by decide) _ _ _ rfl (World.ownsRow_made w #[] 0 (Nat.le_refl _) (Nat.zero_le _) rfl) ⟨b, off, none⟩ n c (pcells f n) rfl ?qc1 ?qc2 ?qc3 ?qc4 ?qc5 ?qc6 ?_)
  case qc1 => exact pcells_length f n
  case qc2 =>
    intro j u hj
    rw [Addr.add_lit]
    exact Lib.cell?_alloc_some _ (pcells_of HC.out j u hj)
  case qc3 => exact pcells_one
  case qc4 => unfold maxLen; omega
  case qc5 => omega
  case qc6 => simp
  intro v' w1 hown hgrow hnil
  have hown' : w1.ownsRow w.heap.size 81 2 v' n (pcells f n) := by simpa using hown
  obtain ⟨g, c', rfl, hm⟩ := pmine_of hown' hn
  have HM := Lib.hid hm
  clear hown hown' hnil hm
  go_wp2
  go_ret
  exact ⟨g, c', rfl, HM.out, ((Below.refl _ w).alloc (Nat.le_refl _) _).grown hgrow (by simp) (by intro k hk; simp [Value.ownBlock] at hk; omega)⟩

end Go.Proofs.YtccjelpfmkbmiaaGreatDoor.Cl
end
section
namespace Go.Proofs.YtccjelpfmkbmiaaGreatDoor
open Go.RowKit
set_option maxRecDepth 100000

theorem iclone_any (B : Nat) (A : Option Addr) (n c : Nat) (xs : List Int) (w : World) (hn : n ≤ 2000000) (hB : B ≤ w.heap.size) (hr : Row w B A n xs) :
    Calls Tryz.prog 85 #[.slice A n c] w (Ls.AllOut w xs) := by
  have HR := Lib.hid hr
  have q22 : ∀ (w : World) (a : Option Addr) (n c n' c' : Nat), (binOp .eql 22 (.slice a n c) (.slice none n' c')).run Tryz.prog w = .ok (.bool a.isNone) w := fun w a n c n' c' => Lib.run_eql_slice_nil w _ _ a n c n' c' Tryz.underlying22
  have hl := hr.1
  have hA : A = none → n = 0 ∧ xs = [] := fun e => by
    by_cases h0 : n = 0
    · exact ⟨h0, List.eq_nil_of_length_eq_zero (by omega)⟩
    · obtain ⟨b, off, e', _⟩ := hr.2 (by omega)
      rw [e] at e'
      cases e'
  clear hr hl
  cases A with
  | none =>
    obtain ⟨rfl, rfl⟩ := hA rfl
    clear hA
    go_enter Tryz.func85, Tryz.ntmps85
    go_wp2
    go_ret
    exact ⟨⟨none, 0, 0⟩, rfl, World.ownsRow_nil _ _ _ _, Below.refl _ _⟩
  | some x =>
    clear hA
    go_enter Tryz.func85, Tryz.ntmps85
    go_wp2_with (at_builtin; refine Ls.list_cat rfl (.tmp 5) (.tmp 6) rfl rfl rfl (xs := []) (World.ownsRow_made w #[] 0 (Nat.le_refl _) (Nat.zero_le _) rfl) (HR.out.below ((Below.refl B w).alloc hB _)) (by simp) (by omega) ?_)
    intro p' cp' w1 hcat
    have ho := hcat.own
    have hg := hcat.grown
    have HO := Lib.hid ho
    have HG := Lib.hid hg
    clear hcat ho hg
    go_wp2
    go_ret
    exact ⟨⟨p', n, cp'⟩, rfl, HO.out, ((Below.refl _ w).alloc (Nat.le_refl _) _).grown HG.out (by simp) (by intro k hk; simp [Value.ownBlock] at hk; omega)⟩

def bcells (f : Nat → Bool) (n : Nat) : List Value := (List.range n).map fun i => .bool (f i)
theorem bcells_at (f : Nat → Bool) (n i : Nat) (h : i < n) : (bcells f n)[i]? = some (.bool (f i)) := by simp [bcells, h]
theorem info_boolC : (Tryz.prog.info? 4).map (fun i => (i.zero, i.size, i.bytes)) = some (some (.bool false), 1, 1) := by kernel_rfl
/-- A row of truth values in a block of the call's own. -/
def BMade (w : World) (n : Nat) (f : Nat → Bool) (e : Ending) (w' : World) : Prop :=
  ∃ g c, e = .returned (.slice (some ⟨g, 0, none⟩) n c) ∧ (∀ i, i < n → w'.cell? ⟨g, i, none⟩ = some (.bool (f i))) ∧ (∀ i, w'.frozen? ⟨g, i, none⟩ = false) ∧ w.heap.size ≤ g ∧ g < w'.heap.size ∧ Below w.heap.size w w'
theorem bmade_of {w w1 : World} {v : Value} {n : Nat} {f : Nat → Bool} (h : w1.ownsRow w.heap.size 4 1 v n (bcells f n)) (hn : 0 < n) :
    ∃ g c, v = .slice (some ⟨g, 0, none⟩) n c ∧ (∀ i, i < n → w1.cell? ⟨g, i, none⟩ = some (.bool (f i))) ∧ w.heap.size ≤ g ∧ g < w1.heap.size := by
  rcases h.2 with ⟨rfl, h0⟩ | ⟨g, c, cur, rfl, hb, hh, hnc, hcm, _⟩
  · omega
  · exact ⟨g, c, rfl, fun i hi => (h.cellAt i (by omega)).trans (bcells_at f n i hi), hb, (Array.getElem?_eq_some_iff.1 hh).1⟩
theorem bclone_ok (B : Nat) (A : Option Addr) (n c : Nat) (f : Nat → Bool) (w : World) (hn : 0 < n) (hbig : n ≤ 1000000) (hr : BRow w B A n f) :
    Calls Tryz.prog 88 #[.slice A n c] w (BMade w n f) := by
  obtain ⟨i0, hi, hz0, hz1, hz2⟩ := info_parts info_boolC
  obtain ⟨b, off, rfl, _, hc⟩ := hr hn
  have HC := Lib.hid hc
  have q22 : ∀ (w : World) (a : Option Addr) (n c n' c' : Nat), (binOp .eql 26 (.slice a n c) (.slice none n' c')).run Tryz.prog w = .ok (.bool a.isNone) w := fun w a n c n' c' => Lib.run_eql_slice_nil w _ _ a n c n' c' Tryz.underlying26
  have u22 : ∀ w, Sem.run Tryz.prog (underlying 26) w = .ok (TypeDesc.slice 4) w := run_underlying Tryz.underlying26
  clear hc hr
  go_enter Tryz.func88, Tryz.ntmps88
  go_wp2_with (at_builtin; refine wpList_append_own _ rfl _ _ 26 rfl w.heap.size 4 i0 (.bool false) 1 1 Tryz.underlying26 hi hz0 hz1 hz2 rfl (by decide) _ _ _ rfl (World.ownsRow_made w #[] 0 (Nat.le_refl _) (Nat.zero_le _) rfl) ⟨b, off, none⟩ n c (bcells f n) rfl ?qc1 ?qc2 ?qc3 ?qc4 ?qc5 ?qc6 ?_)
  case qc1 => simp [bcells]
  case qc2 =>
    intro j u hj
    rw [Addr.add_lit]
    have hjn : j < n := by
      have := (List.getElem?_eq_some_iff.1 hj).1
      simpa [bcells] using this
    rw [bcells_at f n j hjn] at hj
    rw [← hj]
    exact Lib.cell?_alloc_some _ (HC.out j hjn)
  case qc3 =>
    intro u hu
    obtain ⟨x, _, rfl⟩ := List.mem_map.1 hu
    rfl
  case qc4 => unfold maxLen; omega
  case qc5 => omega
  case qc6 => simp
  intro v' w1 hown hgrow hnil
  have hown' : w1.ownsRow w.heap.size 4 1 v' n (bcells f n) := by simpa using hown
  obtain ⟨g, c', rfl, hm, hb, hl⟩ := bmade_of hown' hn
  have HM := Lib.hid hm
  have HFZ : Hid (∀ i, w1.frozen? ⟨g, i, none⟩ = false) := Lib.hid fun i => hown'.frozenAt i
  clear hown hown' hnil hm
  go_wp2
  go_ret
  exact ⟨g, c', rfl, HM.out, HFZ.out, hb, hl, ((Below.refl _ w).alloc (Nat.le_refl _) _).grown hgrow (by simp) (by intro k hk; simp [Value.ownBlock] at hk; omega)⟩
end Go.Proofs.YtccjelpfmkbmiaaGreatDoor
end
section
namespace Go.Proofs.YtccjelpfmkbmiaaGreatDoor.Ls
open Go.Proofs.YtccjelpfmkbmiaaGreatDoor
open Go.RowKit
set_option maxRecDepth 100000

structure AOwn (w wr : World) (f : Nat → List Int) (k : Nat) (v : Nat → Sl) : Prop where
  box : Box3 wr w.heap.size v
  res : Box3 wr (w.heap.size + 1) noSl
  own : OwnTo wr (w.heap.size + 2) k v f
  bel : Below w.heap.size w wr
theorem AOwn.size {w wr : World} {v : Nat → Sl} {f : Nat → List Int} {k : Nat} (h : AOwn w wr f k v) : w.heap.size + 2 ≤ wr.heap.size := by have := h.res.lt; omega
theorem AOwn.step {w wr w1 w2 : World} {v : Nat → Sl} {f : Nat → List Int} {k : Nat} (h : AOwn w wr f k v) (hk : k < 3) (s : Sl)
    (ho : w1.ownsRow wr.heap.size 3 1 (.slice s.a s.n s.c) s.n ((f k).map (Value.int .i64))) (b1 : Below wr.heap.size wr w1) (e2 : w2 = w1.setCell ⟨w.heap.size, k, none⟩ (.slice s.a s.n s.c)) : AOwn w w2 f (k + 1) (upd v k s) := by
  have hs := h.size
  subst e2
  refine ⟨(h.box.next b1).set hk s, (h.res.next b1).other (by simp) _, ?_, (h.bel.trans (b1.mono h.bel.size)).setCell (p := ⟨w.heap.size, k, none⟩) (by simp) _⟩
  refine h.own.step hs s (World.ownsRow.same ho (fun g hg' _ => Below.heap_setCell _ _ _ _ ?_)) (fun j hj hlt => (Below.heap_setCell _ _ _ _ (by show ¬ j = w.heap.size; omega)).trans (b1.block j hlt))
  have := (ho.lt g hg').1
  show ¬ g = w.heap.size
  omega
theorem aown_any (B : Nat) (u : Nat → Sl) (f : Nat → List Int) (w : World) (h : L3 w B u f) (hB : B ≤ w.heap.size) (hn : ∀ j, j < 3 → (u j).n ≤ 2000000) :
    Calls Tryz.prog 87 #[(.agg #[.slice (u 0).a (u 0).n (u 0).c, .slice (u 1).a (u 1).n (u 1).c, .slice (u 2).a (u 2).n (u 2).c])] w (COut w f) := by
  have C4 := Lib.hid (fun j (hj : j < 3) W (hb : Below w.heap.size w W) => iclone_any B (u j).a (u j).n (u j).c (f j) W (hn j hj) (Nat.le_trans hB hb.size) ((h j hj).1.over hb hB))
  clear h hn
  go_enter Tryz.func87, Tryz.ntmps87
  go_wp2
  go_loopw [6] (fun i wr => ∃ (k : Nat) (v : Nat → Sl), k ≤ 3 ∧ i = .int .i64 k ∧ Hid (AOwn w wr f k v)) (fun i _ => 3 - (intOf i).toNat)
  case atStart =>
    refine ⟨0, u, by omega, rfl, Lib.hid ⟨(Box3.new w u 25).alloc _, ?_, OwnTo.start _ _ _ _, ((Below.refl _ _).alloc (Nat.le_refl _) _).alloc (by simp) _⟩⟩
    have := Box3.new (w.alloc (.cells #[.slice (u 0).a (u 0).n (u 0).c, .slice (u 1).a (u 1).n (u 1).c, .slice (u 2).a (u 2).n (u 2).c] 25)) noSl 25
    rw [World.size_alloc] at this
    exact this
  case round =>
    obtain ⟨k, v, hk, rfl, HC⟩ := hrel
    by_cases hlt : k < 3
    · have hix := index_of u k hlt
      go_wp2_with fail
      refine (C4.out k hlt _ HC.out.bel).mono ?_
      rintro e w1 ⟨s, rfl, ho, hb1⟩
      have hB1 := HC.out.box.next hb1
      have hc1 := hB1.cell k hlt
      have hf1 := hB1.free k
      have hl1 := hB1.lt
      have S1 := Lib.hid (HC.out.step hlt s ho hb1 rfl)
      clear ho hb1 hB1
      go_wp2
      go_roundw
      case rel => exact ⟨k + 1, _, by omega, by go_num, S1⟩
      case measure => simp [intOf]; omega
    · obtain rfl : k = 3 := by omega
      have r0 := HC.out.box.cell 0 (by decide)
      have r1 := HC.out.box.cell 1 (by decide)
      have r2 := HC.out.box.cell 2 (by decide)
      have rl := HC.out.box.lt
      have x0 := HC.out.res.cell 0 (by decide)
      have x1 := HC.out.res.cell 1 (by decide)
      have x2 := HC.out.res.cell 2 (by decide)
      have y0 := HC.out.res.free 0
      have y1 := HC.out.res.free 1
      have y2 := HC.out.res.free 2
      have xl := HC.out.res.lt
      go_wp2
      refine bodyPost_ret (v := (.agg #[.slice (v 0).a (v 0).n (v 0).c, .slice (v 1).a (v 1).n (v 1).c, .slice (v 2).a (v 2).n (v 2).c])) ?_ rfl ⟨v, rfl, (HC.out.own.own3.put (b := w.heap.size + 1) (fun j x hj hx => by have := (HC.out.own.own3.block j hj hx).1; omega) v).less (by omega), below_put3 HC.out.bel (by omega) v⟩
      simp [results, Tryz.results87, go_sem, x0, x1, x2]
end Go.Proofs.YtccjelpfmkbmiaaGreatDoor.Ls
end
