/-
  Merged texts: LsApart, HpMay, HpMayB, HpMayC, HpHead, HpHeadI, Plain, Make.
-/
import Derived.Test.YtdmclfolooiccaaGreatDoorHpAC
import Derived.Test.YtdmclfolooiccaaGreatDoorAShelf
import Derived.Sort.OwnSortedInts
import Derived.Test.YtdmclfolooiccaaGreatDoorHpAH
import Derived.Deep.RegionHeld3
import Derived.Deep.DrawnRows
import Derived.Test.YtdmclfolooiccaaGreatDoorRows
import Derived.Test.YtdmclfolooiccaaGreatDoorHpAA
import Derived.WalkKit
import Derived.Below
import Derived.WalkSmall
import Derived.RegionTactic
import Derived.ChangeAlike
import Derived.Deep.QuietTactic
import Derived.BigQuiet
import Derived.Lib.Hide
import Derived.Lib.SliceRun
import Derived.WalkSpells
section
namespace Go.Proofs.YtdmclfolooiccaaGreatDoor.Ls
open Go.Proofs.YtdmclfolooiccaaGreatDoor
set_option maxRecDepth 100000
open Go.RowKit Go.Sort

/-- The library's order. -/
abbrev srt (xs : List Int) : List Int := xs.mergeSort fun x y => decide (x ≤ y)
theorem srt_len (xs : List Int) : (srt xs).length = xs.length := List.length_mergeSort xs
theorem srt_le (xs : List Int) : (srt xs).Pairwise (· ≤ ·) := by
  have := List.pairwise_mergeSort (le := fun x y : Int => decide (x ≤ y)) (fun a b c h1 h2 => by simp at *; omega) (fun a b => by simp; omega) xs
  exact this.imp (fun h => by simpa using h)
theorem compact_len (zs : List Int) : (Lib.compact zs).length = zs.length ↔ ∀ j, j < zs.length → Lib.keeps zs.toArray j = true := by
  unfold Lib.compact Lib.compactUpTo
  rw [List.length_map]
  constructor
  · intro h j hj
    have : ((List.range zs.length).filter (Lib.keeps zs.toArray)).length = (List.range zs.length).length := by rw [h, List.length_range]
    exact List.length_filter_eq_length_iff.1 this j (List.mem_range.2 hj)
  · intro h
    have := List.length_filter_eq_length_iff.2 (fun j hj => h j (List.mem_range.1 hj) : ∀ j ∈ List.range zs.length, Lib.keeps zs.toArray j = true)
    rw [this, List.length_range]
theorem keeps_iff (zs : List Int) {j : Nat} (hj : j < zs.length) (h0 : 0 < j) : Lib.keeps zs.toArray j = true ↔ ¬ zs[j] = zs[j - 1] := by
  unfold Lib.keeps
  rw [decide_eq_true_iff, getElem!_pos zs.toArray j (by simpa using hj), getElem!_pos zs.toArray (j - 1) (by simp; omega)]
  simp
  omega
theorem sorted_apart (zs : List Int) (hs : zs.Pairwise (· ≤ ·)) : (Lib.compact zs).length = zs.length ↔ zs.Nodup := by
  rw [compact_len]
  have hle := List.pairwise_iff_getElem.1 hs
  constructor
  · intro h
    unfold List.Nodup
    rw [List.pairwise_iff_getElem]
    intro i j hi hj hij
    have h1 := (keeps_iff zs hj (by omega)).1 (h j hj)
    have h2 := hle (j - 1) j (by omega) hj (by omega)
    by_cases e : i = j - 1
    · subst e
      intro e2
      exact h1 e2.symm
    · have h3 := hle i (j - 1) hi (by omega) (by omega)
      omega
  · intro h j hj
    by_cases h0 : j = 0
    · subst h0
      exact Lib.keeps_lt_one _ 0 (by omega)
    · refine (keeps_iff zs hj (by omega)).2 ?_
      unfold List.Nodup at h
      have := List.pairwise_iff_getElem.1 h (j - 1) j (by omega) hj (by omega)
      intro e
      exact this e.symm
theorem apart_iff (xs : List Int) : (Lib.compact (srt xs)).length = xs.length ↔ xs.Nodup := by
  rw [← srt_len xs, sorted_apart _ (srt_le xs)]
  exact (List.mergeSort_perm xs _).nodup_iff

theorem rint {a b : Bool} (h : a = b) : Ending.returned (.bool a) = .returned (.bool b) := by rw [h]
/-- A truth was returned. -/
def Tells (w : World) (p : Bool) (e : Ending) (w' : World) : Prop := e = .returned (.bool p) ∧ Below w.heap.size w w'

set_option maxHeartbeats 1000000 in
theorem apart_any (B : Nat) (A : Option Addr) (n c : Nat) (u : Nat → Nat → Sl) (f : Nat → Nat → List Int) (w : World) (h : LRow w B A n u f) (hB : B ≤ w.heap.size) (hn : n ≤ 1000000) (hlen : (allOf f n).length ≤ 2000000) :
    Calls Tryz.prog 48 #[.slice A n c] w (Tells w (decide (allOf f n).Nodup)) := by
  have HL := Lib.hid h
  have HN := Lib.hid hlen
  clear h hlen
  go_enter Tryz.func48, Tryz.ntmps48
  go_wp2_with (go_at_call 38; refine (all_any B A n c u f w HL.out hB hn HN.out).mono ?_; rintro e w1 ⟨s, rfl, ho, hb⟩)
  obtain ⟨xs, hxs⟩ : ∃ xs, xs = allOf f n := ⟨_, rfl⟩
  rw [← hxs] at ho HN ⊢
  have hl : s.n = xs.length := by simpa using ho.1.symm
  rw [hl] at ho ⊢
  obtain ⟨sa, sn, sc⟩ := s
  have HX := Lib.hid hxs
  clear hl hxs
  by_cases h0 : xs.length = 0
  · obtain rfl := List.eq_nil_of_length_eq_zero h0
    have HB := Lib.hid hb
    clear ho h0 hb
    go_wp2_with (go_at_call 40; refine (Tryz.slices_Sort_int_none sa sc w1).mono ?_; rintro e w2 ⟨rfl, rfl⟩)
    go_wp2_with (go_at_call 81; refine (Tryz.slices_Compact_int_empty sa sc w2).mono ?_; rintro e w3 ⟨rfl, rfl⟩)
    go_wp2
    go_ret
    exact ⟨by rw [← HX.out]; rfl, HB.out⟩
  · obtain ⟨_, h1⟩ := ho
    rcases h1 with ⟨_, h2⟩ | ⟨g, cap, cur, h2, hbase, hh, hc1, hc2, hsz, htk⟩
    · exact absurd h2 h0
    · simp only [Value.slice.injEq, true_and] at h2
      obtain ⟨rfl, rfl⟩ := h2
      rw [Nat.mul_one] at htk
      have hg : g < w1.heap.size := (Array.getElem?_eq_some_iff.1 hh).1
      have hH := holds_of_blockI (ss := xs) hh htk
      have hx4 : xs.length ≤ 2000000 := HN.out
      go_wp2_with (go_at_call 40; refine (Tryz.slices_Sort_int g 0 sc xs w1 hH hg (by omega)).mono ?_; rintro e w2 ⟨rfl, q, os, hw2⟩; replace hw2 := Lib.hid hw2)
      have ho2 := ownsRow_sortedI (base := w.heap.size) (n := q) (os := os) (ss := xs) (ts := srt xs) (srt_len xs) hbase hh hc1 hc2 hsz
      have hb2 := hb.grown (grownBy_sortedI (n := q) (os := os) (g := g) (srt xs).toArray) hb.size (fun k hk => by simp at hk; omega)
      rw [← hw2.out] at ho2 hb2
      clear hw2 hH htk hh hsz hb hbase
      obtain ⟨_, h3⟩ := ho2
      rcases h3 with ⟨h4, _⟩ | ⟨g', cap', cur', h4, hbase, hh, _, _, hsz, htk⟩
      · cases h4
      · simp only [Value.slice.injEq, Option.some.injEq, Addr.mk.injEq, and_true, true_and] at h4
        obtain ⟨rfl, rfl⟩ := h4
        rw [Nat.mul_one, ← srt_len xs] at htk
        have hH := holds_of_blockI (ss := srt xs) hh htk
        have hl2 := srt_len xs
        have hq : (srt xs).length ≤ 9223372036854775807 := by omega
        have hcp : (srt xs).length ≤ sc := by omega
        have HC := Tryz.slices_Compact_int g 0 sc (srt xs) w2 hH hq hcp
        rw [hl2] at HC
        have HI := apart_iff xs
        obtain ⟨m, hm⟩ : ∃ m, m = (Lib.compact (srt xs)).length := ⟨_, rfl⟩
        rw [← hm] at HC HI
        have hm2 : m ≤ 2000000 := by
          have := List.length_filter_le (Lib.keeps (srt xs).toArray) (List.range (srt xs).length)
          have e : m = ((List.range (srt xs).length).filter (Lib.keeps (srt xs).toArray)).length := by rw [hm]; simp [Lib.compact, Lib.compactUpTo]
          rw [List.length_range] at this
          omega
        have HB := Lib.hid hb2
        have HBs := Lib.hid hbase
        have HII := Lib.hid HI
        clear hb2 hbase HI hm hH htk hh hsz
        go_wp2_with (go_loud (go_at_call 81; refine HC.mono ?_; rintro e w3 ⟨rfl, q3, hw3⟩; replace hw3 := Lib.hid hw3))
        have hb3 : RowKit.Below w.heap.size w2 w3 := by
          rw [hw3.out]
          exact (Below.refl _ _).grown (row := some g) (by have := grownBy_sortedI (w := w2) (n := q3) (os := #[]) (g := g) (Lib.compact (srt xs) ++ List.replicate (xs.length - m) 0).toArray; rwa [grow_empty] at this) HB.out.size (fun k hk => by simp at hk; have := HBs.out; omega)
        have HB3 := Lib.hid (HB.out.trans hb3)
        clear hw3 hb3
        go_wp2
        go_ret
        refine ⟨rint ?_, HB3.out⟩
        rw [← HX.out, Bool.eq_iff_iff, beq_iff_eq, decide_eq_true_iff, ← HII.out]
        exact Int.ofNat_inj

theorem apart_next {xs : List Int} {k : Nat} (h : (xs.take k).Nodup) (hk : k < xs.length) (hm : ∀ m, m < k → ¬ xs.getD k 0 = xs.getD m 0) : (xs.take (k + 1)).Nodup := by
  rw [take_next rfl hk]
  unfold List.Nodup at h ⊢
  rw [List.pairwise_append]
  refine ⟨h, by simp, fun a ha b hb => ?_⟩
  simp only [List.mem_singleton] at hb
  subst hb
  obtain ⟨i, hi, rfl⟩ := List.getElem_of_mem ha
  have hik : i < k := by simp at hi; omega
  have := hm i hik
  intro e
  apply this
  rw [← e]
  simp [List.getD, show i < xs.length by omega]
theorem apart_not {xs : List Int} {k j : Nat} (hk : k < xs.length) (hj : j < k) (he : xs.getD k 0 = xs.getD j 0) : decide xs.Nodup = false := by
  simp only [decide_eq_false_iff_not]
  intro h
  unfold List.Nodup at h
  have := List.pairwise_iff_getElem.1 h j k (by omega) hk hj
  apply this
  simpa [List.getD, hk, show j < xs.length by omega] using he.symm

set_option maxHeartbeats 1000000 in
theorem rapart_any (B : Nat) (A : Option Addr) (n c : Nat) (u : Nat → Nat → Sl) (f : Nat → Nat → List Int) (w : World) (h : LRow w B A n u f) (hB : B ≤ w.heap.size) (hn : n ≤ 1000000) (hlen : (allOf f n).length ≤ 2000000) :
    Calls Tryz.prog 65 #[.slice A n c] w (Tells w (decide (allOf f n).Nodup)) := by
  have HL := Lib.hid h
  have HN := Lib.hid hlen
  clear h hlen
  go_enter Tryz.func65, Tryz.ntmps65
  go_wp2_with (go_at_call 93; refine (rall_any B A n c u f w HL.out hB hn HN.out).mono ?_; rintro e w1 ⟨s, rfl, ho, hb⟩; replace ho := Lib.hid ho; replace hb := Lib.hid hb)
  obtain ⟨a1, c1, e1, hr, _, _⟩ := owns_row ho.out
  obtain ⟨xs, hxs⟩ : ∃ xs, xs = allOf f n := ⟨_, rfl⟩
  rw [← hxs] at hr HN
  have hl : s.n = xs.length := hr.1.symm
  rw [hl] at e1 hr ⊢
  obtain ⟨sa, sn, sc⟩ := s
  simp only [Value.slice.injEq, true_and] at e1
  obtain ⟨rfl, rfl⟩ := e1
  have HX := Lib.hid hxs
  have HR := Lib.hid hr
  have hx4 : xs.length ≤ 2000000 := HN.out
  clear hl hxs hr
  go_wp2
  go_loopw [4] (fun i wr => ∃ k d : Nat, k ≤ xs.length ∧ i = .int .i64 k ∧ wr = w1.drewN d ∧ Hid (xs.take k).Nodup) (fun i _ => xs.length - (intOf i).toNat)
  case atStart => exact ⟨0, 0, Nat.zero_le _, rfl, rfl, Lib.hid (by simp)⟩
  case round =>
    obtain ⟨k, d, hk, rfl, rfl, HD⟩ := hrel
    by_cases hlt : k < xs.length
    · have hlt' : (k : Int) < xs.length := by omega
      go_wp2
      go_loopw [5] (fun i wr => ∃ j d : Nat, j ≤ k ∧ i = .int .i64 j ∧ wr = w1.drewN d ∧ Hid (∀ m, m < j → ¬ xs.getD k 0 = xs.getD m 0)) (fun i _ => k - (intOf i).toNat)
      case atStart => exact ⟨0, _, Nat.zero_le _, rfl, rfl, Lib.hid (fun m hm => absurd hm (by omega))⟩
      case round =>
        obtain ⟨j, d, hj, rfl, rfl, HE⟩ := hrel
        by_cases hjk : j < k
        · obtain ⟨b, off, rfl, _, hc⟩ := HR.out.2 (by omega)
          have h1 := hc k hlt
          have h2 := hc j (by omega)
          have hjl : j < xs.length := by omega
          obtain ⟨x, hx⟩ : ∃ x, x = xs.getD k 0 := ⟨_, rfl⟩
          obtain ⟨y, hy⟩ : ∃ y, y = xs.getD j 0 := ⟨_, rfl⟩
          rw [← hx] at h1
          rw [← hy] at h2
          clear hc
          by_cases he : x = y
          · have HO := Lib.hid (apart_not hlt hjk (hx.symm.trans (he.trans hy)))
            subst he
            clear hx hy HE
            go_wp2
            go_quiet (fail)
            go_wp2
            go_ret
            exact ⟨rint (by rw [← HX.out]; exact HO.out.symm), below_drewN (below_drewN hb.out _) _⟩
          · have HE2 : Hid (∀ m, m < j + 1 → ¬ xs.getD k 0 = xs.getD m 0) := Lib.hid fun m hm => by
              by_cases e : m = j
              · rw [e, ← hx, ← hy]; exact he
              · exact HE.out m (by omega)
            have hd : (x == y) = false := by simpa using he
            clear he hx hy HE
            go_wp2
            go_quiet (fail)
            go_wp2
            go_roundw
            case rel => exact ⟨j + 1, _, by omega, by go_num, rfl, HE2⟩
            case measure => simp [intOf]; omega
        · obtain rfl : j = k := by omega
          have HD2 := Lib.hid (apart_next HD.out hlt HE.out)
          clear HE
          go_wp2
          go_roundw
          case rel => exact ⟨j + 1, _, by omega, by go_num, rfl, HD2⟩
          case measure => simp [intOf]; omega
    · obtain rfl : k = xs.length := by omega
      have HO : Hid (decide xs.Nodup = true) := Lib.hid (by have := HD.out; rw [List.take_length] at this; simpa using this)
      go_wp2
      go_ret
      exact ⟨rint (by rw [← HX.out]; exact HO.out.symm), below_drewN hb.out _⟩
end Go.Proofs.YtdmclfolooiccaaGreatDoor.Ls
end
section
namespace Go.Proofs.YtdmclfolooiccaaGreatDoor
open Go.RowKit
set_option maxRecDepth 100000

def wordsB (n : Nat) : Bool := decide (16 ≤ n ∧ n ≤ 1024 ∧ n % 16 = 0)
theorem rwords_may (A : Option Addr) (n c : Nat) (w : World) (hn : n ≤ 9223372036854775807) : Calls Tryz.prog 60 #[.slice A n c] w fun e w' => e = .returned (.bool (wordsB n)) ∧ w = w' := by
  by_cases h0 : 16 ≤ n
  · have a0 : decide ((16 : Int) ≤ n) = true := by simp; omega
    by_cases h1 : n ≤ 1024
    · have a1 : decide ((n : Int) ≤ 1024) = true := by simp; omega
      by_cases h2 : n % 16 = 0
      · have a2 : ((n : Int) % 16 == 0) = true := by simp; omega
        rw [show wordsB n = true from decide_eq_true ⟨h0, h1, h2⟩]
        clear h0 h1 h2
        go_enter Tryz.func60, Tryz.ntmps60
        go_wp2
        go_ret
        exact ⟨rfl, rfl⟩
      · have a2 : ((n : Int) % 16 == 0) = false := by simp; omega
        rw [show wordsB n = false from decide_eq_false (fun h => h2 h.2.2)]
        clear h0 h1 h2
        go_enter Tryz.func60, Tryz.ntmps60
        go_wp2
        go_ret
        exact ⟨rfl, rfl⟩
    · have a1 : decide ((n : Int) ≤ 1024) = false := by simp; omega
      rw [show wordsB n = false from decide_eq_false (fun h => h1 h.2.1)]
      clear h0 h1
      go_enter Tryz.func60, Tryz.ntmps60
      go_wp2
      go_ret
      exact ⟨rfl, rfl⟩
  · have a0 : decide ((16 : Int) ≤ n) = false := by simp; omega
    rw [show wordsB n = false from decide_eq_false (fun h => h0 h.1)]
    clear h0
    go_enter Tryz.func60, Tryz.ntmps60
    go_wp2
    go_ret
    exact ⟨rfl, rfl⟩
/-- What is looked at first: words, pages, and that there are as many words, and cards, as pages have. -/
def firstB (s : Hs) (d : Hd_) : Bool := wordsB s.w.n && (Cl.mayB d.f s.p.n && (decide (s.w.n = 16 * s.p.n) && decide (s.c.n = 2 * s.p.n)))
theorem rmay_first (s : Hs) (d : Hd_) (A : Option Addr) (m c : Nat) (w : World) (hp : Hp w w.heap.size s d) (hwn : s.w.n ≤ 4000) (hpn : s.p.n ≤ 1000) (hf : firstB s d = false) :
    Calls Tryz.prog 24 #[(.agg #[.slice s.w.a s.w.n s.w.c, .slice s.p.a s.p.n s.p.c, .slice (s.u 0).a (s.u 0).n (s.u 0).c, .slice (s.u 1).a (s.u 1).n (s.u 1).c, .slice (s.u 2).a (s.u 2).n (s.u 2).c, .slice s.c.a s.c.n s.c.c]), .slice A m c] w fun e w' => e = .returned (.bool false) ∧ Below w.heap.size w w' := by
  have HP := Lib.hid hp
  have key : ∀ (b1 b2 b3 b4 : Bool), wordsB s.w.n = b1 → Cl.mayB d.f s.p.n = b2 → ((s.w.n : Int) == 16 * (s.p.n : Int)) = b3 → ((s.c.n : Int) == 2 * (s.p.n : Int)) = b4 → (b1 && (b2 && (b3 && b4))) = false →
      Calls Tryz.prog 24 #[(.agg #[.slice s.w.a s.w.n s.w.c, .slice s.p.a s.p.n s.p.c, .slice (s.u 0).a (s.u 0).n (s.u 0).c, .slice (s.u 1).a (s.u 1).n (s.u 1).c, .slice (s.u 2).a (s.u 2).n (s.u 2).c, .slice s.c.a s.c.n s.c.c]), .slice A m c] w fun e w' => e = .returned (.bool false) ∧ Below w.heap.size w w' := by
    intro b1 b2 b3 b4 e1 e2 e3 e4 hall
    have E1 := Lib.hid e1
    have E2 := Lib.hid e2
    have n3 : ((s.w.n : Int) != 16 * (s.p.n : Int)) = !b3 := by rw [← e3]; rfl
    have n4 : ((s.c.n : Int) != 2 * (s.p.n : Int)) = !b4 := by rw [← e4]; rfl
    clear e1 e2 e3 e4 hp hf
    go_enter Tryz.func24, Tryz.ntmps24
    go_wp2_with fail
    refine (rwords_may _ _ _ _ (by omega)).mono ?_
    rw [E1.out]
    rintro r w1 ⟨rfl, rfl⟩
    go_wp2_with fail
    have hb0 := (Below.refl w.heap.size w).alloc (Nat.le_refl _) (.cells #[.slice s.w.a s.w.n s.w.c, .slice s.p.a s.p.n s.p.c, .slice (s.u 0).a (s.u 0).n (s.u 0).c, .slice (s.u 1).a (s.u 1).n (s.u 1).c, .slice (s.u 2).a (s.u 2).n (s.u 2).c, .slice s.c.a s.c.n s.c.c] 28)
    refine (Cl.rmay_any w.heap.size s.p.a s.p.n s.p.c d.f _ hpn (HP.out.pages.below hb0) (by simp)).mono ?_
    rw [E2.out]
    rintro r w1 ⟨rfl, hb1⟩
    have HB1 := (HBox.new w s 28).next hb1
    have q0 := HB1.c0
    have q1 := HB1.c1
    have q5 := HB1.c5
    have ql := HB1.lt
    have BW := Lib.hid (hb0.trans (hb1.mono (by simp)))
    clear hb1 hb0 HB1
    cases b1
    · clear hall
      go_wp2
      go_ret
      exact ⟨rfl, BW.out⟩
    cases b2
    · clear hall
      go_wp2
      go_ret
      exact ⟨rfl, BW.out⟩
    cases b3
    · clear hall
      go_wp2
      go_ret
      exact ⟨rfl, BW.out⟩
    cases b4
    · clear hall
      go_wp2
      go_ret
      exact ⟨rfl, BW.out⟩
    · cases hall
  refine key _ _ _ _ rfl rfl rfl rfl ?_
  rw [← hf, firstB]
  congr 3
  · rw [Bool.eq_iff_iff, beq_iff_eq, decide_eq_true_iff]
    omega
  · rw [Bool.eq_iff_iff, beq_iff_eq, decide_eq_true_iff]
    omega
end Go.Proofs.YtdmclfolooiccaaGreatDoor
end
section
namespace Go.Proofs.YtdmclfolooiccaaGreatDoor
open Go.RowKit
set_option maxRecDepth 100000
attribute [local go_sem ↓] Go.wp_at_zero Go.wp_at_succ

def cellAt (d : Hd_) (a : Int) : Bool := cellB (d.ws.getD (a - 16).toNat 0) (d.f (a / 16 - 1).toNat)
/-- In the midst of a walk through a heap's function: the box, all that was there. -/
structure HNow (w wr : World) (s : Hs) (d : Hd_) : Prop where
  box : HBox wr w.heap.size s
  bel : Below w.heap.size w wr
  hp : Hp wr w.heap.size s d
theorem HNow.next {w wr w' : World} {s : Hs} {d : Hd_} (h : HNow w wr s d) (hb : Below wr.heap.size wr w') : HNow w w' s d :=
  ⟨h.box.next hb, h.bel.trans (hb.mono h.bel.size), h.hp.below (hb.mono h.bel.size)⟩
theorem HNow.all {w wr : World} {s : Hs} {d : Hd_} (h : HNow w wr s d) : Hp wr wr.heap.size s d := h.hp.more h.bel.size
theorem allS_in {d : Hd_} {n : Nat} {a : Int} (h : a ∈ Cl.allS d.f n) : 16 ≤ a ∧ a < 16 + 16 * (n : Int) := by
  obtain ⟨c, hc, rfl⟩ := List.mem_map.1 h
  obtain ⟨_, k, j, hk, _, _, rfl, h0, h1⟩ := Cl.cell_page hc
  simp only
  omega
theorem rcell_at {w wr : World} {s : Hs} {d : Hd_} (h : HNow w wr s d) (a : Int) (hw : s.w.n = 16 * s.p.n) (hpn : s.p.n ≤ 64) (ha : 16 ≤ a ∧ a < 16 + 16 * (s.p.n : Int)) (hv : ∀ i, -9223372036854775808 ≤ d.ws.getD i 0 ∧ d.ws.getD i 0 ≤ 9223372036854775807) :
    Calls Tryz.prog 63 #[(.agg #[.slice s.w.a s.w.n s.w.c, .slice s.p.a s.p.n s.p.c, .slice (s.u 0).a (s.u 0).n (s.u 0).c, .slice (s.u 1).a (s.u 1).n (s.u 1).c, .slice (s.u 2).a (s.u 2).n (s.u 2).c, .slice s.c.a s.c.n s.c.c]), .int .i64 a] wr fun e w' => e = .returned (.bool (cellAt d a)) ∧ Below wr.heap.size wr w' :=
  rcell_any s d wr a (a - 16).toNat (a / 16 - 1).toNat h.all (by omega) (by omega) (by omega) (by omega) (by omega) (by omega) (hv _).1 (hv _).2
theorem hold_of {w wr : World} {s : Hs} {d : Hd_} {b : Nat} {o : Nat} {y : Int} (h : HNow w wr s d) (hy : wr.cell? ⟨b, o, none⟩ = some (.int .i64 y)) (hl : b < wr.heap.size) :
    (HNow w wr s d ∧ b < wr.heap.size) ∧ w.heap.size < wr.heap.size ∧ wr.cell? ⟨w.heap.size, 0, none⟩ = some (.slice s.w.a s.w.n s.w.c) ∧ wr.cell? ⟨w.heap.size, 1, none⟩ = some (.slice s.p.a s.p.n s.p.c) ∧ wr.cell? ⟨w.heap.size, 2, none⟩ = some (.slice (s.u 0).a (s.u 0).n (s.u 0).c) ∧ wr.cell? ⟨w.heap.size, 3, none⟩ = some (.slice (s.u 1).a (s.u 1).n (s.u 1).c) ∧ wr.cell? ⟨w.heap.size, 4, none⟩ = some (.slice (s.u 2).a (s.u 2).n (s.u 2).c) ∧ wr.cell? ⟨w.heap.size, 5, none⟩ = some (.slice s.c.a s.c.n s.c.c) ∧ wr.cell? ⟨b, o, none⟩ = some (.int .i64 y) :=
  ⟨⟨h, hl⟩, h.box.lt, h.box.c0, h.box.c1, h.box.c2, h.box.c3, h.box.c4, h.box.c5, hy⟩
theorem hold_next {w W W' : World} {s : Hs} {d : Hd_} {b : Nat} {O : Nat} {y : Int} (h : (HNow w W s d ∧ b < W.heap.size) ∧ w.heap.size < W.heap.size ∧ W.cell? ⟨w.heap.size, 0, none⟩ = some (.slice s.w.a s.w.n s.w.c) ∧ W.cell? ⟨w.heap.size, 1, none⟩ = some (.slice s.p.a s.p.n s.p.c) ∧ W.cell? ⟨w.heap.size, 2, none⟩ = some (.slice (s.u 0).a (s.u 0).n (s.u 0).c) ∧ W.cell? ⟨w.heap.size, 3, none⟩ = some (.slice (s.u 1).a (s.u 1).n (s.u 1).c) ∧ W.cell? ⟨w.heap.size, 4, none⟩ = some (.slice (s.u 2).a (s.u 2).n (s.u 2).c) ∧ W.cell? ⟨w.heap.size, 5, none⟩ = some (.slice s.c.a s.c.n s.c.c) ∧ W.cell? ⟨b, O, none⟩ = some (.int .i64 y)) (hb : Below W.heap.size W W') : (HNow w W' s d ∧ b < W'.heap.size) ∧ w.heap.size < W'.heap.size ∧ W'.cell? ⟨w.heap.size, 0, none⟩ = some (.slice s.w.a s.w.n s.w.c) ∧ W'.cell? ⟨w.heap.size, 1, none⟩ = some (.slice s.p.a s.p.n s.p.c) ∧ W'.cell? ⟨w.heap.size, 2, none⟩ = some (.slice (s.u 0).a (s.u 0).n (s.u 0).c) ∧ W'.cell? ⟨w.heap.size, 3, none⟩ = some (.slice (s.u 1).a (s.u 1).n (s.u 1).c) ∧ W'.cell? ⟨w.heap.size, 4, none⟩ = some (.slice (s.u 2).a (s.u 2).n (s.u 2).c) ∧ W'.cell? ⟨w.heap.size, 5, none⟩ = some (.slice s.c.a s.c.n s.c.c) ∧ W'.cell? ⟨b, O, none⟩ = some (.int .i64 y) :=
  hold_of (h.1.1.next hb) ((hb.cell (p := ⟨b, O, none⟩) h.1.2).trans h.2.2.2.2.2.2.2.2) (Nat.lt_of_lt_of_le h.1.2 hb.size)

theorem hold2_of {w W : World} {s : Hs} {d : Hd_} {b b2 o o2 : Nat} {v v2 : Value} (h : HNow w W s d) (h1 : W.cell? ⟨b, o, none⟩ = some v) (h2 : W.cell? ⟨b2, o2, none⟩ = some v2) (l1 : b < W.heap.size) (l2 : b2 < W.heap.size) : (HNow w W s d ∧ b < W.heap.size ∧ b2 < W.heap.size) ∧ w.heap.size < W.heap.size ∧ W.cell? ⟨w.heap.size, 0, none⟩ = some (.slice s.w.a s.w.n s.w.c) ∧ W.cell? ⟨w.heap.size, 1, none⟩ = some (.slice s.p.a s.p.n s.p.c) ∧ W.cell? ⟨w.heap.size, 2, none⟩ = some (.slice (s.u 0).a (s.u 0).n (s.u 0).c) ∧ W.cell? ⟨w.heap.size, 3, none⟩ = some (.slice (s.u 1).a (s.u 1).n (s.u 1).c) ∧ W.cell? ⟨w.heap.size, 4, none⟩ = some (.slice (s.u 2).a (s.u 2).n (s.u 2).c) ∧ W.cell? ⟨w.heap.size, 5, none⟩ = some (.slice s.c.a s.c.n s.c.c) ∧ W.cell? ⟨b, o, none⟩ = some v ∧ W.cell? ⟨b2, o2, none⟩ = some v2 :=
  ⟨⟨h, l1, l2⟩, h.box.lt, h.box.c0, h.box.c1, h.box.c2, h.box.c3, h.box.c4, h.box.c5, h1, h2⟩
theorem hold2_next {w W W' : World} {s : Hs} {d : Hd_} {b b2 o o2 : Nat} {v v2 : Value} (h : (HNow w W s d ∧ b < W.heap.size ∧ b2 < W.heap.size) ∧ w.heap.size < W.heap.size ∧ W.cell? ⟨w.heap.size, 0, none⟩ = some (.slice s.w.a s.w.n s.w.c) ∧ W.cell? ⟨w.heap.size, 1, none⟩ = some (.slice s.p.a s.p.n s.p.c) ∧ W.cell? ⟨w.heap.size, 2, none⟩ = some (.slice (s.u 0).a (s.u 0).n (s.u 0).c) ∧ W.cell? ⟨w.heap.size, 3, none⟩ = some (.slice (s.u 1).a (s.u 1).n (s.u 1).c) ∧ W.cell? ⟨w.heap.size, 4, none⟩ = some (.slice (s.u 2).a (s.u 2).n (s.u 2).c) ∧ W.cell? ⟨w.heap.size, 5, none⟩ = some (.slice s.c.a s.c.n s.c.c) ∧ W.cell? ⟨b, o, none⟩ = some v ∧ W.cell? ⟨b2, o2, none⟩ = some v2) (hb : Below W.heap.size W W') : (HNow w W' s d ∧ b < W'.heap.size ∧ b2 < W'.heap.size) ∧ w.heap.size < W'.heap.size ∧ W'.cell? ⟨w.heap.size, 0, none⟩ = some (.slice s.w.a s.w.n s.w.c) ∧ W'.cell? ⟨w.heap.size, 1, none⟩ = some (.slice s.p.a s.p.n s.p.c) ∧ W'.cell? ⟨w.heap.size, 2, none⟩ = some (.slice (s.u 0).a (s.u 0).n (s.u 0).c) ∧ W'.cell? ⟨w.heap.size, 3, none⟩ = some (.slice (s.u 1).a (s.u 1).n (s.u 1).c) ∧ W'.cell? ⟨w.heap.size, 4, none⟩ = some (.slice (s.u 2).a (s.u 2).n (s.u 2).c) ∧ W'.cell? ⟨w.heap.size, 5, none⟩ = some (.slice s.c.a s.c.n s.c.c) ∧ W'.cell? ⟨b, o, none⟩ = some v ∧ W'.cell? ⟨b2, o2, none⟩ = some v2 :=
  hold2_of (h.1.1.next hb) ((hb.cell (p := ⟨b, o, none⟩) h.1.2.1).trans h.2.2.2.2.2.2.2.2.1) ((hb.cell (p := ⟨b2, o2, none⟩) h.1.2.2).trans h.2.2.2.2.2.2.2.2.2) (Nat.lt_of_lt_of_le h.1.2.1 hb.size) (Nat.lt_of_lt_of_le h.1.2.2 hb.size)

set_option maxHeartbeats 2000000 in
theorem rmay_rest (s : Hs) (d : Hd_) (A : Option Addr) (m c : Nat) (U : Nat → Nat → Ls.Sl) (F : Nat → Nat → List Int) (w : World) (hp : Hp w w.heap.size s d) (hl : Ls.LRow w w.heap.size A m U F) (hm : m ≤ 1000) (hw : s.w.n = 16 * s.p.n) (hcd : s.c.n = 2 * s.p.n) (hpm : Cl.mayB d.f s.p.n = true) (hwm : wordsB s.w.n = true)
    (hv : ∀ i, -9223372036854775808 ≤ d.ws.getD i 0 ∧ d.ws.getD i 0 ≤ 9223372036854775807) (hlen : (Ls.allOf (ahead d.F F) (1 + m)).length ≤ 2000000) (R : Bool) (h1 : (∃ a, a ∈ Cl.allS d.f s.p.n ∧ cellAt d a = false) → R = false)
    (h2 : (∃ k j q, k < 1 + m ∧ j < 3 ∧ q < (ahead d.F F k j).length ∧ freeH d s.p.n ((ahead d.F F k j).getD q 0) (j : Nat) = false) → R = false)
    (h3 : (∀ j, j < (Cl.allS d.f s.p.n).length → cellAt d ((Cl.allS d.f s.p.n).getD j 0) = true) → (∀ k, k < 1 + m → ∀ j, j < 3 → ∀ q, q < (ahead d.F F k j).length → freeH d s.p.n ((ahead d.F F k j).getD q 0) (j : Nat) = true) → R = decide (Ls.allOf (ahead d.F F) (1 + m)).Nodup) :
    Calls Tryz.prog 24 #[(.agg #[.slice s.w.a s.w.n s.w.c, .slice s.p.a s.p.n s.p.c, .slice (s.u 0).a (s.u 0).n (s.u 0).c, .slice (s.u 1).a (s.u 1).n (s.u 1).c, .slice (s.u 2).a (s.u 2).n (s.u 2).c, .slice s.c.a s.c.n s.c.c]), .slice A m c] w fun e w' => e = .returned (.bool R) ∧ Below w.heap.size w w' := by
  have hpn : s.p.n ≤ 64 := ((Cl.mayB_iff _ _).1 hpm).2.1
  have HP := Lib.hid hp
  have E1 := Lib.hid hwm
  have E2 := Lib.hid hpm
  have H1 := Lib.hid h1
  have HV := Lib.hid hv
  have HW := Lib.hid hw
  have n3 : ((s.w.n : Int) != 16 * (s.p.n : Int)) = false := by simp; omega
  have n4 : ((s.c.n : Int) != 2 * (s.p.n : Int)) = false := by simp; omega
  have HL := Lib.hid hl
  have H2 := Lib.hid h2
  have H3 := Lib.hid h3
  have HLEN := Lib.hid hlen
  clear hp hwm hpm h1 h2 h3 hlen hv hw hcd hl
  go_enter Tryz.func24, Tryz.ntmps24
  go_wp2_with fail
  refine (rwords_may _ _ _ _ (by have := HW.out; omega)).mono ?_
  rw [E1.out]
  rintro r w1 ⟨rfl, rfl⟩
  go_wp2_with fail
  have hb0 := (Below.refl w.heap.size w).alloc (Nat.le_refl _) (.cells #[.slice s.w.a s.w.n s.w.c, .slice s.p.a s.p.n s.p.c, .slice (s.u 0).a (s.u 0).n (s.u 0).c, .slice (s.u 1).a (s.u 1).n (s.u 1).c, .slice (s.u 2).a (s.u 2).n (s.u 2).c, .slice s.c.a s.c.n s.c.c] 28)
  refine (Cl.rmay_any w.heap.size s.p.a s.p.n s.p.c d.f _ (by omega) (HP.out.pages.below hb0) (by simp)).mono ?_
  rw [E2.out]
  rintro r w1 ⟨rfl, hb1⟩
  have HB1 := (HBox.new w s 28).next hb1
  have hbw := hb0.trans (hb1.mono (by simp))
  have N1 := Lib.hid (HNow.mk (d := d) HB1 hbw (HP.out.below hbw))
  have q0 := HB1.c0
  have q1 := HB1.c1
  have q5 := HB1.c5
  have ql := HB1.lt
  clear hb1 hb0 HB1 hbw
  go_wp2_with fail
  refine (Cl.rall_any w.heap.size s.p.a s.p.n s.p.c d.f _ (by omega) N1.out.hp.pages N1.out.bel.size).mono ?_
  rintro r w2 ⟨la, lc, rfl, hrow, _, _, hb2⟩
  have N2 := Lib.hid (N1.out.next hb2)
  have hxs : (Cl.allS d.f s.p.n).length ≤ 100000 := by
    have := Cl.allS_short d.f s.p.n (Cl.allS d.f s.p.n).length
    rw [List.take_length] at this
    omega
  have HIN := Lib.hid (fun a (h : a ∈ Cl.allS d.f s.p.n) => allS_in h)
  generalize Cl.allS d.f s.p.n = xs at hrow hxs H1 H3 HIN ⊢
  have HR := Lib.hid (And.intro hrow hb2)
  obtain ⟨n, hn⟩ : ∃ n, xs.length = n := ⟨_, rfl⟩
  have HN := Lib.hid hn
  rw [hn] at hxs HR ⊢
  clear hrow hb2 q0 q1 q5 ql N1 hn n3 n4
  go_wp2
  go_loopw [8] (fun i wr => ∃ q : Nat, q ≤ n ∧ i = .int .i64 q ∧ Hid (∀ j, j < q → cellAt d (xs.getD j 0) = true) ∧ Hid (HNow w wr s d) ∧ Hid (Row wr wr.heap.size la n xs)) (fun i _ => n - (intOf i).toNat)
  case atStart => exact ⟨0, Nat.zero_le _, rfl, Lib.hid (fun j h => absurd h (by omega)), N2, Lib.hid HR.out.1⟩
  case round =>
    obtain ⟨q, hq, rfl, HG, HH, HX⟩ := hrel
    by_cases hlt : q < n
    · obtain ⟨b, off, rfl, hbl, hcell⟩ := HX.out.2 (by omega)
      have hq1 := hcell q hlt
      obtain ⟨y, hy⟩ : ∃ y, y = xs.getD q 0 := ⟨_, rfl⟩
      rw [← hy] at hq1
      have hmem : y ∈ xs := by
        have : xs[q]? = some y := by rw [hy]; simp [List.getD, List.getElem?_eq_getElem (show q < xs.length by have := HN.out; omega)]
        exact List.mem_of_getElem? this
      have j0 : (0 : Int) ≤ q := by omega
      have j1 : (q : Int) < n := by omega
      have HC := Lib.hid (fun (W : World) (hW : HNow w W s d) => rcell_at hW y HW.out hpn (HIN.out y hmem) HV.out)
      have HM := Lib.hid hmem
      have HY := Lib.hid hy
      have HQ := Lib.hid (And.intro hq1 hbl)
      have bq := HH.out.box
      have q0 := bq.c0
      have q1 := bq.c1
      have q2 := bq.c2
      have q3 := bq.c3
      have q4 := bq.c4
      have q5 := bq.c5
      have ql := bq.lt
      clear hcell hmem hy bq
      go_wp2
      have hstart := hold_of HH.out HQ.out.1 HQ.out.2
      have HST := Lib.hid hstart
      clear hstart
      cases hc : cellAt d y
      · have HR0 : R = false := H1.out ⟨y, HM.out, hc⟩
        rw [hc] at HC
        subst HR0
        go_region_held3 (fun w' => (HNow w w' s d ∧ b < w'.heap.size) ∧ w.heap.size < w'.heap.size ∧ w'.cell? ⟨w.heap.size, 0, none⟩ = some (.slice s.w.a s.w.n s.w.c) ∧ w'.cell? ⟨w.heap.size, 1, none⟩ = some (.slice s.p.a s.p.n s.p.c) ∧ w'.cell? ⟨w.heap.size, 2, none⟩ = some (.slice (s.u 0).a (s.u 0).n (s.u 0).c) ∧ w'.cell? ⟨w.heap.size, 3, none⟩ = some (.slice (s.u 1).a (s.u 1).n (s.u 1).c) ∧ w'.cell? ⟨w.heap.size, 4, none⟩ = some (.slice (s.u 2).a (s.u 2).n (s.u 2).c) ∧ w'.cell? ⟨w.heap.size, 5, none⟩ = some (.slice s.c.a s.c.n s.c.c) ∧ w'.cell? ⟨b, off + q, none⟩ = some (.int .i64 y)) (first
          | exact hold_next HST.out (below_drawn' (Below.refl _ _) 1)
          | exact hold_next ‹(HNow w _ s d ∧ _) ∧ _› ‹Below _ _ _›) (first
          | ((go_at_call 63; refine (HC.out _ (‹(HNow w _ s d ∧ _) ∧ _›).1.1).mono ?_; rintro e w3 ⟨rfl, hb3⟩)))
        have HF := Lib.hid (‹(HNow w w3 s d ∧ _) ∧ _›).1.1
        clear q0 q1 q2 q3 q4 q5 ql hq1 hbl
        go_wp2
        go_ret
        exact ⟨rfl, HF.out.bel⟩
      · rw [hc] at HC
        go_region_held3 (fun w' => (HNow w w' s d ∧ b < w'.heap.size) ∧ w.heap.size < w'.heap.size ∧ w'.cell? ⟨w.heap.size, 0, none⟩ = some (.slice s.w.a s.w.n s.w.c) ∧ w'.cell? ⟨w.heap.size, 1, none⟩ = some (.slice s.p.a s.p.n s.p.c) ∧ w'.cell? ⟨w.heap.size, 2, none⟩ = some (.slice (s.u 0).a (s.u 0).n (s.u 0).c) ∧ w'.cell? ⟨w.heap.size, 3, none⟩ = some (.slice (s.u 1).a (s.u 1).n (s.u 1).c) ∧ w'.cell? ⟨w.heap.size, 4, none⟩ = some (.slice (s.u 2).a (s.u 2).n (s.u 2).c) ∧ w'.cell? ⟨w.heap.size, 5, none⟩ = some (.slice s.c.a s.c.n s.c.c) ∧ w'.cell? ⟨b, off + q, none⟩ = some (.int .i64 y)) (first
          | exact hold_next HST.out (below_drawn' (Below.refl _ _) 1)
          | exact hold_next ‹(HNow w _ s d ∧ _) ∧ _› ‹Below _ _ _›) (first
          | ((go_at_call 63; refine (HC.out _ (‹(HNow w _ s d ∧ _) ∧ _›).1.1).mono ?_; rintro e w3 ⟨rfl, hb3⟩)))
        have HF := Lib.hid (‹(HNow w w3 s d ∧ _) ∧ _›).1.1
        have HX3 : Hid (Row w3 w3.heap.size (some ⟨b, off, none⟩) n xs) := Lib.hid ((Row.below (HX.out.below (below_drawn' (Below.refl _ _) 1)) hb3).more hb3.size)
        have HG3 : Hid (∀ j, j < q + 1 → cellAt d (xs.getD j 0) = true) := Lib.hid (fun j hj => by
          by_cases e : j = q
          · rw [e, ← HY.out]; exact hc
          · exact HG.out j (by omega))
        clear q0 q1 q2 q3 q4 q5 ql hq1 hbl hb3 hc
        go_wp2
        go_roundw
        case rel => exact ⟨q + 1, by omega, by go_num, HG3, HF, HX3⟩
        case measure => simp [intOf]; omega
    · obtain rfl : q = n := by omega
      clear hlt
      have bq := HH.out.box
      have q0 := bq.c0
      have q1 := bq.c1
      have q2 := bq.c2
      have q3 := bq.c3
      have q4 := bq.c4
      have q5 := bq.c5
      have ql := bq.lt
      clear bq
      go_wp2_with (at_builtin; refine list_glue rfl (.tmp 63) (.tmp 64) rfl rfl rfl HH.out.hp.free HH.out.bel.size (HL.out.below HH.out.bel) hm ?_)
      intro A' cap w3 hl3 hb3
      have N3 := Lib.hid (HH.out.next hb3)
      have HL3 := Lib.hid hl3
      have HG3 := Lib.hid (H3.out (fun j hj => HG.out j (by have := HN.out; omega)))
      clear hl3 hb3 q0 q1 q2 q3 q4 q5 ql HX HG H3 HH HR HL N2
      generalize ahead s.u U = U' at HL3 ⊢
      generalize ahead d.F F = F' at HL3 HG3 H2 HLEN ⊢
      obtain ⟨N, hN⟩ : ∃ N, 1 + m = N := ⟨_, rfl⟩
      rw [hN] at HL3 HG3 H2 HLEN ⊢
      have hN2 : N ≤ 2000 := by omega
      clear hN
      go_wp2
      go_loopw [10, 11, 12] (fun i _ _ wr => ∃ k : Nat, k ≤ N ∧ i = .int .i64 k ∧ Hid (HNow w wr s d ∧ Below w3.heap.size w3 wr) ∧ Hid (∀ k', k' < k → ∀ j, j < 3 → ∀ q, q < (F' k' j).length → freeH d s.p.n ((F' k' j).getD q 0) (j : Nat) = true)) (fun i _ _ _ => N - (intOf i).toNat)
      case atStart => exact ⟨0, Nat.zero_le _, rfl, Lib.hid ⟨N3.out, Below.refl _ _⟩, Lib.hid (fun k' h => absurd h (by omega))⟩
      case round =>
        obtain ⟨k, hk, rfl, HS, HG1⟩ := hrel
        by_cases hlt : k < N
        · obtain ⟨b, off, rfl, hbB, hc⟩ := HL3.out (by omega)
          have HC := Lib.hid (hc k hlt)
          clear hc
          obtain ⟨wo, rfl⟩ : ∃ wo : World, wo = wr := ⟨_, rfl⟩
          go_wp2
          go_loopw [11, 12] (fun i _ wr => ∃ j : Nat, j ≤ 3 ∧ i = .int .i64 j ∧ Hid (HNow w wr s d ∧ Below w3.heap.size w3 wr) ∧ Hid (∀ j', j' < j → ∀ q, q < (F' k j').length → freeH d s.p.n ((F' k j').getD q 0) (j' : Nat) = true)) (fun i _ _ => 3 - (intOf i).toNat)
          case atStart => exact ⟨0, Nat.zero_le _, rfl, HS, Lib.hid (fun k' h => absurd h (by omega))⟩
          case round =>
            obtain ⟨j, hj, rfl, HS2, HG2⟩ := hrel
            by_cases hlt3 : j < 3
            · have HXX := Lib.hid (Ls.part_len F' hlt hlt3)
              obtain ⟨wi, rfl⟩ : ∃ wi : World, wi = wr := ⟨_, rfl⟩
              have hlt3' : (j : Int) < 3 := by omega
              have J3 := Lib.hid hlt3
              go_wp2
              go_loopw [12] (fun i wr => ∃ q : Nat, q ≤ (U' k j).n ∧ i = .int .i64 q ∧ Hid (HNow w wr s d ∧ Below w3.heap.size w3 wr) ∧ Hid (∀ q', q' < q → freeH d s.p.n ((F' k j).getD q' 0) (j : Nat) = true)) (fun i _ => (U' k j).n - (intOf i).toNat)
              case atStart => exact ⟨0, Nat.zero_le _, rfl, HS2, Lib.hid (fun k' h => absurd h (by omega))⟩
              case round =>
                obtain ⟨q, hq, rfl, HS3, HG4⟩ := hrel
                have hl3 := (HC.out.2.over HS3.out.2 (Nat.le_refl _)) j J3.out
                have hcj := (HS3.out.2.cell (p := ⟨b, off + k * 3 + j, none⟩) hbB).trans (HC.out.1 j J3.out)
                have hbs : b < wr.heap.size := by have := HS3.out.2.size; omega
                have hln := Lib.hid hl3.1.1
                by_cases hltq : q < (U' k j).n
                · obtain ⟨b2, off2, e2, hb2, hc2⟩ := hl3.1.2 (by omega)
                  have hnum := hc2 q hltq
                  have hbs2 : b2 < wr.heap.size := by have := HS3.out.2.size; omega
                  obtain ⟨y, hy⟩ : ∃ y, y = (F' k j).getD q 0 := ⟨_, rfl⟩
                  rw [← hy] at hnum
                  have HY := Lib.hid hy
                  clear hc2 hl3 hy
                  have hun : (U' k j).n ≤ 2000000 := by have := HXX.out; have := HLEN.out; have := hln.out; omega
                  have j0 : (0 : Int) ≤ q := by omega
                  have j1 : (q : Int) < (U' k j).n := by omega
                  have k0 : (0 : Int) ≤ k := by omega
                  have k1 : (k : Int) < N := by omega
                  have jj0 : (0 : Int) ≤ j := by omega
                  have HFR := Lib.hid (fun (W : World) (hW : HNow w W s d) => rfree_any s d W y (j : Nat) hW.all HW.out (by omega))
                  have hstart := hold2_of HS3.out.1 hcj hnum hbs hbs2
                  have HST := Lib.hid hstart
                  have bq := HS3.out.1.box
                  have q0 := bq.c0
                  have q1 := bq.c1
                  have q2 := bq.c2
                  have q3 := bq.c3
                  have q4 := bq.c4
                  have q5 := bq.c5
                  have ql := bq.lt
                  have HQ := Lib.hid hltq
                  clear hstart bq
                  go_wp2
                  cases hc : freeH d s.p.n y (j : Nat)
                  · have HR0 : R = false := H2.out ⟨k, j, q, hlt, J3.out, by have := hln.out; omega, by rw [← HY.out]; exact hc⟩
                    rw [hc] at HFR
                    subst HR0
                    go_region_held3 (fun w' => (HNow w w' s d ∧ b < w'.heap.size ∧ b2 < w'.heap.size) ∧ w.heap.size < w'.heap.size ∧ w'.cell? ⟨w.heap.size, 0, none⟩ = some (.slice s.w.a s.w.n s.w.c) ∧ w'.cell? ⟨w.heap.size, 1, none⟩ = some (.slice s.p.a s.p.n s.p.c) ∧ w'.cell? ⟨w.heap.size, 2, none⟩ = some (.slice (s.u 0).a (s.u 0).n (s.u 0).c) ∧ w'.cell? ⟨w.heap.size, 3, none⟩ = some (.slice (s.u 1).a (s.u 1).n (s.u 1).c) ∧ w'.cell? ⟨w.heap.size, 4, none⟩ = some (.slice (s.u 2).a (s.u 2).n (s.u 2).c) ∧ w'.cell? ⟨w.heap.size, 5, none⟩ = some (.slice s.c.a s.c.n s.c.c) ∧ w'.cell? ⟨b, off + k * 3 + j, none⟩ = some (.slice (U' k j).a (U' k j).n (U' k j).c) ∧ w'.cell? ⟨b2, off2 + q, none⟩ = some (.int .i64 y)) (first
                      | exact hold2_next HST.out (below_drawn' (Below.refl _ _) 1)
                      | exact hold2_next ‹(HNow w _ s d ∧ _) ∧ _› ‹Below _ _ _›) (first
                      | ((go_at_call 64; refine (HFR.out _ (‹(HNow w _ s d ∧ _) ∧ _›).1.1).mono ?_; rintro e w4 ⟨rfl, hb4⟩)))
                    have HF := Lib.hid (‹(HNow w w4 s d ∧ _) ∧ _›).1.1
                    clear q0 q1 q2 q3 q4 q5 ql hcj hnum hb4 hc
                    go_wp2
                    go_ret
                    exact ⟨rfl, HF.out.bel⟩
                  · rw [hc] at HFR
                    go_region_held3 (fun w' => (HNow w w' s d ∧ b < w'.heap.size ∧ b2 < w'.heap.size) ∧ w.heap.size < w'.heap.size ∧ w'.cell? ⟨w.heap.size, 0, none⟩ = some (.slice s.w.a s.w.n s.w.c) ∧ w'.cell? ⟨w.heap.size, 1, none⟩ = some (.slice s.p.a s.p.n s.p.c) ∧ w'.cell? ⟨w.heap.size, 2, none⟩ = some (.slice (s.u 0).a (s.u 0).n (s.u 0).c) ∧ w'.cell? ⟨w.heap.size, 3, none⟩ = some (.slice (s.u 1).a (s.u 1).n (s.u 1).c) ∧ w'.cell? ⟨w.heap.size, 4, none⟩ = some (.slice (s.u 2).a (s.u 2).n (s.u 2).c) ∧ w'.cell? ⟨w.heap.size, 5, none⟩ = some (.slice s.c.a s.c.n s.c.c) ∧ w'.cell? ⟨b, off + k * 3 + j, none⟩ = some (.slice (U' k j).a (U' k j).n (U' k j).c) ∧ w'.cell? ⟨b2, off2 + q, none⟩ = some (.int .i64 y)) (first
                      | exact hold2_next HST.out (below_drawn' (Below.refl _ _) 1)
                      | exact hold2_next ‹(HNow w _ s d ∧ _) ∧ _› ‹Below _ _ _›) (first
                      | ((go_at_call 64; refine (HFR.out _ (‹(HNow w _ s d ∧ _) ∧ _›).1.1).mono ?_; rintro e w4 ⟨rfl, hb4⟩)))
                    have HF := Lib.hid (‹(HNow w w4 s d ∧ _) ∧ _›).1.1
                    have HB4 : Hid (HNow w w4 s d ∧ Below w3.heap.size w3 w4) := Lib.hid ⟨HF.out, HS3.out.2.trans (((below_drawn' (Below.refl wr.heap.size wr) 1).trans hb4).mono HS3.out.2.size)⟩
                    have HG5 : Hid (∀ q', q' < q + 1 → freeH d s.p.n ((F' k j).getD q' 0) (j : Nat) = true) := Lib.hid (fun q' hq' => by
                      by_cases e : q' = q
                      · rw [e, ← HY.out]; exact hc
                      · exact HG4.out q' (by omega))
                    clear q0 q1 q2 q3 q4 q5 ql hcj hnum hb4 hc
                    go_wp2
                    go_roundw
                    case rel => exact ⟨q + 1, HQ.out, by go_num, HB4, HG5⟩
                    case measure => have := HQ.out; simp [intOf]; omega
                · obtain rfl : q = (U' k j).n := by omega
                  have HG5 : Hid (∀ j', j' < j + 1 → ∀ q, q < (F' k j').length → freeH d s.p.n ((F' k j').getD q 0) (j' : Nat) = true) := Lib.hid (fun j' hj' q hq => by
                    by_cases e : j' = j
                    · subst e
                      exact HG4.out q (by have := hln.out; omega)
                    · exact HG2.out j' (by omega) q hq)
                  clear hl3
                  go_wp2
                  go_roundw
                  case rel => exact ⟨j + 1, J3.out, by go_num, HS3, HG5⟩
                  case measure => have := J3.out; simp [intOf]; omega
            · obtain rfl : j = 3 := by omega
              have HG5 : Hid (∀ k', k' < k + 1 → ∀ j, j < 3 → ∀ q, q < (F' k' j).length → freeH d s.p.n ((F' k' j).getD q 0) (j : Nat) = true) := Lib.hid (fun k' hk' => by
                by_cases e : k' = k
                · subst e
                  exact HG2.out
                · exact HG1.out k' (by omega))
              go_wp2
              go_roundw
              case rel => exact ⟨k + 1, by omega, by go_num, HS2, HG5⟩
              case measure => simp [intOf]; omega
        · obtain rfl : k = N := by omega
          have HR0 := HG3.out HG1.out
          subst HR0
          clear hlt
          go_wp2_with fail
          refine (Ls.rapart_any w3.heap.size A' k cap U' F' wr (HL3.out.below HS.out.2) HS.out.2.size (by omega) HLEN.out).mono ?_
          rintro e w5 ⟨rfl, hb5⟩
          have HB5 := Lib.hid (HS.out.1.bel.trans (hb5.mono HS.out.1.bel.size))
          clear hb5
          go_wp2
          go_ret
          exact ⟨rfl, HB5.out⟩
end Go.Proofs.YtdmclfolooiccaaGreatDoor
end
section
namespace Go.Proofs.YtdmclfolooiccaaGreatDoor
open Go.RowKit

/-- Is all that is told of as free a cell of its class that is not used? -/
def freeAll (d : Hd_) (n N : Nat) (F : Nat → Nat → List Int) : Bool := (List.range N).all fun k => (List.range 3).all fun j => (F k j).all fun x => freeH d n x (j : Nat)
/-- May a heap be, with caches? -/
def mayH (s : Hs) (d : Hd_) (m : Nat) (F : Nat → Nat → List Int) : Bool :=
  firstB s d && ((Cl.allS d.f s.p.n).all (cellAt d) && (freeAll d s.p.n (1 + m) (ahead d.F F) && decide (Ls.allOf (ahead d.F F) (1 + m)).Nodup))
theorem getD_mem {xs : List Int} {q : Nat} (h : q < xs.length) : xs.getD q 0 ∈ xs := by
  have : xs.getD q 0 = xs[q] := by simp [List.getD, h]
  rw [this]
  exact List.getElem_mem h
theorem freeAll_no {d : Hd_} {n N : Nat} {F : Nat → Nat → List Int} {k j q : Nat} (hk : k < N) (hj : j < 3) (hq : q < (F k j).length) (h : freeH d n ((F k j).getD q 0) (j : Nat) = false) : freeAll d n N F = false := by
  cases e : freeAll d n N F
  · rfl
  · have h1 := List.all_eq_true.1 e k (List.mem_range.2 hk)
    have h2 := List.all_eq_true.1 h1 j (List.mem_range.2 hj)
    have h3 := List.all_eq_true.1 h2 _ (getD_mem hq)
    rw [h] at h3
    cases h3
theorem freeAll_yes {d : Hd_} {n N : Nat} {F : Nat → Nat → List Int} (h : ∀ k, k < N → ∀ j, j < 3 → ∀ q, q < (F k j).length → freeH d n ((F k j).getD q 0) (j : Nat) = true) : freeAll d n N F = true := by
  refine List.all_eq_true.2 fun k hk => List.all_eq_true.2 fun j hj => List.all_eq_true.2 fun x hx => ?_
  obtain ⟨q, hq, rfl⟩ := List.getElem_of_mem hx
  have := h k (List.mem_range.1 hk) j (List.mem_range.1 hj) q hq
  rwa [show (F k j).getD q 0 = (F k j)[q] by simp [List.getD, hq]] at this
theorem rmayH_any (s : Hs) (d : Hd_) (A : Option Addr) (m c : Nat) (U : Nat → Nat → Ls.Sl) (F : Nat → Nat → List Int) (w : World) (hp : Hp w w.heap.size s d) (hl : Ls.LRow w w.heap.size A m U F) (hm : m ≤ 1000) (hwn : s.w.n ≤ 4000) (hpn : s.p.n ≤ 1000)
    (hv : ∀ i, -9223372036854775808 ≤ d.ws.getD i 0 ∧ d.ws.getD i 0 ≤ 9223372036854775807) (hlen : (Ls.allOf (ahead d.F F) (1 + m)).length ≤ 2000000) :
    Calls Tryz.prog 24 #[(.agg #[.slice s.w.a s.w.n s.w.c, .slice s.p.a s.p.n s.p.c, .slice (s.u 0).a (s.u 0).n (s.u 0).c, .slice (s.u 1).a (s.u 1).n (s.u 1).c, .slice (s.u 2).a (s.u 2).n (s.u 2).c, .slice s.c.a s.c.n s.c.c]), .slice A m c] w fun e w' => e = .returned (.bool (mayH s d m F)) ∧ Below w.heap.size w w' := by
  cases hf : firstB s d
  · rw [show mayH s d m F = false by simp [mayH, hf]]
    exact rmay_first s d A m c w hp hwn hpn hf
  · have hf' := hf
    unfold firstB at hf'
    simp only [Bool.and_eq_true, decide_eq_true_eq] at hf'
    refine rmay_rest s d A m c U F w hp hl hm hf'.2.2.1 hf'.2.2.2 hf'.2.1 hf'.1 hv hlen _ ?_ ?_ ?_
    · rintro ⟨a, ha, hc⟩
      have : (Cl.allS d.f s.p.n).all (cellAt d) = false := by
        cases e : (Cl.allS d.f s.p.n).all (cellAt d)
        · rfl
        · have := List.all_eq_true.1 e a ha
          rw [hc] at this
          cases this
      simp [mayH, hf, this]
    · rintro ⟨k, j, q, hk, hj, hq, hc⟩
      have := freeAll_no hk hj hq hc
      simp [mayH, hf, this]
    · intro ha hb
      have h1 : (Cl.allS d.f s.p.n).all (cellAt d) = true := List.all_eq_true.2 fun x hx => by
        obtain ⟨q, hq, rfl⟩ := List.getElem_of_mem hx
        have := ha q hq
        rwa [show (Cl.allS d.f s.p.n).getD q 0 = (Cl.allS d.f s.p.n)[q] by simp [List.getD, hq]] at this
      have h2 := freeAll_yes hb
      rw [mayH, hf, h1, h2]
      simp
end Go.Proofs.YtdmclfolooiccaaGreatDoor
end
section
namespace Go.Proofs.YtdmclfolooiccaaGreatDoor
open Go.RowKit
set_option maxRecDepth 100000

def noCaches : Nat → Nat → List Int := fun _ _ => []
/-- A heap without caches may be. -/
def mayB0 (s : Hs) (d : Hd_) : Bool := mayH s d 0 noCaches
/-- The box of a head. -/
structure XBox (W : World) (b : Nat) : Prop where
  cell : ∀ k, k < 6 → W.cell? ⟨b, k, none⟩ = some (if k < 3 then .bool false else .int .i64 0)
  free : ∀ k, W.frozen? ⟨b, k, none⟩ = false
  lt : b < W.heap.size
theorem XBox.new (w : World) (t : TypeId) : XBox (w.alloc (.cells #[.bool false, .bool false, .bool false, .int .i64 0, .int .i64 0, .int .i64 0] t)) w.heap.size := by
  refine ⟨fun k hk => ?_, fun k => by simp [go_sem], by simp⟩
  match k, hk with
  | 0, _ => simp [go_sem]
  | 1, _ => simp [go_sem]
  | 2, _ => simp [go_sem]
  | 3, _ => simp [go_sem]
  | 4, _ => simp [go_sem]
  | 5, _ => simp [go_sem]
theorem XBox.next {W W' : World} {b : Nat} (h : XBox W b) (hb : Below W.heap.size W W') : XBox W' b :=
  ⟨fun k hk => (hb.cell (p := ⟨b, k, none⟩) h.lt).trans (h.cell k hk), fun k => (hb.frozen (p := ⟨b, k, none⟩) h.lt).trans (h.free k), Nat.lt_of_lt_of_le h.lt hb.size⟩
/-- A head is stored to its box. -/
def put6 (w : World) (b : Nat) (v0 v1 v2 v3 v4 v5 : Value) : World :=
  (((((w.setCell ⟨b, 0, none⟩ v0).setCell ⟨b, 1, none⟩ v1).setCell ⟨b, 2, none⟩ v2).setCell ⟨b, 3, none⟩ v3).setCell ⟨b, 4, none⟩ v4).setCell ⟨b, 5, none⟩ v5
theorem below_put6 {B : Nat} {a w : World} (h : Below B a w) {b : Nat} (hb : B ≤ b) (v0 v1 v2 v3 v4 v5 : Value) : Below B a (put6 w b v0 v1 v2 v3 v4 v5) :=
  (((((h.setCell (p := ⟨b, 0, none⟩) hb _).setCell (p := ⟨b, 1, none⟩) hb _).setCell (p := ⟨b, 2, none⟩) hb _).setCell (p := ⟨b, 3, none⟩) hb _).setCell (p := ⟨b, 4, none⟩) hb _).setCell (p := ⟨b, 5, none⟩) hb _
section
variable (s : Hs) (d : Hd_) (a : Int) (w : World)
end
end Go.Proofs.YtdmclfolooiccaaGreatDoor
end
section
namespace Go.Proofs.YtdmclfolooiccaaGreatDoor
open Go.RowKit
set_option maxRecDepth 100000

theorem put6_size (w : World) (b : Nat) (v0 v1 v2 v3 v4 v5 : Value) : (put6 w b v0 v1 v2 v3 v4 v5).heap.size = w.heap.size := by simp [put6, World.setCell]
section
variable (s : Hs) (d : Hd_) (a : Int) (w : World)
end
end Go.Proofs.YtdmclfolooiccaaGreatDoor
end
section
namespace Go.Proofs.YtdmclfolooiccaaGreatDoor.Ar
open Go.Proofs.YtdmclfolooiccaaGreatDoor
set_option maxRecDepth 100000
open Go.RowKit

/-- Words may be. -/
def mayB (n : Nat) : Bool := decide (16 ≤ n ∧ n ≤ 1024 ∧ n % 16 = 0)
theorem mayB_iff {n : Nat} : mayB n = true ↔ 16 ≤ n ∧ n ≤ 1024 ∧ n % 16 = 0 := by simp [mayB]
theorem mayB_no {n : Nat} (h : mayB n = false) : ¬ (16 ≤ n ∧ n ≤ 1024 ∧ n % 16 = 0) := fun c => by rw [mayB_iff.2 c] at h; cases h

theorem may_yes (A : Option Addr) (n c : Nat) (w : World) (h : mayB n = true) :
    Calls Tryz.prog 76 #[.slice A n c] w fun e w' => e = .returned (.bool true) ∧ w = w' := by
  obtain ⟨h1, h2, h3⟩ := mayB_iff.1 h
  have e1 : ((n : Int) % 16 == 0) = true := by simp; omega
  have e2 : (1 : Int) ≤ (n : Int) / 16 := by omega
  have e3 : (n : Int) / 16 ≤ 64 := by omega
  clear h h3
  go_enter Tryz.func76, Tryz.ntmps76
  go_wp2
  go_ret
  exact ⟨rfl, rfl⟩
theorem may_no (A : Option Addr) (n c : Nat) (w : World) (hn : n ≤ 9223372036854775807) (h : mayB n = false) :
    Calls Tryz.prog 76 #[.slice A n c] w fun e w' => e = .returned (.bool false) ∧ w = w' := by
  have h0 := mayB_no h
  clear h
  by_cases h1 : n % 16 = 0
  · have e1 : ((n : Int) % 16 == 0) = true := by simp; omega
    by_cases h2 : n < 16
    · have e2 : decide ((1 : Int) ≤ (n : Int) / 16) = false := by simp; omega
      clear h0 h1 h2
      go_enter Tryz.func76, Tryz.ntmps76
      go_wp2
      go_ret
      exact ⟨rfl, rfl⟩
    · have e2 : (1 : Int) ≤ (n : Int) / 16 := by omega
      have e3 : decide ((n : Int) / 16 ≤ 64) = false := by simp; omega
      clear h0 h1 h2
      go_enter Tryz.func76, Tryz.ntmps76
      go_wp2
      go_ret
      exact ⟨rfl, rfl⟩
  · have e1 : ((n : Int) % 16 == 0) = false := by simp; omega
    clear h0 h1
    go_enter Tryz.func76, Tryz.ntmps76
    go_wp2
    go_ret
    exact ⟨rfl, rfl⟩

theorem span_ok (A : Option Addr) (n c : Nat) (a k : Int) (w : World) (h : mayB n = true) (hk : 0 < k) (ha : 16 ≤ a) (hb : k ≤ 16 + n - a) :
    Calls Tryz.prog 88 #[.slice A n c, .int .i64 a, .int .i64 k] w fun e w' => e = .returned (.tuple #[.int .i64 (a - 16), .int .i64 (a - 16 + k), .int .i64 0]) ∧ w = w' := by
  have hn := (mayB_iff.1 h).2.1
  have e0 : (k == 0) = false := by simp; omega
  have e1 : ¬ k < 0 := by omega
  have H := Lib.hid h
  clear h
  go_enter Tryz.func88, Tryz.ntmps88
  go_wp2_with (go_at_call 76; refine (may_yes _ _ _ _ H.out).mono ?_; rintro e w' ⟨rfl, rfl⟩)
  go_ret3
  exact ⟨rfl, rfl⟩

theorem get_ok (B : Nat) (A : Option Addr) (n c : Nat) (xs : List Int) (a : Int) (w : World) (h : mayB n = true) (h0 : 16 ≤ a) (h1 : a < 16 + n) (hr : Row w B A n xs) :
    Calls Tryz.prog 73 #[.slice A n c, .int .i64 a] w fun e w' => e = .returned (.tuple #[.int .i64 (xs.getD (a - 16).toNat 0), .int .i64 0]) ∧ w = w' := by
  obtain ⟨i, rfl⟩ : ∃ i : Nat, a = 16 + i := ⟨(a - 16).toNat, by omega⟩
  have hn := (mayB_iff.1 h).2.1
  have hi : i < n := by omega
  obtain ⟨b, off, rfl, _, hc⟩ := hr.2 (by omega)
  have hcell := hc i hi
  have ei : (16 + (i : Int) - 16).toNat = i := by omega
  rw [ei]
  have EI : (16 : Int) + i - 16 = i := by omega
  have H := Lib.hid h
  clear h hc hr ei
  have HS : Calls Tryz.prog 88 #[.slice (some ⟨b, off, none⟩) n c, .int .i64 (16 + i), .int .i64 1] w fun e w' => e = .returned (.tuple #[.int .i64 i, .int .i64 (i + 1), .int .i64 0]) ∧ w = w' := by
    have := span_ok (some ⟨b, off, none⟩) n c (16 + i) 1 w H.out (by omega) (by omega) (by omega)
    rw [EI] at this
    exact this
  have HT := Lib.hid HS
  clear EI HS h0 h1
  go_enter Tryz.func73, Tryz.ntmps73
  go_wp2_with (go_at_call 88; refine (HT.out).mono ?_; rintro e w' ⟨rfl, rfl⟩)
  go_ret2
  exact ⟨rfl, rfl⟩
theorem page_ok (A : Option Addr) (n c : Nat) (a : Int) (w : World) (h : mayB n = true) (h0 : 16 ≤ a) (h1 : a < 16 + n) :
    Calls Tryz.prog 72 #[.slice A n c, .int .i64 a] w fun e w' => e = .returned (.tuple #[.int .i64 ((a - 16) / 16), .int .i64 0]) ∧ w = w' := by
  have hn := (mayB_iff.1 h).2.1
  have H := Lib.hid h
  clear h
  go_enter Tryz.func72, Tryz.ntmps72
  go_wp2_with (go_at_call 88; refine (span_ok _ _ _ _ _ _ H.out (by omega) (by omega) (by omega)).mono ?_; rintro e w' ⟨rfl, rfl⟩)
  go_ret2
  exact ⟨rfl, rfl⟩

theorem at_ok (A : Option Addr) (n c : Nat) (p : Int) (w : World) (h : mayB n = true) (h0 : 0 ≤ p) (h1 : 16 * p < n) :
    Calls Tryz.prog 85 #[.slice A n c, .int .i64 p] w fun e w' => e = .returned (.tuple #[.int .i64 (16 + p * 16), .int .i64 0]) ∧ w = w' := by
  have hn := (mayB_iff.1 h)
  have h3 : p < (n : Int) / 16 := by omega
  have h4 : n ≤ 1024 := hn.2.1
  have H := Lib.hid h
  clear h hn
  go_enter Tryz.func85, Tryz.ntmps85
  go_wp2_with (go_at_call 76; refine (may_yes _ _ _ _ H.out).mono ?_; rintro e w' ⟨rfl, rfl⟩)
  go_ret2
  exact ⟨rfl, rfl⟩
end Go.Proofs.YtdmclfolooiccaaGreatDoor.Ar
end
section
namespace Go.Proofs.YtdmclfolooiccaaGreatDoor.Ar
open Go.Proofs.YtdmclfolooiccaaGreatDoor
set_option maxRecDepth 100000
open Go.RowKit

theorem info_int : (Tryz.prog.info? 3).map (fun i => (i.zero, i.size, i.bytes)) = some (some (.int .i64 0), 1, 8) := by kernel_rfl
theorem zero_int (w : World) : (zeroValue 3).run Tryz.prog w = .ok (.int .i64 0) w := by kernel_rfl

/-- A slice of the call's own was returned, and no error; all that was there is as it was. -/
def Made (w : World) (n : Nat) (xs : List Int) (e : Ending) (w' : World) : Prop :=
  ∃ g c, e = .returned (.tuple #[.slice (some ⟨g, 0, none⟩) n c, .int .i64 0]) ∧ Mine w' w.heap.size 3 g n c xs ∧ Below w.heap.size w w'
/-- .. alone. -/
def MadeOne (w : World) (n : Nat) (xs : List Int) (e : Ending) (w' : World) : Prop :=
  ∃ g c, e = .returned (.slice (some ⟨g, 0, none⟩) n c) ∧ Mine w' w.heap.size 3 g n c xs ∧ Below w.heap.size w w'

theorem clone_ok (B : Nat) (A : Option Addr) (n c : Nat) (xs : List Int) (w : World) (hn : 0 < n) (hbig : n * 8 ≤ 140737488355328) (hr : Row w B A n xs) :
    Calls Tryz.prog 50 #[.slice A n c] w (MadeOne w n xs) := by
  obtain ⟨i0, hi, hz0, hz1, hz2⟩ := info_parts info_int
  obtain ⟨b, off, rfl, _, hc⟩ := hr.2 hn
  have hl := hr.1
  have HC := Lib.hid hc
  have q22 : ∀ (w : World) (a : Option Addr) (n c n' c' : Nat), (binOp .eql 22 (.slice a n c) (.slice none n' c')).run Tryz.prog w = .ok (.bool a.isNone) w := fun w a n c n' c' => Lib.run_eql_slice_nil w _ _ a n c n' c' Tryz.underlying22
  have u22 : ∀ w, Sem.run Tryz.prog (underlying 22) w = .ok (TypeDesc.slice 3) w := run_underlying Tryz.underlying22
  have HL := Lib.hid hl
  clear hc hr hl
  go_enter Tryz.func50, Tryz.ntmps50
  go_wp2_with (at_builtin; refine wpList_append_own _ rfl _ _ 22 rfl w.heap.size 3 i0 (.int .i64 0) 1 8 Tryz.underlying22 hi hz0 hz1 hz2 rfl (by decide) _ _ _ rfl (World.ownsRow_made w #[] 0 (Nat.le_refl _) (Nat.zero_le _) rfl) ⟨b, off, none⟩ n c (xs.map (Value.int .i64)) rfl ?qc1 ?qc2 ?qc3 ?qc4 ?qc5 ?qc6 ?_)
  case qc1 => simp [HL.out]
  case qc2 =>
    intro j u hj
    have hl := HL.out
    have hjn : j < n := by
      have := (List.getElem?_eq_some_iff.1 hj).1
      simp at this
      omega
    rw [Addr.add_lit]
    refine Lib.cell?_alloc_some _ ?_
    rw [HC.out j hjn]
    have e : (xs.map (Value.int .i64))[j]? = some (Value.int .i64 (xs.getD j 0)) := by simp [List.getD, List.getElem?_eq_getElem (show j < xs.length by omega)]
    rw [e] at hj
    exact hj
  case qc3 => intro u hu; obtain ⟨x, _, rfl⟩ := List.mem_map.1 hu; rfl
  case qc4 => unfold maxLen; omega
  case qc5 => omega
  case qc6 => simp
  intro v' w1 hown hgrow hnil
  have hown' : w1.ownsRow w.heap.size 3 1 v' n (xs.map (Value.int .i64)) := by simpa using hown
  obtain ⟨g, c', rfl, hm⟩ := mine_of hown' hn
  have HM := Lib.hid hm
  clear hown hown' hnil hm
  go_wp2
  go_ret
  exact ⟨g, c', rfl, HM.out, ((Below.refl _ w).alloc (Nat.le_refl _) _).grown hgrow (by simp) (by intro k hk; simp [Value.ownBlock] at hk; omega)⟩

theorem new_ok (p : Int) (w : World) (h0 : 1 ≤ p) (h1 : p ≤ 64) :
    Calls Tryz.prog 37 #[.int .i64 p] w (Made w (p * 16).toNat (List.replicate (p * 16).toNat 0)) := by
  obtain ⟨i0, hi, hz0, hz1, hz2⟩ := info_parts info_int
  go_enter Tryz.func37, Tryz.ntmps37
  go_wp2_with (at_make; refine wpList_make_full _ rfl _ _ 22 rfl w.heap.size 3 i0 (.int .i64 0) 1 Tryz.underlying22 hi hz0 hz1 .i64 .i64 (p * 16) (p * 16) (p * 16).toNat rfl rfl ?c1 ?c2 ?c3 ?c4 ?c5 ?_)
  case c1 => omega
  case c2 => omega
  case c3 => rw [hz2]; omega
  case c4 => unfold maxLen; omega
  case c5 => simp
  intro w1 hown hgrow
  have hown' : w1.ownsRow w.heap.size 3 1 (.slice (some ⟨w.heap.size, 0, none⟩) (p * 16).toNat (p * 16).toNat) (p * 16).toNat ((List.replicate (p * 16).toNat (0 : Int)).map (Value.int .i64)) := by
    have e : (madeCells #[Value.int .i64 0] (p * 16).toNat).toList = (List.replicate (p * 16).toNat (0 : Int)).map (Value.int .i64) := by
      rw [List.map_replicate]
      exact toList_madeCells_one _ _
    rw [← e]
    exact hown
  obtain ⟨g, c, e, hm⟩ := mine_of hown' (by omega)
  have HM := Lib.hid hm
  have HE := Lib.hid e
  clear hown hown' e hm
  go_wp2
  go_ret2
  refine ⟨g, c, ?_, HM.out, (Below.refl _ w).grown hgrow (Nat.le_refl _) (by intro k hk; cases hk)⟩
  rw [HE.out]
  rfl

theorem put_ok (B : Nat) (A : Option Addr) (n c : Nat) (xs : List Int) (a v : Int) (w : World) (h : mayB n = true) (h0 : 16 ≤ a) (h1 : a < 16 + n) (hr : Row w B A n xs) :
    Calls Tryz.prog 59 #[.slice A n c, .int .i64 a, .int .i64 v] w (Made w n (xs.set (a - 16).toNat v)) := by
  obtain ⟨i, rfl⟩ : ∃ i : Nat, a = 16 + i := ⟨(a - 16).toNat, by omega⟩
  have hn := (mayB_iff.1 h).2.1
  have hi : i < n := by omega
  have ei : (16 + (i : Int) - 16).toNat = i := by omega
  rw [ei]
  have EI : (16 : Int) + i - 16 = i := by omega
  have H := Lib.hid h
  have HR := Lib.hid hr
  clear h ei hr
  have HS : Calls Tryz.prog 88 #[.slice A n c, .int .i64 (16 + i), .int .i64 1] w fun e w' => e = .returned (.tuple #[.int .i64 i, .int .i64 (i + 1), .int .i64 0]) ∧ w = w' := by
    have := span_ok A n c (16 + i) 1 w H.out (by omega) (by omega) (by omega)
    rw [EI] at this
    exact this
  have HT := Lib.hid HS
  clear EI HS h0 h1
  go_enter Tryz.func59, Tryz.ntmps59
  go_wp2_with fail
  refine (HT.out).mono ?_
  rintro e w' ⟨rfl, rfl⟩
  go_wp2_with fail
  refine (clone_ok _ _ _ _ _ _ (by omega) (by omega) HR.out).mono ?_
  rintro e w1 ⟨g, c', rfl, hm, hb⟩
  have HM := Lib.hid hm
  have hcell := hm.cell i hi
  have hfree := hm.free i
  have hsz := hm.2.2.1
  have hg := hm.2.1
  clear hm
  go_wp2
  go_ret2
  exact ⟨g, c', rfl, HM.out.stored i v, hb.setCell (by simpa using hg) _⟩
end Go.Proofs.YtdmclfolooiccaaGreatDoor.Ar
end
