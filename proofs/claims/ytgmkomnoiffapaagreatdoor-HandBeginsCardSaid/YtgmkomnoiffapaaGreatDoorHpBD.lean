/-
  Merged texts: LsApart, HpMay, HpMayB, HpMayC, Plain, Make, HpEvery, HpSmall, LsRPush.
-/
import Derived.Test.YtgmkomnoiffapaaGreatDoorHpBA
import Derived.Test.YtgmkomnoiffapaaGreatDoorBShelf
import Derived.Sort.OwnSortedInts
import Derived.Test.YtgmkomnoiffapaaGreatDoorHpBC
import Derived.Deep.RegionHeld3
import Derived.Deep.DrawnRows
import Derived.Test.YtgmkomnoiffapaaGreatDoorRows
import Derived.WalkKit
import Derived.Below
import Derived.WalkSmall
import Derived.RegionTactic
import Derived.ChangeAlike
import Derived.Deep.QuietTactic
import Derived.BigQuiet
import Derived.Lib.Hide
import Derived.Lib.SliceRun
import Derived.WalkSpells
import Derived.StillTailTactics
section
namespace Go.Proofs.YtgmkomnoiffapaaGreatDoor.Ls
open Go.Proofs.YtgmkomnoiffapaaGreatDoor
set_option maxRecDepth 100000
open Go.RowKit Go.Sort

/-- The library's order. -/
abbrev srt (xs : List Int) : List Int := xs.mergeSort fun x y => decide (x ≤ y)
theorem srt_len (xs : List Int) : (srt xs).length = xs.length := List.length_mergeSort xs
theorem srt_le (xs : List Int) : (srt xs).Pairwise (· ≤ ·) := by
  have := List.pairwise_mergeSort (le := fun x y : Int => decide (x ≤ y)) (fun a b c h1 h2 => by simp at *; omega) (fun a b => by simp; omega) xs
  exact this.imp (fun h => by simpa using h)
theorem compact_len (zs : List Int) : (Lib.compact zs).length = zs.length ↔ ∀ j, j < zs.length → Lib.keeps zs.toArray j = true := by
  unfold Lib.compact Lib.compactUpTo
  rw [List.length_map]
  constructor
  · intro h j hj
    have : ((List.range zs.length).filter (Lib.keeps zs.toArray)).length = (List.range zs.length).length := by rw [h, List.length_range]
    exact List.length_filter_eq_length_iff.1 this j (List.mem_range.2 hj)
  · intro h
    have := List.length_filter_eq_length_iff.2 (fun j hj => h j (List.mem_range.1 hj) : ∀ j ∈ List.range zs.length, Lib.keeps zs.toArray j = true)
    rw [this, List.length_range]
theorem keeps_iff (zs : List Int) {j : Nat} (hj : j < zs.length) (h0 : 0 < j) : Lib.keeps zs.toArray j = true ↔ ¬ zs[j] = zs[j - 1] := by
  unfold Lib.keeps
  rw [decide_eq_true_iff, getElem!_pos zs.toArray j (by simpa using hj), getElem!_pos zs.toArray (j - 1) (by simp; omega)]
  simp
  omega
theorem sorted_apart (zs : List Int) (hs : zs.Pairwise (· ≤ ·)) : (Lib.compact zs).length = zs.length ↔ zs.Nodup := by
  rw [compact_len]
  have hle := List.pairwise_iff_getElem.1 hs
  constructor
  · intro h
    unfold List.Nodup
    rw [List.pairwise_iff_getElem]
    intro i j hi hj hij
    have h1 := (keeps_iff zs hj (by omega)).1 (h j hj)
    have h2 := hle (j - 1) j (by omega) hj (by omega)
    by_cases e : i = j - 1
    · subst e
      intro e2
      exact h1 e2.symm
    · have h3 := hle i (j - 1) hi (by omega) (by omega)
      omega
  · intro h j hj
    by_cases h0 : j = 0
    · subst h0
      exact Lib.keeps_lt_one _ 0 (by omega)
    · refine (keeps_iff zs hj (by omega)).2 ?_
      unfold List.Nodup at h
      have := List.pairwise_iff_getElem.1 h (j - 1) j (by omega) hj (by omega)
      intro e
      exact this e.symm
theorem apart_iff (xs : List Int) : (Lib.compact (srt xs)).length = xs.length ↔ xs.Nodup := by
  rw [← srt_len xs, sorted_apart _ (srt_le xs)]
  exact (List.mergeSort_perm xs _).nodup_iff

theorem rint {a b : Bool} (h : a = b) : Ending.returned (.bool a) = .returned (.bool b) := by rw [h]
/-- A truth was returned. -/
def Tells (w : World) (p : Bool) (e : Ending) (w' : World) : Prop := e = .returned (.bool p) ∧ Below w.heap.size w w'

set_option maxHeartbeats 1000000 in
theorem apart_any (B : Nat) (A : Option Addr) (n c : Nat) (u : Nat → Nat → Sl) (f : Nat → Nat → List Int) (w : World) (h : LRow w B A n u f) (hB : B ≤ w.heap.size) (hn : n ≤ 1000000) (hlen : (allOf f n).length ≤ 2000000) :
    Calls Tryz.prog 51 #[.slice A n c] w (Tells w (decide (allOf f n).Nodup)) := by
  have HL := Lib.hid h
  have HN := Lib.hid hlen
  clear h hlen
  go_enter Tryz.func51, Tryz.ntmps51
  go_wp2_with (go_at_call 91; refine (all_any B A n c u f w HL.out hB hn HN.out).mono ?_; rintro e w1 ⟨s, rfl, ho, hb⟩)
  obtain ⟨xs, hxs⟩ : ∃ xs, xs = allOf f n := ⟨_, rfl⟩
  rw [← hxs] at ho HN ⊢
  have hl : s.n = xs.length := by simpa using ho.1.symm
  rw [hl] at ho ⊢
  obtain ⟨sa, sn, sc⟩ := s
  have HX := Lib.hid hxs
  clear hl hxs
  by_cases h0 : xs.length = 0
  · obtain rfl := List.eq_nil_of_length_eq_zero h0
    have HB := Lib.hid hb
    clear ho h0 hb
    go_wp2_with (go_at_call 92; refine (Tryz.slices_Sort_int_none sa sc w1).mono ?_; rintro e w2 ⟨rfl, rfl⟩)
    go_wp2_with (go_at_call 93; refine (Tryz.slices_Compact_int_empty sa sc w2).mono ?_; rintro e w3 ⟨rfl, rfl⟩)
    go_wp2
    go_ret
    exact ⟨by rw [← HX.out]; rfl, HB.out⟩
  · obtain ⟨_, h1⟩ := ho
    rcases h1 with ⟨_, h2⟩ | ⟨g, cap, cur, h2, hbase, hh, hc1, hc2, hsz, htk⟩
    · exact absurd h2 h0
    · simp only [Value.slice.injEq, true_and] at h2
      obtain ⟨rfl, rfl⟩ := h2
      rw [Nat.mul_one] at htk
      have hg : g < w1.heap.size := (Array.getElem?_eq_some_iff.1 hh).1
      have hH := holds_of_blockI (ss := xs) hh htk
      have hx4 : xs.length ≤ 2000000 := HN.out
      go_wp2_with (go_at_call 92; refine (Tryz.slices_Sort_int g 0 sc xs w1 hH hg (by omega)).mono ?_; rintro e w2 ⟨rfl, q, os, hw2⟩; replace hw2 := Lib.hid hw2)
      have ho2 := ownsRow_sortedI (base := w.heap.size) (n := q) (os := os) (ss := xs) (ts := srt xs) (srt_len xs) hbase hh hc1 hc2 hsz
      have hb2 := hb.grown (grownBy_sortedI (n := q) (os := os) (g := g) (srt xs).toArray) hb.size (fun k hk => by simp at hk; omega)
      rw [← hw2.out] at ho2 hb2
      clear hw2 hH htk hh hsz hb hbase
      obtain ⟨_, h3⟩ := ho2
      rcases h3 with ⟨h4, _⟩ | ⟨g', cap', cur', h4, hbase, hh, _, _, hsz, htk⟩
      · cases h4
      · simp only [Value.slice.injEq, Option.some.injEq, Addr.mk.injEq, and_true, true_and] at h4
        obtain ⟨rfl, rfl⟩ := h4
        rw [Nat.mul_one, ← srt_len xs] at htk
        have hH := holds_of_blockI (ss := srt xs) hh htk
        have hl2 := srt_len xs
        have hq : (srt xs).length ≤ 9223372036854775807 := by omega
        have hcp : (srt xs).length ≤ sc := by omega
        have HC := Tryz.slices_Compact_int g 0 sc (srt xs) w2 hH hq hcp
        rw [hl2] at HC
        have HI := apart_iff xs
        obtain ⟨m, hm⟩ : ∃ m, m = (Lib.compact (srt xs)).length := ⟨_, rfl⟩
        rw [← hm] at HC HI
        have hm2 : m ≤ 2000000 := by
          have := List.length_filter_le (Lib.keeps (srt xs).toArray) (List.range (srt xs).length)
          have e : m = ((List.range (srt xs).length).filter (Lib.keeps (srt xs).toArray)).length := by rw [hm]; simp [Lib.compact, Lib.compactUpTo]
          rw [List.length_range] at this
          omega
        have HB := Lib.hid hb2
        have HBs := Lib.hid hbase
        have HII := Lib.hid HI
        clear hb2 hbase HI hm hH htk hh hsz
        go_wp2_with (go_loud (go_at_call 93; refine HC.mono ?_; rintro e w3 ⟨rfl, q3, hw3⟩; replace hw3 := Lib.hid hw3))
        have hb3 : RowKit.Below w.heap.size w2 w3 := by
          rw [hw3.out]
          exact (Below.refl _ _).grown (row := some g) (by have := grownBy_sortedI (w := w2) (n := q3) (os := #[]) (g := g) (Lib.compact (srt xs) ++ List.replicate (xs.length - m) 0).toArray; rwa [grow_empty] at this) HB.out.size (fun k hk => by simp at hk; have := HBs.out; omega)
        have HB3 := Lib.hid (HB.out.trans hb3)
        clear hw3 hb3
        go_wp2
        go_ret
        refine ⟨rint ?_, HB3.out⟩
        rw [← HX.out, Bool.eq_iff_iff, beq_iff_eq, decide_eq_true_iff, ← HII.out]
        exact Int.ofNat_inj

end Go.Proofs.YtgmkomnoiffapaaGreatDoor.Ls
end
section
namespace Go.Proofs.YtgmkomnoiffapaaGreatDoor
open Go.RowKit
set_option maxRecDepth 100000

def wordsB (n : Nat) : Bool := decide (16 ≤ n ∧ n ≤ 1024 ∧ n % 16 = 0)
/-- What is looked at first: words, pages, and that there are as many words, and cards, as pages have. -/
def firstB (s : Hs) (d : Hd_) : Bool := wordsB s.w.n && (Cl.mayB d.f s.p.n && (decide (s.w.n = 16 * s.p.n) && decide (s.c.n = 2 * s.p.n)))
end Go.Proofs.YtgmkomnoiffapaaGreatDoor
end
section
namespace Go.Proofs.YtgmkomnoiffapaaGreatDoor
open Go.RowKit
set_option maxRecDepth 100000
attribute [local go_sem ↓] Go.wp_at_zero Go.wp_at_succ

def cellAt (d : Hd_) (a : Int) : Bool := cellB (d.ws.getD (a - 16).toNat 0) (d.f (a / 16 - 1).toNat)
/-- In the midst of a walk through a heap's function: the box, all that was there. -/
structure HNow (w wr : World) (s : Hs) (d : Hd_) : Prop where
  box : HBox wr w.heap.size s
  bel : Below w.heap.size w wr
  hp : Hp wr w.heap.size s d
theorem HNow.next {w wr w' : World} {s : Hs} {d : Hd_} (h : HNow w wr s d) (hb : Below wr.heap.size wr w') : HNow w w' s d :=
  ⟨h.box.next hb, h.bel.trans (hb.mono h.bel.size), h.hp.below (hb.mono h.bel.size)⟩
theorem HNow.all {w wr : World} {s : Hs} {d : Hd_} (h : HNow w wr s d) : Hp wr wr.heap.size s d := h.hp.more h.bel.size
theorem allS_in {d : Hd_} {n : Nat} {a : Int} (h : a ∈ Cl.allS d.f n) : 16 ≤ a ∧ a < 16 + 16 * (n : Int) := by
  obtain ⟨c, hc, rfl⟩ := List.mem_map.1 h
  obtain ⟨_, k, j, hk, _, _, rfl, h0, h1⟩ := Cl.cell_page hc
  simp only
  omega
end Go.Proofs.YtgmkomnoiffapaaGreatDoor
end
section
namespace Go.Proofs.YtgmkomnoiffapaaGreatDoor
open Go.RowKit

/-- Is all that is told of as free a cell of its class that is not used? -/
def freeAll (d : Hd_) (n N : Nat) (F : Nat → Nat → List Int) : Bool := (List.range N).all fun k => (List.range 3).all fun j => (F k j).all fun x => freeH d n x (j : Nat)
/-- May a heap be, with caches? -/
def mayH (s : Hs) (d : Hd_) (m : Nat) (F : Nat → Nat → List Int) : Bool :=
  firstB s d && ((Cl.allS d.f s.p.n).all (cellAt d) && (freeAll d s.p.n (1 + m) (ahead d.F F) && decide (Ls.allOf (ahead d.F F) (1 + m)).Nodup))
theorem getD_mem {xs : List Int} {q : Nat} (h : q < xs.length) : xs.getD q 0 ∈ xs := by
  have : xs.getD q 0 = xs[q] := by simp [List.getD, h]
  rw [this]
  exact List.getElem_mem h
end Go.Proofs.YtgmkomnoiffapaaGreatDoor
end
section
namespace Go.Proofs.YtgmkomnoiffapaaGreatDoor.Ar
open Go.Proofs.YtgmkomnoiffapaaGreatDoor
set_option maxRecDepth 100000
open Go.RowKit

/-- Words may be. -/
def mayB (n : Nat) : Bool := decide (16 ≤ n ∧ n ≤ 1024 ∧ n % 16 = 0)
theorem mayB_iff {n : Nat} : mayB n = true ↔ 16 ≤ n ∧ n ≤ 1024 ∧ n % 16 = 0 := by simp [mayB]
theorem mayB_no {n : Nat} (h : mayB n = false) : ¬ (16 ≤ n ∧ n ≤ 1024 ∧ n % 16 = 0) := fun c => by rw [mayB_iff.2 c] at h; cases h

theorem may_yes (A : Option Addr) (n c : Nat) (w : World) (h : mayB n = true) :
    Calls Tryz.prog 81 #[.slice A n c] w fun e w' => e = .returned (.bool true) ∧ w = w' := by
  obtain ⟨h1, h2, h3⟩ := mayB_iff.1 h
  have e1 : ((n : Int) % 16 == 0) = true := by simp; omega
  have e2 : (1 : Int) ≤ (n : Int) / 16 := by omega
  have e3 : (n : Int) / 16 ≤ 64 := by omega
  clear h h3
  go_enter Tryz.func81, Tryz.ntmps81
  go_wp2
  go_ret
  exact ⟨rfl, rfl⟩
theorem may_no (A : Option Addr) (n c : Nat) (w : World) (hn : n ≤ 9223372036854775807) (h : mayB n = false) :
    Calls Tryz.prog 81 #[.slice A n c] w fun e w' => e = .returned (.bool false) ∧ w = w' := by
  have h0 := mayB_no h
  clear h
  by_cases h1 : n % 16 = 0
  · have e1 : ((n : Int) % 16 == 0) = true := by simp; omega
    by_cases h2 : n < 16
    · have e2 : decide ((1 : Int) ≤ (n : Int) / 16) = false := by simp; omega
      clear h0 h1 h2
      go_enter Tryz.func81, Tryz.ntmps81
      go_wp2
      go_ret
      exact ⟨rfl, rfl⟩
    · have e2 : (1 : Int) ≤ (n : Int) / 16 := by omega
      have e3 : decide ((n : Int) / 16 ≤ 64) = false := by simp; omega
      clear h0 h1 h2
      go_enter Tryz.func81, Tryz.ntmps81
      go_wp2
      go_ret
      exact ⟨rfl, rfl⟩
  · have e1 : ((n : Int) % 16 == 0) = false := by simp; omega
    clear h0 h1
    go_enter Tryz.func81, Tryz.ntmps81
    go_wp2
    go_ret
    exact ⟨rfl, rfl⟩

theorem span_ok (A : Option Addr) (n c : Nat) (a k : Int) (w : World) (h : mayB n = true) (hk : 0 < k) (ha : 16 ≤ a) (hb : k ≤ 16 + n - a) :
    Calls Tryz.prog 104 #[.slice A n c, .int .i64 a, .int .i64 k] w fun e w' => e = .returned (.tuple #[.int .i64 (a - 16), .int .i64 (a - 16 + k), .int .i64 0]) ∧ w = w' := by
  have hn := (mayB_iff.1 h).2.1
  have e0 : (k == 0) = false := by simp; omega
  have e1 : ¬ k < 0 := by omega
  have H := Lib.hid h
  clear h
  go_enter Tryz.func104, Tryz.ntmps104
  go_wp2_with (go_at_call 81; refine (may_yes _ _ _ _ H.out).mono ?_; rintro e w' ⟨rfl, rfl⟩)
  go_ret3
  exact ⟨rfl, rfl⟩

theorem get_ok (B : Nat) (A : Option Addr) (n c : Nat) (xs : List Int) (a : Int) (w : World) (h : mayB n = true) (h0 : 16 ≤ a) (h1 : a < 16 + n) (hr : Row w B A n xs) :
    Calls Tryz.prog 62 #[.slice A n c, .int .i64 a] w fun e w' => e = .returned (.tuple #[.int .i64 (xs.getD (a - 16).toNat 0), .int .i64 0]) ∧ w = w' := by
  obtain ⟨i, rfl⟩ : ∃ i : Nat, a = 16 + i := ⟨(a - 16).toNat, by omega⟩
  have hn := (mayB_iff.1 h).2.1
  have hi : i < n := by omega
  obtain ⟨b, off, rfl, _, hc⟩ := hr.2 (by omega)
  have hcell := hc i hi
  have ei : (16 + (i : Int) - 16).toNat = i := by omega
  rw [ei]
  have EI : (16 : Int) + i - 16 = i := by omega
  have H := Lib.hid h
  clear h hc hr ei
  have HS : Calls Tryz.prog 104 #[.slice (some ⟨b, off, none⟩) n c, .int .i64 (16 + i), .int .i64 1] w fun e w' => e = .returned (.tuple #[.int .i64 i, .int .i64 (i + 1), .int .i64 0]) ∧ w = w' := by
    have := span_ok (some ⟨b, off, none⟩) n c (16 + i) 1 w H.out (by omega) (by omega) (by omega)
    rw [EI] at this
    exact this
  have HT := Lib.hid HS
  clear EI HS h0 h1
  go_enter Tryz.func62, Tryz.ntmps62
  go_wp2_with (go_at_call 104; refine (HT.out).mono ?_; rintro e w' ⟨rfl, rfl⟩)
  go_ret2
  exact ⟨rfl, rfl⟩
theorem page_ok (A : Option Addr) (n c : Nat) (a : Int) (w : World) (h : mayB n = true) (h0 : 16 ≤ a) (h1 : a < 16 + n) :
    Calls Tryz.prog 84 #[.slice A n c, .int .i64 a] w fun e w' => e = .returned (.tuple #[.int .i64 ((a - 16) / 16), .int .i64 0]) ∧ w = w' := by
  have hn := (mayB_iff.1 h).2.1
  have H := Lib.hid h
  clear h
  go_enter Tryz.func84, Tryz.ntmps84
  go_wp2_with (go_at_call 104; refine (span_ok _ _ _ _ _ _ H.out (by omega) (by omega) (by omega)).mono ?_; rintro e w' ⟨rfl, rfl⟩)
  go_ret2
  exact ⟨rfl, rfl⟩

end Go.Proofs.YtgmkomnoiffapaaGreatDoor.Ar
end
section
namespace Go.Proofs.YtgmkomnoiffapaaGreatDoor.Ar
open Go.Proofs.YtgmkomnoiffapaaGreatDoor
set_option maxRecDepth 100000
open Go.RowKit

theorem info_int : (Tryz.prog.info? 3).map (fun i => (i.zero, i.size, i.bytes)) = some (some (.int .i64 0), 1, 8) := by kernel_rfl
/-- A slice of the call's own was returned, and no error; all that was there is as it was. -/
def Made (w : World) (n : Nat) (xs : List Int) (e : Ending) (w' : World) : Prop :=
  ∃ g c, e = .returned (.tuple #[.slice (some ⟨g, 0, none⟩) n c, .int .i64 0]) ∧ Mine w' w.heap.size 3 g n c xs ∧ Below w.heap.size w w'
/-- .. alone. -/
def MadeOne (w : World) (n : Nat) (xs : List Int) (e : Ending) (w' : World) : Prop :=
  ∃ g c, e = .returned (.slice (some ⟨g, 0, none⟩) n c) ∧ Mine w' w.heap.size 3 g n c xs ∧ Below w.heap.size w w'

theorem clone_ok (B : Nat) (A : Option Addr) (n c : Nat) (xs : List Int) (w : World) (hn : 0 < n) (hbig : n * 8 ≤ 140737488355328) (hr : Row w B A n xs) :
    Calls Tryz.prog 94 #[.slice A n c] w (MadeOne w n xs) := by
  obtain ⟨i0, hi, hz0, hz1, hz2⟩ := info_parts info_int
  obtain ⟨b, off, rfl, _, hc⟩ := hr.2 hn
  have hl := hr.1
  have HC := Lib.hid hc
  have q22 : ∀ (w : World) (a : Option Addr) (n c n' c' : Nat), (binOp .eql 22 (.slice a n c) (.slice none n' c')).run Tryz.prog w = .ok (.bool a.isNone) w := fun w a n c n' c' => Lib.run_eql_slice_nil w _ _ a n c n' c' Tryz.underlying22
  have u22 : ∀ w, Sem.run Tryz.prog (underlying 22) w = .ok (TypeDesc.slice 3) w := run_underlying Tryz.underlying22
  have HL := Lib.hid hl
  clear hc hr hl
  go_enter Tryz.func94, Tryz.ntmps94
  go_wp2_with (at_builtin; refine wpList_append_own _ rfl _ _ 22 rfl w.heap.size 3 i0 (.int .i64 0) 1 8 Tryz.underlying22 hi hz0 hz1 hz2 rfl (by decide) _ _ _ rfl (World.ownsRow_made w #[] 0 (Nat.le_refl _) (Nat.zero_le _) rfl) ⟨b, off, none⟩ n c (xs.map (Value.int .i64)) rfl ?qc1 ?qc2 ?qc3 ?qc4 ?qc5 ?qc6 ?_)
  case qc1 => simp [HL.out]
  case qc2 =>
    intro j u hj
    have hl := HL.out
    have hjn : j < n := by
      have := (List.getElem?_eq_some_iff.1 hj).1
      simp at this
      omega
    rw [Addr.add_lit]
    refine Lib.cell?_alloc_some _ ?_
    rw [HC.out j hjn]
    have e : (xs.map (Value.int .i64))[j]? = some (Value.int .i64 (xs.getD j 0)) := by simp [List.getD, List.getElem?_eq_getElem (show j < xs.length by omega)]
    rw [e] at hj
    exact hj
  case qc3 => intro u hu; obtain ⟨x, _, rfl⟩ := List.mem_map.1 hu; rfl
  case qc4 => unfold maxLen; omega
  case qc5 => omega
  case qc6 => simp
  intro v' w1 hown hgrow hnil
  have hown' : w1.ownsRow w.heap.size 3 1 v' n (xs.map (Value.int .i64)) := by simpa using hown
  obtain ⟨g, c', rfl, hm⟩ := mine_of hown' hn
  have HM := Lib.hid hm
  clear hown hown' hnil hm
  go_wp2
  go_ret
  exact ⟨g, c', rfl, HM.out, ((Below.refl _ w).alloc (Nat.le_refl _) _).grown hgrow (by simp) (by intro k hk; simp [Value.ownBlock] at hk; omega)⟩

theorem new_ok (p : Int) (w : World) (h0 : 1 ≤ p) (h1 : p ≤ 64) :
    Calls Tryz.prog 80 #[.int .i64 p] w (Made w (p * 16).toNat (List.replicate (p * 16).toNat 0)) := by
  obtain ⟨i0, hi, hz0, hz1, hz2⟩ := info_parts info_int
  go_enter Tryz.func80, Tryz.ntmps80
  go_wp2_with (at_make; refine wpList_make_full _ rfl _ _ 22 rfl w.heap.size 3 i0 (.int .i64 0) 1 Tryz.underlying22 hi hz0 hz1 .i64 .i64 (p * 16) (p * 16) (p * 16).toNat rfl rfl ?c1 ?c2 ?c3 ?c4 ?c5 ?_)
  case c1 => omega
  case c2 => omega
  case c3 => rw [hz2]; omega
  case c4 => unfold maxLen; omega
  case c5 => simp
  intro w1 hown hgrow
  have hown' : w1.ownsRow w.heap.size 3 1 (.slice (some ⟨w.heap.size, 0, none⟩) (p * 16).toNat (p * 16).toNat) (p * 16).toNat ((List.replicate (p * 16).toNat (0 : Int)).map (Value.int .i64)) := by
    have e : (madeCells #[Value.int .i64 0] (p * 16).toNat).toList = (List.replicate (p * 16).toNat (0 : Int)).map (Value.int .i64) := by
      rw [List.map_replicate]
      exact toList_madeCells_one _ _
    rw [← e]
    exact hown
  obtain ⟨g, c, e, hm⟩ := mine_of hown' (by omega)
  have HM := Lib.hid hm
  have HE := Lib.hid e
  clear hown hown' e hm
  go_wp2
  go_ret2
  refine ⟨g, c, ?_, HM.out, (Below.refl _ w).grown hgrow (Nat.le_refl _) (by intro k hk; cases hk)⟩
  rw [HE.out]
  rfl

theorem put_ok (B : Nat) (A : Option Addr) (n c : Nat) (xs : List Int) (a v : Int) (w : World) (h : mayB n = true) (h0 : 16 ≤ a) (h1 : a < 16 + n) (hr : Row w B A n xs) :
    Calls Tryz.prog 160 #[.slice A n c, .int .i64 a, .int .i64 v] w (Made w n (xs.set (a - 16).toNat v)) := by
  obtain ⟨i, rfl⟩ : ∃ i : Nat, a = 16 + i := ⟨(a - 16).toNat, by omega⟩
  have hn := (mayB_iff.1 h).2.1
  have hi : i < n := by omega
  have ei : (16 + (i : Int) - 16).toNat = i := by omega
  rw [ei]
  have EI : (16 : Int) + i - 16 = i := by omega
  have H := Lib.hid h
  have HR := Lib.hid hr
  clear h ei hr
  have HS : Calls Tryz.prog 104 #[.slice A n c, .int .i64 (16 + i), .int .i64 1] w fun e w' => e = .returned (.tuple #[.int .i64 i, .int .i64 (i + 1), .int .i64 0]) ∧ w = w' := by
    have := span_ok A n c (16 + i) 1 w H.out (by omega) (by omega) (by omega)
    rw [EI] at this
    exact this
  have HT := Lib.hid HS
  clear EI HS h0 h1
  go_enter Tryz.func160, Tryz.ntmps160
  go_wp2_with fail
  refine (HT.out).mono ?_
  rintro e w' ⟨rfl, rfl⟩
  go_wp2_with fail
  refine (clone_ok _ _ _ _ _ _ (by omega) (by omega) HR.out).mono ?_
  rintro e w1 ⟨g, c', rfl, hm, hb⟩
  have HM := Lib.hid hm
  have hcell := hm.cell i hi
  have hfree := hm.free i
  have hsz := hm.2.2.1
  have hg := hm.2.1
  clear hm
  go_wp2
  go_ret2
  exact ⟨g, c', rfl, HM.out.stored i v, hb.setCell (by simpa using hg) _⟩
end Go.Proofs.YtgmkomnoiffapaaGreatDoor.Ar
end
section
namespace Go.Proofs.YtgmkomnoiffapaaGreatDoor
open Go.RowKit
set_option maxRecDepth 100000
attribute [local go_sem] Oper.semAt_some

/-- The first word of the cell at a; the page that it begins on. -/
def wd (d : Hd_) (a : Int) : Int := d.ws.getD (a - 16).toNat 0
def pgAt (d : Hd_) (a : Int) : Int × Int := d.f (a / 16 - 1).toNat
/-- What is handed to the function: where the cell begins, its page, its head. -/
def cellV (a x : Int) (p : Int × Int) : Value := .agg #[.int .i64 a, .int .i64 p.1, .int .i64 p.2, .bool (decide (x % 2 = 1)), .bool (decide (x / 2 % 2 = 1)), .bool (decide (x / 4 % 2 = 1)), .int .i64 (nOf x), .int .i64 (x / 1024 % 4194304), .int .i64 (x / 4294967296)]
theorem HBox.same {W W' : World} {b : Nat} {s : Hs} (h : HBox W b s) (hs : W'.heap[b]? = W.heap[b]?) (hl : W.heap.size ≤ W'.heap.size) : HBox W' b s :=
  ⟨(World.cell?_of_block (a := ⟨b, 0, none⟩) hs).trans h.c0, (World.cell?_of_block (a := ⟨b, 1, none⟩) hs).trans h.c1, (World.cell?_of_block (a := ⟨b, 2, none⟩) hs).trans h.c2, (World.cell?_of_block (a := ⟨b, 3, none⟩) hs).trans h.c3, (World.cell?_of_block (a := ⟨b, 4, none⟩) hs).trans h.c4, (World.cell?_of_block (a := ⟨b, 5, none⟩) hs).trans h.c5, Nat.lt_of_lt_of_le h.lt hl⟩
theorem row_same {w w' : World} {B n : Nat} {a : Option Addr} {xs : List Int} (h : Row w B a n xs) (hs : 0 < n → ∀ x, a = some x → w'.heap[x.block]? = w.heap[x.block]?) : Row w' B a n xs :=
  ⟨h.1, fun hn => by
    obtain ⟨b, off, e, hlt, hc⟩ := h.2 hn
    exact ⟨b, off, e, hlt, fun i hi => (World.cell?_of_block (a := ⟨b, off + i, none⟩) (show w'.heap[b]? = w.heap[b]? from hs hn _ e)).trans (hc i hi)⟩⟩

/-- What the walk of every holds between the cells: its own blocks are M's. -/
structure Ev (w : World) (n₀ : Nat) (M₀ : Nat → Prop) (s : Hs) (la : Option Addr) (n : Nat) (xs : List Int) (M : Nat → Prop) (W : World) : Prop where
  box : HBox W w.heap.size s
  bel : Cl.Kept n₀ M₀ w W
  sup : ∀ k, M₀ k → M k
  row : Row W W.heap.size la n xs
  mb : M w.heap.size
  ml : 0 < n → ∀ x, la = some x → M x.block
  fit : ∀ k, M k → k < W.heap.size
theorem Ev.kept {w : World} {n₀ : Nat} {M₀ : Nat → Prop} {s : Hs} {la : Option Addr} {n : Nat} {xs : List Int} {M : Nat → Prop} {W W' : World} (h : Ev w n₀ M₀ s la n xs M W) (hk : Cl.Kept n₀ M W W') : Ev w n₀ M₀ s la n xs M W' :=
  ⟨h.box.same (hk.2 _ h.mb h.box.lt) hk.1.size, h.bel.trans (hk.less h.sup), h.sup, (row_same h.row fun h0 x hx => hk.2 _ (h.ml h0 x hx) (h.fit _ (h.ml h0 x hx))).more hk.1.size, h.mb, h.ml, fun k hM => Nat.lt_of_lt_of_le (h.fit k hM) hk.1.size⟩
/-- .. with M's blocks and those that the walk has laid since. -/
def more (M : Nat → Prop) (lo hi : Nat) : Nat → Prop := fun k => M k ∨ (lo ≤ k ∧ k < hi)
theorem Ev.next {w : World} {n₀ : Nat} {M₀ : Nat → Prop} {s : Hs} {la : Option Addr} {n : Nat} {xs : List Int} {M : Nat → Prop} {W W' : World} (h : Ev w n₀ M₀ s la n xs M W) (h0 : n₀ ≤ w.heap.size) (hb : Below W.heap.size W W') : Ev w n₀ M₀ s la n xs (more M W.heap.size W'.heap.size) W' := by
  have hs := h.bel.1.size
  have h1 := h.kept (W' := W') ⟨hb.mono (by omega), fun k _ hk => hb.block k hk⟩
  exact ⟨h1.box, h1.bel, fun k hk => .inl (h1.sup k hk), h1.row, .inl h1.mb, fun hl x hx => .inl (h1.ml hl x hx), fun k hk => hk.elim (h1.fit k) (·.2)⟩
theorem bides_more {n₀ : Nat} {J : (Nat → Prop) → List Int → World → Prop} (hJ : Cl.Bides n₀ J) {M : Nat → Prop} {pre : List Int} {W W' : World} (h : J M pre W) (hb : Below W.heap.size W W') (hn : n₀ ≤ W.heap.size) : J (more M W.heap.size W'.heap.size) pre W' :=
  hJ.more h hb hn (fun _ hk => hk)

def Asked (n₀ : Nat) (M₀ : Nat → Prop) (w : World) (J : (Nat → Prop) → List Int → World → Prop) (xs : List Int) (R : Bool) (e : Ending) (w' : World) : Prop :=
  e = .returned (.bool R) ∧ Cl.Kept n₀ M₀ w w' ∧ (R = true → ∃ M, J M xs w')
/-- Of a cell: is its first word a head's, and does what is asked hold of it? -/
def holdsAt (d : Hd_) (p : Int → Bool) (a : Int) : Bool := Hd.isWord (wd d a) && p a
def Asks (gf : Nat) (lb : Array Value) (n₀ : Nat) (d : Hd_) (p : Int → Bool) (xs : List Int) (J : (Nat → Prop) → List Int → World → Prop) : Prop :=
  ∀ M pre a W, pre ++ [a] <+: xs → Hd.isWord (wd d a) = true → J M pre W → Cl.Sz W → (∀ k, M k → k < W.heap.size) →
    Calls Tryz.prog gf (#[cellV a (wd d a) (pgAt d a)] ++ lb) W fun e W' => e = .returned (.bool (p a)) ∧ Cl.Kept n₀ M W W' ∧ (p a = true → J M (pre ++ [a]) W')
theorem all_snoc {xs : List Int} {q : Nat} {g : Int → Bool} (hq : q < xs.length) (hg : g (xs.getD q 0) = false) : xs.all g = false := by
  cases e : xs.all g
  · rfl
  · have := List.all_eq_true.1 e _ (getD_mem hq)
    rw [hg] at this
    cases this
theorem all_every {xs : List Int} {g : Int → Bool} (h : ∀ j, j < xs.length → g (xs.getD j 0) = true) : xs.all g = true := List.all_eq_true.2 fun x hx => by
  obtain ⟨q, hq, rfl⟩ := List.getElem_of_mem hx
  have := h q hq
  rwa [show xs.getD q 0 = xs[q] by simp [List.getD, hq]] at this
theorem prefix_next {xs : List Int} {q : Nat} (hq : q < xs.length) : xs.take q ++ [xs.getD q 0] = xs.take (q + 1) := by
  rw [List.take_succ_eq_append_getElem hq]
  simp [List.getD, hq]

section
variable (s : Hs) (d : Hd_) (w : World) (n₀ : Nat) (M₀ : Nat → Prop) (gf : Nat) (lb : Array Value) (p : Int → Bool) (J : (Nat → Prop) → List Int → World → Prop)
set_option maxHeartbeats 2000000 in
theorem every_core (xs : List Int) (R : Bool) (hxe : Cl.allS d.f s.p.n = xs) (hR : R = xs.all (holdsAt d p)) (hp : Hp w n₀ s d) (h0 : n₀ ≤ w.heap.size) (hn0 : 0 < n₀) (hz : Cl.Sz w) (hf : firstB s d = true) (eg : ∀ args w, (callFunc gf args).run Tryz.prog w = .ok (.enter gf args) w) (hJ : Cl.Bides n₀ J) (j0 : J M₀ [] w) (hm0 : ∀ k, M₀ k → k < w.heap.size)
    (hask : Asks gf lb n₀ d p xs J) :
    Calls Tryz.prog 46 #[(.agg #[.slice s.w.a s.w.n s.w.c, .slice s.p.a s.p.n s.p.c, .slice (s.u 0).a (s.u 0).n (s.u 0).c, .slice (s.u 1).a (s.u 1).n (s.u 1).c, .slice (s.u 2).a (s.u 2).n (s.u 2).c, .slice s.c.a s.c.n s.c.c]), .func (.func gf) #[] lb] w (Asked n₀ M₀ w J xs R) := by
  have hall := Cl.all_new n₀ s.p.a s.p.n s.p.c d.f
  have hxs : (Cl.allS d.f s.p.n).length ≤ 100000 := by
    have := Cl.allS_short d.f s.p.n (Cl.allS d.f s.p.n).length
    rw [List.take_length] at this
    omega
  have hin := fun a (h : a ∈ Cl.allS d.f s.p.n) => allS_in h
  rw [hxe] at hall hxs hin
  have HIN := Lib.hid hin
  have HALL := Lib.hid hall
  have HR := Lib.hid hR
  clear hall hin hR hxe
  have hf' := hf
  unfold firstB at hf'
  simp only [Bool.and_eq_true, decide_eq_true_eq] at hf'
  obtain ⟨hwm, hpm, hw, -⟩ := hf'
  have hpn : s.p.n ≤ 64 := ((Cl.mayB_iff _ _).1 hpm).2.1
  have hpn0 : 0 < s.p.n := by have := ((Cl.mayB_iff _ _).1 hpm).1; omega
  obtain ⟨bp, op, ep, hbp, -⟩ := hp.pages hpn0
  rcases s with ⟨sw, ⟨ap, np, cp⟩, su, sc⟩
  obtain rfl : ap = some ⟨bp, op, none⟩ := ep
  dsimp only at hwm hw hpn hpn0 HIN HALL ⊢
  have HP := Lib.hid hp
  have HZ := Lib.hid hz
  have HW := Lib.hid hw
  have HWM := Lib.hid hwm
  have HJ := Lib.hid hJ
  have HJ0 := Lib.hid j0
  have HK := Lib.hid hask
  have HM0 := Lib.hid hm0
  clear hp hz hw hf hJ j0 hask hpm hwm hm0
  go_enter Tryz.func46, Tryz.ntmps46
  go_wp2_with fail
  have b0 := (Below.refl w.heap.size w).alloc (Nat.le_refl _) (.cells #[.slice sw.a sw.n sw.c, .slice (some ⟨bp, op, none⟩) np cp, .slice (su 0).a (su 0).n (su 0).c, .slice (su 1).a (su 1).n (su 1).c, .slice (su 2).a (su 2).n (su 2).c, .slice sc.a sc.n sc.c] 28)

  refine (HALL.out _ (by omega) (HZ.out.alloc _) (HP.out.pages.below (b0.mono h0)) (by simp; omega)).mono ?_
  rintro r w2 hl
  obtain ⟨la, lc, rfl, hrow, _, _, hb2, hlies⟩ := hl
  have hbw := b0.trans (hb2.mono (by simp))
  have E2 : Hid (Ev w n₀ M₀ ⟨sw, ⟨some ⟨bp, op, none⟩, np, cp⟩, su, sc⟩ la xs.length xs (more M₀ w.heap.size w2.heap.size) w2) := Lib.hid
    ⟨(HBox.new w ⟨sw, ⟨some ⟨bp, op, none⟩, np, cp⟩, su, sc⟩ 28).next hb2, ⟨hbw.mono h0, fun k _ hk => hbw.block k hk⟩, fun k hk => .inl hk, hrow, .inr ⟨Nat.le_refl _, by have := hb2.size; simp at this; omega⟩, fun hl0 x hx => .inr ⟨by have := hlies x hx; simp at this; omega, by
      obtain ⟨b, off, e, hlt, _⟩ := hrow.2 hl0
      rw [hx] at e
      cases e
      exact hlt⟩, fun k hk => hk.elim (fun hf => Nat.lt_of_lt_of_le (HM0.out k hf) hbw.size) (·.2)⟩
  have J2 := Lib.hid (bides_more HJ.out HJ0.out hbw h0)
  obtain ⟨n, hn⟩ : ∃ n, xs.length = n := ⟨_, rfl⟩
  have HN := Lib.hid hn
  rw [hn] at E2 hxs ⊢
  clear hrow hb2 hlies hbw b0 hn
  go_wp2
  go_loopw [17] (fun i wr => ∃ q : Nat, q ≤ n ∧ i = .int .i64 q ∧ Hid (∀ j, j < q → holdsAt d p (xs.getD j 0) = true) ∧ Hid (∃ M, Ev w n₀ M₀ ⟨sw, ⟨some ⟨bp, op, none⟩, np, cp⟩, su, sc⟩ la n xs M wr ∧ J M (xs.take q) wr)) (fun i _ => n - (intOf i).toNat)
  case atStart => exact ⟨0, Nat.zero_le _, rfl, Lib.hid (fun j h => absurd h (by omega)), Lib.hid ⟨_, E2.out, J2.out⟩⟩
  case round =>
    obtain ⟨q, hq, rfl, HG, HM⟩ := hrel
    by_cases hlt : q < n
    · obtain ⟨M, hE, hj⟩ := HM.out
      have hsz := hE.bel.1.size
      obtain ⟨b, off, rfl, hbl, hcell⟩ := hE.row.2 (by omega)
      have hq1 := hcell q hlt
      obtain ⟨y, hy⟩ : ∃ y, y = xs.getD q 0 := ⟨_, rfl⟩
      rw [← hy] at hq1
      have hmem : y ∈ xs := by
        have : xs[q]? = some y := by rw [hy]; simp [List.getD, List.getElem?_eq_getElem (show q < xs.length by have := HN.out; omega)]
        exact List.mem_of_getElem? this
      have hyin := HIN.out y hmem
      obtain ⟨x, hx⟩ : ∃ x, x = wd d y := ⟨_, rfl⟩
      obtain ⟨pg, hpg⟩ : ∃ pg, pg = pgAt d y := ⟨_, rfl⟩
      obtain ⟨k, hk⟩ : ∃ k : Nat, (y - 16) / 16 = k := ⟨((y - 16) / 16).toNat, by omega⟩
      have hkp : k < np := by have := HW.out; omega
      have HPAGE := Lib.hid (fun (W : World) => by
        have := Ar.page_ok sw.a sw.n sw.c y W HWM.out hyin.1 (by have := HW.out; omega)
        rw [hk] at this
        exact this)
      have HGET := Lib.hid (fun (W : World) (hW : Row W n₀ sw.a sw.n d.ws) => by
        have := Ar.get_ok n₀ sw.a sw.n sw.c d.ws y W HWM.out hyin.1 (by have := HW.out; omega) hW
        rw [show d.ws.getD (y - 16).toNat 0 = x from hx.symm] at this
        exact this)
      have hws := Lib.hid ((HP.out.below hE.bel.1).words)
      have hps := Lib.hid ((HP.out.below hE.bel.1).pages)
      have HX := Lib.hid hx
      have HPG := Lib.hid hpg
      have HY := Lib.hid hy
      have HKK := Lib.hid hk
      have HE := Lib.hid hE
      have HJJ := Lib.hid hj
      have i0 : (0 : Int) ≤ q := by omega
      have i1 : (q : Int) < n := by omega
      have q0 := hE.box.c0
      have q1 := hE.box.c1
      have ql := hE.box.lt
      clear hcell hmem hE hj hx hpg hy hk hyin
      go_wp2_with fail
      refine (HPAGE.out _).mono ?_
      rintro e w3 ⟨rfl, rfl⟩
      go_wp2_with fail
      refine (HGET.out _ hws.out).mono ?_
      rintro e w3 ⟨rfl, rfl⟩
      go_wp2_with fail
      refine (unpack_any x _).mono ?_
      cases hw : Hd.isWord x
      · rw [headOf_no hw]
        rintro e w3 ⟨rfl, hb3⟩
        have hR0 : R = false := by rw [HR.out]; exact all_snoc (q := q) (by have := HN.out; omega) (by rw [holdsAt, ← HY.out, ← HX.out, hw]; rfl)
        have HB := Lib.hid (HE.out.bel.trans ⟨hb3.mono (by omega), fun k _ hk => hb3.block k hk⟩)
        have hz3 := hb3.size
        subst hR0
        clear hb3 q0 q1 ql hw hq1
        go_wp2
        go_quiet (fail)
        go_wp2
        go_ret
        exact ⟨rfl, ⟨below_drawn' (HB.out.1.alloc (by omega) _) _, fun k hM hk => (Below.heap_alloc _ _ _ (Nat.lt_of_lt_of_le hk (by omega))).trans (HB.out.2 k hM hk)⟩, fun h => by cases h⟩
      · rw [headOf_yes hw]
        rintro e w3 ⟨rfl, hb3⟩
        have HWD := Lib.hid hw
        obtain ⟨w4, hw4⟩ : ∃ w4, w4 = w3.alloc (.cells #[.bool (decide (x % 2 = 1)), .bool (decide (x / 2 % 2 = 1)), .bool (decide (x / 4 % 2 = 1)), .int .i64 (nOf x), .int .i64 (x / 1024 % 4194304), .int .i64 (x / 4294967296)] 56) := ⟨_, rfl⟩
        have hb4 : Below wr.heap.size wr w4 := by rw [hw4]; exact hb3.alloc hb3.size _
        have x0 : w4.cell? ⟨w3.heap.size, 0, none⟩ = some (.bool (decide (x % 2 = 1))) := by rw [hw4]; simp [go_sem]
        have x1 : w4.cell? ⟨w3.heap.size, 1, none⟩ = some (.bool (decide (x / 2 % 2 = 1))) := by rw [hw4]; simp [go_sem]
        have x2 : w4.cell? ⟨w3.heap.size, 2, none⟩ = some (.bool (decide (x / 4 % 2 = 1))) := by rw [hw4]; simp [go_sem]
        have x3 : w4.cell? ⟨w3.heap.size, 3, none⟩ = some (.int .i64 (nOf x)) := by rw [hw4]; simp [go_sem]
        have x4 : w4.cell? ⟨w3.heap.size, 4, none⟩ = some (.int .i64 (x / 1024 % 4194304)) := by rw [hw4]; simp [go_sem]
        have x5 : w4.cell? ⟨w3.heap.size, 5, none⟩ = some (.int .i64 (x / 4294967296)) := by rw [hw4]; simp [go_sem]
        have xl : w3.heap.size < w4.heap.size := by rw [hw4]; simp
        have hE4 := HE.out.next h0 hb4
        have hJ4 := bides_more HJ.out HJJ.out hb4 (by omega)
        have HW4 := Lib.hid hw4
        obtain ⟨bp', op', ep, _, hcp⟩ := ((HP.out.below hE4.bel.1).pages) hpn0
        simp only [Option.some.injEq, Addr.mk.injEq, and_true] at ep
        obtain ⟨rfl, rfl⟩ := ep
        obtain ⟨p0, p1⟩ := hcp k hkp
        rw [show d.f k = pg by rw [HPG.out, pgAt, show (y / 16 - 1).toNat = k by have := HKK.out; omega]] at p0 p1
        have hbp4 : bp < w4.heap.size := by have := hE4.bel.1.size; omega
        have c1 := hE4.box.c1
        dsimp only at c1
        have cl := hE4.box.lt
        have H4 := Lib.hid (And.intro hE4 hJ4)
        have k0 : (0 : Int) ≤ k := by omega
        have k1 : (k : Int) < np := by omega
        clear hcp hb3 hw hw4 hb4 hE4 hJ4 q0 q1 ql hq1
        go_wp2
        rw [← HW4.out]
        go_still_tail 12, (by kernel_rfl)
        change wpList _ _ _ _ _ w4.drew
        have hb5 : Below w4.heap.size w4 w4.drew := below_drawn' (Below.refl _ _) 1
        have hE5 := H4.out.1.kept (W' := w4.drew) ⟨hb5.mono (by have := H4.out.1.bel.1.size; omega), fun _ _ _ => rfl⟩
        have hJ5 := HJ.out _ (more M wr.heap.size w4.heap.size) _ _ w4.drew H4.out.2 (hb5.mono (by have := H4.out.1.bel.1.size; omega)) (fun _ _ _ => rfl) (fun _ hk => .inl hk)
        have HCALL := Lib.hid (HK.out _ _ y w4.drew (show xs.take q ++ [y] <+: xs by rw [HY.out, prefix_next (by have := HN.out; omega)]; exact List.take_prefix _ _) (by rw [← HX.out]; exact HWD.out) hJ5 (HZ.out.over hE5.bel.1 hn0) hE5.fit)
        rw [← HX.out, ← HPG.out] at HCALL
        have HE5 := Lib.hid hE5
        clear hb5 hE5 hJ5 x0 x1 x2 x3 x4 x5 xl p0 p1 hbp4 c1 cl
        generalize w4.drew = w5 at HCALL HE5 ⊢
        go_wp2_with fail
        refine HCALL.out.mono ?_
        rintro e w6 ⟨rfl, hk6, hj6⟩
        have HE6 := Lib.hid (HE5.out.kept hk6)
        have HJ6 := Lib.hid hj6
        clear hk6 hj6
        cases hpy : p y
        · have hR0 : R = false := by rw [HR.out]; exact all_snoc (q := q) (by have := HN.out; omega) (by rw [holdsAt, ← HY.out, hpy, Bool.and_false])
          subst hR0
          clear hpy
          go_wp2
          go_ret
          exact ⟨rfl, HE6.out.bel, fun h => by cases h⟩
        · have HG2 : Hid (∀ j, j < q + 1 → holdsAt d p (xs.getD j 0) = true) := Lib.hid (fun j hj => by
            by_cases e : j = q
            · rw [e, ← HY.out, holdsAt, ← HX.out, HWD.out, hpy]; rfl
            · exact HG.out j (by omega))
          have HM2 : Hid (∃ M, Ev w n₀ M₀ ⟨sw, ⟨some ⟨bp, op, none⟩, np, cp⟩, su, sc⟩ (some ⟨b, off, none⟩) n xs M w6 ∧ J M (xs.take (q + 1)) w6) := Lib.hid ⟨_, HE6.out, by
            have := HJ6.out hpy
            rwa [HY.out, prefix_next (by have := HN.out; omega)] at this⟩
          clear hpy
          go_wp2
          go_roundw
          case rel => exact ⟨q + 1, by omega, by go_num, HG2, HM2⟩
          case measure => simp [intOf]; omega
    · obtain rfl : q = n := by omega
      have hRt : R = true := by rw [HR.out]; exact all_every (fun j hj => HG.out j (by have := HN.out; omega))
      obtain ⟨M, hE, hj⟩ := HM.out
      rw [List.take_of_length_le (by have := HN.out; omega)] at hj
      have HE := Lib.hid hE
      have HJJ := Lib.hid hj
      subst hRt
      clear hE hj
      go_wp2
      go_ret
      exact ⟨rfl, HE.out.bel, fun _ => ⟨_, HJJ.out⟩⟩
theorem every_any (hp : Hp w n₀ s d) (h0 : n₀ ≤ w.heap.size) (hn0 : 0 < n₀) (hz : Cl.Sz w) (hf : firstB s d = true) (eg : ∀ args w, (callFunc gf args).run Tryz.prog w = .ok (.enter gf args) w) (hJ : Cl.Bides n₀ J) (j0 : J M₀ [] w) (hm0 : ∀ k, M₀ k → k < w.heap.size)
    (hask : Asks gf lb n₀ d p (Cl.allS d.f s.p.n) J) :
    Calls Tryz.prog 46 #[(.agg #[.slice s.w.a s.w.n s.w.c, .slice s.p.a s.p.n s.p.c, .slice (s.u 0).a (s.u 0).n (s.u 0).c, .slice (s.u 1).a (s.u 1).n (s.u 1).c, .slice (s.u 2).a (s.u 2).n (s.u 2).c, .slice s.c.a s.c.n s.c.c]), .func (.func gf) #[] lb] w (Asked n₀ M₀ w J (Cl.allS d.f s.p.n) ((Cl.allS d.f s.p.n).all (holdsAt d p))) :=
  every_core s d w n₀ M₀ gf lb p J _ _ rfl rfl hp h0 hn0 hz hf eg hJ j0 hm0 hask
end
end Go.Proofs.YtgmkomnoiffapaaGreatDoor
end
section
namespace Go.Proofs.YtgmkomnoiffapaaGreatDoor
open Go.RowKit
set_option maxRecDepth 100000

theorem rbool {a b : Bool} (h : a = b) : Ending.returned (.bool a) = .returned (.bool b) := by rw [h]
/-- Is a page for objects with just so many fields? -/
def fillsB (n : Int) (p : Int × Int) : Bool := if p.1 = 2 then (Cl.runErr n == 0) && (Cl.runOf n == p.2) else (Cl.classErr n == 0) && (Cl.classOf n == p.2)
theorem fills_any (n : Int) (p : Int × Int) (w : World) (hz : Cl.Sz w) : Calls Tryz.prog 48 #[.int .i64 n, .agg #[.int .i64 p.1, .int .i64 p.2]] w fun e w' => e = .returned (.bool (fillsB n p)) ∧ Below w.heap.size w w' := by
  have HZ := Lib.hid (hz.alloc (.cells #[.int .i64 p.1, .int .i64 p.2] 81))
  clear hz
  by_cases hk : p.1 = 2
  · have k1 : (p.1 == 2) = true := by simp [hk]
    cases hr : (Cl.runErr n == 0)
    · have R : fillsB n p = false := by simp [fillsB, hk, hr]
      rw [R]
      clear R hk
      go_enter Tryz.func48, Tryz.ntmps48
      go_wp2_with fail
      refine (Cl.of_of n _ HZ.out).mono ?_
      rintro r w2 ⟨rfl, rfl⟩
      go_wp2_with fail
      refine (Cl.run_of n _ HZ.out).mono ?_
      rintro r w2 ⟨rfl, rfl⟩
      go_wp2
      go_ret
      exact ⟨rfl, (Below.refl _ _).alloc (Nat.le_refl _) _⟩
    · have R : fillsB n p = (Cl.runOf n == p.2) := by simp [fillsB, hk, hr]
      rw [R]
      clear R hk
      go_enter Tryz.func48, Tryz.ntmps48
      go_wp2_with fail
      refine (Cl.of_of n _ HZ.out).mono ?_
      rintro r w2 ⟨rfl, rfl⟩
      go_wp2_with fail
      refine (Cl.run_of n _ HZ.out).mono ?_
      rintro r w2 ⟨rfl, rfl⟩
      go_wp2
      go_ret
      exact ⟨rfl, (Below.refl _ _).alloc (Nat.le_refl _) _⟩
  · have k1 : (p.1 == 2) = false := by simp [hk]
    cases hr : (Cl.classErr n == 0)
    · have R : fillsB n p = false := by simp [fillsB, hk, hr]
      rw [R]
      clear R hk
      go_enter Tryz.func48, Tryz.ntmps48
      go_wp2_with fail
      refine (Cl.of_of n _ HZ.out).mono ?_
      rintro r w2 ⟨rfl, rfl⟩
      go_wp2
      go_ret
      exact ⟨rfl, (Below.refl _ _).alloc (Nat.le_refl _) _⟩
    · have R : fillsB n p = (Cl.classOf n == p.2) := by simp [fillsB, hk, hr]
      rw [R]
      clear R hk
      go_enter Tryz.func48, Tryz.ntmps48
      go_wp2_with fail
      refine (Cl.of_of n _ HZ.out).mono ?_
      rintro r w2 ⟨rfl, rfl⟩
      go_wp2
      go_ret
      exact ⟨rfl, (Below.refl _ _).alloc (Nat.le_refl _) _⟩
theorem words_may (A : Option Addr) (n c : Nat) (w : World) (hn : n ≤ 9223372036854775807) : Calls Tryz.prog 81 #[.slice A n c] w fun e w' => e = .returned (.bool (wordsB n)) ∧ w = w' := by
  cases h : wordsB n
  · exact Ar.may_no A n c w hn h
  · exact Ar.may_yes A n c w h
theorem sized_any (s : Hs) (d : Hd_) (w : World) (hp : Hp w w.heap.size s d) (hwn : s.w.n ≤ 4000) (hpn : s.p.n ≤ 1000) (hcn : s.c.n ≤ 100000) :
    Calls Tryz.prog 45 #[(.agg #[.slice s.w.a s.w.n s.w.c, .slice s.p.a s.p.n s.p.c, .slice (s.u 0).a (s.u 0).n (s.u 0).c, .slice (s.u 1).a (s.u 1).n (s.u 1).c, .slice (s.u 2).a (s.u 2).n (s.u 2).c, .slice s.c.a s.c.n s.c.c])] w fun e w' => e = .returned (.bool (firstB s d)) ∧ Below w.heap.size w w' := by
  have HP := Lib.hid hp
  have key : ∀ (b1 b2 b3 b4 : Bool), wordsB s.w.n = b1 → Cl.mayB d.f s.p.n = b2 → ((s.w.n : Int) == 16 * (s.p.n : Int)) = b3 → ((s.w.n : Int) == 8 * (s.c.n : Int)) = b4 → 
      Calls Tryz.prog 45 #[(.agg #[.slice s.w.a s.w.n s.w.c, .slice s.p.a s.p.n s.p.c, .slice (s.u 0).a (s.u 0).n (s.u 0).c, .slice (s.u 1).a (s.u 1).n (s.u 1).c, .slice (s.u 2).a (s.u 2).n (s.u 2).c, .slice s.c.a s.c.n s.c.c])] w fun e w' => e = .returned (.bool (b1 && (b2 && (b3 && b4)))) ∧ Below w.heap.size w w' := by
    intro b1 b2 b3 b4 e1 e2 e3 e4
    have E1 := Lib.hid e1
    have E2 := Lib.hid e2
    clear e1 e2 hp
    cases b1
    · rw [show (false && (b2 && (b3 && b4))) = false from rfl]
      go_enter Tryz.func45, Tryz.ntmps45
      go_wp2_with fail
      refine (words_may _ _ _ _ (by omega)).mono ?_
      rw [E1.out]
      rintro r w1 ⟨rfl, rfl⟩
      go_wp2
      go_ret
      exact ⟨rfl, (Below.refl _ _).alloc (Nat.le_refl _) _⟩
    · cases b2
      · rw [show (true && (false && (b3 && b4))) = false from rfl]
        go_enter Tryz.func45, Tryz.ntmps45
        go_wp2_with fail
        refine (words_may _ _ _ _ (by omega)).mono ?_
        rw [E1.out]
        rintro r w1 ⟨rfl, rfl⟩
        go_wp2_with fail
        have hb0 := (Below.refl w.heap.size w).alloc (Nat.le_refl _) (.cells #[.slice s.w.a s.w.n s.w.c, .slice s.p.a s.p.n s.p.c, .slice (s.u 0).a (s.u 0).n (s.u 0).c, .slice (s.u 1).a (s.u 1).n (s.u 1).c, .slice (s.u 2).a (s.u 2).n (s.u 2).c, .slice s.c.a s.c.n s.c.c] 28)
        refine (Cl.may_any w.heap.size s.p.a s.p.n s.p.c d.f _ hpn (HP.out.pages.below hb0) (by simp)).mono ?_
        rw [E2.out]
        rintro r w1 ⟨rfl, hb1⟩
        have BW := Lib.hid (hb0.trans (hb1.mono (by simp)))
        clear hb1 hb0
        go_wp2
        go_ret
        exact ⟨rfl, BW.out⟩
      · rw [show (true && (true && (b3 && b4))) = (b3 && b4) from rfl]
        cases b3
        · rw [show (false && b4) = false from rfl]
          go_enter Tryz.func45, Tryz.ntmps45
          go_wp2_with fail
          refine (words_may _ _ _ _ (by omega)).mono ?_
          rw [E1.out]
          rintro r w1 ⟨rfl, rfl⟩
          go_wp2_with fail
          have hb0 := (Below.refl w.heap.size w).alloc (Nat.le_refl _) (.cells #[.slice s.w.a s.w.n s.w.c, .slice s.p.a s.p.n s.p.c, .slice (s.u 0).a (s.u 0).n (s.u 0).c, .slice (s.u 1).a (s.u 1).n (s.u 1).c, .slice (s.u 2).a (s.u 2).n (s.u 2).c, .slice s.c.a s.c.n s.c.c] 28)
          refine (Cl.may_any w.heap.size s.p.a s.p.n s.p.c d.f _ hpn (HP.out.pages.below hb0) (by simp)).mono ?_
          rw [E2.out]
          rintro r w1 ⟨rfl, hb1⟩
          have HB1 := (HBox.new w s 28).next hb1
          have q0 := HB1.c0
          have q1 := HB1.c1
          have q5 := HB1.c5
          have ql := HB1.lt
          have BW := Lib.hid (hb0.trans (hb1.mono (by simp)))
          clear hb1 hb0 HB1
          go_wp2
          go_ret
          exact ⟨rfl, BW.out⟩
        · rw [show (true && b4) = b4 from rfl]
          go_enter Tryz.func45, Tryz.ntmps45
          go_wp2_with fail
          refine (words_may _ _ _ _ (by omega)).mono ?_
          rw [E1.out]
          rintro r w1 ⟨rfl, rfl⟩
          go_wp2_with fail
          have hb0 := (Below.refl w.heap.size w).alloc (Nat.le_refl _) (.cells #[.slice s.w.a s.w.n s.w.c, .slice s.p.a s.p.n s.p.c, .slice (s.u 0).a (s.u 0).n (s.u 0).c, .slice (s.u 1).a (s.u 1).n (s.u 1).c, .slice (s.u 2).a (s.u 2).n (s.u 2).c, .slice s.c.a s.c.n s.c.c] 28)
          refine (Cl.may_any w.heap.size s.p.a s.p.n s.p.c d.f _ hpn (HP.out.pages.below hb0) (by simp)).mono ?_
          rw [E2.out]
          rintro r w1 ⟨rfl, hb1⟩
          have HB1 := (HBox.new w s 28).next hb1
          have q0 := HB1.c0
          have q1 := HB1.c1
          have q5 := HB1.c5
          have ql := HB1.lt
          have BW := Lib.hid (hb0.trans (hb1.mono (by simp)))
          clear hb1 hb0 HB1
          go_wp2
          go_ret
          exact ⟨rfl, BW.out⟩
  have h := key _ _ _ _ rfl rfl rfl rfl
  have e : (wordsB s.w.n && (Cl.mayB d.f s.p.n && (((s.w.n : Int) == 16 * (s.p.n : Int)) && ((s.w.n : Int) == 8 * (s.c.n : Int))))) = firstB s d := by
    unfold firstB
    rw [Bool.eq_iff_iff]
    simp only [Bool.and_eq_true, beq_iff_eq, decide_eq_true_eq]
    constructor
    · rintro ⟨h1, h2, h3, h4⟩
      exact ⟨h1, h2, by omega, by omega⟩
    · rintro ⟨h1, h2, h3, h4⟩
      exact ⟨h1, h2, by omega, by omega⟩
  rwa [e] at h
/-- Of what rises: is it among them? -/
theorem has_any (B : Nat) (A : Option Addr) (n c : Nat) (xs : List Int) (x : Int) (w : World) (hn : n ≤ 100000000) (hr : Row w B A n xs) (hs : xs.Pairwise (· ≤ ·)) :
    Calls Tryz.prog 90 #[.slice A n c, .int .i64 x] w fun e w' => e = .returned (.bool (decide (x ∈ xs))) ∧ ∃ q, w' = w.drewN q := by
  by_cases h0 : n = 0
  · subst h0
    obtain rfl := hr.zero
    clear hr hs hn
    go_enter Tryz.func90, Tryz.ntmps90
    go_wp2_with fail
    refine (Tryz.slices_BinarySearch_int_empty A c x _).mono ?_
    rintro e w1 ⟨rfl, rfl⟩
    go_wp2
    go_ret
    exact ⟨rbool (by simp), 0, rfl⟩
  · obtain ⟨b, off, rfl, _, hc⟩ := hr.2 (by omega)
    have hl := hr.1
    have HB := Lib.hid (fun W (hW : W = w) => by
      have := Tryz.slices_BinarySearch_int b off n c xs x W (by omega) (by omega) (fun j hj => by rw [hW]; exact hc j (by omega)) (by rw [List.take_of_length_le (by omega)]; exact hs)
      rw [List.take_of_length_le (by omega), List.contains_eq_mem] at this
      exact this)
    clear hc hr hs h0 hl
    go_enter Tryz.func90, Tryz.ntmps90
    go_wp2_with fail
    refine (HB.out _ rfl).mono ?_
    rintro e w1 ⟨rfl, q, rfl⟩
    go_wp2
    go_ret
    exact ⟨rfl, q, rfl⟩
end Go.Proofs.YtgmkomnoiffapaaGreatDoor
end
section
namespace Go.Proofs.YtgmkomnoiffapaaGreatDoor.Ls
open Go.Proofs.YtgmkomnoiffapaaGreatDoor
set_option maxRecDepth 100000
open Go.RowKit

/-- Lists of one's own and their box, beside other things. -/
structure Lst (base : Nat) (W wr : World) (R : Nat → Option Thing) (d : Nat) (V : Nat → Sl) (G : Nat → List Int) : Prop where
  res : Res base W wr R
  own : R 0 = some (tOwn base V G)
  box : R 1 = some (tBox d V)
  big : base ≤ wr.heap.size
section
variable {base d k : Nat} {W wr w2 : World} {R : Nat → Option Thing} {V : Nat → Sl} {G : Nat → List Int} {s : Sl} {xs : List Int} {o : Obj}
theorem Lst.drew (h : Lst base W wr R d V G) : Lst base W wr.drew R d V G := ⟨h.res.drewN 1, h.own, h.box, h.big⟩
theorem Lst.boxed (h : Lst base W wr R d V G) : Box3 wr d V := h.res.box h.box
theorem Lst.owns (h : Lst base W wr R d V G) : Own3 wr base V G := h.res.own h.own
theorem Lst.row (h : Lst base W wr R d V G) (o : Obj) (hk : k < 3) : (wr.alloc o).ownsRow base 3 1 (.slice (V k).a (V k).n (V k).c) (V k).n ((G k).map (Value.int .i64)) := (h.owns.alloc o).own k hk
theorem Lst.len (h : Lst base W wr R d V G) (hk : k < 3) : (V k).n = (G k).length := h.owns.l3.len k hk
theorem Lst.mid (h : Lst base W wr R d V G) (hk : k < 3) (hc : Catted (wr.alloc o) base (.slice (V k).a (V k).n (V k).c) s xs w2) : Box3 w2 d V ∧ wr.heap.size + 1 ≤ w2.heap.size :=
  ⟨(h.res.catted (b0 := base) h.big h.own hk hc hc.own).box (r := 1) (by rw [upd_other _ _ (by decide)]; exact h.box), by have := hc.grown.size; simpa using this⟩
theorem Lst.cat (h : Lst base W wr R d V G) (hk : k < 3) (hc : Catted (wr.alloc o) base (.slice (V k).a (V k).n (V k).c) s xs w2) :
    ∃ R', Lst base W (w2.setCell ⟨d, k, none⟩ (.slice s.a s.n s.c)) R' d (upd V k s) (upd G k xs) ∧ ∀ r, 2 ≤ r → R' r = R r := by
  have hw : base ≤ w2.heap.size := by have := (h.mid hk hc).2; have := h.big; omega
  have R1 := h.res.catted (b0 := base) h.big h.own hk hc hc.own
  have R2 := R1.set hw (r := 1) (d := d) (k := k) (z := V) (by rw [upd_other _ _ (by decide)]; exact h.box) hk s
  refine ⟨_, ⟨R2, ?_, upd_same _ _ _, by simpa [World.setCell] using hw⟩, fun r hr => ?_⟩
  · rw [upd_other _ _ (by decide), upd_same]
  · rw [upd_other _ _ (by omega), upd_other _ _ (by omega)]
/-- The box is stored to the result's box. -/
theorem Lst.done (h : Lst base W wr R d V G) {r : Nat} (hr : 2 ≤ r) {b : Nat} {z : Nat → Sl} (hb : R r = some (tBox b z)) : L3 (put3 wr b V) (put3 wr b V).heap.size V G ∧ Below base W (put3 wr b V) := by
  have R1 := h.res.put h.big hb V
  exact ⟨(R1.own (r := 0) (by rw [upd_other _ _ (by omega)]; exact h.own)).l3, R1.bel⟩
end
end Go.Proofs.YtgmkomnoiffapaaGreatDoor.Ls
end
