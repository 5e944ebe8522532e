/-
  Merged texts: LsApart, HpMay, HpMayB, HpMayC, HpHead, HpHeadI, Plain, Make, HpEvery, HpNewP, PgFind, PgRefFind, PgFill, HpClone, AlOwn, HpCp, HpSmall, LsRPush.
-/
import Derived.Test.YtccjelpfmkbmiaaGreatDoorHpTA
import Derived.Test.YtccjelpfmkbmiaaGreatDoorTShelf
import Derived.Sort.OwnSortedInts
import Derived.Test.YtccjelpfmkbmiaaGreatDoorHpTC
import Derived.Deep.RegionHeld3
import Derived.Deep.DrawnRows
import Derived.Test.YtccjelpfmkbmiaaGreatDoorRows
import Derived.WalkKit
import Derived.Below
import Derived.WalkSmall
import Derived.RegionTactic
import Derived.ChangeAlike
import Derived.Deep.QuietTactic
import Derived.BigQuiet
import Derived.Lib.Hide
import Derived.Lib.SliceRun
import Derived.WalkSpells
import Derived.StillTailTactics
import Derived.Test.YtccjelpfmkbmiaaGreatDoorHpTB
import Derived.Deep.LoopGhost
section
namespace Go.Proofs.YtccjelpfmkbmiaaGreatDoor.Ls
open Go.Proofs.YtccjelpfmkbmiaaGreatDoor
set_option maxRecDepth 100000
open Go.RowKit Go.Sort

/-- The library's order. -/
abbrev srt (xs : List Int) : List Int := xs.mergeSort fun x y => decide (x ≤ y)
theorem srt_len (xs : List Int) : (srt xs).length = xs.length := List.length_mergeSort xs
theorem srt_le (xs : List Int) : (srt xs).Pairwise (· ≤ ·) := by
  have := List.pairwise_mergeSort (le := fun x y : Int => decide (x ≤ y)) (fun a b c h1 h2 => by simp at *; omega) (fun a b => by simp; omega) xs
  exact this.imp (fun h => by simpa using h)
theorem compact_len (zs : List Int) : (Lib.compact zs).length = zs.length ↔ ∀ j, j < zs.length → Lib.keeps zs.toArray j = true := by
  unfold Lib.compact Lib.compactUpTo
  rw [List.length_map]
  constructor
  · intro h j hj
    have : ((List.range zs.length).filter (Lib.keeps zs.toArray)).length = (List.range zs.length).length := by rw [h, List.length_range]
    exact List.length_filter_eq_length_iff.1 this j (List.mem_range.2 hj)
  · intro h
    have := List.length_filter_eq_length_iff.2 (fun j hj => h j (List.mem_range.1 hj) : ∀ j ∈ List.range zs.length, Lib.keeps zs.toArray j = true)
    rw [this, List.length_range]
theorem keeps_iff (zs : List Int) {j : Nat} (hj : j < zs.length) (h0 : 0 < j) : Lib.keeps zs.toArray j = true ↔ ¬ zs[j] = zs[j - 1] := by
  unfold Lib.keeps
  rw [decide_eq_true_iff, getElem!_pos zs.toArray j (by simpa using hj), getElem!_pos zs.toArray (j - 1) (by simp; omega)]
  simp
  omega
theorem sorted_apart (zs : List Int) (hs : zs.Pairwise (· ≤ ·)) : (Lib.compact zs).length = zs.length ↔ zs.Nodup := by
  rw [compact_len]
  have hle := List.pairwise_iff_getElem.1 hs
  constructor
  · intro h
    unfold List.Nodup
    rw [List.pairwise_iff_getElem]
    intro i j hi hj hij
    have h1 := (keeps_iff zs hj (by omega)).1 (h j hj)
    have h2 := hle (j - 1) j (by omega) hj (by omega)
    by_cases e : i = j - 1
    · subst e
      intro e2
      exact h1 e2.symm
    · have h3 := hle i (j - 1) hi (by omega) (by omega)
      omega
  · intro h j hj
    by_cases h0 : j = 0
    · subst h0
      exact Lib.keeps_lt_one _ 0 (by omega)
    · refine (keeps_iff zs hj (by omega)).2 ?_
      unfold List.Nodup at h
      have := List.pairwise_iff_getElem.1 h (j - 1) j (by omega) hj (by omega)
      intro e
      exact this e.symm
theorem apart_iff (xs : List Int) : (Lib.compact (srt xs)).length = xs.length ↔ xs.Nodup := by
  rw [← srt_len xs, sorted_apart _ (srt_le xs)]
  exact (List.mergeSort_perm xs _).nodup_iff

theorem rint {a b : Bool} (h : a = b) : Ending.returned (.bool a) = .returned (.bool b) := by rw [h]
/-- A truth was returned. -/
def Tells (w : World) (p : Bool) (e : Ending) (w' : World) : Prop := e = .returned (.bool p) ∧ Below w.heap.size w w'

set_option maxHeartbeats 1000000 in
theorem apart_any (B : Nat) (A : Option Addr) (n c : Nat) (u : Nat → Nat → Sl) (f : Nat → Nat → List Int) (w : World) (h : LRow w B A n u f) (hB : B ≤ w.heap.size) (hn : n ≤ 1000000) (hlen : (allOf f n).length ≤ 2000000) :
    Calls Tryz.prog 67 #[.slice A n c] w (Tells w (decide (allOf f n).Nodup)) := by
  have HL := Lib.hid h
  have HN := Lib.hid hlen
  clear h hlen
  go_enter Tryz.func67, Tryz.ntmps67
  go_wp2_with (go_at_call 105; refine (all_any B A n c u f w HL.out hB hn HN.out).mono ?_; rintro e w1 ⟨s, rfl, ho, hb⟩)
  obtain ⟨xs, hxs⟩ : ∃ xs, xs = allOf f n := ⟨_, rfl⟩
  rw [← hxs] at ho HN ⊢
  have hl : s.n = xs.length := by simpa using ho.1.symm
  rw [hl] at ho ⊢
  obtain ⟨sa, sn, sc⟩ := s
  have HX := Lib.hid hxs
  clear hl hxs
  by_cases h0 : xs.length = 0
  · obtain rfl := List.eq_nil_of_length_eq_zero h0
    have HB := Lib.hid hb
    clear ho h0 hb
    go_wp2_with (go_at_call 106; refine (Tryz.slices_Sort_int_none sa sc w1).mono ?_; rintro e w2 ⟨rfl, rfl⟩)
    go_wp2_with (go_at_call 107; refine (Tryz.slices_Compact_int_empty sa sc w2).mono ?_; rintro e w3 ⟨rfl, rfl⟩)
    go_wp2
    go_ret
    exact ⟨by rw [← HX.out]; rfl, HB.out⟩
  · obtain ⟨_, h1⟩ := ho
    rcases h1 with ⟨_, h2⟩ | ⟨g, cap, cur, h2, hbase, hh, hc1, hc2, hsz, htk⟩
    · exact absurd h2 h0
    · simp only [Value.slice.injEq, true_and] at h2
      obtain ⟨rfl, rfl⟩ := h2
      rw [Nat.mul_one] at htk
      have hg : g < w1.heap.size := (Array.getElem?_eq_some_iff.1 hh).1
      have hH := holds_of_blockI (ss := xs) hh htk
      have hx4 : xs.length ≤ 2000000 := HN.out
      go_wp2_with (go_at_call 106; refine (Tryz.slices_Sort_int g 0 sc xs w1 hH hg (by omega)).mono ?_; rintro e w2 ⟨rfl, q, os, hw2⟩; replace hw2 := Lib.hid hw2)
      have ho2 := ownsRow_sortedI (base := w.heap.size) (n := q) (os := os) (ss := xs) (ts := srt xs) (srt_len xs) hbase hh hc1 hc2 hsz
      have hb2 := hb.grown (grownBy_sortedI (n := q) (os := os) (g := g) (srt xs).toArray) hb.size (fun k hk => by simp at hk; omega)
      rw [← hw2.out] at ho2 hb2
      clear hw2 hH htk hh hsz hb hbase
      obtain ⟨_, h3⟩ := ho2
      rcases h3 with ⟨h4, _⟩ | ⟨g', cap', cur', h4, hbase, hh, _, _, hsz, htk⟩
      · cases h4
      · simp only [Value.slice.injEq, Option.some.injEq, Addr.mk.injEq, and_true, true_and] at h4
        obtain ⟨rfl, rfl⟩ := h4
        rw [Nat.mul_one, ← srt_len xs] at htk
        have hH := holds_of_blockI (ss := srt xs) hh htk
        have hl2 := srt_len xs
        have hq : (srt xs).length ≤ 9223372036854775807 := by omega
        have hcp : (srt xs).length ≤ sc := by omega
        have HC := Tryz.slices_Compact_int g 0 sc (srt xs) w2 hH hq hcp
        rw [hl2] at HC
        have HI := apart_iff xs
        obtain ⟨m, hm⟩ : ∃ m, m = (Lib.compact (srt xs)).length := ⟨_, rfl⟩
        rw [← hm] at HC HI
        have hm2 : m ≤ 2000000 := by
          have := List.length_filter_le (Lib.keeps (srt xs).toArray) (List.range (srt xs).length)
          have e : m = ((List.range (srt xs).length).filter (Lib.keeps (srt xs).toArray)).length := by rw [hm]; simp [Lib.compact, Lib.compactUpTo]
          rw [List.length_range] at this
          omega
        have HB := Lib.hid hb2
        have HBs := Lib.hid hbase
        have HII := Lib.hid HI
        clear hb2 hbase HI hm hH htk hh hsz
        go_wp2_with (go_loud (go_at_call 107; refine HC.mono ?_; rintro e w3 ⟨rfl, q3, hw3⟩; replace hw3 := Lib.hid hw3))
        have hb3 : RowKit.Below w.heap.size w2 w3 := by
          rw [hw3.out]
          exact (Below.refl _ _).grown (row := some g) (by have := grownBy_sortedI (w := w2) (n := q3) (os := #[]) (g := g) (Lib.compact (srt xs) ++ List.replicate (xs.length - m) 0).toArray; rwa [grow_empty] at this) HB.out.size (fun k hk => by simp at hk; have := HBs.out; omega)
        have HB3 := Lib.hid (HB.out.trans hb3)
        clear hw3 hb3
        go_wp2
        go_ret
        refine ⟨rint ?_, HB3.out⟩
        rw [← HX.out, Bool.eq_iff_iff, beq_iff_eq, decide_eq_true_iff, ← HII.out]
        exact Int.ofNat_inj

end Go.Proofs.YtccjelpfmkbmiaaGreatDoor.Ls
end
section
namespace Go.Proofs.YtccjelpfmkbmiaaGreatDoor
open Go.RowKit
set_option maxRecDepth 100000

def wordsB (n : Nat) : Bool := decide (16 ≤ n ∧ n ≤ 1024 ∧ n % 16 = 0)
/-- What is looked at first: words, pages, and that there are as many words, and cards, as pages have. -/
def firstB (s : Hs) (d : Hd_) : Bool := wordsB s.w.n && (Cl.mayB d.f s.p.n && (decide (s.w.n = 16 * s.p.n) && decide (s.c.n = 2 * s.p.n)))
end Go.Proofs.YtccjelpfmkbmiaaGreatDoor
end
section
namespace Go.Proofs.YtccjelpfmkbmiaaGreatDoor
open Go.RowKit
set_option maxRecDepth 100000
attribute [local go_sem ↓] Go.wp_at_zero Go.wp_at_succ

def cellAt (d : Hd_) (a : Int) : Bool := cellB (d.ws.getD (a - 16).toNat 0) (d.f (a / 16 - 1).toNat)
/-- In the midst of a walk through a heap's function: the box, all that was there. -/
structure HNow (w wr : World) (s : Hs) (d : Hd_) : Prop where
  box : HBox wr w.heap.size s
  bel : Below w.heap.size w wr
  hp : Hp wr w.heap.size s d
theorem HNow.next {w wr w' : World} {s : Hs} {d : Hd_} (h : HNow w wr s d) (hb : Below wr.heap.size wr w') : HNow w w' s d :=
  ⟨h.box.next hb, h.bel.trans (hb.mono h.bel.size), h.hp.below (hb.mono h.bel.size)⟩
theorem HNow.all {w wr : World} {s : Hs} {d : Hd_} (h : HNow w wr s d) : Hp wr wr.heap.size s d := h.hp.more h.bel.size
theorem allS_in {d : Hd_} {n : Nat} {a : Int} (h : a ∈ Cl.allS d.f n) : 16 ≤ a ∧ a < 16 + 16 * (n : Int) := by
  obtain ⟨c, hc, rfl⟩ := List.mem_map.1 h
  obtain ⟨_, k, j, hk, _, _, rfl, h0, h1⟩ := Cl.cell_page hc
  simp only
  omega
end Go.Proofs.YtccjelpfmkbmiaaGreatDoor
end
section
namespace Go.Proofs.YtccjelpfmkbmiaaGreatDoor
open Go.RowKit

/-- Is all that is told of as free a cell of its class that is not used? -/
def freeAll (d : Hd_) (n N : Nat) (F : Nat → Nat → List Int) : Bool := (List.range N).all fun k => (List.range 3).all fun j => (F k j).all fun x => freeH d n x (j : Nat)
/-- May a heap be, with caches? -/
def mayH (s : Hs) (d : Hd_) (m : Nat) (F : Nat → Nat → List Int) : Bool :=
  firstB s d && ((Cl.allS d.f s.p.n).all (cellAt d) && (freeAll d s.p.n (1 + m) (ahead d.F F) && decide (Ls.allOf (ahead d.F F) (1 + m)).Nodup))
theorem getD_mem {xs : List Int} {q : Nat} (h : q < xs.length) : xs.getD q 0 ∈ xs := by
  have : xs.getD q 0 = xs[q] := by simp [List.getD, h]
  rw [this]
  exact List.getElem_mem h
end Go.Proofs.YtccjelpfmkbmiaaGreatDoor
end
section
namespace Go.Proofs.YtccjelpfmkbmiaaGreatDoor
open Go.RowKit
set_option maxRecDepth 100000

def noCaches : Nat → Nat → List Int := fun _ _ => []
theorem lrow_none (w : World) (B : Nat) : ∃ U, Ls.LRow w B none 0 U noCaches := ⟨fun _ => Ls.noSl, fun h => absurd h (by omega)⟩
/-- A heap without caches may be. -/
def mayB0 (s : Hs) (d : Hd_) : Bool := mayH s d 0 noCaches
theorem may0_word {s : Hs} {d : Hd_} {a : Int} (h : mayB0 s d = true) (hb : ¬ Cl.bg d.f s.p.n a = 0) : s.w.n = 16 * s.p.n ∧ 16 ≤ a ∧ a < 16 + 16 * (s.p.n : Int) ∧ Hd.isWord (d.ws.getD (a - 16).toNat 0) = true := by
  unfold mayB0 mayH firstB at h
  simp only [Bool.and_eq_true, decide_eq_true_eq] at h
  obtain ⟨⟨_, hpm, hw, _⟩, hall, _⟩ := h
  have hin := Classical.byContradiction fun hn => hb (Cl.bg_no (f := d.f) (n := s.p.n) (a := a) hn)
  have hpos : 0 < Cl.bg d.f s.p.n a := by have := (Cl.bg_nonneg d.f s.p.n a).1; omega
  obtain ⟨c, hc, rfl⟩ := Cl.bg_some hpos
  have h1 := List.all_eq_true.1 hall c.1 (List.mem_map.2 ⟨c, hc, rfl⟩)
  refine ⟨hw, hin.2.1, hin.2.2, ?_⟩
  unfold cellAt cellB at h1
  split at h1
  · next hh => exact hh.1
  · exact (Bool.and_eq_true _ _ ▸ h1).1
def HeadOut (w : World) (V : Value) (er : Int) (e : Ending) (w' : World) : Prop := e = .returned (.tuple #[V, .int .i64 er]) ∧ Below w.heap.size w w'
def noHead : Value := .agg #[.bool false, .bool false, .bool false, .int .i64 0, .int .i64 0, .int .i64 0]
/-- The box of a head. -/
structure XBox (W : World) (b : Nat) : Prop where
  cell : ∀ k, k < 6 → W.cell? ⟨b, k, none⟩ = some (if k < 3 then .bool false else .int .i64 0)
  free : ∀ k, W.frozen? ⟨b, k, none⟩ = false
  lt : b < W.heap.size
theorem XBox.new (w : World) (t : TypeId) : XBox (w.alloc (.cells #[.bool false, .bool false, .bool false, .int .i64 0, .int .i64 0, .int .i64 0] t)) w.heap.size := by
  refine ⟨fun k hk => ?_, fun k => by simp [go_sem], by simp⟩
  match k, hk with
  | 0, _ => simp [go_sem]
  | 1, _ => simp [go_sem]
  | 2, _ => simp [go_sem]
  | 3, _ => simp [go_sem]
  | 4, _ => simp [go_sem]
  | 5, _ => simp [go_sem]
theorem XBox.next {W W' : World} {b : Nat} (h : XBox W b) (hb : Below W.heap.size W W') : XBox W' b :=
  ⟨fun k hk => (hb.cell (p := ⟨b, k, none⟩) h.lt).trans (h.cell k hk), fun k => (hb.frozen (p := ⟨b, k, none⟩) h.lt).trans (h.free k), Nat.lt_of_lt_of_le h.lt hb.size⟩
/-- A head is stored to its box. -/
def put6 (w : World) (b : Nat) (v0 v1 v2 v3 v4 v5 : Value) : World :=
  (((((w.setCell ⟨b, 0, none⟩ v0).setCell ⟨b, 1, none⟩ v1).setCell ⟨b, 2, none⟩ v2).setCell ⟨b, 3, none⟩ v3).setCell ⟨b, 4, none⟩ v4).setCell ⟨b, 5, none⟩ v5
theorem below_put6 {B : Nat} {a w : World} (h : Below B a w) {b : Nat} (hb : B ≤ b) (v0 v1 v2 v3 v4 v5 : Value) : Below B a (put6 w b v0 v1 v2 v3 v4 v5) :=
  (((((h.setCell (p := ⟨b, 0, none⟩) hb _).setCell (p := ⟨b, 1, none⟩) hb _).setCell (p := ⟨b, 2, none⟩) hb _).setCell (p := ⟨b, 3, none⟩) hb _).setCell (p := ⟨b, 4, none⟩) hb _).setCell (p := ⟨b, 5, none⟩) hb _
section
variable (s : Hs) (d : Hd_) (a : Int) (w : World)
end
end Go.Proofs.YtccjelpfmkbmiaaGreatDoor
end
section
namespace Go.Proofs.YtccjelpfmkbmiaaGreatDoor
open Go.RowKit
set_option maxRecDepth 100000

theorem put6_size (w : World) (b : Nat) (v0 v1 v2 v3 v4 v5 : Value) : (put6 w b v0 v1 v2 v3 v4 v5).heap.size = w.heap.size := by simp [put6, World.setCell]
theorem put6_alloc {W : World} {b : Nat} (h : XBox W b) (v0 v1 v2 v3 v4 v5 : Value) (o : Obj) :
    ((put6 W b v0 v1 v2 v3 v4 v5).alloc o).cell? ⟨b, 0, none⟩ = some v0 ∧ ((put6 W b v0 v1 v2 v3 v4 v5).alloc o).cell? ⟨b, 1, none⟩ = some v1 ∧ ((put6 W b v0 v1 v2 v3 v4 v5).alloc o).cell? ⟨b, 2, none⟩ = some v2 ∧
    ((put6 W b v0 v1 v2 v3 v4 v5).alloc o).cell? ⟨b, 3, none⟩ = some v3 ∧ ((put6 W b v0 v1 v2 v3 v4 v5).alloc o).cell? ⟨b, 4, none⟩ = some v4 ∧ ((put6 W b v0 v1 v2 v3 v4 v5).alloc o).cell? ⟨b, 5, none⟩ = some v5 := by
  have h0 := h.cell 0 (by decide)
  have h1 := h.cell 1 (by decide)
  have h2 := h.cell 2 (by decide)
  have h3 := h.cell 3 (by decide)
  have h4 := h.cell 4 (by decide)
  have h5 := h.cell 5 (by decide)
  have hl := h.lt
  refine ⟨?_, ?_, ?_, ?_, ?_, ?_⟩ <;> (rw [World.cell?_alloc_past _ _ _ (by rw [put6_size]; exact hl)]; simp [put6, go_sem, h0, h1, h2, h3, h4, h5])

section
variable (s : Hs) (d : Hd_) (a : Int) (w : World)
end
end Go.Proofs.YtccjelpfmkbmiaaGreatDoor
end
section
namespace Go.Proofs.YtccjelpfmkbmiaaGreatDoor.Ar
open Go.Proofs.YtccjelpfmkbmiaaGreatDoor
set_option maxRecDepth 100000
open Go.RowKit

/-- Words may be. -/
def mayB (n : Nat) : Bool := decide (16 ≤ n ∧ n ≤ 1024 ∧ n % 16 = 0)
theorem mayB_iff {n : Nat} : mayB n = true ↔ 16 ≤ n ∧ n ≤ 1024 ∧ n % 16 = 0 := by simp [mayB]
theorem mayB_no {n : Nat} (h : mayB n = false) : ¬ (16 ≤ n ∧ n ≤ 1024 ∧ n % 16 = 0) := fun c => by rw [mayB_iff.2 c] at h; cases h

theorem may_yes (A : Option Addr) (n c : Nat) (w : World) (h : mayB n = true) :
    Calls Tryz.prog 95 #[.slice A n c] w fun e w' => e = .returned (.bool true) ∧ w = w' := by
  obtain ⟨h1, h2, h3⟩ := mayB_iff.1 h
  have e1 : ((n : Int) % 16 == 0) = true := by simp; omega
  have e2 : (1 : Int) ≤ (n : Int) / 16 := by omega
  have e3 : (n : Int) / 16 ≤ 64 := by omega
  clear h h3
  go_enter Tryz.func95, Tryz.ntmps95
  go_wp2
  go_ret
  exact ⟨rfl, rfl⟩
theorem may_no (A : Option Addr) (n c : Nat) (w : World) (hn : n ≤ 9223372036854775807) (h : mayB n = false) :
    Calls Tryz.prog 95 #[.slice A n c] w fun e w' => e = .returned (.bool false) ∧ w = w' := by
  have h0 := mayB_no h
  clear h
  by_cases h1 : n % 16 = 0
  · have e1 : ((n : Int) % 16 == 0) = true := by simp; omega
    by_cases h2 : n < 16
    · have e2 : decide ((1 : Int) ≤ (n : Int) / 16) = false := by simp; omega
      clear h0 h1 h2
      go_enter Tryz.func95, Tryz.ntmps95
      go_wp2
      go_ret
      exact ⟨rfl, rfl⟩
    · have e2 : (1 : Int) ≤ (n : Int) / 16 := by omega
      have e3 : decide ((n : Int) / 16 ≤ 64) = false := by simp; omega
      clear h0 h1 h2
      go_enter Tryz.func95, Tryz.ntmps95
      go_wp2
      go_ret
      exact ⟨rfl, rfl⟩
  · have e1 : ((n : Int) % 16 == 0) = false := by simp; omega
    clear h0 h1
    go_enter Tryz.func95, Tryz.ntmps95
    go_wp2
    go_ret
    exact ⟨rfl, rfl⟩

theorem span_ok (A : Option Addr) (n c : Nat) (a k : Int) (w : World) (h : mayB n = true) (hk : 0 < k) (ha : 16 ≤ a) (hb : k ≤ 16 + n - a) :
    Calls Tryz.prog 110 #[.slice A n c, .int .i64 a, .int .i64 k] w fun e w' => e = .returned (.tuple #[.int .i64 (a - 16), .int .i64 (a - 16 + k), .int .i64 0]) ∧ w = w' := by
  have hn := (mayB_iff.1 h).2.1
  have e0 : (k == 0) = false := by simp; omega
  have e1 : ¬ k < 0 := by omega
  have H := Lib.hid h
  clear h
  go_enter Tryz.func110, Tryz.ntmps110
  go_wp2_with (go_at_call 95; refine (may_yes _ _ _ _ H.out).mono ?_; rintro e w' ⟨rfl, rfl⟩)
  go_ret3
  exact ⟨rfl, rfl⟩

theorem get_ok (B : Nat) (A : Option Addr) (n c : Nat) (xs : List Int) (a : Int) (w : World) (h : mayB n = true) (h0 : 16 ≤ a) (h1 : a < 16 + n) (hr : Row w B A n xs) :
    Calls Tryz.prog 69 #[.slice A n c, .int .i64 a] w fun e w' => e = .returned (.tuple #[.int .i64 (xs.getD (a - 16).toNat 0), .int .i64 0]) ∧ w = w' := by
  obtain ⟨i, rfl⟩ : ∃ i : Nat, a = 16 + i := ⟨(a - 16).toNat, by omega⟩
  have hn := (mayB_iff.1 h).2.1
  have hi : i < n := by omega
  obtain ⟨b, off, rfl, _, hc⟩ := hr.2 (by omega)
  have hcell := hc i hi
  have ei : (16 + (i : Int) - 16).toNat = i := by omega
  rw [ei]
  have EI : (16 : Int) + i - 16 = i := by omega
  have H := Lib.hid h
  clear h hc hr ei
  have HS : Calls Tryz.prog 110 #[.slice (some ⟨b, off, none⟩) n c, .int .i64 (16 + i), .int .i64 1] w fun e w' => e = .returned (.tuple #[.int .i64 i, .int .i64 (i + 1), .int .i64 0]) ∧ w = w' := by
    have := span_ok (some ⟨b, off, none⟩) n c (16 + i) 1 w H.out (by omega) (by omega) (by omega)
    rw [EI] at this
    exact this
  have HT := Lib.hid HS
  clear EI HS h0 h1
  go_enter Tryz.func69, Tryz.ntmps69
  go_wp2_with (go_at_call 110; refine (HT.out).mono ?_; rintro e w' ⟨rfl, rfl⟩)
  go_ret2
  exact ⟨rfl, rfl⟩
theorem page_ok (A : Option Addr) (n c : Nat) (a : Int) (w : World) (h : mayB n = true) (h0 : 16 ≤ a) (h1 : a < 16 + n) :
    Calls Tryz.prog 98 #[.slice A n c, .int .i64 a] w fun e w' => e = .returned (.tuple #[.int .i64 ((a - 16) / 16), .int .i64 0]) ∧ w = w' := by
  have hn := (mayB_iff.1 h).2.1
  have H := Lib.hid h
  clear h
  go_enter Tryz.func98, Tryz.ntmps98
  go_wp2_with (go_at_call 110; refine (span_ok _ _ _ _ _ _ H.out (by omega) (by omega) (by omega)).mono ?_; rintro e w' ⟨rfl, rfl⟩)
  go_ret2
  exact ⟨rfl, rfl⟩

end Go.Proofs.YtccjelpfmkbmiaaGreatDoor.Ar
end
section
namespace Go.Proofs.YtccjelpfmkbmiaaGreatDoor.Ar
open Go.Proofs.YtccjelpfmkbmiaaGreatDoor
set_option maxRecDepth 100000
open Go.RowKit

theorem info_int : (Tryz.prog.info? 3).map (fun i => (i.zero, i.size, i.bytes)) = some (some (.int .i64 0), 1, 8) := by kernel_rfl
/-- A slice of the call's own was returned, and no error; all that was there is as it was. -/
def Made (w : World) (n : Nat) (xs : List Int) (e : Ending) (w' : World) : Prop :=
  ∃ g c, e = .returned (.tuple #[.slice (some ⟨g, 0, none⟩) n c, .int .i64 0]) ∧ Mine w' w.heap.size 3 g n c xs ∧ Below w.heap.size w w'
/-- .. alone. -/
def MadeOne (w : World) (n : Nat) (xs : List Int) (e : Ending) (w' : World) : Prop :=
  ∃ g c, e = .returned (.slice (some ⟨g, 0, none⟩) n c) ∧ Mine w' w.heap.size 3 g n c xs ∧ Below w.heap.size w w'

theorem clone_ok (B : Nat) (A : Option Addr) (n c : Nat) (xs : List Int) (w : World) (hn : 0 < n) (hbig : n * 8 ≤ 140737488355328) (hr : Row w B A n xs) :
    Calls Tryz.prog 85 #[.slice A n c] w (MadeOne w n xs) := by
  obtain ⟨i0, hi, hz0, hz1, hz2⟩ := info_parts info_int
  obtain ⟨b, off, rfl, _, hc⟩ := hr.2 hn
  have hl := hr.1
  have HC := Lib.hid hc
  have q22 : ∀ (w : World) (a : Option Addr) (n c n' c' : Nat), (binOp .eql 22 (.slice a n c) (.slice none n' c')).run Tryz.prog w = .ok (.bool a.isNone) w := fun w a n c n' c' => Lib.run_eql_slice_nil w _ _ a n c n' c' Tryz.underlying22
  have u22 : ∀ w, Sem.run Tryz.prog (underlying 22) w = .ok (TypeDesc.slice 3) w := run_underlying Tryz.underlying22
  have HL := Lib.hid hl
  clear hc hr hl
  go_enter Tryz.func85, Tryz.ntmps85
  go_wp2_with (at_builtin; refine wpList_append_own _ rfl _ _ 22 rfl w.heap.size 3 i0 (.int .i64 0) 1 8 Tryz.underlying22 hi hz0 hz1 hz2 rfl (by decide) _ _ _ rfl (World.ownsRow_made w #[] 0 (Nat.le_refl _) (Nat.zero_le _) rfl) ⟨b, off, none⟩ n c (xs.map (Value.int .i64)) rfl ?qc1 ?qc2 ?qc3 ?qc4 ?qc5 ?qc6 ?_)
  case qc1 => simp [HL.out]
  case qc2 =>
    intro j u hj
    have hl := HL.out
    have hjn : j < n := by
      have := (List.getElem?_eq_some_iff.1 hj).1
      simp at this
      omega
    rw [Addr.add_lit]
    refine Lib.cell?_alloc_some _ ?_
    rw [HC.out j hjn]
    have e : (xs.map (Value.int .i64))[j]? = some (Value.int .i64 (xs.getD j 0)) := by simp [List.getD, List.getElem?_eq_getElem (show j < xs.length by omega)]
    rw [e] at hj
    exact hj
  case qc3 => intro u hu; obtain ⟨x, _, rfl⟩ := List.mem_map.1 hu; rfl
  case qc4 => unfold maxLen; omega
  case qc5 => omega
  case qc6 => simp
  intro v' w1 hown hgrow hnil
  have hown' : w1.ownsRow w.heap.size 3 1 v' n (xs.map (Value.int .i64)) := by simpa using hown
  obtain ⟨g, c', rfl, hm⟩ := mine_of hown' hn
  have HM := Lib.hid hm
  clear hown hown' hnil hm
  go_wp2
  go_ret
  exact ⟨g, c', rfl, HM.out, ((Below.refl _ w).alloc (Nat.le_refl _) _).grown hgrow (by simp) (by intro k hk; simp [Value.ownBlock] at hk; omega)⟩

theorem put_ok (B : Nat) (A : Option Addr) (n c : Nat) (xs : List Int) (a v : Int) (w : World) (h : mayB n = true) (h0 : 16 ≤ a) (h1 : a < 16 + n) (hr : Row w B A n xs) :
    Calls Tryz.prog 128 #[.slice A n c, .int .i64 a, .int .i64 v] w (Made w n (xs.set (a - 16).toNat v)) := by
  obtain ⟨i, rfl⟩ : ∃ i : Nat, a = 16 + i := ⟨(a - 16).toNat, by omega⟩
  have hn := (mayB_iff.1 h).2.1
  have hi : i < n := by omega
  have ei : (16 + (i : Int) - 16).toNat = i := by omega
  rw [ei]
  have EI : (16 : Int) + i - 16 = i := by omega
  have H := Lib.hid h
  have HR := Lib.hid hr
  clear h ei hr
  have HS : Calls Tryz.prog 110 #[.slice A n c, .int .i64 (16 + i), .int .i64 1] w fun e w' => e = .returned (.tuple #[.int .i64 i, .int .i64 (i + 1), .int .i64 0]) ∧ w = w' := by
    have := span_ok A n c (16 + i) 1 w H.out (by omega) (by omega) (by omega)
    rw [EI] at this
    exact this
  have HT := Lib.hid HS
  clear EI HS h0 h1
  go_enter Tryz.func128, Tryz.ntmps128
  go_wp2_with fail
  refine (HT.out).mono ?_
  rintro e w' ⟨rfl, rfl⟩
  go_wp2_with fail
  refine (clone_ok _ _ _ _ _ _ (by omega) (by omega) HR.out).mono ?_
  rintro e w1 ⟨g, c', rfl, hm, hb⟩
  have HM := Lib.hid hm
  have hcell := hm.cell i hi
  have hfree := hm.free i
  have hsz := hm.2.2.1
  have hg := hm.2.1
  clear hm
  go_wp2
  go_ret2
  exact ⟨g, c', rfl, HM.out.stored i v, hb.setCell (by simpa using hg) _⟩
end Go.Proofs.YtccjelpfmkbmiaaGreatDoor.Ar
end
section
namespace Go.Proofs.YtccjelpfmkbmiaaGreatDoor
open Go.RowKit
set_option maxRecDepth 100000
attribute [local go_sem] Oper.semAt_some

/-- The first word of the cell at a; the page that it begins on. -/
def wd (d : Hd_) (a : Int) : Int := d.ws.getD (a - 16).toNat 0
def pgAt (d : Hd_) (a : Int) : Int × Int := d.f (a / 16 - 1).toNat
/-- What is handed to the function: where the cell begins, its page, its head. -/
def cellV (a x : Int) (p : Int × Int) : Value := .agg #[.int .i64 a, .int .i64 p.1, .int .i64 p.2, .bool (decide (x % 2 = 1)), .bool (decide (x / 2 % 2 = 1)), .bool (decide (x / 4 % 2 = 1)), .int .i64 (nOf x), .int .i64 (x / 1024 % 4194304), .int .i64 (x / 4294967296)]
theorem HBox.same {W W' : World} {b : Nat} {s : Hs} (h : HBox W b s) (hs : W'.heap[b]? = W.heap[b]?) (hl : W.heap.size ≤ W'.heap.size) : HBox W' b s :=
  ⟨(World.cell?_of_block (a := ⟨b, 0, none⟩) hs).trans h.c0, (World.cell?_of_block (a := ⟨b, 1, none⟩) hs).trans h.c1, (World.cell?_of_block (a := ⟨b, 2, none⟩) hs).trans h.c2, (World.cell?_of_block (a := ⟨b, 3, none⟩) hs).trans h.c3, (World.cell?_of_block (a := ⟨b, 4, none⟩) hs).trans h.c4, (World.cell?_of_block (a := ⟨b, 5, none⟩) hs).trans h.c5, Nat.lt_of_lt_of_le h.lt hl⟩
theorem row_same {w w' : World} {B n : Nat} {a : Option Addr} {xs : List Int} (h : Row w B a n xs) (hs : 0 < n → ∀ x, a = some x → w'.heap[x.block]? = w.heap[x.block]?) : Row w' B a n xs :=
  ⟨h.1, fun hn => by
    obtain ⟨b, off, e, hlt, hc⟩ := h.2 hn
    exact ⟨b, off, e, hlt, fun i hi => (World.cell?_of_block (a := ⟨b, off + i, none⟩) (show w'.heap[b]? = w.heap[b]? from hs hn _ e)).trans (hc i hi)⟩⟩

/-- What the walk of every holds between the cells: its own blocks are M's. -/
structure Ev (w : World) (n₀ : Nat) (M₀ : Nat → Prop) (s : Hs) (la : Option Addr) (n : Nat) (xs : List Int) (M : Nat → Prop) (W : World) : Prop where
  box : HBox W w.heap.size s
  bel : Cl.Kept n₀ M₀ w W
  sup : ∀ k, M₀ k → M k
  row : Row W W.heap.size la n xs
  mb : M w.heap.size
  ml : 0 < n → ∀ x, la = some x → M x.block
  fit : ∀ k, M k → k < W.heap.size
theorem Ev.kept {w : World} {n₀ : Nat} {M₀ : Nat → Prop} {s : Hs} {la : Option Addr} {n : Nat} {xs : List Int} {M : Nat → Prop} {W W' : World} (h : Ev w n₀ M₀ s la n xs M W) (hk : Cl.Kept n₀ M W W') : Ev w n₀ M₀ s la n xs M W' :=
  ⟨h.box.same (hk.2 _ h.mb h.box.lt) hk.1.size, h.bel.trans (hk.less h.sup), h.sup, (row_same h.row fun h0 x hx => hk.2 _ (h.ml h0 x hx) (h.fit _ (h.ml h0 x hx))).more hk.1.size, h.mb, h.ml, fun k hM => Nat.lt_of_lt_of_le (h.fit k hM) hk.1.size⟩
/-- .. with M's blocks and those that the walk has laid since. -/
def more (M : Nat → Prop) (lo hi : Nat) : Nat → Prop := fun k => M k ∨ (lo ≤ k ∧ k < hi)
theorem Ev.next {w : World} {n₀ : Nat} {M₀ : Nat → Prop} {s : Hs} {la : Option Addr} {n : Nat} {xs : List Int} {M : Nat → Prop} {W W' : World} (h : Ev w n₀ M₀ s la n xs M W) (h0 : n₀ ≤ w.heap.size) (hb : Below W.heap.size W W') : Ev w n₀ M₀ s la n xs (more M W.heap.size W'.heap.size) W' := by
  have hs := h.bel.1.size
  have h1 := h.kept (W' := W') ⟨hb.mono (by omega), fun k _ hk => hb.block k hk⟩
  exact ⟨h1.box, h1.bel, fun k hk => .inl (h1.sup k hk), h1.row, .inl h1.mb, fun hl x hx => .inl (h1.ml hl x hx), fun k hk => hk.elim (h1.fit k) (·.2)⟩
theorem bides_more {n₀ : Nat} {J : (Nat → Prop) → List Int → World → Prop} (hJ : Cl.Bides n₀ J) {M : Nat → Prop} {pre : List Int} {W W' : World} (h : J M pre W) (hb : Below W.heap.size W W') (hn : n₀ ≤ W.heap.size) : J (more M W.heap.size W'.heap.size) pre W' :=
  hJ.more h hb hn (fun _ hk => hk)

def Asked (n₀ : Nat) (M₀ : Nat → Prop) (w : World) (J : (Nat → Prop) → List Int → World → Prop) (xs : List Int) (R : Bool) (e : Ending) (w' : World) : Prop :=
  e = .returned (.bool R) ∧ Cl.Kept n₀ M₀ w w' ∧ (R = true → ∃ M, J M xs w')
/-- Of a cell: is its first word a head's, and does what is asked hold of it? -/
def holdsAt (d : Hd_) (p : Int → Bool) (a : Int) : Bool := Hd.isWord (wd d a) && p a
def Asks (gf : Nat) (lb : Array Value) (n₀ : Nat) (d : Hd_) (p : Int → Bool) (xs : List Int) (J : (Nat → Prop) → List Int → World → Prop) : Prop :=
  ∀ M pre a W, pre ++ [a] <+: xs → Hd.isWord (wd d a) = true → J M pre W → Cl.Sz W → (∀ k, M k → k < W.heap.size) →
    Calls Tryz.prog gf (#[cellV a (wd d a) (pgAt d a)] ++ lb) W fun e W' => e = .returned (.bool (p a)) ∧ Cl.Kept n₀ M W W' ∧ (p a = true → J M (pre ++ [a]) W')
theorem all_snoc {xs : List Int} {q : Nat} {g : Int → Bool} (hq : q < xs.length) (hg : g (xs.getD q 0) = false) : xs.all g = false := by
  cases e : xs.all g
  · rfl
  · have := List.all_eq_true.1 e _ (getD_mem hq)
    rw [hg] at this
    cases this
theorem all_every {xs : List Int} {g : Int → Bool} (h : ∀ j, j < xs.length → g (xs.getD j 0) = true) : xs.all g = true := List.all_eq_true.2 fun x hx => by
  obtain ⟨q, hq, rfl⟩ := List.getElem_of_mem hx
  have := h q hq
  rwa [show xs.getD q 0 = xs[q] by simp [List.getD, hq]] at this
theorem prefix_next {xs : List Int} {q : Nat} (hq : q < xs.length) : xs.take q ++ [xs.getD q 0] = xs.take (q + 1) := by
  rw [List.take_succ_eq_append_getElem hq]
  simp [List.getD, hq]

section
variable (s : Hs) (d : Hd_) (w : World) (n₀ : Nat) (M₀ : Nat → Prop) (gf : Nat) (lb : Array Value) (p : Int → Bool) (J : (Nat → Prop) → List Int → World → Prop)
set_option maxHeartbeats 2000000 in
theorem every_core (xs : List Int) (R : Bool) (hxe : Cl.allS d.f s.p.n = xs) (hR : R = xs.all (holdsAt d p)) (hp : Hp w n₀ s d) (h0 : n₀ ≤ w.heap.size) (hn0 : 0 < n₀) (hz : Cl.Sz w) (hf : firstB s d = true) (eg : ∀ args w, (callFunc gf args).run Tryz.prog w = .ok (.enter gf args) w) (hJ : Cl.Bides n₀ J) (j0 : J M₀ [] w) (hm0 : ∀ k, M₀ k → k < w.heap.size)
    (hask : Asks gf lb n₀ d p xs J) :
    Calls Tryz.prog 62 #[(.agg #[.slice s.w.a s.w.n s.w.c, .slice s.p.a s.p.n s.p.c, .slice (s.u 0).a (s.u 0).n (s.u 0).c, .slice (s.u 1).a (s.u 1).n (s.u 1).c, .slice (s.u 2).a (s.u 2).n (s.u 2).c, .slice s.c.a s.c.n s.c.c]), .func (.func gf) #[] lb] w (Asked n₀ M₀ w J xs R) := by
  have hall := Cl.all_new n₀ s.p.a s.p.n s.p.c d.f
  have hxs : (Cl.allS d.f s.p.n).length ≤ 100000 := by
    have := Cl.allS_short d.f s.p.n (Cl.allS d.f s.p.n).length
    rw [List.take_length] at this
    omega
  have hin := fun a (h : a ∈ Cl.allS d.f s.p.n) => allS_in h
  rw [hxe] at hall hxs hin
  have HIN := Lib.hid hin
  have HALL := Lib.hid hall
  have HR := Lib.hid hR
  clear hall hin hR hxe
  have hf' := hf
  unfold firstB at hf'
  simp only [Bool.and_eq_true, decide_eq_true_eq] at hf'
  obtain ⟨hwm, hpm, hw, -⟩ := hf'
  have hpn : s.p.n ≤ 64 := ((Cl.mayB_iff _ _).1 hpm).2.1
  have hpn0 : 0 < s.p.n := by have := ((Cl.mayB_iff _ _).1 hpm).1; omega
  obtain ⟨bp, op, ep, hbp, -⟩ := hp.pages hpn0
  rcases s with ⟨sw, ⟨ap, np, cp⟩, su, sc⟩
  obtain rfl : ap = some ⟨bp, op, none⟩ := ep
  dsimp only at hwm hw hpn hpn0 HIN HALL ⊢
  have HP := Lib.hid hp
  have HZ := Lib.hid hz
  have HW := Lib.hid hw
  have HWM := Lib.hid hwm
  have HJ := Lib.hid hJ
  have HJ0 := Lib.hid j0
  have HK := Lib.hid hask
  have HM0 := Lib.hid hm0
  clear hp hz hw hf hJ j0 hask hpm hwm hm0
  go_enter Tryz.func62, Tryz.ntmps62
  go_wp2_with fail
  have b0 := (Below.refl w.heap.size w).alloc (Nat.le_refl _) (.cells #[.slice sw.a sw.n sw.c, .slice (some ⟨bp, op, none⟩) np cp, .slice (su 0).a (su 0).n (su 0).c, .slice (su 1).a (su 1).n (su 1).c, .slice (su 2).a (su 2).n (su 2).c, .slice sc.a sc.n sc.c] 28)

  refine (HALL.out _ (by omega) (HZ.out.alloc _) (HP.out.pages.below (b0.mono h0)) (by simp; omega)).mono ?_
  rintro r w2 hl
  obtain ⟨la, lc, rfl, hrow, _, _, hb2, hlies⟩ := hl
  have hbw := b0.trans (hb2.mono (by simp))
  have E2 : Hid (Ev w n₀ M₀ ⟨sw, ⟨some ⟨bp, op, none⟩, np, cp⟩, su, sc⟩ la xs.length xs (more M₀ w.heap.size w2.heap.size) w2) := Lib.hid
    ⟨(HBox.new w ⟨sw, ⟨some ⟨bp, op, none⟩, np, cp⟩, su, sc⟩ 28).next hb2, ⟨hbw.mono h0, fun k _ hk => hbw.block k hk⟩, fun k hk => .inl hk, hrow, .inr ⟨Nat.le_refl _, by have := hb2.size; simp at this; omega⟩, fun hl0 x hx => .inr ⟨by have := hlies x hx; simp at this; omega, by
      obtain ⟨b, off, e, hlt, _⟩ := hrow.2 hl0
      rw [hx] at e
      cases e
      exact hlt⟩, fun k hk => hk.elim (fun hf => Nat.lt_of_lt_of_le (HM0.out k hf) hbw.size) (·.2)⟩
  have J2 := Lib.hid (bides_more HJ.out HJ0.out hbw h0)
  obtain ⟨n, hn⟩ : ∃ n, xs.length = n := ⟨_, rfl⟩
  have HN := Lib.hid hn
  rw [hn] at E2 hxs ⊢
  clear hrow hb2 hlies hbw b0 hn
  go_wp2
  go_loopw [17] (fun i wr => ∃ q : Nat, q ≤ n ∧ i = .int .i64 q ∧ Hid (∀ j, j < q → holdsAt d p (xs.getD j 0) = true) ∧ Hid (∃ M, Ev w n₀ M₀ ⟨sw, ⟨some ⟨bp, op, none⟩, np, cp⟩, su, sc⟩ la n xs M wr ∧ J M (xs.take q) wr)) (fun i _ => n - (intOf i).toNat)
  case atStart => exact ⟨0, Nat.zero_le _, rfl, Lib.hid (fun j h => absurd h (by omega)), Lib.hid ⟨_, E2.out, J2.out⟩⟩
  case round =>
    obtain ⟨q, hq, rfl, HG, HM⟩ := hrel
    by_cases hlt : q < n
    · obtain ⟨M, hE, hj⟩ := HM.out
      have hsz := hE.bel.1.size
      obtain ⟨b, off, rfl, hbl, hcell⟩ := hE.row.2 (by omega)
      have hq1 := hcell q hlt
      obtain ⟨y, hy⟩ : ∃ y, y = xs.getD q 0 := ⟨_, rfl⟩
      rw [← hy] at hq1
      have hmem : y ∈ xs := by
        have : xs[q]? = some y := by rw [hy]; simp [List.getD, List.getElem?_eq_getElem (show q < xs.length by have := HN.out; omega)]
        exact List.mem_of_getElem? this
      have hyin := HIN.out y hmem
      obtain ⟨x, hx⟩ : ∃ x, x = wd d y := ⟨_, rfl⟩
      obtain ⟨pg, hpg⟩ : ∃ pg, pg = pgAt d y := ⟨_, rfl⟩
      obtain ⟨k, hk⟩ : ∃ k : Nat, (y - 16) / 16 = k := ⟨((y - 16) / 16).toNat, by omega⟩
      have hkp : k < np := by have := HW.out; omega
      have HPAGE := Lib.hid (fun (W : World) => by
        have := Ar.page_ok sw.a sw.n sw.c y W HWM.out hyin.1 (by have := HW.out; omega)
        rw [hk] at this
        exact this)
      have HGET := Lib.hid (fun (W : World) (hW : Row W n₀ sw.a sw.n d.ws) => by
        have := Ar.get_ok n₀ sw.a sw.n sw.c d.ws y W HWM.out hyin.1 (by have := HW.out; omega) hW
        rw [show d.ws.getD (y - 16).toNat 0 = x from hx.symm] at this
        exact this)
      have hws := Lib.hid ((HP.out.below hE.bel.1).words)
      have hps := Lib.hid ((HP.out.below hE.bel.1).pages)
      have HX := Lib.hid hx
      have HPG := Lib.hid hpg
      have HY := Lib.hid hy
      have HKK := Lib.hid hk
      have HE := Lib.hid hE
      have HJJ := Lib.hid hj
      have i0 : (0 : Int) ≤ q := by omega
      have i1 : (q : Int) < n := by omega
      have q0 := hE.box.c0
      have q1 := hE.box.c1
      have ql := hE.box.lt
      clear hcell hmem hE hj hx hpg hy hk hyin
      go_wp2_with fail
      refine (HPAGE.out _).mono ?_
      rintro e w3 ⟨rfl, rfl⟩
      go_wp2_with fail
      refine (HGET.out _ hws.out).mono ?_
      rintro e w3 ⟨rfl, rfl⟩
      go_wp2_with fail
      refine (unpack_any x _).mono ?_
      cases hw : Hd.isWord x
      · rw [headOf_no hw]
        rintro e w3 ⟨rfl, hb3⟩
        have hR0 : R = false := by rw [HR.out]; exact all_snoc (q := q) (by have := HN.out; omega) (by rw [holdsAt, ← HY.out, ← HX.out, hw]; rfl)
        have HB := Lib.hid (HE.out.bel.trans ⟨hb3.mono (by omega), fun k _ hk => hb3.block k hk⟩)
        have hz3 := hb3.size
        subst hR0
        clear hb3 q0 q1 ql hw hq1
        go_wp2
        go_quiet (fail)
        go_wp2
        go_ret
        exact ⟨rfl, ⟨below_drawn' (HB.out.1.alloc (by omega) _) _, fun k hM hk => (Below.heap_alloc _ _ _ (Nat.lt_of_lt_of_le hk (by omega))).trans (HB.out.2 k hM hk)⟩, fun h => by cases h⟩
      · rw [headOf_yes hw]
        rintro e w3 ⟨rfl, hb3⟩
        have HWD := Lib.hid hw
        obtain ⟨w4, hw4⟩ : ∃ w4, w4 = w3.alloc (.cells #[.bool (decide (x % 2 = 1)), .bool (decide (x / 2 % 2 = 1)), .bool (decide (x / 4 % 2 = 1)), .int .i64 (nOf x), .int .i64 (x / 1024 % 4194304), .int .i64 (x / 4294967296)] 53) := ⟨_, rfl⟩
        have hb4 : Below wr.heap.size wr w4 := by rw [hw4]; exact hb3.alloc hb3.size _
        have x0 : w4.cell? ⟨w3.heap.size, 0, none⟩ = some (.bool (decide (x % 2 = 1))) := by rw [hw4]; simp [go_sem]
        have x1 : w4.cell? ⟨w3.heap.size, 1, none⟩ = some (.bool (decide (x / 2 % 2 = 1))) := by rw [hw4]; simp [go_sem]
        have x2 : w4.cell? ⟨w3.heap.size, 2, none⟩ = some (.bool (decide (x / 4 % 2 = 1))) := by rw [hw4]; simp [go_sem]
        have x3 : w4.cell? ⟨w3.heap.size, 3, none⟩ = some (.int .i64 (nOf x)) := by rw [hw4]; simp [go_sem]
        have x4 : w4.cell? ⟨w3.heap.size, 4, none⟩ = some (.int .i64 (x / 1024 % 4194304)) := by rw [hw4]; simp [go_sem]
        have x5 : w4.cell? ⟨w3.heap.size, 5, none⟩ = some (.int .i64 (x / 4294967296)) := by rw [hw4]; simp [go_sem]
        have xl : w3.heap.size < w4.heap.size := by rw [hw4]; simp
        have hE4 := HE.out.next h0 hb4
        have hJ4 := bides_more HJ.out HJJ.out hb4 (by omega)
        have HW4 := Lib.hid hw4
        obtain ⟨bp', op', ep, _, hcp⟩ := ((HP.out.below hE4.bel.1).pages) hpn0
        simp only [Option.some.injEq, Addr.mk.injEq, and_true] at ep
        obtain ⟨rfl, rfl⟩ := ep
        obtain ⟨p0, p1⟩ := hcp k hkp
        rw [show d.f k = pg by rw [HPG.out, pgAt, show (y / 16 - 1).toNat = k by have := HKK.out; omega]] at p0 p1
        have hbp4 : bp < w4.heap.size := by have := hE4.bel.1.size; omega
        have c1 := hE4.box.c1
        dsimp only at c1
        have cl := hE4.box.lt
        have H4 := Lib.hid (And.intro hE4 hJ4)
        have k0 : (0 : Int) ≤ k := by omega
        have k1 : (k : Int) < np := by omega
        clear hcp hb3 hw hw4 hb4 hE4 hJ4 q0 q1 ql hq1
        go_wp2
        rw [← HW4.out]
        go_still_tail 12, (by kernel_rfl)
        change wpList _ _ _ _ _ w4.drew
        have hb5 : Below w4.heap.size w4 w4.drew := below_drawn' (Below.refl _ _) 1
        have hE5 := H4.out.1.kept (W' := w4.drew) ⟨hb5.mono (by have := H4.out.1.bel.1.size; omega), fun _ _ _ => rfl⟩
        have hJ5 := HJ.out _ (more M wr.heap.size w4.heap.size) _ _ w4.drew H4.out.2 (hb5.mono (by have := H4.out.1.bel.1.size; omega)) (fun _ _ _ => rfl) (fun _ hk => .inl hk)
        have HCALL := Lib.hid (HK.out _ _ y w4.drew (show xs.take q ++ [y] <+: xs by rw [HY.out, prefix_next (by have := HN.out; omega)]; exact List.take_prefix _ _) (by rw [← HX.out]; exact HWD.out) hJ5 (HZ.out.over hE5.bel.1 hn0) hE5.fit)
        rw [← HX.out, ← HPG.out] at HCALL
        have HE5 := Lib.hid hE5
        clear hb5 hE5 hJ5 x0 x1 x2 x3 x4 x5 xl p0 p1 hbp4 c1 cl
        generalize w4.drew = w5 at HCALL HE5 ⊢
        go_wp2_with fail
        refine HCALL.out.mono ?_
        rintro e w6 ⟨rfl, hk6, hj6⟩
        have HE6 := Lib.hid (HE5.out.kept hk6)
        have HJ6 := Lib.hid hj6
        clear hk6 hj6
        cases hpy : p y
        · have hR0 : R = false := by rw [HR.out]; exact all_snoc (q := q) (by have := HN.out; omega) (by rw [holdsAt, ← HY.out, hpy, Bool.and_false])
          subst hR0
          clear hpy
          go_wp2
          go_ret
          exact ⟨rfl, HE6.out.bel, fun h => by cases h⟩
        · have HG2 : Hid (∀ j, j < q + 1 → holdsAt d p (xs.getD j 0) = true) := Lib.hid (fun j hj => by
            by_cases e : j = q
            · rw [e, ← HY.out, holdsAt, ← HX.out, HWD.out, hpy]; rfl
            · exact HG.out j (by omega))
          have HM2 : Hid (∃ M, Ev w n₀ M₀ ⟨sw, ⟨some ⟨bp, op, none⟩, np, cp⟩, su, sc⟩ (some ⟨b, off, none⟩) n xs M w6 ∧ J M (xs.take (q + 1)) w6) := Lib.hid ⟨_, HE6.out, by
            have := HJ6.out hpy
            rwa [HY.out, prefix_next (by have := HN.out; omega)] at this⟩
          clear hpy
          go_wp2
          go_roundw
          case rel => exact ⟨q + 1, by omega, by go_num, HG2, HM2⟩
          case measure => simp [intOf]; omega
    · obtain rfl : q = n := by omega
      have hRt : R = true := by rw [HR.out]; exact all_every (fun j hj => HG.out j (by have := HN.out; omega))
      obtain ⟨M, hE, hj⟩ := HM.out
      rw [List.take_of_length_le (by have := HN.out; omega)] at hj
      have HE := Lib.hid hE
      have HJJ := Lib.hid hj
      subst hRt
      clear hE hj
      go_wp2
      go_ret
      exact ⟨rfl, HE.out.bel, fun _ => ⟨_, HJJ.out⟩⟩
theorem every_any (hp : Hp w n₀ s d) (h0 : n₀ ≤ w.heap.size) (hn0 : 0 < n₀) (hz : Cl.Sz w) (hf : firstB s d = true) (eg : ∀ args w, (callFunc gf args).run Tryz.prog w = .ok (.enter gf args) w) (hJ : Cl.Bides n₀ J) (j0 : J M₀ [] w) (hm0 : ∀ k, M₀ k → k < w.heap.size)
    (hask : Asks gf lb n₀ d p (Cl.allS d.f s.p.n) J) :
    Calls Tryz.prog 62 #[(.agg #[.slice s.w.a s.w.n s.w.c, .slice s.p.a s.p.n s.p.c, .slice (s.u 0).a (s.u 0).n (s.u 0).c, .slice (s.u 1).a (s.u 1).n (s.u 1).c, .slice (s.u 2).a (s.u 2).n (s.u 2).c, .slice s.c.a s.c.n s.c.c]), .func (.func gf) #[] lb] w (Asked n₀ M₀ w J (Cl.allS d.f s.p.n) ((Cl.allS d.f s.p.n).all (holdsAt d p))) :=
  every_core s d w n₀ M₀ gf lb p J _ _ rfl rfl hp h0 hn0 hz hf eg hJ j0 hm0 hask
end
end Go.Proofs.YtccjelpfmkbmiaaGreatDoor
end
section
namespace Go.Proofs.YtccjelpfmkbmiaaGreatDoor
open Go.RowKit
set_option maxRecDepth 100000

theorem info_page : (Tryz.prog.info? 81).map (fun i => (i.zero, i.size, i.bytes)) = some (some (.agg #[.int .i64 0, .int .i64 0]), 2, 16) := by kernel_rfl
theorem info_boolT : (Tryz.prog.info? 4).map (fun i => (i.zero, i.size, i.bytes)) = some (some (.bool false), 1, 1) := by kernel_rfl
def zBools (n : Nat) : Obj := .cells (madeCells #[.bool false] n) 4
theorem make_bools (n : Nat) (h : n ≤ 1000) (w : World) : (Instr.makeSlice 26 (.int .i64 (n : Int)) (.int .i64 (n : Int))).run Tryz.prog w = .ok (.slice (some ⟨w.heap.size, 0, none⟩) n n) (w.alloc (zBools n)) := by
  obtain ⟨i0, hi, hz0, hz1, hz2⟩ := info_parts info_boolT
  have := run_make (P := Tryz.prog) w 26 4 i0 _ Tryz.underlying26 hi hz0 .i64 .i64 n n (by omega) (Int.le_refl _) (by rw [hz2]; omega) (by omega)
  rw [hz1] at this
  unfold zBools
  simpa [Value.cells] using this
def noHs : Hs := ⟨⟨none, 0, 0⟩, ⟨none, 0, 0⟩, Ls.noSl, ⟨none, 0, 0⟩⟩
theorem put6_other (w : World) (b : Nat) (v0 v1 v2 v3 v4 v5 : Value) {k : Nat} (h : ¬ k = b) : (put6 w b v0 v1 v2 v3 v4 v5).heap[k]? = w.heap[k]? :=
  (Below.heap_setCell _ _ _ _ h).trans ((Below.heap_setCell _ _ _ _ h).trans ((Below.heap_setCell _ _ _ _ h).trans ((Below.heap_setCell _ _ _ _ h).trans ((Below.heap_setCell _ _ _ _ h).trans (Below.heap_setCell _ _ _ _ h)))))
end Go.Proofs.YtccjelpfmkbmiaaGreatDoor
end
section
namespace Go.Proofs.YtccjelpfmkbmiaaGreatDoor.Cl
open Go.Proofs.YtccjelpfmkbmiaaGreatDoor
set_option maxRecDepth 100000
open Go.RowKit

def findO (f : Nat → Int × Int) (n : Nat) (m : Int) : Option Nat := if mayB f n && runB m then (List.range (n + 1 - m.toNat)).find? (fun k => freeB f k m.toNat) else none
def findV (f : Nat → Int × Int) (n : Nat) (m : Int) : Int := match findO f n m with | some k => k | none => 0
def findS (f : Nat → Int × Int) (n : Nat) (m : Int) : Bool := (findO f n m).isSome
theorem found {f : Nat → Int × Int} {n : Nat} {m : Int} {k : Nat} (h : findO f n m = some k) :
    Ending.returned (.tuple #[.int .i64 k, .bool true]) = .returned (.tuple #[.int .i64 (findV f n m), .bool (findS f n m)]) := by
  unfold findV findS; rw [h]; rfl
theorem nowhere {f : Nat → Int × Int} {n : Nat} {m : Int} (h : findO f n m = none) :
    Ending.returned (.tuple #[.int .i64 0, .bool false]) = .returned (.tuple #[.int .i64 (findV f n m), .bool (findS f n m)]) := by
  unfold findV findS; rw [h]; rfl

/-- None of the places before j serves. -/
def Passed (f : Nat → Int × Int) (m : Nat) (j : Nat) : Prop := ∀ i, i < j → freeB f i m = false
theorem Passed.zero (f : Nat → Int × Int) (m : Nat) : Passed f m 0 := fun i h => absurd h (by omega)
theorem Passed.next {f : Nat → Int × Int} {m j : Nat} (h : Passed f m j) (hj : freeB f j m = false) : Passed f m (j + 1) := fun i hi => by
  by_cases e : i = j
  · rw [e]; exact hj
  · exact h i (by omega)
/-- The first t pages from j on are free. -/
def Open (f : Nat → Int × Int) (j t : Nat) : Prop := ∀ i, i < t → (f (j + i)).1 = 0
theorem Open.zero (f : Nat → Int × Int) (j : Nat) : Open f j 0 := fun i h => absurd h (by omega)
theorem Open.next {f : Nat → Int × Int} {j t : Nat} (h : Open f j t) (ht : (f (j + t)).1 = 0) : Open f j (t + 1) := fun i hi => by
  by_cases e : i = t
  · rw [e]; exact ht
  · exact h i (by omega)

end Go.Proofs.YtccjelpfmkbmiaaGreatDoor.Cl
end
section
namespace Go.Proofs.YtccjelpfmkbmiaaGreatDoor.Cl
open Go.Proofs.YtccjelpfmkbmiaaGreatDoor
set_option maxRecDepth 100000
open Go.RowKit

end Go.Proofs.YtccjelpfmkbmiaaGreatDoor.Cl
end
section
namespace Go.Proofs.YtccjelpfmkbmiaaGreatDoor.Cl
open Go.Proofs.YtccjelpfmkbmiaaGreatDoor
set_option maxRecDepth 100000
open Go.RowKit

theorem info_page : (Tryz.prog.info? 81).map (fun i => (i.zero, i.size, i.bytes)) = some (some (.agg #[.int .i64 0, .int .i64 0]), 2, 16) := by kernel_rfl

/-- The row's block is as it was. -/
theorem PMine.kept {w w' : World} {base e g n c : Nat} {f : Nat → Int × Int} (h : PMine w base e g n c f) (hg : w'.heap[g]? = w.heap[g]?) (hs : w.heap.size ≤ w'.heap.size) : PMine w' base e g n c f := by
  obtain ⟨⟨h1, h2⟩, h3, h4, h5⟩ := h
  refine ⟨⟨h1, ?_⟩, h3, by omega, h5⟩
  rcases h2 with h2 | ⟨g', cap, cur, hv, hb, hh, hr⟩
  · exact .inl h2
  · simp only [Value.slice.injEq, Option.some.injEq, Addr.mk.injEq, and_true, true_and] at hv
    obtain ⟨rfl, rfl⟩ := hv
    exact .inr ⟨g, c, cur, rfl, hb, hg.trans hh, hr⟩
theorem PMine.alloc {w : World} {base e g n c : Nat} {f : Nat → Int × Int} (h : PMine w base e g n c f) (o : Obj) : PMine (w.alloc o) base e g n c f :=
  h.kept (Below.heap_alloc w o g h.2.2.1) (by simp)
theorem PMine.below {w w' : World} {base e g n c B : Nat} {f : Nat → Int × Int} (h : PMine w base e g n c f) (hb : Below B w w') (hg : g < B) : PMine w' base e g n c f :=
  h.kept (hb.block g hg) hb.size

/-- A copy of the call's own was returned; all that was there is as it was. -/
def PMade (w : World) (n : Nat) (f : Nat → Int × Int) (e : Ending) (w' : World) : Prop :=
  ∃ g c, e = .returned (.slice (some ⟨g, 0, none⟩) n c) ∧ PMine w' w.heap.size 81 g n c f ∧ Below w.heap.size w w'

theorem pcells_of {w : World} {b off n : Nat} {f : Nat → Int × Int} (hc : ∀ i, i < n → w.cell? ⟨b, off + i * 2, none⟩ = some (.int .i64 (f i).1) ∧ w.cell? ⟨b, off + i * 2 + 1, none⟩ = some (.int .i64 (f i).2))
    (j : Nat) (u : Value) (hj : (pcells f n)[j]? = some u) : w.cell? ⟨b, off + j, none⟩ = some u := by
  have hjn : j < n * 2 := by
    have := (List.getElem?_eq_some_iff.1 hj).1
    rwa [pcells_length] at this
  rw [pcells_at f n j hjn] at hj
  obtain rfl := Option.some.inj hj
  by_cases hm : j % 2 = 0
  · have := (hc (j / 2) (by omega)).1
    rw [show off + j / 2 * 2 = off + j by omega] at this
    rw [this]
    simp [pcell, hm]
  · have := (hc (j / 2) (by omega)).2
    rw [show off + j / 2 * 2 + 1 = off + j by omega] at this
    rw [this]
    simp [pcell, hm]
theorem pcells_one {f : Nat → Int × Int} {n : Nat} : ∀ u ∈ pcells f n, u.oneCell' = true := by
  intro u hu
  obtain ⟨x, _, rfl⟩ := List.mem_map.1 hu
  rfl

theorem pclone_ok (B : Nat) (A : Option Addr) (n c : Nat) (f : Nat → Int × Int) (w : World) (hn : 0 < n) (hbig : n ≤ 1000) (hr : PRow w B A n f) :
    Calls Tryz.prog 86 #[.slice A n c] w (PMade w n f) := by
  obtain ⟨i0, hi, hz0, hz1, hz2⟩ := info_parts info_page
  obtain ⟨b, off, rfl, _, hc⟩ := hr hn
  have HC := Lib.hid hc
  have q22 : ∀ (w : World) (a : Option Addr) (n c n' c' : Nat), (binOp .eql 23 (.slice a n c) (.slice none n' c')).run Tryz.prog w = .ok (.bool a.isNone) w := fun w a n c n' c' => Lib.run_eql_slice_nil w _ _ a n c n' c' Tryz.underlying23
  have u22 : ∀ w, Sem.run Tryz.prog (underlying 23) w = .ok (TypeDesc.slice 81) w := run_underlying Tryz.underlying23
  clear hc hr
  go_enter Tryz.func86, Tryz.ntmps86
  go_wp2_with (at_builtin; refine wpList_append_own _ rfl _ _ 23 rfl w.heap.size 81 i0 (.agg #[.int .i64 0, .int .i64 0]) 2 16 Tryz.underlying23 hi hz0 hz1 hz2 rfl (by decide) _ _ _ rfl (World.ownsRow_made w #[] 0 (Nat.le_refl _) (Nat.zero_le _) rfl) ⟨b, off, none⟩ n c (pcells f n) rfl ?qc1 ?qc2 ?qc3 ?qc4 ?qc5 ?qc6 ?_)
  case qc1 => exact pcells_length f n
  case qc2 =>
    intro j u hj
    rw [Addr.add_lit]
    exact Lib.cell?_alloc_some _ (pcells_of HC.out j u hj)
  case qc3 => exact pcells_one
  case qc4 => unfold maxLen; omega
  case qc5 => omega
  case qc6 => simp
  intro v' w1 hown hgrow hnil
  have hown' : w1.ownsRow w.heap.size 81 2 v' n (pcells f n) := by simpa using hown
  obtain ⟨g, c', rfl, hm⟩ := pmine_of hown' hn
  have HM := Lib.hid hm
  clear hown hown' hnil hm
  go_wp2
  go_ret
  exact ⟨g, c', rfl, HM.out, ((Below.refl _ w).alloc (Nat.le_refl _) _).grown hgrow (by simp) (by intro k hk; simp [Value.ownBlock] at hk; omega)⟩

end Go.Proofs.YtccjelpfmkbmiaaGreatDoor.Cl
end
section
namespace Go.Proofs.YtccjelpfmkbmiaaGreatDoor
open Go.RowKit
set_option maxRecDepth 100000

theorem iclone_any (B : Nat) (A : Option Addr) (n c : Nat) (xs : List Int) (w : World) (hn : n ≤ 2000000) (hB : B ≤ w.heap.size) (hr : Row w B A n xs) :
    Calls Tryz.prog 85 #[.slice A n c] w (Ls.AllOut w xs) := by
  have HR := Lib.hid hr
  have q22 : ∀ (w : World) (a : Option Addr) (n c n' c' : Nat), (binOp .eql 22 (.slice a n c) (.slice none n' c')).run Tryz.prog w = .ok (.bool a.isNone) w := fun w a n c n' c' => Lib.run_eql_slice_nil w _ _ a n c n' c' Tryz.underlying22
  have hl := hr.1
  have hA : A = none → n = 0 ∧ xs = [] := fun e => by
    by_cases h0 : n = 0
    · exact ⟨h0, List.eq_nil_of_length_eq_zero (by omega)⟩
    · obtain ⟨b, off, e', _⟩ := hr.2 (by omega)
      rw [e] at e'
      cases e'
  clear hr hl
  cases A with
  | none =>
    obtain ⟨rfl, rfl⟩ := hA rfl
    clear hA
    go_enter Tryz.func85, Tryz.ntmps85
    go_wp2
    go_ret
    exact ⟨⟨none, 0, 0⟩, rfl, World.ownsRow_nil _ _ _ _, Below.refl _ _⟩
  | some x =>
    clear hA
    go_enter Tryz.func85, Tryz.ntmps85
    go_wp2_with (at_builtin; refine Ls.list_cat rfl (.tmp 5) (.tmp 6) rfl rfl rfl (xs := []) (World.ownsRow_made w #[] 0 (Nat.le_refl _) (Nat.zero_le _) rfl) (HR.out.below ((Below.refl B w).alloc hB _)) (by simp) (by omega) ?_)
    intro p' cp' w1 hcat
    have ho := hcat.own
    have hg := hcat.grown
    have HO := Lib.hid ho
    have HG := Lib.hid hg
    clear hcat ho hg
    go_wp2
    go_ret
    exact ⟨⟨p', n, cp'⟩, rfl, HO.out, ((Below.refl _ w).alloc (Nat.le_refl _) _).grown HG.out (by simp) (by intro k hk; simp [Value.ownBlock] at hk; omega)⟩

def bcells (f : Nat → Bool) (n : Nat) : List Value := (List.range n).map fun i => .bool (f i)
theorem bcells_at (f : Nat → Bool) (n i : Nat) (h : i < n) : (bcells f n)[i]? = some (.bool (f i)) := by simp [bcells, h]
theorem info_boolC : (Tryz.prog.info? 4).map (fun i => (i.zero, i.size, i.bytes)) = some (some (.bool false), 1, 1) := by kernel_rfl
/-- A row of truth values in a block of the call's own. -/
def BMade (w : World) (n : Nat) (f : Nat → Bool) (e : Ending) (w' : World) : Prop :=
  ∃ g c, e = .returned (.slice (some ⟨g, 0, none⟩) n c) ∧ (∀ i, i < n → w'.cell? ⟨g, i, none⟩ = some (.bool (f i))) ∧ (∀ i, w'.frozen? ⟨g, i, none⟩ = false) ∧ w.heap.size ≤ g ∧ g < w'.heap.size ∧ Below w.heap.size w w'
theorem bmade_of {w w1 : World} {v : Value} {n : Nat} {f : Nat → Bool} (h : w1.ownsRow w.heap.size 4 1 v n (bcells f n)) (hn : 0 < n) :
    ∃ g c, v = .slice (some ⟨g, 0, none⟩) n c ∧ (∀ i, i < n → w1.cell? ⟨g, i, none⟩ = some (.bool (f i))) ∧ w.heap.size ≤ g ∧ g < w1.heap.size := by
  rcases h.2 with ⟨rfl, h0⟩ | ⟨g, c, cur, rfl, hb, hh, hnc, hcm, _⟩
  · omega
  · exact ⟨g, c, rfl, fun i hi => (h.cellAt i (by omega)).trans (bcells_at f n i hi), hb, (Array.getElem?_eq_some_iff.1 hh).1⟩
theorem bclone_ok (B : Nat) (A : Option Addr) (n c : Nat) (f : Nat → Bool) (w : World) (hn : 0 < n) (hbig : n ≤ 1000000) (hr : BRow w B A n f) :
    Calls Tryz.prog 88 #[.slice A n c] w (BMade w n f) := by
  obtain ⟨i0, hi, hz0, hz1, hz2⟩ := info_parts info_boolC
  obtain ⟨b, off, rfl, _, hc⟩ := hr hn
  have HC := Lib.hid hc
  have q22 : ∀ (w : World) (a : Option Addr) (n c n' c' : Nat), (binOp .eql 26 (.slice a n c) (.slice none n' c')).run Tryz.prog w = .ok (.bool a.isNone) w := fun w a n c n' c' => Lib.run_eql_slice_nil w _ _ a n c n' c' Tryz.underlying26
  have u22 : ∀ w, Sem.run Tryz.prog (underlying 26) w = .ok (TypeDesc.slice 4) w := run_underlying Tryz.underlying26
  clear hc hr
  go_enter Tryz.func88, Tryz.ntmps88
  go_wp2_with (at_builtin; refine wpList_append_own _ rfl _ _ 26 rfl w.heap.size 4 i0 (.bool false) 1 1 Tryz.underlying26 hi hz0 hz1 hz2 rfl (by decide) _ _ _ rfl (World.ownsRow_made w #[] 0 (Nat.le_refl _) (Nat.zero_le _) rfl) ⟨b, off, none⟩ n c (bcells f n) rfl ?qc1 ?qc2 ?qc3 ?qc4 ?qc5 ?qc6 ?_)
  case qc1 => simp [bcells]
  case qc2 =>
    intro j u hj
    rw [Addr.add_lit]
    have hjn : j < n := by
      have := (List.getElem?_eq_some_iff.1 hj).1
      simpa [bcells] using this
    rw [bcells_at f n j hjn] at hj
    rw [← hj]
    exact Lib.cell?_alloc_some _ (HC.out j hjn)
  case qc3 =>
    intro u hu
    obtain ⟨x, _, rfl⟩ := List.mem_map.1 hu
    rfl
  case qc4 => unfold maxLen; omega
  case qc5 => omega
  case qc6 => simp
  intro v' w1 hown hgrow hnil
  have hown' : w1.ownsRow w.heap.size 4 1 v' n (bcells f n) := by simpa using hown
  obtain ⟨g, c', rfl, hm, hb, hl⟩ := bmade_of hown' hn
  have HM := Lib.hid hm
  have HFZ : Hid (∀ i, w1.frozen? ⟨g, i, none⟩ = false) := Lib.hid fun i => hown'.frozenAt i
  clear hown hown' hnil hm
  go_wp2
  go_ret
  exact ⟨g, c', rfl, HM.out, HFZ.out, hb, hl, ((Below.refl _ w).alloc (Nat.le_refl _) _).grown hgrow (by simp) (by intro k hk; simp [Value.ownBlock] at hk; omega)⟩
end Go.Proofs.YtccjelpfmkbmiaaGreatDoor
end
section
namespace Go.Proofs.YtccjelpfmkbmiaaGreatDoor.Ls
open Go.Proofs.YtccjelpfmkbmiaaGreatDoor
open Go.RowKit
set_option maxRecDepth 100000

structure AOwn (w wr : World) (f : Nat → List Int) (k : Nat) (v : Nat → Sl) : Prop where
  box : Box3 wr w.heap.size v
  res : Box3 wr (w.heap.size + 1) noSl
  own : OwnTo wr (w.heap.size + 2) k v f
  bel : Below w.heap.size w wr
theorem AOwn.size {w wr : World} {v : Nat → Sl} {f : Nat → List Int} {k : Nat} (h : AOwn w wr f k v) : w.heap.size + 2 ≤ wr.heap.size := by have := h.res.lt; omega
theorem AOwn.step {w wr w1 w2 : World} {v : Nat → Sl} {f : Nat → List Int} {k : Nat} (h : AOwn w wr f k v) (hk : k < 3) (s : Sl)
    (ho : w1.ownsRow wr.heap.size 3 1 (.slice s.a s.n s.c) s.n ((f k).map (Value.int .i64))) (b1 : Below wr.heap.size wr w1) (e2 : w2 = w1.setCell ⟨w.heap.size, k, none⟩ (.slice s.a s.n s.c)) : AOwn w w2 f (k + 1) (upd v k s) := by
  have hs := h.size
  subst e2
  refine ⟨(h.box.next b1).set hk s, (h.res.next b1).other (by simp) _, ?_, (h.bel.trans (b1.mono h.bel.size)).setCell (p := ⟨w.heap.size, k, none⟩) (by simp) _⟩
  refine h.own.step hs s (World.ownsRow.same ho (fun g hg' _ => Below.heap_setCell _ _ _ _ ?_)) (fun j hj hlt => (Below.heap_setCell _ _ _ _ (by show ¬ j = w.heap.size; omega)).trans (b1.block j hlt))
  have := (ho.lt g hg').1
  show ¬ g = w.heap.size
  omega
theorem aown_any (B : Nat) (u : Nat → Sl) (f : Nat → List Int) (w : World) (h : L3 w B u f) (hB : B ≤ w.heap.size) (hn : ∀ j, j < 3 → (u j).n ≤ 2000000) :
    Calls Tryz.prog 87 #[(.agg #[.slice (u 0).a (u 0).n (u 0).c, .slice (u 1).a (u 1).n (u 1).c, .slice (u 2).a (u 2).n (u 2).c])] w (COut w f) := by
  have C4 := Lib.hid (fun j (hj : j < 3) W (hb : Below w.heap.size w W) => iclone_any B (u j).a (u j).n (u j).c (f j) W (hn j hj) (Nat.le_trans hB hb.size) ((h j hj).1.over hb hB))
  clear h hn
  go_enter Tryz.func87, Tryz.ntmps87
  go_wp2
  go_loopw [6] (fun i wr => ∃ (k : Nat) (v : Nat → Sl), k ≤ 3 ∧ i = .int .i64 k ∧ Hid (AOwn w wr f k v)) (fun i _ => 3 - (intOf i).toNat)
  case atStart =>
    refine ⟨0, u, by omega, rfl, Lib.hid ⟨(Box3.new w u 25).alloc _, ?_, OwnTo.start _ _ _ _, ((Below.refl _ _).alloc (Nat.le_refl _) _).alloc (by simp) _⟩⟩
    have := Box3.new (w.alloc (.cells #[.slice (u 0).a (u 0).n (u 0).c, .slice (u 1).a (u 1).n (u 1).c, .slice (u 2).a (u 2).n (u 2).c] 25)) noSl 25
    rw [World.size_alloc] at this
    exact this
  case round =>
    obtain ⟨k, v, hk, rfl, HC⟩ := hrel
    by_cases hlt : k < 3
    · have hix := index_of u k hlt
      go_wp2_with fail
      refine (C4.out k hlt _ HC.out.bel).mono ?_
      rintro e w1 ⟨s, rfl, ho, hb1⟩
      have hB1 := HC.out.box.next hb1
      have hc1 := hB1.cell k hlt
      have hf1 := hB1.free k
      have hl1 := hB1.lt
      have S1 := Lib.hid (HC.out.step hlt s ho hb1 rfl)
      clear ho hb1 hB1
      go_wp2
      go_roundw
      case rel => exact ⟨k + 1, _, by omega, by go_num, S1⟩
      case measure => simp [intOf]; omega
    · obtain rfl : k = 3 := by omega
      have r0 := HC.out.box.cell 0 (by decide)
      have r1 := HC.out.box.cell 1 (by decide)
      have r2 := HC.out.box.cell 2 (by decide)
      have rl := HC.out.box.lt
      have x0 := HC.out.res.cell 0 (by decide)
      have x1 := HC.out.res.cell 1 (by decide)
      have x2 := HC.out.res.cell 2 (by decide)
      have y0 := HC.out.res.free 0
      have y1 := HC.out.res.free 1
      have y2 := HC.out.res.free 2
      have xl := HC.out.res.lt
      go_wp2
      refine bodyPost_ret (v := (.agg #[.slice (v 0).a (v 0).n (v 0).c, .slice (v 1).a (v 1).n (v 1).c, .slice (v 2).a (v 2).n (v 2).c])) ?_ rfl ⟨v, rfl, (HC.out.own.own3.put (b := w.heap.size + 1) (fun j x hj hx => by have := (HC.out.own.own3.block j hj hx).1; omega) v).less (by omega), below_put3 HC.out.bel (by omega) v⟩
      simp [results, Tryz.results87, go_sem, x0, x1, x2]
end Go.Proofs.YtccjelpfmkbmiaaGreatDoor.Ls
end
section
namespace Go.Proofs.YtccjelpfmkbmiaaGreatDoor
open Go.RowKit
set_option maxRecDepth 100000

/-- A box of six cells that are not frozen. -/
structure Box6 (W : World) (b : Nat) (t : Hs) : Prop where
  box : HBox W b t
  free : ∀ j, W.frozen? ⟨b, j, none⟩ = false
/-- Of such a heap's slices none lies in the two boxes. -/
def Off (b : Nat) (v : Ls.Sl) : Prop := 0 < v.n → ∀ x, v.a = some x → ¬ x.block = b ∧ ¬ x.block = b + 1
/-- A slice in new memory. -/
def New (b : Nat) (v : Ls.Sl) : Prop := 0 < v.n → ∀ x, v.a = some x → b ≤ x.block
/-- A heap that is being copied: what the box holds so far. -/
structure Cp (w W : World) (t : Hs) (d : Hd_) : Prop where
  bel : Below w.heap.size w W
  hp : Hp W W.heap.size t d
  ow : Off w.heap.size t.w
  op : Off w.heap.size t.p
  ou : ∀ j, j < 3 → Off w.heap.size (t.u j)
  oc : Off w.heap.size t.c
  box : Box6 W w.heap.size t
  res : Box6 W (w.heap.size + 1) noHs
theorem Box6.next {W W' : World} {b : Nat} {t : Hs} (h : Box6 W b t) (hb : Below W.heap.size W W') : Box6 W' b t := ⟨h.box.next hb, fun j => (hb.frozen (p := ⟨b, j, none⟩) h.box.lt).trans (h.free j)⟩
theorem Box6.same {W W' : World} {b : Nat} {t : Hs} (h : Box6 W b t) (hs : W'.heap[b]? = W.heap[b]?) (hl : W.heap.size ≤ W'.heap.size) : Box6 W' b t :=
  ⟨⟨(World.cell?_of_block (a := ⟨b, 0, none⟩) hs).trans h.box.c0, (World.cell?_of_block (a := ⟨b, 1, none⟩) hs).trans h.box.c1, (World.cell?_of_block (a := ⟨b, 2, none⟩) hs).trans h.box.c2, (World.cell?_of_block (a := ⟨b, 3, none⟩) hs).trans h.box.c3, (World.cell?_of_block (a := ⟨b, 4, none⟩) hs).trans h.box.c4, (World.cell?_of_block (a := ⟨b, 5, none⟩) hs).trans h.box.c5, Nat.lt_of_lt_of_le h.box.lt hl⟩,
   fun j => (World.frozen?_of_block (a := ⟨b, j, none⟩) hs).trans (h.free j)⟩
theorem Cp.next {w W W' : World} {t : Hs} {d : Hd_} (h : Cp w W t d) (hb : Below W.heap.size W W') : Cp w W' t d :=
  ⟨h.bel.trans (hb.mono h.bel.size), h.hp.next hb, h.ow, h.op, h.ou, h.oc, h.box.next hb, h.res.next hb⟩
/-- All slices stand where only the first box is turned. -/
theorem hp_off {W W' : World} {b : Nat} {t : Hs} {d : Hd_} (h : Hp W W.heap.size t d) (ow : Off b t.w) (op : Off b t.p) (ou : ∀ j, j < 3 → Off b (t.u j)) (oc : Off b t.c) (hs : ∀ k, ¬ k = b → ¬ k = b + 1 → W'.heap[k]? = W.heap[k]?) (hl : W.heap.size = W'.heap.size) : Hp W' W'.heap.size t d := by
  rw [← hl]
  refine ⟨row_same h.words fun hn x hx => hs _ (ow hn x hx).1 (ow hn x hx).2, fun hn => ?_, fun j hj => ⟨row_same (h.free j hj).1 fun hn x hx => hs _ (ou j hj hn x hx).1 (ou j hj hn x hx).2, (h.free j hj).2⟩, fun hn => ?_⟩
  · obtain ⟨b', off, e, hlt, hc⟩ := h.pages hn
    refine ⟨b', off, e, hlt, fun i hi => ?_⟩
    have hb' := hs b' (op hn _ e).1 (op hn _ e).2
    exact ⟨(World.cell?_of_block (a := ⟨b', off + i * 2, none⟩) hb').trans (hc i hi).1, (World.cell?_of_block (a := ⟨b', off + i * 2 + 1, none⟩) hb').trans (hc i hi).2⟩
  · obtain ⟨b', off, e, hlt, hc⟩ := h.cards hn
    refine ⟨b', off, e, hlt, fun i hi => ?_⟩
    exact (World.cell?_of_block (a := ⟨b', off + i, none⟩) (hs b' (oc hn _ e).1 (oc hn _ e).2)).trans (hc i hi)
theorem frozen_set {W : World} {b k : Nat} {v : Value} (h : ∀ j, W.frozen? ⟨b, j, none⟩ = false) : ∀ j, (W.setCell ⟨b, k, none⟩ v).frozen? ⟨b, j, none⟩ = false := fun j => by rw [World.frozen?_setCell]; exact h j
theorem cell_set {W : World} {b k j : Nat} {v x y : Value} (h : W.cell? ⟨b, j, none⟩ = some x) (hy : y = if j = k then v else x) : (W.setCell ⟨b, k, none⟩ v).cell? ⟨b, j, none⟩ = some y := by
  subst hy
  by_cases e : j = k
  · subst e
    rw [if_pos rfl]
    exact World.cell?_setCell_same' _ _ _ (by rw [h]; rfl)
  · rw [if_neg e, World.cell?_setCell_other _ _ _ _ (by intro hh; simp only [Addr.mk.injEq, true_and, and_true] at hh; omega)]
    exact h
/-- One cell of the box is turned: the heap with that slice in the place of the old one. -/
theorem Cp.set {w W : World} {t t' : Hs} {d : Hd_} (h : Cp w W t d) (k : Nat) (v : Value) (hp : Hp W W.heap.size t' d) (ow : Off w.heap.size t'.w) (op : Off w.heap.size t'.p) (ou : ∀ j, j < 3 → Off w.heap.size (t'.u j)) (oc : Off w.heap.size t'.c)
    (e0 : Value.slice t'.w.a t'.w.n t'.w.c = if 0 = k then v else .slice t.w.a t.w.n t.w.c) (e1 : Value.slice t'.p.a t'.p.n t'.p.c = if 1 = k then v else .slice t.p.a t.p.n t.p.c)
    (e2 : Value.slice (t'.u 0).a (t'.u 0).n (t'.u 0).c = if 2 = k then v else .slice (t.u 0).a (t.u 0).n (t.u 0).c) (e3 : Value.slice (t'.u 1).a (t'.u 1).n (t'.u 1).c = if 3 = k then v else .slice (t.u 1).a (t.u 1).n (t.u 1).c)
    (e4 : Value.slice (t'.u 2).a (t'.u 2).n (t'.u 2).c = if 4 = k then v else .slice (t.u 2).a (t.u 2).n (t.u 2).c) (e5 : Value.slice t'.c.a t'.c.n t'.c.c = if 5 = k then v else .slice t.c.a t.c.n t.c.c) :
    Cp w (W.setCell ⟨w.heap.size, k, none⟩ v) t' d := by
  have hsz : W.heap.size = (W.setCell ⟨w.heap.size, k, none⟩ v).heap.size := by simp [World.setCell]
  have hoth : ∀ j, ¬ j = w.heap.size → (W.setCell ⟨w.heap.size, k, none⟩ v).heap[j]? = W.heap[j]? := fun j hj => Below.heap_setCell _ _ _ _ hj
  exact ⟨h.bel.setCell (Nat.le_refl _) _, hp_off hp ow op ou oc (fun j hj _ => hoth j hj) hsz, ow, op, ou, oc,
    ⟨⟨cell_set h.box.box.c0 e0, cell_set h.box.box.c1 e1, cell_set h.box.box.c2 e2, cell_set h.box.box.c3 e3, cell_set h.box.box.c4 e4, cell_set h.box.box.c5 e5, by rw [← hsz]; exact h.box.box.lt⟩, frozen_set h.box.free⟩,
    h.res.same (hoth _ (by omega)) (Nat.le_of_eq hsz)⟩
theorem Cp.drew {w W : World} {t : Hs} {d : Hd_} (h : Cp w W t d) : Cp w W.drew t d := h.next (below_drawn' (Below.refl _ _) 1)
theorem off_old {w : World} {b : Nat} {v : Ls.Sl} {xs : List Int} (h : Row w b v.a v.n xs) : Off b v := fun hn x hx => by
  obtain ⟨b', off, e, hlt, _⟩ := h.2 hn
  rw [hx] at e
  cases e
  exact ⟨by show ¬ b' = b; omega, by show ¬ b' = b + 1; omega⟩
/-- A slice that a call made, as a row, and apart from the boxes. -/
theorem own_off {b base : Nat} {W : World} {v : Ls.Sl} {xs : List Int} (ho : W.ownsRow base 3 1 (.slice v.a v.n v.c) v.n (xs.map (Value.int .i64))) (hb : b + 2 ≤ base) : Row W W.heap.size v.a v.n xs ∧ v.n ≤ v.c ∧ v.c ≤ maxLen ∧ Off b v ∧ New b v := by
  obtain ⟨a, c, e, hr, h1, h2⟩ := Ls.owns_row ho
  simp only [Value.slice.injEq, true_and] at e
  obtain ⟨rfl, rfl⟩ := e
  refine ⟨hr, h1, h2, fun _ x hx => ?_, fun _ x hx => ?_⟩
  · have := (ho.lt x.block (by rw [Ls.ownBlock_slice, hx]; rfl)).1
    exact ⟨by omega, by omega⟩
  · have := (ho.lt x.block (by rw [Ls.ownBlock_slice, hx]; rfl)).1
    omega
/-- What copied leaves: the same heap, in memory of its own. -/
structure News (b : Nat) (t : Hs) : Prop where
  w : New b t.w
  p : New b t.p
  u : ∀ j, j < 3 → New b (t.u j)
  c : New b t.c
/-- A heap in new memory stands where nothing of that is turned. -/
theorem News.kept {b : Nat} {t : Hs} {d : Hd_} {W W' : World} (hn : News b t) (h : Hp W W.heap.size t d) (hs : ∀ k, b ≤ k → k < W.heap.size → W'.heap[k]? = W.heap[k]?) (hl : W.heap.size ≤ W'.heap.size) : Hp W' W'.heap.size t d := by
  refine Hp.more ?_ hl
  refine ⟨row_same h.words fun h0 x hx => ?_, fun h0 => ?_, fun j hj => ⟨row_same (h.free j hj).1 fun h0 x hx => ?_, (h.free j hj).2⟩, fun h0 => ?_⟩
  · obtain ⟨b', off, e, hlt, _⟩ := h.words.2 h0
    rw [hx] at e
    cases e
    exact hs _ (hn.w h0 _ hx) hlt
  · obtain ⟨b', off, e, hlt, hc⟩ := h.pages h0
    have hb' := hs b' (hn.p h0 _ e) hlt
    exact ⟨b', off, e, hlt, fun i hi => ⟨(World.cell?_of_block (a := ⟨b', off + i * 2, none⟩) hb').trans (hc i hi).1, (World.cell?_of_block (a := ⟨b', off + i * 2 + 1, none⟩) hb').trans (hc i hi).2⟩⟩
  · obtain ⟨b', off, e, hlt, _⟩ := (h.free j hj).1.2 h0
    rw [hx] at e
    cases e
    exact hs _ (hn.u j hj h0 _ hx) hlt
  · obtain ⟨b', off, e, hlt, hc⟩ := h.cards h0
    exact ⟨b', off, e, hlt, fun i hi => (World.cell?_of_block (a := ⟨b', off + i, none⟩) (hs b' (hn.c h0 _ e) hlt)).trans (hc i hi)⟩
def CopyOut (w : World) (s : Hs) (d : Hd_) (e : Ending) (w' : World) : Prop :=
  ∃ t : Hs, e = .returned (.agg #[.slice t.w.a t.w.n t.w.c, .slice t.p.a t.p.n t.p.c, .slice (t.u 0).a (t.u 0).n (t.u 0).c, .slice (t.u 1).a (t.u 1).n (t.u 1).c, .slice (t.u 2).a (t.u 2).n (t.u 2).c, .slice t.c.a t.c.n t.c.c]) ∧ Hp w' w'.heap.size t d ∧ (t.w.n = s.w.n ∧ t.p.n = s.p.n ∧ (∀ j, j < 3 → (t.u j).n = (s.u j).n) ∧ t.c.n = s.c.n) ∧ News w.heap.size t ∧ Below w.heap.size w w'
/-- Words, pages and cards are turned at once. -/
theorem Cp.three {w W : World} {s t : Hs} {d : Hd_} (h : Cp w W s d) (hp : Hp W W.heap.size t d) (ow : Off w.heap.size t.w) (op : Off w.heap.size t.p) (oc : Off w.heap.size t.c) (eu : t.u = s.u) :
    Cp w (((W.setCell ⟨w.heap.size, 0, none⟩ (.slice t.w.a t.w.n t.w.c)).setCell ⟨w.heap.size, 1, none⟩ (.slice t.p.a t.p.n t.p.c)).setCell ⟨w.heap.size, 5, none⟩ (.slice t.c.a t.c.n t.c.c)) t d := by
  have hsz : W.heap.size = (((W.setCell ⟨w.heap.size, 0, none⟩ (.slice t.w.a t.w.n t.w.c)).setCell ⟨w.heap.size, 1, none⟩ (.slice t.p.a t.p.n t.p.c)).setCell ⟨w.heap.size, 5, none⟩ (.slice t.c.a t.c.n t.c.c)).heap.size := by simp [World.setCell]
  have hoth : ∀ j, ¬ j = w.heap.size → (((W.setCell ⟨w.heap.size, 0, none⟩ (.slice t.w.a t.w.n t.w.c)).setCell ⟨w.heap.size, 1, none⟩ (.slice t.p.a t.p.n t.p.c)).setCell ⟨w.heap.size, 5, none⟩ (.slice t.c.a t.c.n t.c.c)).heap[j]? = W.heap[j]? := fun j hj => (Below.heap_setCell _ _ _ _ hj).trans ((Below.heap_setCell _ _ _ _ hj).trans (Below.heap_setCell _ _ _ _ hj))
  have ou : ∀ j, j < 3 → Off w.heap.size (t.u j) := by rw [eu]; exact h.ou
  refine ⟨((h.bel.setCell (p := ⟨w.heap.size, 0, none⟩) (Nat.le_refl _) _).setCell (p := ⟨w.heap.size, 1, none⟩) (Nat.le_refl _) _).setCell (p := ⟨w.heap.size, 5, none⟩) (Nat.le_refl _) _, hp_off hp ow op ou oc (fun j hj _ => hoth j hj) hsz, ow, op, ou, oc,
    ⟨⟨?_, ?_, ?_, ?_, ?_, ?_, by rw [← hsz]; exact h.box.box.lt⟩, frozen_set (frozen_set (frozen_set h.box.free))⟩, h.res.same (hoth _ (by omega)) (Nat.le_of_eq hsz)⟩
  · exact cell_set (cell_set (cell_set h.box.box.c0 rfl) rfl) rfl
  · exact cell_set (cell_set (cell_set h.box.box.c1 rfl) rfl) rfl
  · rw [eu]; exact cell_set (cell_set (cell_set h.box.box.c2 rfl) rfl) rfl
  · rw [eu]; exact cell_set (cell_set (cell_set h.box.box.c3 rfl) rfl) rfl
  · rw [eu]; exact cell_set (cell_set (cell_set h.box.box.c4 rfl) rfl) rfl
  · exact cell_set (cell_set (cell_set h.box.box.c5 rfl) rfl) rfl
/-- One of the lists is turned. -/
theorem Cp.list {w W : World} {t : Hs} {d : Hd_} (h : Cp w W t d) {k : Nat} (hk : k < 3) (v : Ls.Sl) (hr : Row W W.heap.size v.a v.n (d.F k)) (h1 : v.n ≤ v.c) (h2 : v.c ≤ maxLen) (ho : Off w.heap.size v) :
    Cp w (W.setCell ⟨w.heap.size, 2 + k, none⟩ (.slice v.a v.n v.c)) ⟨t.w, t.p, Ls.upd t.u k v, t.c⟩ d := by
  have hp : Hp W W.heap.size ⟨t.w, t.p, Ls.upd t.u k v, t.c⟩ d := ⟨h.hp.words, h.hp.pages, by
    have := h.hp.free.set k v (d.F k) hr h1 h2
    rwa [show Ls.upd d.F k (d.F k) = d.F by funext j; by_cases e : j = k <;> simp [Ls.upd, e]] at this, h.hp.cards⟩
  have ou : ∀ j, j < 3 → Off w.heap.size (Ls.upd t.u k v j) := fun j hj => by
    by_cases e : j = k
    · subst e; rw [Ls.upd_same]; exact ho
    · rw [Ls.upd_other _ _ e]; exact h.ou j hj
  refine h.set (2 + k) _ hp h.ow h.op ou h.oc ?_ ?_ ?_ ?_ ?_ ?_
  · rw [if_neg (by omega)]
  · rw [if_neg (by omega)]
  · by_cases e : k = 0
    · subst e; rfl
    · rw [if_neg (by omega)]
      dsimp only
      rw [Ls.upd_other _ _ (by omega)]
  · by_cases e : k = 1
    · subst e; rfl
    · rw [if_neg (by omega)]
      dsimp only
      rw [Ls.upd_other _ _ (by omega)]
  · by_cases e : k = 2
    · subst e; rfl
    · rw [if_neg (by omega)]
      dsimp only
      rw [Ls.upd_other _ _ (by omega)]
  · rw [if_neg (by omega)]
theorem prow_more {w : World} {B C n : Nat} {a : Option Addr} {f : Nat → Int × Int} (h : Cl.PRow w B a n f) (hB : B ≤ C) : Cl.PRow w C a n f := fun hn => by
  obtain ⟨b, off, e, hlt, hc⟩ := h hn
  exact ⟨b, off, e, Nat.lt_of_lt_of_le hlt hB, hc⟩
def Lens (s t : Hs) : Prop := t.w.n = s.w.n ∧ t.p.n = s.p.n ∧ (∀ j, j < 3 → (t.u j).n = (s.u j).n) ∧ t.c.n = s.c.n
theorem put6_at {W : World} {b : Nat} {t : Hs} (h : Box6 W b t) (v0 v1 v2 v3 v4 v5 : Value) :
    (put6 W b v0 v1 v2 v3 v4 v5).cell? ⟨b, 0, none⟩ = some v0 ∧ (put6 W b v0 v1 v2 v3 v4 v5).cell? ⟨b, 1, none⟩ = some v1 ∧ (put6 W b v0 v1 v2 v3 v4 v5).cell? ⟨b, 2, none⟩ = some v2 ∧
    (put6 W b v0 v1 v2 v3 v4 v5).cell? ⟨b, 3, none⟩ = some v3 ∧ (put6 W b v0 v1 v2 v3 v4 v5).cell? ⟨b, 4, none⟩ = some v4 ∧ (put6 W b v0 v1 v2 v3 v4 v5).cell? ⟨b, 5, none⟩ = some v5 := by
  have h0 := h.box.c0
  have h1 := h.box.c1
  have h2 := h.box.c2
  have h3 := h.box.c3
  have h4 := h.box.c4
  have h5 := h.box.c5
  refine ⟨?_, ?_, ?_, ?_, ?_, ?_⟩ <;> simp [put6, go_sem, h0, h1, h2, h3, h4, h5]
end Go.Proofs.YtccjelpfmkbmiaaGreatDoor
end
section
namespace Go.Proofs.YtccjelpfmkbmiaaGreatDoor
open Go.RowKit
set_option maxRecDepth 100000

theorem rbool {a b : Bool} (h : a = b) : Ending.returned (.bool a) = .returned (.bool b) := by rw [h]
/-- Is a page for objects with just so many fields? -/
def fillsB (n : Int) (p : Int × Int) : Bool := if p.1 = 2 then (Cl.runErr n == 0) && (Cl.runOf n == p.2) else (Cl.classErr n == 0) && (Cl.classOf n == p.2)
theorem fills_any (n : Int) (p : Int × Int) (w : World) (hz : Cl.Sz w) : Calls Tryz.prog 64 #[.int .i64 n, .agg #[.int .i64 p.1, .int .i64 p.2]] w fun e w' => e = .returned (.bool (fillsB n p)) ∧ Below w.heap.size w w' := by
  have HZ := Lib.hid (hz.alloc (.cells #[.int .i64 p.1, .int .i64 p.2] 81))
  clear hz
  by_cases hk : p.1 = 2
  · have k1 : (p.1 == 2) = true := by simp [hk]
    cases hr : (Cl.runErr n == 0)
    · have R : fillsB n p = false := by simp [fillsB, hk, hr]
      rw [R]
      clear R hk
      go_enter Tryz.func64, Tryz.ntmps64
      go_wp2_with fail
      refine (Cl.of_of n _ HZ.out).mono ?_
      rintro r w2 ⟨rfl, rfl⟩
      go_wp2_with fail
      refine (Cl.run_of n _ HZ.out).mono ?_
      rintro r w2 ⟨rfl, rfl⟩
      go_wp2
      go_ret
      exact ⟨rfl, (Below.refl _ _).alloc (Nat.le_refl _) _⟩
    · have R : fillsB n p = (Cl.runOf n == p.2) := by simp [fillsB, hk, hr]
      rw [R]
      clear R hk
      go_enter Tryz.func64, Tryz.ntmps64
      go_wp2_with fail
      refine (Cl.of_of n _ HZ.out).mono ?_
      rintro r w2 ⟨rfl, rfl⟩
      go_wp2_with fail
      refine (Cl.run_of n _ HZ.out).mono ?_
      rintro r w2 ⟨rfl, rfl⟩
      go_wp2
      go_ret
      exact ⟨rfl, (Below.refl _ _).alloc (Nat.le_refl _) _⟩
  · have k1 : (p.1 == 2) = false := by simp [hk]
    cases hr : (Cl.classErr n == 0)
    · have R : fillsB n p = false := by simp [fillsB, hk, hr]
      rw [R]
      clear R hk
      go_enter Tryz.func64, Tryz.ntmps64
      go_wp2_with fail
      refine (Cl.of_of n _ HZ.out).mono ?_
      rintro r w2 ⟨rfl, rfl⟩
      go_wp2
      go_ret
      exact ⟨rfl, (Below.refl _ _).alloc (Nat.le_refl _) _⟩
    · have R : fillsB n p = (Cl.classOf n == p.2) := by simp [fillsB, hk, hr]
      rw [R]
      clear R hk
      go_enter Tryz.func64, Tryz.ntmps64
      go_wp2_with fail
      refine (Cl.of_of n _ HZ.out).mono ?_
      rintro r w2 ⟨rfl, rfl⟩
      go_wp2
      go_ret
      exact ⟨rfl, (Below.refl _ _).alloc (Nat.le_refl _) _⟩
theorem words_may (A : Option Addr) (n c : Nat) (w : World) (hn : n ≤ 9223372036854775807) : Calls Tryz.prog 95 #[.slice A n c] w fun e w' => e = .returned (.bool (wordsB n)) ∧ w = w' := by
  cases h : wordsB n
  · exact Ar.may_no A n c w hn h
  · exact Ar.may_yes A n c w h
theorem sized_any (s : Hs) (d : Hd_) (w : World) (hp : Hp w w.heap.size s d) (hwn : s.w.n ≤ 4000) (hpn : s.p.n ≤ 1000) (hcn : s.c.n ≤ 100000) :
    Calls Tryz.prog 61 #[(.agg #[.slice s.w.a s.w.n s.w.c, .slice s.p.a s.p.n s.p.c, .slice (s.u 0).a (s.u 0).n (s.u 0).c, .slice (s.u 1).a (s.u 1).n (s.u 1).c, .slice (s.u 2).a (s.u 2).n (s.u 2).c, .slice s.c.a s.c.n s.c.c])] w fun e w' => e = .returned (.bool (firstB s d)) ∧ Below w.heap.size w w' := by
  have HP := Lib.hid hp
  have key : ∀ (b1 b2 b3 b4 : Bool), wordsB s.w.n = b1 → Cl.mayB d.f s.p.n = b2 → ((s.w.n : Int) == 16 * (s.p.n : Int)) = b3 → ((s.w.n : Int) == 8 * (s.c.n : Int)) = b4 → 
      Calls Tryz.prog 61 #[(.agg #[.slice s.w.a s.w.n s.w.c, .slice s.p.a s.p.n s.p.c, .slice (s.u 0).a (s.u 0).n (s.u 0).c, .slice (s.u 1).a (s.u 1).n (s.u 1).c, .slice (s.u 2).a (s.u 2).n (s.u 2).c, .slice s.c.a s.c.n s.c.c])] w fun e w' => e = .returned (.bool (b1 && (b2 && (b3 && b4)))) ∧ Below w.heap.size w w' := by
    intro b1 b2 b3 b4 e1 e2 e3 e4
    have E1 := Lib.hid e1
    have E2 := Lib.hid e2
    clear e1 e2 hp
    cases b1
    · rw [show (false && (b2 && (b3 && b4))) = false from rfl]
      go_enter Tryz.func61, Tryz.ntmps61
      go_wp2_with fail
      refine (words_may _ _ _ _ (by omega)).mono ?_
      rw [E1.out]
      rintro r w1 ⟨rfl, rfl⟩
      go_wp2
      go_ret
      exact ⟨rfl, (Below.refl _ _).alloc (Nat.le_refl _) _⟩
    · cases b2
      · rw [show (true && (false && (b3 && b4))) = false from rfl]
        go_enter Tryz.func61, Tryz.ntmps61
        go_wp2_with fail
        refine (words_may _ _ _ _ (by omega)).mono ?_
        rw [E1.out]
        rintro r w1 ⟨rfl, rfl⟩
        go_wp2_with fail
        have hb0 := (Below.refl w.heap.size w).alloc (Nat.le_refl _) (.cells #[.slice s.w.a s.w.n s.w.c, .slice s.p.a s.p.n s.p.c, .slice (s.u 0).a (s.u 0).n (s.u 0).c, .slice (s.u 1).a (s.u 1).n (s.u 1).c, .slice (s.u 2).a (s.u 2).n (s.u 2).c, .slice s.c.a s.c.n s.c.c] 28)
        refine (Cl.may_any w.heap.size s.p.a s.p.n s.p.c d.f _ hpn (HP.out.pages.below hb0) (by simp)).mono ?_
        rw [E2.out]
        rintro r w1 ⟨rfl, hb1⟩
        have BW := Lib.hid (hb0.trans (hb1.mono (by simp)))
        clear hb1 hb0
        go_wp2
        go_ret
        exact ⟨rfl, BW.out⟩
      · rw [show (true && (true && (b3 && b4))) = (b3 && b4) from rfl]
        cases b3
        · rw [show (false && b4) = false from rfl]
          go_enter Tryz.func61, Tryz.ntmps61
          go_wp2_with fail
          refine (words_may _ _ _ _ (by omega)).mono ?_
          rw [E1.out]
          rintro r w1 ⟨rfl, rfl⟩
          go_wp2_with fail
          have hb0 := (Below.refl w.heap.size w).alloc (Nat.le_refl _) (.cells #[.slice s.w.a s.w.n s.w.c, .slice s.p.a s.p.n s.p.c, .slice (s.u 0).a (s.u 0).n (s.u 0).c, .slice (s.u 1).a (s.u 1).n (s.u 1).c, .slice (s.u 2).a (s.u 2).n (s.u 2).c, .slice s.c.a s.c.n s.c.c] 28)
          refine (Cl.may_any w.heap.size s.p.a s.p.n s.p.c d.f _ hpn (HP.out.pages.below hb0) (by simp)).mono ?_
          rw [E2.out]
          rintro r w1 ⟨rfl, hb1⟩
          have HB1 := (HBox.new w s 28).next hb1
          have q0 := HB1.c0
          have q1 := HB1.c1
          have q5 := HB1.c5
          have ql := HB1.lt
          have BW := Lib.hid (hb0.trans (hb1.mono (by simp)))
          clear hb1 hb0 HB1
          go_wp2
          go_ret
          exact ⟨rfl, BW.out⟩
        · rw [show (true && b4) = b4 from rfl]
          go_enter Tryz.func61, Tryz.ntmps61
          go_wp2_with fail
          refine (words_may _ _ _ _ (by omega)).mono ?_
          rw [E1.out]
          rintro r w1 ⟨rfl, rfl⟩
          go_wp2_with fail
          have hb0 := (Below.refl w.heap.size w).alloc (Nat.le_refl _) (.cells #[.slice s.w.a s.w.n s.w.c, .slice s.p.a s.p.n s.p.c, .slice (s.u 0).a (s.u 0).n (s.u 0).c, .slice (s.u 1).a (s.u 1).n (s.u 1).c, .slice (s.u 2).a (s.u 2).n (s.u 2).c, .slice s.c.a s.c.n s.c.c] 28)
          refine (Cl.may_any w.heap.size s.p.a s.p.n s.p.c d.f _ hpn (HP.out.pages.below hb0) (by simp)).mono ?_
          rw [E2.out]
          rintro r w1 ⟨rfl, hb1⟩
          have HB1 := (HBox.new w s 28).next hb1
          have q0 := HB1.c0
          have q1 := HB1.c1
          have q5 := HB1.c5
          have ql := HB1.lt
          have BW := Lib.hid (hb0.trans (hb1.mono (by simp)))
          clear hb1 hb0 HB1
          go_wp2
          go_ret
          exact ⟨rfl, BW.out⟩
  have h := key _ _ _ _ rfl rfl rfl rfl
  have e : (wordsB s.w.n && (Cl.mayB d.f s.p.n && (((s.w.n : Int) == 16 * (s.p.n : Int)) && ((s.w.n : Int) == 8 * (s.c.n : Int))))) = firstB s d := by
    unfold firstB
    rw [Bool.eq_iff_iff]
    simp only [Bool.and_eq_true, beq_iff_eq, decide_eq_true_eq]
    constructor
    · rintro ⟨h1, h2, h3, h4⟩
      exact ⟨h1, h2, by omega, by omega⟩
    · rintro ⟨h1, h2, h3, h4⟩
      exact ⟨h1, h2, by omega, by omega⟩
  rwa [e] at h
/-- Of what rises: is it among them? -/
theorem has_any (B : Nat) (A : Option Addr) (n c : Nat) (xs : List Int) (x : Int) (w : World) (hn : n ≤ 100000000) (hr : Row w B A n xs) (hs : xs.Pairwise (· ≤ ·)) :
    Calls Tryz.prog 104 #[.slice A n c, .int .i64 x] w fun e w' => e = .returned (.bool (decide (x ∈ xs))) ∧ ∃ q, w' = w.drewN q := by
  by_cases h0 : n = 0
  · subst h0
    obtain rfl := hr.zero
    clear hr hs hn
    go_enter Tryz.func104, Tryz.ntmps104
    go_wp2_with fail
    refine (Tryz.slices_BinarySearch_int_empty A c x _).mono ?_
    rintro e w1 ⟨rfl, rfl⟩
    go_wp2
    go_ret
    exact ⟨rbool (by simp), 0, rfl⟩
  · obtain ⟨b, off, rfl, _, hc⟩ := hr.2 (by omega)
    have hl := hr.1
    have HB := Lib.hid (fun W (hW : W = w) => by
      have := Tryz.slices_BinarySearch_int b off n c xs x W (by omega) (by omega) (fun j hj => by rw [hW]; exact hc j (by omega)) (by rw [List.take_of_length_le (by omega)]; exact hs)
      rw [List.take_of_length_le (by omega), List.contains_eq_mem] at this
      exact this)
    clear hc hr hs h0 hl
    go_enter Tryz.func104, Tryz.ntmps104
    go_wp2_with fail
    refine (HB.out _ rfl).mono ?_
    rintro e w1 ⟨rfl, q, rfl⟩
    go_wp2
    go_ret
    exact ⟨rfl, q, rfl⟩
end Go.Proofs.YtccjelpfmkbmiaaGreatDoor
end
section
namespace Go.Proofs.YtccjelpfmkbmiaaGreatDoor.Ls
open Go.Proofs.YtccjelpfmkbmiaaGreatDoor
set_option maxRecDepth 100000
open Go.RowKit

/-- Lists of one's own and their box, beside other things. -/
structure Lst (base : Nat) (W wr : World) (R : Nat → Option Thing) (d : Nat) (V : Nat → Sl) (G : Nat → List Int) : Prop where
  res : Res base W wr R
  own : R 0 = some (tOwn base V G)
  box : R 1 = some (tBox d V)
  big : base ≤ wr.heap.size
section
variable {base d k : Nat} {W wr w2 : World} {R : Nat → Option Thing} {V : Nat → Sl} {G : Nat → List Int} {s : Sl} {xs : List Int} {o : Obj}
theorem Lst.drew (h : Lst base W wr R d V G) : Lst base W wr.drew R d V G := ⟨h.res.drewN 1, h.own, h.box, h.big⟩
theorem Lst.boxed (h : Lst base W wr R d V G) : Box3 wr d V := h.res.box h.box
theorem Lst.owns (h : Lst base W wr R d V G) : Own3 wr base V G := h.res.own h.own
theorem Lst.row (h : Lst base W wr R d V G) (o : Obj) (hk : k < 3) : (wr.alloc o).ownsRow base 3 1 (.slice (V k).a (V k).n (V k).c) (V k).n ((G k).map (Value.int .i64)) := (h.owns.alloc o).own k hk
theorem Lst.len (h : Lst base W wr R d V G) (hk : k < 3) : (V k).n = (G k).length := h.owns.l3.len k hk
theorem Lst.mid (h : Lst base W wr R d V G) (hk : k < 3) (hc : Catted (wr.alloc o) base (.slice (V k).a (V k).n (V k).c) s xs w2) : Box3 w2 d V ∧ wr.heap.size + 1 ≤ w2.heap.size :=
  ⟨(h.res.catted (b0 := base) h.big h.own hk hc hc.own).box (r := 1) (by rw [upd_other _ _ (by decide)]; exact h.box), by have := hc.grown.size; simpa using this⟩
theorem Lst.cat (h : Lst base W wr R d V G) (hk : k < 3) (hc : Catted (wr.alloc o) base (.slice (V k).a (V k).n (V k).c) s xs w2) :
    ∃ R', Lst base W (w2.setCell ⟨d, k, none⟩ (.slice s.a s.n s.c)) R' d (upd V k s) (upd G k xs) ∧ ∀ r, 2 ≤ r → R' r = R r := by
  have hw : base ≤ w2.heap.size := by have := (h.mid hk hc).2; have := h.big; omega
  have R1 := h.res.catted (b0 := base) h.big h.own hk hc hc.own
  have R2 := R1.set hw (r := 1) (d := d) (k := k) (z := V) (by rw [upd_other _ _ (by decide)]; exact h.box) hk s
  refine ⟨_, ⟨R2, ?_, upd_same _ _ _, by simpa [World.setCell] using hw⟩, fun r hr => ?_⟩
  · rw [upd_other _ _ (by decide), upd_same]
  · rw [upd_other _ _ (by omega), upd_other _ _ (by omega)]
/-- The box is stored to the result's box. -/
theorem Lst.done (h : Lst base W wr R d V G) {r : Nat} (hr : 2 ≤ r) {b : Nat} {z : Nat → Sl} (hb : R r = some (tBox b z)) : L3 (put3 wr b V) (put3 wr b V).heap.size V G ∧ Below base W (put3 wr b V) := by
  have R1 := h.res.put h.big hb V
  exact ⟨(R1.own (r := 0) (by rw [upd_other _ _ (by omega)]; exact h.own)).l3, R1.bel⟩
end
end Go.Proofs.YtccjelpfmkbmiaaGreatDoor.Ls
end
