/-
  Merged texts: PgPlain, PgCount, PgMay, PgMayAll, PgRefMay, ClShape.
-/
import Derived.Test.YtdmclfolooiccaaGreatDoorHpAC
import Derived.Test.YtdmclfolooiccaaGreatDoorRows
import Derived.WalkKit
import Derived.Below
import Derived.WalkSmall
import Derived.RegionTactic
import Derived.ChangeAlike
import Derived.Deep.QuietTactic
import Derived.BigQuiet
import Derived.WalkSpells
import Derived.Lib.Hide
import Derived.Test.YtdmclfolooiccaaGreatDoorHpAD
section
namespace Go.Proofs.YtdmclfolooiccaaGreatDoor.Cl
open Go.Proofs.YtdmclfolooiccaaGreatDoor
set_option maxRecDepth 100000

/-- A page, seen alone. -/
def pmB (p : Int × Int) : Bool := (p.1 == 0 && p.2 == 0) || (p.1 == 1 && decide (0 ≤ p.2) && decide (p.2 ≤ 2)) || (p.1 == 2 && decide (1 ≤ p.2) && decide (p.2 ≤ 4)) || (p.1 == 3 && p.2 == 0)
theorem pmB_iff (p : Int × Int) : pmB p = true ↔ (p.1 = 0 ∧ p.2 = 0) ∨ (p.1 = 1 ∧ 0 ≤ p.2 ∧ p.2 ≤ 2) ∨ (p.1 = 2 ∧ 1 ≤ p.2 ∧ p.2 ≤ 4) ∨ (p.1 = 3 ∧ p.2 = 0) := by
  simp [pmB, or_assoc, and_assoc]

/-- How many pages the large object ahead of page k still asks for. -/
def st (f : Nat → Int × Int) : Nat → Int
  | 0 => 0
  | k + 1 => if (f k).1 = 2 then (f k).2 - 1 else if 0 < st f k then st f k - 1 else st f k
def okB (f : Nat → Int × Int) (k : Nat) : Bool := pmB (f k) && (decide ((f k).1 = 3) == decide (0 < st f k))
theorem okB_iff (f : Nat → Int × Int) (k : Nat) : okB f k = true ↔ pmB (f k) = true ∧ ((f k).1 = 3 ↔ 0 < st f k) := by
  simp [okB]
def mayB (f : Nat → Int × Int) (n : Nat) : Bool := decide (1 ≤ n) && decide (n ≤ 64) && (List.range n).all (okB f) && (st f n == 0)
theorem mayB_iff (f : Nat → Int × Int) (n : Nat) : mayB f n = true ↔ 1 ≤ n ∧ n ≤ 64 ∧ (∀ k, k < n → okB f k = true) ∧ st f n = 0 := by
  simp [mayB, and_assoc]
theorem mayB_short {f : Nat → Int × Int} {n : Nat} (h : n < 1 ∨ 64 < n) : mayB f n = false := by
  rw [Bool.eq_false_iff]
  intro h'
  have := (mayB_iff f n).1 h'
  omega
theorem mayB_not {f : Nat → Int × Int} {n k : Nat} (hk : k < n) (h : okB f k = false) : mayB f n = false := by
  rw [Bool.eq_false_iff]
  intro h'
  have := ((mayB_iff f n).1 h').2.2.1 k hk
  rw [h] at this
  cases this
theorem mayB_end {f : Nat → Int × Int} {n : Nat} (h : st f n ≠ 0) : mayB f n = false := by
  rw [Bool.eq_false_iff]
  intro h'
  exact h ((mayB_iff f n).1 h').2.2.2
theorem mayB_mk {f : Nat → Int × Int} {n : Nat} (h0 : 1 ≤ n) (h1 : n ≤ 64) (h2 : ∀ k, k < n → okB f k = true) (h3 : st f n = 0) : mayB f n = true := (mayB_iff f n).2 ⟨h0, h1, h2, h3⟩
theorem st_nonneg {f : Nat → Int × Int} {n : Nat} (h : ∀ k, k < n → okB f k = true) : ∀ k, k ≤ n → 0 ≤ st f k ∧ st f k ≤ 3
  | 0, _ => by simp [st]
  | k + 1, hk => by
    have hr := st_nonneg h k (by omega)
    have h1 := (okB_iff f k).1 (h k (by omega))
    have h2 := (pmB_iff _).1 h1.1
    unfold st
    split
    · omega
    · split <;> omega
theorem st_congr {f g : Nat → Int × Int} : ∀ k, (∀ j, j < k → g j = f j) → st g k = st f k
  | 0, _ => rfl
  | k + 1, h => by
    have hr := st_congr k (fun j hj => h j (by omega))
    unfold st
    rw [hr, h k (by omega)]
theorem st_on {f g : Nat → Int × Int} {a : Nat} (ha : st g a = st f a) : ∀ k, (∀ j, a ≤ j → j < a + k → g j = f j) → st g (a + k) = st f (a + k)
  | 0, _ => ha
  | k + 1, h => by
    have hr := st_on ha k (fun j hj hk => h j hj (by omega))
    show st g (a + k + 1) = st f (a + k + 1)
    unfold st
    rw [hr, h (a + k) (by omega) (by omega)]
/-- Pages changed from a to a + m alone: they may be, where what stands there now fits in. -/
theorem may_changed {f g : Nat → Int × Int} {n a m : Nat} (h : mayB f n = true) (hm : a + m ≤ n) (hl : ∀ j, j < a → g j = f j) (hr : ∀ j, a + m ≤ j → g j = f j)
    (hs : st g (a + m) = st f (a + m)) (hok : ∀ j, j < m → okB g (a + j) = true) : mayB g n = true := by
  obtain ⟨h0, h1, h2, h3⟩ := (mayB_iff f n).1 h
  refine mayB_mk h0 h1 (fun k hk => ?_) ?_
  · by_cases hka : k < a
    · have e := h2 k hk
      rw [okB_iff] at e ⊢
      rw [hl k hka, st_congr k (fun j hj => hl j (by omega))]
      exact e
    · by_cases hkm : k < a + m
      · have := hok (k - a) (by omega)
        rwa [show a + (k - a) = k by omega] at this
      · have e := h2 k hk
        rw [okB_iff] at e ⊢
        have es := st_on (f := f) (g := g) hs (k - (a + m)) (fun j hj _ => hr j hj)
        rw [show a + m + (k - (a + m)) = k by omega] at es
        rw [hr k (by omega), es]
        exact e
  · have es := st_on (f := f) (g := g) hs (n - (a + m)) (fun j hj _ => hr j hj)
    rw [show a + m + (n - (a + m)) = n by omega] at es
    rw [es, h3]

/-- n pages from page a on are free. -/
def freeB (f : Nat → Int × Int) (a n : Nat) : Bool := (List.range n).all fun j => (f (a + j)).1 == 0
theorem freeB_iff (f : Nat → Int × Int) (a n : Nat) : freeB f a n = true ↔ ∀ j, j < n → (f (a + j)).1 = 0 := by
  simp [freeB]
theorem freeB_not {f : Nat → Int × Int} {a n j : Nat} (hj : j < n) (h : (f (a + j)).1 ≠ 0) : freeB f a n = false := by
  rw [Bool.eq_false_iff]
  intro h'
  exact h ((freeB_iff f a n).1 h' j hj)
theorem freeB_ex {f : Nat → Int × Int} {a n : Nat} (h : freeB f a n = false) : ∃ j, j < n ∧ (f (a + j)).1 ≠ 0 := by
  by_cases he : ∃ j, j < n ∧ (f (a + j)).1 ≠ 0
  · exact he
  · have : freeB f a n = true := (freeB_iff f a n).2 (fun j hj => by
      by_cases e : (f (a + j)).1 = 0
      · exact e
      · exact absurd ⟨j, hj, e⟩ he)
    rw [h] at this
    cases this
theorem free_zero {f : Nat → Int × Int} {n k : Nat} (h : mayB f n = true) (hk : k < n) (hf : (f k).1 = 0) : f k = (0, 0) ∧ st f k = 0 := by
  obtain ⟨h0, h1, h2, h3⟩ := (mayB_iff f n).1 h
  have ho := (okB_iff f k).1 (h2 k hk)
  have hp := (pmB_iff _).1 ho.1
  have hn := st_nonneg h2 k (by omega)
  have hz : ¬ 0 < st f k := fun hh => by have := ho.2.2 hh; omega
  exact ⟨Prod.ext hf (by omega), by omega⟩
theorem free_st {f : Nat → Int × Int} {n a m : Nat} (h : mayB f n = true) (hm : a + m ≤ n) (h1 : 1 ≤ m) (hf : freeB f a m = true) : st f (a + m) = 0 := by
  have hz := free_zero h (k := a + (m - 1)) (by omega) ((freeB_iff f a m).1 hf (m - 1) (by omega))
  have : st f (a + (m - 1) + 1) = 0 := by
    unfold st
    rw [hz.1, hz.2]
    simp
  rwa [show a + (m - 1) + 1 = a + m by omega] at this

theorem put_ne {f : Nat → Int × Int} {a j : Nat} {p : Int × Int} (h : j ≠ a) : put f a p j = f j := if_neg h
theorem put_eq {f : Nat → Int × Int} {a : Nat} {p : Int × Int} : put f a p a = p := if_pos rfl
/-- A small page at a place. -/
theorem small_may {f : Nat → Int × Int} {n a : Nat} {c : Int} (h : mayB f n = true) (ha : a < n) (hf : (f a).1 = 0) (h0 : 0 ≤ c) (h1 : c ≤ 2) : mayB (put f a (1, c)) n = true := by
  obtain ⟨hz, hs⟩ := free_zero h ha hf
  have hg : st (put f a (1, c)) a = 0 := by rw [st_congr a (fun j hj => put_ne (by omega)), hs]
  refine may_changed (a := a) (m := 1) h (by omega) (fun j hj => put_ne (by omega)) (fun j hj => put_ne (by omega)) ?_ ?_
  · unfold st
    rw [hs, hg, hz]
    simp [put]
  · intro j hj
    obtain rfl : j = 0 := by omega
    rw [okB_iff]
    simp only [Nat.add_zero, hg]
    refine ⟨(pmB_iff _).2 (.inr (.inl ?_)), ?_⟩ <;> simp [put, h0, h1]

/-- A large object's m pages from a place on. -/
def large (f : Nat → Int × Int) (a : Nat) (m : Int) : Nat → Int × Int := fun j => if j = a then (2, m) else if a < j ∧ (j : Int) < a + m then (3, 0) else f j
theorem large_st {f : Nat → Int × Int} {a : Nat} {m : Int} (h1 : 1 ≤ m) : ∀ j : Nat, (j : Int) < m → st (large f a m) (a + j + 1) = m - j - 1
  | 0, _ => by
    unfold st
    simp [large]
  | j + 1, hj => by
    have hr := large_st (f := f) (a := a) h1 j (by omega)
    show st (large f a m) (a + j + 1 + 1) = _
    unfold st
    rw [hr]
    have e : large f a m (a + j + 1) = (3, 0) := by
      unfold large
      rw [if_neg (by omega), if_pos (by omega)]
    rw [e]
    simp
    rw [if_pos (by omega)]
    omega
theorem large_may {f : Nat → Int × Int} {n a : Nat} {m : Int} (h : mayB f n = true) (h1 : 1 ≤ m) (h4 : m ≤ 4) (ha : (a : Int) + m ≤ n) (hf : freeB f a m.toNat = true) : mayB (large f a m) n = true := by
  obtain ⟨k, rfl⟩ : ∃ k : Nat, m = k := ⟨m.toNat, by omega⟩
  simp only [Int.toNat_natCast] at hf
  have hst := free_st h (by omega) (by omega) hf
  obtain ⟨hz, hs⟩ := free_zero h (k := a) (by omega) (by simpa using (freeB_iff f a k).1 hf 0 (by omega))
  have hl : ∀ j, j < a → large f a k j = f j := fun j hj => by unfold large; rw [if_neg (by omega), if_neg (by omega)]
  have hg : st (large f a k) a = 0 := by rw [st_congr a hl, hs]
  refine may_changed (a := a) (m := k) h (by omega) hl (fun j hj => by unfold large; rw [if_neg (by omega), if_neg (by omega)]) ?_ ?_
  · have := large_st (f := f) (a := a) h1 (k - 1) (by omega)
    rw [show a + (k - 1) + 1 = a + k by omega] at this
    rw [this, hst]
    omega
  · intro j hj
    rw [okB_iff]
    match j, hj with
    | 0, _ =>
      simp only [Nat.add_zero, hg]
      refine ⟨(pmB_iff _).2 (.inr (.inr (.inl ?_))), ?_⟩
      · simp [large]; omega
      · simp [large]
    | j + 1, hj =>
      have e : large f a k (a + (j + 1)) = (3, 0) := by
        unfold large
        rw [if_neg (by omega), if_pos (by omega)]
      have es := large_st (f := f) (a := a) h1 j (by omega)
      rw [show a + (j + 1) = a + j + 1 by omega] at e ⊢
      rw [e, es]
      refine ⟨by decide, ?_⟩
      simp
      omega

/-- How many pages begin at page a, where a small or a large one does. -/
def wide (f : Nat → Int × Int) (a : Nat) : Int := if (f a).1 = 2 then (f a).2 else 1
def drop (f : Nat → Int × Int) (a : Nat) : Nat → Int × Int := fun j => if a ≤ j ∧ (j : Int) < a + wide f a then (0, 0) else f j
theorem wide_facts {f : Nat → Int × Int} {n a : Nat} (h : mayB f n = true) (ha : a < n) (hk : (f a).1 = 1 ∨ (f a).1 = 2) :
    1 ≤ wide f a ∧ wide f a ≤ 4 ∧ (a : Int) + wide f a ≤ n ∧ st f a = 0 ∧ (∀ j : Nat, (j : Int) < wide f a → st f (a + j + 1) = wide f a - j - 1 ∧ (0 < j → f (a + j) = (3, 0))) := by
  obtain ⟨h0, h1, h2, h3⟩ := (mayB_iff f n).1 h
  have ho := (okB_iff f a).1 (h2 a ha)
  have hp := (pmB_iff _).1 ho.1
  have hn := st_nonneg h2 a (by omega)
  have hz : ¬ 0 < st f a := fun hh => by have := ho.2.2 hh; omega
  have hw : 1 ≤ wide f a ∧ wide f a ≤ 4 := by
    unfold wide
    split <;> omega
  have hj : ∀ j : Nat, (j : Int) < wide f a → a + j < n → st f (a + j + 1) = wide f a - j - 1 ∧ (0 < j → f (a + j) = (3, 0)) := by
    intro j
    induction j with
    | zero =>
      intro _ _
      refine ⟨?_, fun hh => absurd hh (by omega)⟩
      show st f (a + 1) = _
      unfold st wide
      split
      · simp
      · omega
    | succ j ih =>
      intro hj hjn
      obtain ⟨e, _⟩ := ih (by omega) (by omega)
      have ho := (okB_iff f (a + j + 1)).1 (h2 (a + j + 1) (by omega))
      have h3' : (f (a + j + 1)).1 = 3 := ho.2.2 (by rw [e]; omega)
      have hp := (pmB_iff _).1 ho.1
      have ef : f (a + j + 1) = (3, 0) := Prod.ext h3' (by omega)
      refine ⟨?_, fun _ => ef⟩
      show st f (a + j + 1 + 1) = _
      unfold st
      rw [ef, e]
      simp
      rw [if_pos (by omega)]
      omega
  have hfit : (a : Int) + wide f a ≤ n := by
    by_cases hc : (a : Int) + wide f a ≤ n
    · exact hc
    · exfalso
      have := (hj (n - a - 1) (by omega) (by omega)).1
      rw [show a + (n - a - 1) + 1 = n by omega, h3] at this
      omega
  exact ⟨hw.1, hw.2, hfit, by omega, fun j hh => hj j hh (by omega)⟩
theorem drop_may {f : Nat → Int × Int} {n a : Nat} (h : mayB f n = true) (ha : a < n) (hk : (f a).1 = 1 ∨ (f a).1 = 2) : mayB (drop f a) n = true := by
  obtain ⟨h1, h4, hn, hz, hj⟩ := wide_facts h ha hk
  obtain ⟨k, ek⟩ : ∃ k : Nat, wide f a = k := ⟨(wide f a).toNat, by omega⟩
  have hl : ∀ j, j < a → drop f a j = f j := fun j hj => by unfold drop; rw [if_neg (by omega)]
  have hin : ∀ j, j < k → drop f a (a + j) = (0, 0) := fun j hj => by unfold drop; rw [if_pos (by omega)]
  have hg : ∀ j, j ≤ k → st (drop f a) (a + j) = 0 := by
    intro j
    induction j with
    | zero => intro _; rw [Nat.add_zero, st_congr a hl, hz]
    | succ j ih =>
      intro hj
      show st (drop f a) (a + j + 1) = 0
      unfold st
      rw [ih (by omega), hin j (by omega)]
      simp
  refine may_changed (a := a) (m := k) h (by omega) hl (fun j hj => by unfold drop; rw [if_neg (by omega)]) ?_ ?_
  · rw [hg k (Nat.le_refl _)]
    have := (hj (k - 1) (by omega)).1
    rw [show a + (k - 1) + 1 = a + k by omega, ek] at this
    omega
  · intro j hj
    rw [okB_iff, hin j hj, hg j (by omega)]
    exact ⟨by decide, by decide⟩

/-- How many of the first k pages are of a kind. -/
def cnt (f : Nat → Int × Int) (kind : Int) : Nat → Int
  | 0 => 0
  | k + 1 => if (f k).1 = kind then cnt f kind k + 1 else cnt f kind k
theorem cnt_bd (f : Nat → Int × Int) (kind : Int) : ∀ k : Nat, 0 ≤ cnt f kind k ∧ cnt f kind k ≤ k
  | 0 => by simp [cnt]
  | k + 1 => by
    have := cnt_bd f kind k
    unfold cnt
    split <;> omega
theorem cnt_all {f : Nat → Int × Int} {kind : Int} : ∀ {k : Nat}, (∀ j, j < k → (f j).1 = kind) → cnt f kind k = k
  | 0, _ => by simp [cnt]
  | k + 1, h => by
    unfold cnt
    rw [if_pos (h k (by omega)), cnt_all (fun j hj => h j (by omega))]
    omega
theorem cnt_lt {f : Nat → Int × Int} {kind : Int} : ∀ {k : Nat}, (∃ j, j < k ∧ (f j).1 ≠ kind) → cnt f kind k < k
  | 0, ⟨_, h, _⟩ => absurd h (by omega)
  | k + 1, ⟨j, hj, hne⟩ => by
    have hb := cnt_bd f kind k
    unfold cnt
    split
    · next he =>
      have hjk : j ≠ k := fun e => hne (e ▸ he)
      have := cnt_lt (f := f) (kind := kind) (k := k) ⟨j, by omega, hne⟩
      omega
    · omega
end Go.Proofs.YtdmclfolooiccaaGreatDoor.Cl
end
section
namespace Go.Proofs.YtdmclfolooiccaaGreatDoor.Cl
open Go.Proofs.YtdmclfolooiccaaGreatDoor
set_option maxRecDepth 100000
open Go.RowKit

theorem cnt_hit {f : Nat → Int × Int} {kind : Int} {k : Nat} (h : (f k).1 = kind) : cnt f kind (k + 1) = cnt f kind k + 1 := if_pos h
theorem cnt_miss {f : Nat → Int × Int} {kind : Int} {k : Nat} (h : (f k).1 ≠ kind) : cnt f kind (k + 1) = cnt f kind k := if_neg h

set_option maxHeartbeats 400000 in
theorem count_any (B : Nat) (A : Option Addr) (n c : Nat) (f : Nat → Int × Int) (kind : Int) (w : World) (hn : n ≤ 1000) (hr : PRow w B A n f) (hB : B ≤ w.heap.size) :
    Calls Tryz.prog 126 #[.slice A n c, .int .i64 kind] w fun e w' => e = .returned (.int .i64 (cnt f kind n)) ∧ Below w.heap.size w w' := by
  have HR := Lib.hid hr
  clear hr
  go_enter Tryz.func126, Tryz.ntmps126
  go_wp2
  go_loopw [5, 10] (fun v i wr => ∃ k : Nat, k ≤ n ∧ i = .int .i64 k ∧ v = .int .i64 (cnt f kind k) ∧ Below w.heap.size w wr) (fun _ i _ => n - (intOf i).toNat)
  case atStart => exact ⟨0, Nat.zero_le _, rfl, rfl, Below.refl _ _⟩
  case round =>
    obtain ⟨k, hk, rfl, rfl, hb⟩ := hrel
    have hd := cnt_bd f kind k
    by_cases hlt : k < n
    · obtain ⟨b, off, rfl, hbB, hc⟩ := (HR.out.over hb hB) (by omega)
      obtain ⟨c0, c1⟩ := hc k hlt
      have HB := Lib.hid hb
      have hz := hb.size
      clear hb hc
      by_cases he : (f k).1 = kind
      · have HS := Lib.hid (cnt_hit he)
        have he' : ((f k).1 == kind) = true := by simpa using he
        clear he
        go_wp2
        go_roundw
        case rel => exact ⟨k + 1, by omega, by go_num, by rw [HS.out], HB.out.alloc hz _⟩
        case measure => simp [intOf]; omega
      · have HS := Lib.hid (cnt_miss he)
        have he' : ((f k).1 == kind) = false := by simpa using he
        clear he
        go_wp2
        go_roundw
        case rel => exact ⟨k + 1, by omega, by go_num, by rw [HS.out], HB.out.alloc hz _⟩
        case measure => simp [intOf]; omega
    · go_wp2
      go_ret
      obtain rfl : k = n := by omega
      exact ⟨rfl, hb⟩

end Go.Proofs.YtdmclfolooiccaaGreatDoor.Cl
end
section
namespace Go.Proofs.YtdmclfolooiccaaGreatDoor.Cl
open Go.Proofs.YtdmclfolooiccaaGreatDoor
set_option maxRecDepth 100000
open Go.RowKit

/-- Is there such a class? May a large object have so many pages? -/
def clB (c : Int) : Bool := decide (0 ≤ c) && decide (c ≤ 2)
def runB (n : Int) : Bool := decide (1 ≤ n) && decide (n ≤ 4)
theorem clB_iff (c : Int) : clB c = true ↔ 0 ≤ c ∧ c ≤ 2 := by simp [clB]
theorem runB_iff (c : Int) : runB c = true ↔ 1 ≤ c ∧ c ≤ 4 := by simp [runB]
theorem clB_not {c : Int} (h : ¬ (0 ≤ c ∧ c ≤ 2)) : clB c = false := by
  rw [Bool.eq_false_iff]
  exact fun h' => h ((clB_iff c).1 h')
theorem runB_not {c : Int} (h : ¬ (1 ≤ c ∧ c ≤ 4)) : runB c = false := by
  rw [Bool.eq_false_iff]
  exact fun h' => h ((runB_iff c).1 h')

theorem isClass_any (c : Int) (w : World) :
    Calls Tryz.prog 125 #[.int .i64 c] w fun e w' => e = .returned (.bool (clB c)) ∧ w = w' := by
  by_cases h0 : 0 ≤ c
  · by_cases h1 : c ≤ 2
    · have e := Lib.hid ((clB_iff c).2 ⟨h0, h1⟩)
      have d0 : decide (c < 3) = true := by simp; omega
      go_enter Tryz.func125, Tryz.ntmps125
      go_wp2
      go_ret
      exact ⟨by rw [e.out]; rfl, rfl⟩
    · have e := Lib.hid (clB_not (c := c) (by omega))
      have d0 : decide (c < 3) = false := by simp; omega
      go_enter Tryz.func125, Tryz.ntmps125
      go_wp2
      go_ret
      exact ⟨by rw [e.out]; rfl, rfl⟩
  · have e := Lib.hid (clB_not (c := c) (by omega))
    have d0 : decide (0 ≤ c) = false := by simpa using h0
    go_enter Tryz.func125, Tryz.ntmps125
    go_wp2
    go_ret
    exact ⟨by rw [e.out]; rfl, rfl⟩
theorem isRun_any (c : Int) (w : World) :
    Calls Tryz.prog 111 #[.int .i64 c] w fun e w' => e = .returned (.bool (runB c)) ∧ w = w' := by
  by_cases h0 : 1 ≤ c
  · by_cases h1 : c ≤ 4
    · have e := Lib.hid ((runB_iff c).2 ⟨h0, h1⟩)
      have d0 : decide (c ≤ 4) = true := by simp; omega
      go_enter Tryz.func111, Tryz.ntmps111
      go_wp2
      go_ret
      exact ⟨by rw [e.out]; rfl, rfl⟩
    · have e := Lib.hid (runB_not (c := c) (by omega))
      have d0 : decide (c ≤ 4) = false := by simp; omega
      go_enter Tryz.func111, Tryz.ntmps111
      go_wp2
      go_ret
      exact ⟨by rw [e.out]; rfl, rfl⟩
  · have e := Lib.hid (runB_not (c := c) (by omega))
    have d0 : decide (1 ≤ c) = false := by simpa using h0
    go_enter Tryz.func111, Tryz.ntmps111
    go_wp2
    go_ret
    exact ⟨by rw [e.out]; rfl, rfl⟩

theorem pmB_small (b : Int) : pmB (1, b) = clB b := by simp [pmB, clB]
theorem pmB_large (b : Int) : pmB (2, b) = runB b := by simp [pmB, runB]
theorem pmB_free (b : Int) : pmB (0, b) = (b == 0) := by simp [pmB]
theorem pmB_rest (b : Int) : pmB (3, b) = (b == 0) := by simp [pmB]
theorem pmB_no (a b : Int) (h0 : a ≠ 0) (h1 : a ≠ 1) (h2 : a ≠ 2) (h3 : a ≠ 3) : pmB (a, b) = false := by simp [pmB, h0, h1, h2, h3]

theorem pmay_any (p : Int × Int) (w : World) :
    Calls Tryz.prog 109 #[.agg #[.int .i64 p.1, .int .i64 p.2]] w fun e w' => e = .returned (.bool (pmB p)) ∧ Below w.heap.size w w' := by
  obtain ⟨a, b⟩ := p
  show Calls Tryz.prog 109 #[.agg #[.int .i64 a, .int .i64 b]] w _
  by_cases h1 : a = 1
  · subst h1
    rw [pmB_small]
    go_enter Tryz.func109, Tryz.ntmps109
    go_wp2_with fail
    refine (isClass_any _ _).mono ?_
    rintro e w1 ⟨rfl, rfl⟩
    go_wp2
    go_ret
    exact ⟨rfl, (Below.refl _ _).alloc (Nat.le_refl _) _⟩
  by_cases h2 : a = 2
  · subst h2
    rw [pmB_large]
    go_enter Tryz.func109, Tryz.ntmps109
    go_wp2_with fail
    refine (isRun_any _ _).mono ?_
    rintro e w1 ⟨rfl, rfl⟩
    go_wp2
    go_ret
    exact ⟨rfl, (Below.refl _ _).alloc (Nat.le_refl _) _⟩
  by_cases h0 : a = 0
  · subst h0
    rw [pmB_free]
    go_enter Tryz.func109, Tryz.ntmps109
    go_wp2
    go_ret
    exact ⟨rfl, (Below.refl _ _).alloc (Nat.le_refl _) _⟩
  by_cases h3 : a = 3
  · subst h3
    rw [pmB_rest]
    go_enter Tryz.func109, Tryz.ntmps109
    go_wp2
    go_ret
    exact ⟨rfl, (Below.refl _ _).alloc (Nat.le_refl _) _⟩
  rw [pmB_no a b h0 h1 h2 h3]
  have e0 : (a == 0) = false := by simpa using h0
  have e1 : (a == 1) = false := by simpa using h1
  have e2 : (a == 2) = false := by simpa using h2
  have e3 : (a == 3) = false := by simpa using h3
  clear h0 h1 h2 h3
  go_enter Tryz.func109, Tryz.ntmps109
  go_wp2
  go_ret
  exact ⟨rfl, (Below.refl _ _).alloc (Nat.le_refl _) _⟩
end Go.Proofs.YtdmclfolooiccaaGreatDoor.Cl
end
section
namespace Go.Proofs.YtdmclfolooiccaaGreatDoor.Cl
open Go.Proofs.YtdmclfolooiccaaGreatDoor
set_option maxRecDepth 100000
open Go.RowKit

theorem pmay_yes (p : Int × Int) (w : World) (h : pmB p = true) :
    Calls Tryz.prog 109 #[.agg #[.int .i64 p.1, .int .i64 p.2]] w fun e w' => e = .returned (.bool true) ∧ Below w.heap.size w w' := by
  rw [← h]; exact pmay_any p w
theorem pmay_no (p : Int × Int) (w : World) (h : pmB p = false) :
    Calls Tryz.prog 109 #[.agg #[.int .i64 p.1, .int .i64 p.2]] w fun e w' => e = .returned (.bool false) ∧ Below w.heap.size w w' := by
  rw [← h]; exact pmay_any p w

/-- The first k pages are right. -/
def Good (f : Nat → Int × Int) (k : Nat) : Prop := ∀ j, j < k → okB f j = true
theorem Good.zero (f : Nat → Int × Int) : Good f 0 := fun j h => absurd h (by omega)
theorem Good.next {f : Nat → Int × Int} {k : Nat} (h : Good f k) (hk : okB f k = true) : Good f (k + 1) := fun j hj => by
  by_cases e : j = k
  · rw [e]; exact hk
  · exact h j (by omega)
theorem Good.st {f : Nat → Int × Int} {k : Nat} (h : Good f k) : 0 ≤ st f k ∧ st f k ≤ 3 := st_nonneg h k (Nat.le_refl _)
theorem okB_no {f : Nat → Int × Int} {k : Nat} (h : pmB (f k) = false) : okB f k = false := by simp [okB, h]
theorem okB_alone {f : Nat → Int × Int} {k : Nat} (h3 : (f k).1 = 3) (h : ¬ 0 < st f k) : okB f k = false := by simp [okB, h3]; omega
theorem okB_gap {f : Nat → Int × Int} {k : Nat} (h3 : (f k).1 ≠ 3) (h : 0 < st f k) : okB f k = false := by simp [okB, h3]; omega
theorem okB_yes {f : Nat → Int × Int} {k : Nat} (h : pmB (f k) = true) (h3 : (f k).1 = 3 ↔ 0 < st f k) : okB f k = true := (okB_iff f k).2 ⟨h, h3⟩
theorem st_large {f : Nat → Int × Int} {k : Nat} (h : (f k).1 = 2) : Go.Proofs.YtdmclfolooiccaaGreatDoor.Cl.st f (k + 1) = (f k).2 - 1 := by
  show (if (f k).1 = 2 then _ else _) = _
  rw [if_pos h]
theorem st_rest {f : Nat → Int × Int} {k : Nat} (h : (f k).1 = 3) (hs : 0 < Go.Proofs.YtdmclfolooiccaaGreatDoor.Cl.st f k) : Go.Proofs.YtdmclfolooiccaaGreatDoor.Cl.st f (k + 1) = Go.Proofs.YtdmclfolooiccaaGreatDoor.Cl.st f k - 1 := by
  show (if (f k).1 = 2 then _ else _) = _
  rw [if_neg (by omega), if_pos hs]
theorem st_same {f : Nat → Int × Int} {k : Nat} (h : (f k).1 ≠ 2) (hs : ¬ 0 < Go.Proofs.YtdmclfolooiccaaGreatDoor.Cl.st f k) : Go.Proofs.YtdmclfolooiccaaGreatDoor.Cl.st f (k + 1) = Go.Proofs.YtdmclfolooiccaaGreatDoor.Cl.st f k := by
  show (if (f k).1 = 2 then _ else _) = _
  rw [if_neg h, if_neg hs]
theorem rint {a b : Bool} (h : a = b) : Ending.returned (.bool a) = .returned (.bool b) := by rw [h]
/-- A block of two numbers that was just laid, behind a call that left it. -/
theorem pair_kept {w w1 : World} {a b : Int} {t : TypeId} (hb : Below (w.alloc (.cells #[.int .i64 a, .int .i64 b] t)).heap.size (w.alloc (.cells #[.int .i64 a, .int .i64 b] t)) w1) :
    w1.cell? ⟨w.heap.size, 0, none⟩ = some (.int .i64 a) ∧ w1.cell? ⟨w.heap.size, 1, none⟩ = some (.int .i64 b) ∧ w.heap.size < w1.heap.size := by
  refine ⟨(hb.cell (p := ⟨w.heap.size, 0, none⟩) (by simp)).trans (by simp [go_sem]), (hb.cell (p := ⟨w.heap.size, 1, none⟩) (by simp)).trans (by simp [go_sem]), ?_⟩
  have := hb.size
  simp at this
  omega
theorem below_pair {w0 w w1 : World} {o : Obj} (h : Below w0.heap.size w0 w) (hb : Below (w.alloc o).heap.size (w.alloc o) w1) : Below w0.heap.size w0 w1 :=
  (h.alloc h.size o).trans (hb.mono (by have := h.size; simp; omega))

set_option maxHeartbeats 1000000 in
theorem may_any (B : Nat) (A : Option Addr) (n c : Nat) (f : Nat → Int × Int) (w : World) (hn : n ≤ 1000) (hr : PRow w B A n f) (hB : B ≤ w.heap.size) :
    Calls Tryz.prog 77 #[.slice A n c] w fun e w' => e = .returned (.bool (mayB f n)) ∧ Below w.heap.size w w' := by
  have HR := Lib.hid hr
  clear hr
  by_cases h1 : n < 1
  · have HM := Lib.hid (mayB_short (f := f) (n := n) (.inl h1))
    obtain rfl : n = 0 := by omega
    go_enter Tryz.func77, Tryz.ntmps77
    go_wp2
    go_ret
    exact ⟨rint HM.out.symm, Below.refl _ _⟩
  by_cases h2 : 64 < n
  · have HM := Lib.hid (mayB_short (f := f) (n := n) (.inr h2))
    go_enter Tryz.func77, Tryz.ntmps77
    go_wp2
    go_ret
    exact ⟨rint HM.out.symm, Below.refl _ _⟩
  go_enter Tryz.func77, Tryz.ntmps77
  go_wp2
  go_loopw [3, 16] (fun v i wr => ∃ k : Nat, k ≤ n ∧ i = .int .i64 k ∧ v = .int .i64 (st f k) ∧ Good f k ∧ Below w.heap.size w wr) (fun _ i _ => n - (intOf i).toNat)
  case atStart => exact ⟨0, Nat.zero_le _, rfl, rfl, Good.zero f, Below.refl _ _⟩
  case round =>
    obtain ⟨k, hk, rfl, rfl, hg, hb⟩ := hrel
    have hs := hg.st
    have HG := Lib.hid hg
    clear hg
    by_cases hlt : k < n
    · obtain ⟨b, off, rfl, hbB, hc⟩ := (HR.out.over hb hB) (by omega)
      obtain ⟨c0, c1⟩ := hc k hlt
      have HB := Lib.hid hb
      have hz := hb.size
      clear hb hc
      cases hp : pmB (f k)
      · have HM := Lib.hid (mayB_not hlt (okB_no hp))
        have HP := Lib.hid hp
        clear hp
        go_wp2_with fail
        refine (pmay_no _ _ HP.out).mono ?_
        rintro e w1 ⟨rfl, hb1⟩
        go_wp2
        go_ret
        exact ⟨rint HM.out.symm, below_pair HB.out hb1⟩
      · have HP := Lib.hid hp
        by_cases h3 : (f k).1 = 3
        · have e3 : ((f k).1 == 3) = true := by simpa using h3
          have e2 : ((f k).1 == 2) = false := by rw [h3]; decide
          by_cases hs0 : 0 < st f k
          · have HS := Lib.hid (st_rest h3 hs0)
            have HO := Lib.hid (okB_yes hp ⟨fun _ => hs0, fun _ => h3⟩)
            have hd : decide (0 < st f k) = true := by simpa using hs0
            clear hp h3
            go_wp2_with fail
            refine (pmay_yes _ _ HP.out).mono ?_
            rintro e w1 ⟨rfl, hb1⟩
            have HB1 := Lib.hid hb1
            obtain ⟨k0, k1, hz1⟩ := pair_kept hb1
            clear hb1
            go_wp2
            go_roundw
            case rel => exact ⟨k + 1, by omega, by go_num, by rw [HS.out], HG.out.next HO.out, below_pair HB.out HB1.out⟩
            case measure => simp [intOf]; omega
          · have HM := Lib.hid (mayB_not hlt (okB_alone h3 hs0))
            have hd : decide (0 < st f k) = false := by simpa using hs0
            clear hp h3
            go_wp2_with fail
            refine (pmay_yes _ _ HP.out).mono ?_
            rintro e w1 ⟨rfl, hb1⟩
            have HB1 := Lib.hid hb1
            obtain ⟨k0, k1, hz1⟩ := pair_kept hb1
            clear hb1
            go_wp2
            go_ret
            exact ⟨rint HM.out.symm, below_pair HB.out HB1.out⟩
        · have e3 : ((f k).1 == 3) = false := by simpa using h3
          by_cases hs0 : 0 < st f k
          · have HM := Lib.hid (mayB_not hlt (okB_gap h3 hs0))
            have hd : decide (0 < st f k) = true := by simpa using hs0
            clear hp h3
            go_wp2_with fail
            refine (pmay_yes _ _ HP.out).mono ?_
            rintro e w1 ⟨rfl, hb1⟩
            have HB1 := Lib.hid hb1
            obtain ⟨k0, k1, hz1⟩ := pair_kept hb1
            clear hb1
            go_wp2
            go_ret
            exact ⟨rint HM.out.symm, below_pair HB.out HB1.out⟩
          · have HO := Lib.hid (okB_yes hp ⟨fun h => absurd h h3, fun h => absurd h hs0⟩)
            have hd : decide (0 < st f k) = false := by simpa using hs0
            have ha : (f k).1 = 2 → 1 ≤ (f k).2 ∧ (f k).2 ≤ 4 := fun h => by have := (pmB_iff _).1 hp; omega
            by_cases h2' : (f k).1 = 2
            · have HS := Lib.hid (st_large h2')
              have e2 : ((f k).1 == 2) = true := by simpa using h2'
              obtain ⟨a1, a2⟩ := ha h2'
              clear hp h3 h2' ha
              go_wp2_with fail
              refine (pmay_yes _ _ HP.out).mono ?_
              rintro e w1 ⟨rfl, hb1⟩
              have HB1 := Lib.hid hb1
              obtain ⟨k0, k1, hz1⟩ := pair_kept hb1
              clear hb1
              go_wp2
              go_roundw
              case rel => exact ⟨k + 1, by omega, by go_num, by rw [HS.out], HG.out.next HO.out, below_pair HB.out HB1.out⟩
              case measure => simp [intOf]; omega
            · have HS := Lib.hid (st_same h2' hs0)
              have e2 : ((f k).1 == 2) = false := by simpa using h2'
              clear hp h3 h2' ha
              go_wp2_with fail
              refine (pmay_yes _ _ HP.out).mono ?_
              rintro e w1 ⟨rfl, hb1⟩
              have HB1 := Lib.hid hb1
              obtain ⟨k0, k1, hz1⟩ := pair_kept hb1
              clear hb1
              go_wp2
              go_roundw
              case rel => exact ⟨k + 1, by omega, by go_num, by rw [HS.out], HG.out.next HO.out, below_pair HB.out HB1.out⟩
              case measure => simp [intOf]; omega
    · obtain rfl : k = n := by omega
      by_cases h0 : st f k = 0
      · have HM := Lib.hid (mayB_mk (by omega) (by omega) HG.out h0)
        have hd : (st f k == 0) = true := by simpa using h0
        clear h0
        go_wp2
        go_ret
        exact ⟨rint HM.out.symm, hb⟩
      · have HM := Lib.hid (mayB_end h0)
        have hd : (st f k == 0) = false := by simpa using h0
        clear h0
        go_wp2
        go_ret
        exact ⟨rint HM.out.symm, hb⟩
theorem may_yes (B : Nat) (A : Option Addr) (n c : Nat) (f : Nat → Int × Int) (w : World) (h : mayB f n = true) (hr : PRow w B A n f) (hB : B ≤ w.heap.size) :
    Calls Tryz.prog 77 #[.slice A n c] w fun e w' => e = .returned (.bool true) ∧ Below w.heap.size w w' := by
  rw [← h]
  have := (mayB_iff f n).1 h
  exact may_any B A n c f w (by omega) hr hB
theorem may_no (B : Nat) (A : Option Addr) (n c : Nat) (f : Nat → Int × Int) (w : World) (h : mayB f n = false) (hn : n ≤ 1000) (hr : PRow w B A n f) (hB : B ≤ w.heap.size) :
    Calls Tryz.prog 77 #[.slice A n c] w fun e w' => e = .returned (.bool false) ∧ Below w.heap.size w w' := by
  rw [← h]
  exact may_any B A n c f w hn hr hB
end Go.Proofs.YtdmclfolooiccaaGreatDoor.Cl
end
section
namespace Go.Proofs.YtdmclfolooiccaaGreatDoor.Cl
open Go.Proofs.YtdmclfolooiccaaGreatDoor
set_option maxRecDepth 100000
open Go.RowKit

theorem below_drewN {B : Nat} {w w1 : World} (h : Below B w w1) (k : Nat) : Below B w (w1.drewN k) := ⟨h.os, h.tape, h.output, h.size, h.block⟩
theorem pneq_no {a b a' b' : Int} (h : a = a' ∧ b = b') (w : World) :
    (binOp .neq 74 (.agg #[.int .i64 a, .int .i64 b]) (.agg #[.int .i64 a', .int .i64 b'])).run Tryz.prog w = .ok (.bool false) w := by
  obtain ⟨rfl, rfl⟩ := h
  go_simp
theorem pneq_yes {a b a' b' : Int} (h : ¬ (a = a' ∧ b = b')) (w : World) :
    (binOp .neq 74 (.agg #[.int .i64 a, .int .i64 b]) (.agg #[.int .i64 a', .int .i64 b'])).run Tryz.prog w = .ok (.bool true) w := by
  by_cases h0 : a = a'
  · by_cases h1 : b = b'
    · exact absurd ⟨h0, h1⟩ h
    · clear h; go_simp
  · clear h; go_simp

theorem rest_only {f : Nat → Int × Int} {k : Nat} (h : ¬ ((f k).1 = 3 ∧ (f k).2 = 0)) (hs : 0 < st f k) : okB f k = false := by
  cases he : okB f k
  · rfl
  · exfalso
    have := (okB_iff f k).1 he
    have h3 := this.2.2 hs
    have := (pmB_iff _).1 this.1
    omega
theorem rest_ok {f : Nat → Int × Int} {k : Nat} (h : (f k).1 = 3 ∧ (f k).2 = 0) (hs : 0 < st f k) : okB f k = true :=
  okB_yes ((pmB_iff _).2 (by omega)) ⟨fun _ => hs, fun _ => h.1⟩
theorem head_only {f : Nat → Int × Int} {k : Nat} (h0 : ¬ ((f k).1 = 0 ∧ (f k).2 = 0)) (h1 : ¬ ((f k).1 = 1 ∧ 0 ≤ (f k).2 ∧ (f k).2 ≤ 2)) (h2 : ¬ ((f k).1 = 2 ∧ 1 ≤ (f k).2 ∧ (f k).2 ≤ 4)) (hs : st f k = 0) : okB f k = false := by
  cases he : okB f k
  · rfl
  · exfalso
    have := (okB_iff f k).1 he
    have h3 : (f k).1 ≠ 3 := fun h => by have := this.2.1 h; omega
    have := (pmB_iff _).1 this.1
    omega
theorem alone_ok {f : Nat → Int × Int} {k : Nat} (h : ((f k).1 = 0 ∧ (f k).2 = 0) ∨ ((f k).1 = 1 ∧ 0 ≤ (f k).2 ∧ (f k).2 ≤ 2)) (hs : st f k = 0) : okB f k = true ∧ st f (k + 1) = 0 :=
  ⟨okB_yes ((pmB_iff _).2 (by omega)) ⟨fun h => by omega, fun h => by omega⟩, by rw [st_same (by omega) (by omega), hs]⟩
theorem large_ok {f : Nat → Int × Int} {k : Nat} (h : (f k).1 = 2 ∧ 1 ≤ (f k).2 ∧ (f k).2 ≤ 4) (hs : st f k = 0) : okB f k = true ∧ st f (k + 1) = (f k).2 - 1 :=
  ⟨okB_yes ((pmB_iff _).2 (by omega)) ⟨fun h => by omega, fun h => by omega⟩, st_large h.1⟩

set_option maxHeartbeats 2000000 in
theorem rmay_any (B : Nat) (A : Option Addr) (n c : Nat) (f : Nat → Int × Int) (w : World) (hn : n ≤ 1000) (hr : PRow w B A n f) (hB : B ≤ w.heap.size) :
    Calls Tryz.prog 61 #[.slice A n c] w fun e w' => e = .returned (.bool (mayB f n)) ∧ Below w.heap.size w w' := by
  have HR := Lib.hid hr
  clear hr
  by_cases h1 : n < 1
  · have HM := Lib.hid (mayB_short (f := f) (n := n) (.inl h1))
    obtain rfl : n = 0 := by omega
    go_enter Tryz.func61, Tryz.ntmps61
    go_wp2
    go_ret
    exact ⟨rint HM.out.symm, Below.refl _ _⟩
  by_cases h2 : 64 < n
  · have HM := Lib.hid (mayB_short (f := f) (n := n) (.inr h2))
    go_enter Tryz.func61, Tryz.ntmps61
    go_wp2
    go_ret
    exact ⟨rint HM.out.symm, Below.refl _ _⟩
  go_enter Tryz.func61, Tryz.ntmps61
  go_wp2
  go_loopw [3] (fun i wr => ∃ k : Nat, k ≤ n ∧ i = .int .i64 k ∧ Hid (st f k = 0) ∧ Good f k ∧ Below w.heap.size w wr) (fun i _ => n - (intOf i).toNat)
  case atStart => exact ⟨0, Nat.zero_le _, rfl, Lib.hid rfl, Good.zero f, Below.refl _ _⟩
  case round =>
    obtain ⟨k, hk, rfl, HZ, hg, hb⟩ := hrel
    have HG := Lib.hid hg
    clear hg
    by_cases hlt : k < n
    · obtain ⟨b, off, rfl, hbB, hc⟩ := (HR.out.over hb hB) (by omega)
      obtain ⟨c0, c1⟩ := hc k hlt
      have HB := Lib.hid hb
      have hz := hb.size
      clear hb hc
      by_cases g0 : (f k).1 = 0 ∧ (f k).2 = 0
      · obtain ⟨ho, hs⟩ := alone_ok (.inl g0) HZ.out
        have HO := Lib.hid ho
        have HS := Lib.hid hs
        have e0 : ((f k).1 == 0) = true := by simpa using g0.1
        have e1 : ((f k).2 == 0) = true := by simpa using g0.2
        clear ho hs g0
        go_wp2
        go_roundw
        case rel => exact ⟨k + 1, by omega, by go_num, HS, HG.out.next HO.out, HB.out.alloc hz _⟩
        case measure => simp [intOf]; omega
      by_cases g1 : (f k).1 = 1 ∧ 0 ≤ (f k).2 ∧ (f k).2 ≤ 2
      · obtain ⟨ho, hs⟩ := alone_ok (.inr g1) HZ.out
        have HO := Lib.hid ho
        have HS := Lib.hid hs
        have e0 : ((f k).1 == 0) = false := by rw [g1.1]; decide
        have e1 : ((f k).1 == 1) = true := by simpa using g1.1
        have d0 : decide (0 ≤ (f k).2) = true := by simpa using g1.2.1
        have d1 : decide ((f k).2 ≤ 2) = true := by simpa using g1.2.2
        clear ho hs g0 g1
        go_wp2
        go_roundw
        case rel => exact ⟨k + 1, by omega, by go_num, HS, HG.out.next HO.out, HB.out.alloc hz _⟩
        case measure => simp [intOf]; omega
      by_cases g2 : (f k).1 = 2 ∧ 1 ≤ (f k).2 ∧ (f k).2 ≤ 4
      · obtain ⟨ho, hs⟩ := large_ok g2 HZ.out
        have HO := Lib.hid ho
        have HS := Lib.hid hs
        obtain ⟨g20, g21, g22⟩ := g2
        have G20 := Lib.hid g20
        have e0 : ((f k).1 == 0) = false := by rw [g20]; decide
        have e1 : ((f k).1 == 1) = false := by rw [g20]; decide
        have e2 : ((f k).1 != 2) = false := by rw [g20]; decide
        have d0 : decide ((f k).2 < 1) = false := by simp; omega
        have d1 : decide (4 < (f k).2) = false := by simp; omega
        clear ho hs g0 g1 g20
        obtain ⟨wo, rfl⟩ : ∃ wo : World, wo = wr := ⟨_, rfl⟩
        go_wp2
        go_loopw [3, 5] (fun i j wi => ∃ m q : Nat, 1 ≤ m ∧ (m : Int) ≤ (f k).2 ∧ q ≤ n ∧ k + m ≤ q ∧ q ≤ k + m ∧ j = .int .i64 m ∧ i = .int .i64 q ∧ Hid (st f q = (f k).2 - m) ∧ Good f q ∧
          Below (wo.alloc (.cells #[.int .i64 (f k).1, .int .i64 (f k).2] 74)).heap.size (wo.alloc (.cells #[.int .i64 (f k).1, .int .i64 (f k).2] 74)) wi) (fun _ j _ => ((f k).2 - intOf j).toNat)
        case atStart => exact ⟨1, k + 1, by omega, by omega, by omega, by omega, by omega, rfl, by go_num, Lib.hid HS.out, HG.out.next HO.out, Below.refl _ _⟩
        case round =>
          obtain ⟨m, q, hm1, hm2, hqn, hq1, hq2, rfl, rfl, HT, hg2, hb2⟩ := hrel
          have HG2 := Lib.hid hg2
          obtain ⟨k0, k1, hz1⟩ := pair_kept hb2
          have HB2 := Lib.hid hb2
          have HB3 := Lib.hid (below_pair HB.out hb2)
          have hz3 := HB3.out.size
          have hz4 := hb2.size
          clear hg2
          by_cases hm : (m : Int) < (f k).2
          · have hd : decide ((m : Int) < (f k).2) = true := by simpa using hm
            by_cases hkn : q < n
            · obtain ⟨b', off', ea, hb', hc'⟩ := (HR.out.over HB3.out hB) (by omega)
              simp at ea
              obtain ⟨rfl, rfl⟩ := ea
              obtain ⟨p0, p1⟩ := hc' q hkn
              have hbw : b < wr.heap.size := by omega
              clear hc' hb2
              have h0s : 0 < st f q := by rw [HT.out]; omega
              have hdn : decide (n ≤ q) = false := by simp; omega
              by_cases hrest : (f q).1 = 3 ∧ (f q).2 = 0
              · have HO2 := Lib.hid (rest_ok hrest h0s)
                have HS2 := Lib.hid (st_rest hrest.1 h0s)
                have HQ := pneq_no hrest
                clear hrest h0s
                go_wp2
                go_quiet (fail)
                go_wp2
                go_roundw
                case rel => exact ⟨m + 1, q + 1, by omega, by omega, by omega, by omega, by omega, by go_num, by go_num, Lib.hid (by have := HT.out; have := HS2.out; omega), HG2.out.next HO2.out, below_drewN (HB2.out.alloc hz4 _) _⟩
                case measure => simp [intOf]; omega
              · have HM := Lib.hid (mayB_not hkn (rest_only hrest h0s))
                have HQ := pneq_yes hrest
                clear hrest h0s
                go_wp2
                go_quiet (fail)
                go_wp2
                go_ret
                exact ⟨rint HM.out.symm, below_drewN (HB3.out.alloc hz3 _) _⟩
            · obtain rfl : n = q := by omega
              have HM := Lib.hid (mayB_end (f := f) (n := n) (by rw [HT.out]; omega))
              clear hb2
              go_wp2
              go_quiet (fail)
              go_wp2
              go_ret
              exact ⟨rint HM.out.symm, below_drewN (HB3.out.alloc hz3 _) _⟩
          · have hd : decide ((m : Int) < (f k).2) = false := by simpa using hm
            have HE := Lib.hid (show st f q = 0 by rw [HT.out]; omega)
            clear hb2
            go_wp2
            go_roundw
            case rel => exact ⟨q, by assumption, rfl, HE, HG2.out, HB3.out⟩
            case measure => simp [intOf]; omega
      · have HM := Lib.hid (mayB_not hlt (head_only g0 g1 g2 HZ.out))
        have G0 := Lib.hid g0
        have G1 := Lib.hid g1
        have G2 := Lib.hid g2
        clear g0 g1 g2
        go_wp2
        all_goals first
          | (go_ret; exact ⟨rint HM.out.symm, HB.out.alloc hz _⟩)
          | (exfalso; have g0 := G0.out; have g1 := G1.out; have g2 := G2.out; omega)
          | (exfalso; have g0 := G0.out; have g1 := G1.out; have g2 := G2.out; simp_all)
    · obtain rfl : k = n := by omega
      have HM := Lib.hid (mayB_mk (by omega) (by omega) HG.out HZ.out)
      go_wp2
      go_ret
      exact ⟨rint HM.out.symm, hb⟩
theorem rmay_yes (B : Nat) (A : Option Addr) (n c : Nat) (f : Nat → Int × Int) (w : World) (h : mayB f n = true) (hr : PRow w B A n f) (hB : B ≤ w.heap.size) :
    Calls Tryz.prog 61 #[.slice A n c] w fun e w' => e = .returned (.bool true) ∧ Below w.heap.size w w' := by
  rw [← h]
  have := (mayB_iff f n).1 h
  exact rmay_any B A n c f w (by omega) hr hB
theorem rmay_no (B : Nat) (A : Option Addr) (n c : Nat) (f : Nat → Int × Int) (w : World) (h : mayB f n = false) (hn : n ≤ 1000) (hr : PRow w B A n f) (hB : B ≤ w.heap.size) :
    Calls Tryz.prog 61 #[.slice A n c] w fun e w' => e = .returned (.bool false) ∧ Below w.heap.size w w' := by
  rw [← h]
  exact rmay_any B A n c f w hn hr hB
end Go.Proofs.YtdmclfolooiccaaGreatDoor.Cl
end
section
namespace Go.Proofs.YtdmclfolooiccaaGreatDoor.Cl
open Go.Proofs.YtdmclfolooiccaaGreatDoor
set_option maxRecDepth 100000
open Go.RowKit

/-- How many cells begin on a page, and how many words each has. -/
def numOf (p : Int × Int) : Nat := if p.1 = 1 then (if p.2 = 0 then 8 else if p.2 = 1 then 4 else if p.2 = 2 then 2 else 0) else if p.1 = 2 then 1 else 0
def roomOf (p : Int × Int) : Int := if p.1 = 1 then wordsOf p.2 else if p.1 = 2 then p.2 * 16 else 0
/-- The pages that may be, seen alone. -/
theorem pm_cases {p : Int × Int} (h : pmB p = true) : p = (0, 0) ∨ p = (1, 0) ∨ p = (1, 1) ∨ p = (1, 2) ∨ p = (2, 1) ∨ p = (2, 2) ∨ p = (2, 3) ∨ p = (2, 4) ∨ p = (3, 0) := by
  obtain ⟨a, b⟩ := p
  have := (pmB_iff _).1 h
  simp only [Prod.mk.injEq]
  simp only at this
  omega
theorem num_room {p : Int × Int} (h : pmB p = true) : numOf p ≤ 8 ∧ 0 ≤ roomOf p ∧ roomOf p ≤ 64 := by
  rcases pm_cases h with rfl | rfl | rfl | rfl | rfl | rfl | rfl | rfl | rfl <;> decide

theorem Sz.over {w w' : World} (h : Sz w) {B : Nat} (hb : Below B w w') (hB : 0 < B) : Sz w' :=
  ⟨(hb.cell (p := ⟨0, 0, none⟩) hB).trans h.1, (hb.cell (p := ⟨0, 1, none⟩) hB).trans h.2.1, (hb.cell (p := ⟨0, 2, none⟩) hB).trans h.2.2⟩
theorem Sz.pos {w : World} (h : Sz w) : 0 < w.heap.size := World.block_lt_of_cell? w _ h.1
theorem Sz.alloc {w : World} (h : Sz w) (o : Obj) : Sz (w.alloc o) := h.over ((Below.refl _ _).alloc (Nat.le_refl _) o) h.pos
theorem Sz.drewN {w : World} (h : Sz w) (k : Nat) : Sz (w.drewN k) := h
theorem cells_same {w : World} {c : Int} {m : Int} (h : perPage c = m) (hz : Sz w) : Calls Tryz.prog 137 #[.int .i64 c] w fun e w' => e = .returned (.int .i64 m) ∧ w' = w := by
  rw [← h]; exact (cells_of c w hz).mono fun _ _ ⟨h1, h2⟩ => ⟨h1, h2.symm⟩
theorem words_same {w : World} {c : Int} {m : Int} (h : wordsOf c = m) (hz : Sz w) : Calls Tryz.prog 138 #[.int .i64 c] w fun e w' => e = .returned (.int .i64 m) ∧ w' = w := by
  rw [← h]; exact (words_of c w hz).mono fun _ _ ⟨h1, h2⟩ => ⟨h1, h2.symm⟩

theorem shape_small (c : Int) (a b : Int) (w : World) (hz : Sz w) (ha : perPage c = a) (hb : wordsOf c = b) :
    Calls Tryz.prog 134 #[.agg #[.int .i64 1, .int .i64 c]] w fun e w' => e = .returned (.tuple #[.int .i64 a, .int .i64 b]) ∧ Below w.heap.size w w' := by
  have H := Lib.hid hz
  have H1 := Lib.hid ha
  have H2 := Lib.hid hb
  have HA : Hid (Sz (w.alloc (.cells #[.int .i64 1, .int .i64 c] 74))) := Lib.hid (hz.alloc _)
  clear hz ha hb
  go_enter Tryz.func134, Tryz.ntmps134
  go_wp2
  go_quiet (first | (go_at_call 137; exact Calls.quiet_of_same (cells_same H1.out (HA.out.drewN _))) | (go_at_call 138; exact Calls.quiet_of_same (words_same H2.out (HA.out.drewN _))))
  go_wp2
  go_ret2
  exact ⟨rfl, below_drewN ((Below.refl _ _).alloc (Nat.le_refl _) _) _⟩
theorem shape_large (c : Int) (a : Int) (w : World) (h0 : 0 ≤ c) (h1 : c ≤ 4) (ha : c * 16 = a) :
    Calls Tryz.prog 134 #[.agg #[.int .i64 2, .int .i64 c]] w fun e w' => e = .returned (.tuple #[.int .i64 1, .int .i64 a]) ∧ Below w.heap.size w w' := by
  subst ha
  have hs : IntKind.i64.wrap (c * 16) = c * 16 := IntWalk.i64_in _ (by omega)
  go_enter Tryz.func134, Tryz.ntmps134
  go_wp2
  go_quiet (fail)
  go_wp2
  go_ret2
  exact ⟨rfl, below_drewN ((Below.refl _ _).alloc (Nat.le_refl _) _) _⟩
theorem shape_none (c k : Int) (w : World) (h1 : k ≠ 1) (h2 : k ≠ 2) :
    Calls Tryz.prog 134 #[.agg #[.int .i64 k, .int .i64 c]] w fun e w' => e = .returned (.tuple #[.int .i64 0, .int .i64 0]) ∧ Below w.heap.size w w' := by
  have e1 : (k == 1) = false := by simpa using h1
  have e2 : (k == 2) = false := by simpa using h2
  clear h1 h2
  go_enter Tryz.func134, Tryz.ntmps134
  go_wp2
  go_ret2
  exact ⟨rfl, (Below.refl _ _).alloc (Nat.le_refl _) _⟩
theorem shape_any (p : Int × Int) (w : World) (hz : Sz w) (h : pmB p = true) :
    Calls Tryz.prog 134 #[.agg #[.int .i64 p.1, .int .i64 p.2]] w fun e w' => e = .returned (.tuple #[.int .i64 (numOf p), .int .i64 (roomOf p)]) ∧ Below w.heap.size w w' := by
  rcases pm_cases h with rfl | rfl | rfl | rfl | rfl | rfl | rfl | rfl | rfl
  · exact shape_none 0 0 w (by decide) (by decide)
  · exact shape_small 0 8 2 w hz (by decide) (by decide)
  · exact shape_small 1 4 4 w hz (by decide) (by decide)
  · exact shape_small 2 2 8 w hz (by decide) (by decide)
  · exact shape_large 1 16 w (by decide) (by decide) (by decide)
  · exact shape_large 2 32 w (by decide) (by decide) (by decide)
  · exact shape_large 3 48 w (by decide) (by decide) (by decide)
  · exact shape_large 4 64 w (by decide) (by decide) (by decide)
  · exact shape_none 0 3 w (by decide) (by decide)

/-- The value that hands on the cells of a page: what it has captured. -/
def Seqd (w : World) (k num : Nat) (room : Int) (e : Ending) (w' : World) : Prop :=
  ∃ b0 b1 b2, e = .returned (.func (.func 135) #[] #[.pointer (some ⟨b0, 0, none⟩), .pointer (some ⟨b1, 0, none⟩), .pointer (some ⟨b2, 0, none⟩)]) ∧
    (w.heap.size ≤ b0 ∧ w.heap.size ≤ b1 ∧ w.heap.size ≤ b2) ∧
    w'.cell? ⟨b0, 0, none⟩ = some (.int .i64 k) ∧ w'.cell? ⟨b1, 0, none⟩ = some (.int .i64 num) ∧ w'.cell? ⟨b2, 0, none⟩ = some (.int .i64 room) ∧ Below w.heap.size w w'

theorem on_any (B : Nat) (A : Option Addr) (n c : Nat) (f : Nat → Int × Int) (k : Nat) (w : World) (hz : Sz w) (hn : n ≤ 1000) (hk : k < n) (hp : pmB (f k) = true) (hr : PRow w B A n f) (hB : B ≤ w.heap.size) :
    Calls Tryz.prog 124 #[.slice A n c, .int .i64 k] w (Seqd w k (numOf (f k)) (roomOf (f k))) := by
  have H := Lib.hid hz
  have HP := Lib.hid hp
  have HA : Hid (Sz (w.alloc (.cells #[.int .i64 k] 3))) := Lib.hid (hz.alloc _)
  obtain ⟨b, off, rfl, hbB, hc⟩ := hr (by omega)
  obtain ⟨c0, c1⟩ := hc k hk
  have hbw : b < w.heap.size := by omega
  clear hz hp hc hr
  go_enter Tryz.func124, Tryz.ntmps124
  go_wp2_with fail
  refine (shape_any _ _ HA.out HP.out).mono ?_
  rintro e w1 ⟨rfl, hb1⟩
  have k0 : w1.cell? ⟨w.heap.size, 0, none⟩ = some (.int .i64 k) := (hb1.cell (p := ⟨w.heap.size, 0, none⟩) (by simp)).trans (by simp [go_sem])
  have hs1 : w.heap.size < w1.heap.size := by have := hb1.size; simp at this; omega
  have HB := Lib.hid (below_pair (Below.refl w.heap.size w) hb1)
  clear hb1
  go_wp2
  go_ret
  refine ⟨w.heap.size, w1.heap.size, w1.heap.size + 1, rfl, ⟨Nat.le_refl _, by omega, by omega⟩, ?_, ?_, ?_, ?_⟩
  · rw [← k0]
    exact (((Below.refl w1.heap.size w1).alloc (Nat.le_refl _) _).alloc (by simp) _).cell (p := ⟨w.heap.size, 0, none⟩) hs1
  · simp [go_sem]
  · simp [go_sem]
  · exact (HB.out.alloc (by omega) _).alloc (by simp; omega) _
end Go.Proofs.YtdmclfolooiccaaGreatDoor.Cl
end
