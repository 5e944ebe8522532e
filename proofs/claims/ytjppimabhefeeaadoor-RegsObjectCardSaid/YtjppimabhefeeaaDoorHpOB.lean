/-
  Merged texts: LsAll, PgRow, HpRow, Bits, Word, Calls, Unpack, Awake, Ref, RefUn, HpUn, ClsWalks, ClsCalls, ClsRef, HpCell, PgPlain, PgCount.
-/
import Derived.Test.YtjppimabhefeeaaDoorHpOA
import Derived.Deep.LoopGhost
import Derived.Below
import Derived.Laws.OwnMore
import Derived.Deep.Draws
import Derived.WalkKit
import Derived.Lib.Hide
import Derived.Test.YtjppimabhefeeaaDoorRows
import Derived.WalkSmall
import Derived.RegionTactic
import Derived.ChangeAlike
import Derived.Deep.QuietTactic
import Derived.BigQuiet
import Derived.LoopTactic
import Derived.WalkSpells
section
namespace Go.Proofs.YtjppimabhefeeaaDoor.Ls
open Go.Proofs.YtjppimabhefeeaaDoor
set_option maxRecDepth 100000
open Go.RowKit

/-- A slice of lists: each element's three cells hold slices, which are rows. -/
def LRow (w : World) (B : Nat) (A : Option Addr) (n : Nat) (u : Nat → Nat → Sl) (f : Nat → Nat → List Int) : Prop :=
  0 < n → ∃ b off, A = some ⟨b, off, none⟩ ∧ b < B ∧ ∀ i, i < n → (∀ j, j < 3 → w.cell? ⟨b, off + i * 3 + j, none⟩ = some (.slice (u i j).a (u i j).n (u i j).c)) ∧ L3 w B (u i) (f i)
theorem LRow.below {w w' : World} {B n : Nat} {A : Option Addr} {u : Nat → Nat → Sl} {f : Nat → Nat → List Int} (h : LRow w B A n u f) (hb : Below B w w') : LRow w' B A n u f := fun hn => by
  obtain ⟨b, off, e, hlt, hc⟩ := h hn
  exact ⟨b, off, e, hlt, fun i hi => ⟨fun j hj => (hb.cell (p := ⟨b, off + i * 3 + j, none⟩) hlt).trans ((hc i hi).1 j hj), (hc i hi).2.below hb⟩⟩
theorem LRow.over {w w' : World} {B C n : Nat} {A : Option Addr} {u : Nat → Nat → Sl} {f : Nat → Nat → List Int} (h : LRow w B A n u f) (hb : Below C w w') (hB : B ≤ C) : LRow w' B A n u f := h.below (hb.mono hB)

def upTo (g : Nat → List Int) (j : Nat) : List Int := (List.range j).flatMap g
theorem upTo_succ (g : Nat → List Int) (j : Nat) : upTo g (j + 1) = upTo g j ++ g j := by simp [upTo, List.range_succ, List.flatMap_append]
def allOf (f : Nat → Nat → List Int) (n : Nat) : List Int := (List.range n).flatMap fun i => upTo (f i) 3
theorem allOf_succ (f : Nat → Nat → List Int) (n : Nat) : allOf f (n + 1) = allOf f n ++ upTo (f n) 3 := by simp [allOf, List.range_succ, List.flatMap_append]
theorem upTo_le (g : Nat → List Int) : ∀ {j k : Nat}, j ≤ k → (upTo g j).length ≤ (upTo g k).length
  | j, k, h => by
    induction k with
    | zero => have : j = 0 := by omega
              rw [this]; exact Nat.le_refl _
    | succ k ih =>
      by_cases e : j = k + 1
      · rw [e]; exact Nat.le_refl _
      · have := ih (by omega)
        rw [upTo_succ, List.length_append]
        omega
theorem allOf_le (f : Nat → Nat → List Int) : ∀ {j k : Nat}, j ≤ k → (allOf f j).length ≤ (allOf f k).length
  | j, k, h => by
    induction k with
    | zero => have : j = 0 := by omega
              rw [this]; exact Nat.le_refl _
    | succ k ih =>
      by_cases e : j = k + 1
      · rw [e]; exact Nat.le_refl _
      · have := ih (by omega)
        rw [allOf_succ, List.length_append]
        omega
theorem part_len (f : Nat → Nat → List Int) {n k j : Nat} (hk : k < n) (hj : j < 3) : (allOf f k).length + (upTo (f k) j).length + (f k j).length ≤ (allOf f n).length := by
  have h1 := allOf_le f (show k + 1 ≤ n by omega)
  have h2 := upTo_le (f k) (show j + 1 ≤ 3 by omega)
  rw [allOf_succ, List.length_append] at h1
  rw [upTo_succ, List.length_append] at h2
  omega

/-- A list of the call's own was returned. -/
def AllOut (w : World) (xs : List Int) (e : Ending) (w' : World) : Prop := ∃ s : Sl, e = .returned (.slice s.a s.n s.c) ∧ w'.ownsRow w.heap.size 3 1 (.slice s.a s.n s.c) s.n (xs.map (Value.int .i64)) ∧ Below w.heap.size w w'
structure Alling (w wr : World) (s : Sl) (xs : List Int) : Prop where
  own : wr.ownsRow w.heap.size 3 1 (.slice s.a s.n s.c) s.n (xs.map (Value.int .i64))
  bel : Below w.heap.size w wr
theorem Alling.len {w wr : World} {s : Sl} {xs : List Int} (h : Alling w wr s xs) : s.n = xs.length := by have := h.own.1; simpa using this.symm
theorem Alling.alloc {w wr : World} {s : Sl} {xs : List Int} (h : Alling w wr s xs) (o : Obj) : Alling w (wr.alloc o) s xs := ⟨h.own.alloc o, h.bel.alloc h.bel.size o⟩
theorem Alling.cat {w wr w2 : World} {s t : Sl} {xs ys : List Int} (h : Alling w wr s xs) (hc : Catted wr w.heap.size (.slice s.a s.n s.c) t ys w2) : Alling w w2 t ys :=
  ⟨hc.own, h.bel.grown hc.grown h.bel.size (fun k hk => (h.own.lt k hk).1)⟩

set_option maxHeartbeats 1000000 in
theorem all_any (B : Nat) (A : Option Addr) (n c : Nat) (u : Nat → Nat → Sl) (f : Nat → Nat → List Int) (w : World) (h : LRow w B A n u f) (hB : B ≤ w.heap.size) (hn : n ≤ 1000000) (hlen : (allOf f n).length ≤ 2000000) :
    Calls Tryd.prog 62 #[.slice A n c] w (AllOut w (allOf f n)) := by
  have HL := Lib.hid h
  have HN := Lib.hid hlen
  clear h hlen
  go_enter Tryd.func62, Tryd.ntmps62
  go_wp2
  go_loopw [3, 10] (fun a i wr => ∃ (s : Sl) (k : Nat), k ≤ n ∧ a = .slice s.a s.n s.c ∧ i = .int .i64 k ∧ Hid (Alling w wr s (allOf f k))) (fun _ i _ => n - (intOf i).toNat)
  case atStart => exact ⟨⟨none, 0, 0⟩, 0, Nat.zero_le _, rfl, rfl, Lib.hid ⟨World.ownsRow_nil _ _ _ _, Below.refl _ _⟩⟩
  case round =>
    obtain ⟨s, k, hk, rfl, rfl, HA⟩ := hrel
    by_cases hlt : k < n
    · obtain ⟨b, off, rfl, hbB, hc⟩ := HL.out.over HA.out.bel hB (by omega)
      obtain ⟨hcell, hl3⟩ := hc k hlt
      have c0 := hcell 0 (by decide)
      have c1 := hcell 1 (by decide)
      have c2 := hcell 2 (by decide)
      rw [Nat.add_zero] at c0
      have hbs : b < wr.heap.size := by have := HA.out.bel.size; omega
      have HR3 := Lib.hid hl3
      have hwr := HA.out.bel.size
      clear hc hcell hl3
      obtain ⟨wo, rfl⟩ : ∃ wo : World, wo = wr := ⟨_, rfl⟩
      go_wp2
      go_loopw [3, 15] (fun a i wr => ∃ (s : Sl) (j : Nat), j ≤ 3 ∧ a = .slice s.a s.n s.c ∧ i = .int .i64 j ∧ Hid (Alling w wr s (allOf f k ++ upTo (f k) j) ∧ Below B wo wr)) (fun _ i _ => 3 - (intOf i).toNat)
      case atStart =>
        refine ⟨s, 0, by omega, rfl, rfl, Lib.hid ⟨?_, (Below.refl _ _).alloc (by omega) _⟩⟩
        have := HA.out.alloc (.cells #[.slice (u k 0).a (u k 0).n (u k 0).c, .slice (u k 1).a (u k 1).n (u k 1).c, .slice (u k 2).a (u k 2).n (u k 2).c] 25)
        simpa [upTo] using this
      case round =>
        obtain ⟨t, j, hj, rfl, rfl, HI⟩ := hrel
        by_cases hlt3 : j < 3
        · have hix := index_of (u k) j hlt3
          have hsum : t.n + (u k j).n ≤ 4000000 := by
            have h1 := HI.out.1.len
            have h2 := HR3.out.len j hlt3
            have h3 := part_len f hlt hlt3
            have h4 := HN.out
            rw [List.length_append] at h1
            omega
          go_wp2_with (at_builtin; refine list_cat rfl _ _ rfl rfl rfl HI.out.1.own ((HR3.out j hlt3).1.below HI.out.2) HI.out.1.bel.size hsum ?_)
          intro p' cp' w2 hcat
          have hA2 := HI.out.1.cat hcat
          have B2 : Below B wr w2 := (Below.refl _ _).grown hcat.grown (by have := HI.out.1.bel.size; omega) (fun q hq => by have := (HI.out.1.own.lt q hq).1; omega)
          rw [← upTo_succ] at hA2
          have H2 := Lib.hid (And.intro hA2 (HI.out.2.trans B2))
          clear hcat hA2 B2
          go_wp2
          go_roundw
          case rel => exact ⟨⟨p', t.n + (u k j).n, cp'⟩, j + 1, by omega, rfl, by go_num, H2⟩
          case measure => simp [intOf]; omega
        · obtain rfl : j = 3 := by omega
          have H3 := HI.out.1
          rw [← allOf_succ] at H3
          have H4 := Lib.hid H3
          clear H3
          go_wp2
          go_roundw
          case rel => exact ⟨t, k + 1, by omega, rfl, by go_num, H4⟩
          case measure => simp [intOf]; omega
    · obtain rfl : k = n := by omega
      go_wp2
      go_ret
      exact ⟨s, rfl, HA.out.own, HA.out.bel⟩
theorem upTo_take (g : Nat → List Int) (j : Nat) : upTo g j ++ (g j).take (g j).length = upTo g (j + 1) := by rw [List.take_length, upTo_succ]

set_option maxHeartbeats 1000000 in
theorem rall_any (B : Nat) (A : Option Addr) (n c : Nat) (u : Nat → Nat → Sl) (f : Nat → Nat → List Int) (w : World) (h : LRow w B A n u f) (hB : B ≤ w.heap.size) (hn : n ≤ 1000000) (hlen : (allOf f n).length ≤ 2000000) :
    Calls Tryd.prog 50 #[.slice A n c] w (AllOut w (allOf f n)) := by
  have HL := Lib.hid h
  have HN := Lib.hid hlen
  clear h hlen
  go_enter Tryd.func50, Tryd.ntmps50
  go_wp2
  go_loopw [3, 4] (fun a i wr => ∃ (s : Sl) (k : Nat), k ≤ n ∧ a = .slice s.a s.n s.c ∧ i = .int .i64 k ∧ Hid (Alling w wr s (allOf f k))) (fun _ i _ => n - (intOf i).toNat)
  case atStart => exact ⟨⟨none, 0, 0⟩, 0, Nat.zero_le _, rfl, rfl, Lib.hid ⟨World.ownsRow_nil _ _ _ _, Below.refl _ _⟩⟩
  case round =>
    obtain ⟨s, k, hk, rfl, rfl, HA⟩ := hrel
    by_cases hlt : k < n
    · obtain ⟨b, off, rfl, hbB, hc⟩ := HL.out (by omega)
      have HC := Lib.hid (hc k hlt)
      clear hc
      obtain ⟨wo, rfl⟩ : ∃ wo : World, wo = wr := ⟨_, rfl⟩
      go_wp2
      go_loopw [3, 5] (fun a i wr => ∃ (s : Sl) (j : Nat), j ≤ 3 ∧ a = .slice s.a s.n s.c ∧ i = .int .i64 j ∧ Hid (Alling w wr s (allOf f k ++ upTo (f k) j))) (fun _ i _ => 3 - (intOf i).toNat)
      case atStart => exact ⟨s, 0, by omega, rfl, rfl, Lib.hid (by have := HA.out; simpa [upTo] using this)⟩
      case round =>
        obtain ⟨t, j, hj, rfl, rfl, HI⟩ := hrel
        by_cases hlt3 : j < 3
        · have HX := Lib.hid (part_len f hlt hlt3)
          obtain ⟨wi, rfl⟩ : ∃ wi : World, wi = wr := ⟨_, rfl⟩
          have hlt3' : (j : Int) < 3 := by omega
          go_wp2
          have J3 := Lib.hid hlt3
          go_loopw [3, 6] (fun a i wr => ∃ (s : Sl) (q : Nat), q ≤ (u k j).n ∧ a = .slice s.a s.n s.c ∧ i = .int .i64 q ∧ Hid (Alling w wr s (allOf f k ++ (upTo (f k) j ++ (f k j).take q)))) (fun _ i _ => (u k j).n - (intOf i).toNat)
          case atStart => exact ⟨t, 0, Nat.zero_le _, rfl, rfl, Lib.hid (by have := HI.out; simpa using this)⟩
          case round =>
            obtain ⟨p, q, hq, rfl, rfl, HQ⟩ := hrel
            have hl3 := (HC.out.2.over HQ.out.bel hB) j J3.out
            have hcj := ((HQ.out.bel.mono hB).cell (p := ⟨b, off + k * 3 + j, none⟩) hbB).trans (HC.out.1 j J3.out)
            have hbs : b < wr.heap.size := by have := HQ.out.bel.size; omega
            have hlen' := hl3.1.1.symm
            by_cases hltq : q < (u k j).n
            · obtain ⟨b2, off2, e2, hb2, hc2⟩ := hl3.1.2 (by omega)
              have hnum := hc2 q hltq
              have hbs2 : b2 < wr.heap.size := by have := HQ.out.bel.size; omega
              clear hc2 hl3
              have hq2 : q < 2000000 := by
                have h2 := HX.out
                have h4 := HN.out
                omega
              have hsum : p.n + 1 ≤ 4000000 := by
                have h1 := HQ.out.len
                have h2 := HX.out
                have h4 := HN.out
                rw [List.length_append, List.length_append, List.length_take] at h1
                omega
              go_wp2_with (at_builtin; refine list_cat rfl _ _ rfl rfl rfl (HQ.out.alloc _).own (row_lit1 _ _) (HQ.out.alloc _).bel.size hsum ?_)
              intro p' cp' w2 hcat
              have hA2 := (HQ.out.alloc _).cat hcat
              have H2 := Lib.hid hA2
              clear hcat hA2
              go_wp2
              go_roundw
              case rel =>
                exact ⟨⟨p', p.n + 1, cp'⟩, q + 1, by omega, rfl, by go_num, H2⟩
              case measure => simp [intOf]; omega
            · obtain rfl : q = (u k j).n := by omega
              have H2 := HQ.out
              rw [hlen', upTo_take] at H2
              have H3 := Lib.hid H2
              clear H2 hlen' hl3
              go_wp2
              go_roundw
              case rel => exact ⟨p, j + 1, J3.out, rfl, by go_num, H3⟩
              case measure => simp [intOf]; omega
        · obtain rfl : j = 3 := by omega
          have H3 := HI.out
          rw [← allOf_succ] at H3
          have H4 := Lib.hid H3
          clear H3
          go_wp2
          go_roundw
          case rel => exact ⟨t, k + 1, by omega, rfl, by go_num, H4⟩
          case measure => simp [intOf]; omega
    · obtain rfl : k = n := by omega
      go_wp2
      go_ret
      exact ⟨s, rfl, HA.out.own, HA.out.bel⟩
end Go.Proofs.YtjppimabhefeeaaDoor.Ls
end
section
namespace Go.Proofs.YtjppimabhefeeaaDoor.Cl
open Go.Proofs.YtjppimabhefeeaaDoor
set_option maxRecDepth 100000
open Go.RowKit

/-- The slice (address a, n elements) holds the pages f 0 to f (n - 1), in a block below B. -/
def PRow (w : World) (B : Nat) (a : Option Addr) (n : Nat) (f : Nat → Int × Int) : Prop :=
  0 < n → ∃ b off, a = some ⟨b, off, none⟩ ∧ b < B ∧ ∀ i, i < n → w.cell? ⟨b, off + i * 2, none⟩ = some (.int .i64 (f i).1) ∧ w.cell? ⟨b, off + i * 2 + 1, none⟩ = some (.int .i64 (f i).2)

section
variable {w w' : World} {B B' n : Nat} {a : Option Addr} {f : Nat → Int × Int}
theorem PRow.at_ (h : PRow w B a n f) (hn : 0 < n) : ∃ b off, a = some ⟨b, off, none⟩ ∧ b < B ∧ ∀ i, i < n → w.cell? ⟨b, off + i * 2, none⟩ = some (.int .i64 (f i).1) ∧ w.cell? ⟨b, off + i * 2 + 1, none⟩ = some (.int .i64 (f i).2) := h hn
theorem PRow.below (h : PRow w B a n f) (hb : Below B w w') : PRow w' B a n f := fun hn => by
  obtain ⟨b, off, e, hlt, hc⟩ := h hn
  exact ⟨b, off, e, hlt, fun i hi => ⟨(hb.cell (p := ⟨b, off + i * 2, none⟩) hlt).trans (hc i hi).1, (hb.cell (p := ⟨b, off + i * 2 + 1, none⟩) hlt).trans (hc i hi).2⟩⟩
theorem PRow.more (h : PRow w B a n f) (hB : B ≤ B') : PRow w B' a n f := fun hn => by
  obtain ⟨b, off, e, hb, hc⟩ := h hn
  exact ⟨b, off, e, by omega, hc⟩
/-- .. over a call that left what was below C, the blocks of the row among it. -/
theorem PRow.over (h : PRow w B a n f) {C : Nat} (hb : Below C w w') (hB : B ≤ C) : PRow w' B a n f := h.below (hb.mono hB)
theorem PRow.alloc (h : PRow w B a n f) (o : Obj) (hB : B ≤ w.heap.size) : PRow (w.alloc o) B a n f := h.below ((Below.refl _ _).alloc hB o)
theorem PRow.empty (w : World) (B : Nat) (a : Option Addr) (f : Nat → Int × Int) : PRow w B a 0 f := fun h => absurd h (by omega)
theorem PRow.congr {g : Nat → Int × Int} (h : PRow w B a n f) (e : ∀ i, i < n → g i = f i) : PRow w B a n g := fun hn => by
  obtain ⟨b, off, ea, hb, hc⟩ := h hn
  exact ⟨b, off, ea, hb, fun i hi => by rw [e i hi]; exact hc i hi⟩
/-- A part of it: from page k on, m of them. -/
theorem PRow.part {b off k m : Nat} (h : PRow w B (some ⟨b, off, none⟩) n f) (hk : k + m ≤ n) : PRow w B (some ⟨b, off + k * 2, none⟩) m (fun i => f (k + i)) := fun hm => by
  obtain ⟨b', off', ea, hb, hc⟩ := h (by omega)
  simp at ea
  obtain ⟨rfl, rfl⟩ := ea
  refine ⟨b, off + k * 2, rfl, hb, fun i hi => ?_⟩
  have := hc (k + i) (by omega)
  rw [show off + k * 2 + i * 2 = off + (k + i) * 2 by omega]
  exact this

/-- Cell j of the pages' cells, and all of them. -/
def pcell (f : Nat → Int × Int) (j : Nat) : Value := .int .i64 (if j % 2 = 0 then (f (j / 2)).1 else (f (j / 2)).2)
def pcells (f : Nat → Int × Int) (n : Nat) : List Value := (List.range (n * 2)).map (pcell f)
theorem pcells_length (f : Nat → Int × Int) (n : Nat) : (pcells f n).length = n * 2 := by simp [pcells]
theorem pcells_at (f : Nat → Int × Int) (n j : Nat) (h : j < n * 2) : (pcells f n)[j]? = some (pcell f j) := by simp [pcells, h]
theorem pcells_fst (f : Nat → Int × Int) (n i : Nat) (h : i < n) : (pcells f n)[i * 2]? = some (.int .i64 (f i).1) := by
  rw [pcells_at f n _ (by omega)]
  simp [pcell]
theorem pcells_snd (f : Nat → Int × Int) (n i : Nat) (h : i < n) : (pcells f n)[i * 2 + 1]? = some (.int .i64 (f i).2) := by
  rw [pcells_at f n _ (by omega)]
  have e1 : (i * 2 + 1) % 2 = 1 := by omega
  have e2 : (i * 2 + 1) / 2 = i := by omega
  simp [pcell, e1, e2]

/-- f, with page i another. -/
def put (f : Nat → Int × Int) (i : Nat) (p : Int × Int) : Nat → Int × Int := fun j => if j = i then p else f j
theorem pcells_put (f : Nat → Int × Int) (n i : Nat) (p : Int × Int) : ((pcells f n).set (i * 2) (.int .i64 p.1)).set (i * 2 + 1) (.int .i64 p.2) = pcells (put f i p) n := by
  apply List.ext_getElem?
  intro j
  by_cases hj : j < n * 2
  · rw [pcells_at _ _ _ hj, List.getElem?_set]
    by_cases h1 : i * 2 + 1 = j
    · subst h1
      have e1 : (i * 2 + 1) % 2 = 1 := by omega
      have e2 : (i * 2 + 1) / 2 = i := by omega
      simp [pcell, e1, e2, put, pcells_length, hj]
    · rw [if_neg h1, List.getElem?_set]
      by_cases h0 : i * 2 = j
      · subst h0
        simp [pcell, put, pcells_length, hj]
      · rw [if_neg h0, pcells_at _ _ _ hj]
        have e : j / 2 ≠ i := by omega
        simp [pcell, put, e]
  · rw [List.getElem?_eq_none (by simp [pcells_length]; omega), List.getElem?_eq_none (by simp [pcells_length]; omega)]

/-- What the call itself made: a row at the head of a block of its own, not frozen, with room for c. -/
def PMine (w : World) (base e g n c : Nat) (f : Nat → Int × Int) : Prop :=
  w.ownsRow base e 2 (.slice (some ⟨g, 0, none⟩) n c) n (pcells f n) ∧ base ≤ g ∧ g < w.heap.size ∧ n ≤ c ∧ c ≤ maxLen

theorem PMine.cells {base e g c : Nat} (h : PMine w base e g n c f) (i : Nat) (hi : i < n) : w.cell? ⟨g, i * 2, none⟩ = some (.int .i64 (f i).1) ∧ w.cell? ⟨g, i * 2 + 1, none⟩ = some (.int .i64 (f i).2) :=
  ⟨(h.1.cellAt (i * 2) (by omega)).trans (pcells_fst f n i hi), (h.1.cellAt (i * 2 + 1) (by omega)).trans (pcells_snd f n i hi)⟩
theorem PMine.row {base e g c : Nat} (h : PMine w base e g n c f) : PRow w w.heap.size (some ⟨g, 0, none⟩) n f := fun _ =>
  ⟨g, 0, rfl, h.2.2.1, fun i hi => by simpa using h.cells i hi⟩
theorem PMine.free {base e g c : Nat} (h : PMine w base e g n c f) (j : Nat) : w.frozen? ⟨g, j, none⟩ = false := h.1.frozenAt j
theorem PMine.stored {base e g c : Nat} (h : PMine w base e g n c f) (i : Nat) (p : Int × Int) : PMine ((w.setCell ⟨g, i * 2, none⟩ (.int .i64 p.1)).setCell ⟨g, i * 2 + 1, none⟩ (.int .i64 p.2)) base e g n c (put f i p) := by
  refine ⟨?_, h.2.1, by simpa [World.setCell] using h.2.2.1, h.2.2.2.1, h.2.2.2.2⟩
  have h1 := (h.1.stored (i * 2) (.int .i64 p.1)).1
  have h2 := (h1.stored (i * 2 + 1) (.int .i64 p.2)).1
  rw [pcells_put] at h2
  exact h2
theorem PMine.congr {base e g c : Nat} {f' : Nat → Int × Int} (h : PMine w base e g n c f) (he : ∀ i, i < n → f' i = f i) : PMine w base e g n c f' := by
  have : pcells f' n = pcells f n := by
    apply List.map_congr_left
    intro j hj
    have := List.mem_range.1 hj
    unfold pcell
    rw [he (j / 2) (by omega)]
  exact ⟨this ▸ h.1, h.2⟩
end

end Go.Proofs.YtjppimabhefeeaaDoor.Cl
end
section
namespace Go.Proofs.YtjppimabhefeeaaDoor
open Go.RowKit

/-- A heap's slices. -/
structure Hs where
  w : Ls.Sl
  p : Ls.Sl
  u : Nat → Ls.Sl
  c : Ls.Sl
/-- Truth values in a slice. -/
def BRow (w : World) (B : Nat) (a : Option Addr) (n : Nat) (f : Nat → Bool) : Prop :=
  0 < n → ∃ b off, a = some ⟨b, off, none⟩ ∧ b < B ∧ ∀ i, i < n → w.cell? ⟨b, off + i, none⟩ = some (.bool (f i))
theorem BRow.below {w w' : World} {B n : Nat} {a : Option Addr} {f : Nat → Bool} (h : BRow w B a n f) (hb : Below B w w') : BRow w' B a n f := fun hn => by
  obtain ⟨b, off, e, hlt, hc⟩ := h hn
  exact ⟨b, off, e, hlt, fun i hi => (hb.cell (p := ⟨b, off + i, none⟩) hlt).trans (hc i hi)⟩
theorem BRow.more {w : World} {B C n : Nat} {a : Option Addr} {f : Nat → Bool} (h : BRow w B a n f) (hB : B ≤ C) : BRow w C a n f := fun hn => by
  obtain ⟨b, off, e, hlt, hc⟩ := h hn
  exact ⟨b, off, e, Nat.lt_of_lt_of_le hlt hB, hc⟩
/-- What a heap holds. -/
structure Hd_ where
  ws : List Int
  f : Nat → Int × Int
  F : Nat → List Int
  cs : Nat → Bool
structure Hp (w : World) (B : Nat) (s : Hs) (d : Hd_) : Prop where
  words : Row w B s.w.a s.w.n d.ws
  pages : Cl.PRow w B s.p.a s.p.n d.f
  free : Ls.L3 w B s.u d.F
  cards : BRow w B s.c.a s.c.n d.cs
theorem Hp.below {w w' : World} {B : Nat} {s : Hs} {d : Hd_} (h : Hp w B s d) (hb : Below B w w') : Hp w' B s d := ⟨h.words.below hb, h.pages.below hb, h.free.below hb, h.cards.below hb⟩
theorem Hp.more {w : World} {B C : Nat} {s : Hs} {d : Hd_} (h : Hp w B s d) (hB : B ≤ C) : Hp w C s d := ⟨h.words.more hB, h.pages.more hB, h.free.more hB, h.cards.more hB⟩
theorem Hp.next {w w' : World} {s : Hs} {d : Hd_} (h : Hp w w.heap.size s d) (hb : Below w.heap.size w w') : Hp w' w'.heap.size s d := (h.below hb).more hb.size
def lightB (u : Nat → Ls.Sl) : Bool := decide ((u 0).n ≤ 70 ∧ (u 1).n ≤ 70 ∧ (u 2).n ≤ 70)
theorem rlight_any (u : Nat → Ls.Sl) (w : World) : Calls Tryd.prog 14 #[(.agg #[.slice (u 0).a (u 0).n (u 0).c, .slice (u 1).a (u 1).n (u 1).c, .slice (u 2).a (u 2).n (u 2).c])] w fun e w' => e = .returned (.bool (lightB u)) ∧ Below w.heap.size w w' := by
  by_cases h0 : (u 0).n ≤ 70
  · have a0 : decide (((u 0).n : Int) ≤ 70) = true := by simp; omega
    by_cases h1 : (u 1).n ≤ 70
    · have a1 : decide (((u 1).n : Int) ≤ 70) = true := by simp; omega
      by_cases h2 : (u 2).n ≤ 70
      · have a2 : decide (((u 2).n : Int) ≤ 70) = true := by simp; omega
        have e : lightB u = true := decide_eq_true ⟨h0, h1, h2⟩
        rw [e]
        clear h0 h1 h2 e
        go_enter Tryd.func14, Tryd.ntmps14
        go_wp2
        go_ret
        exact ⟨rfl, (Below.refl _ _).alloc (Nat.le_refl _) _⟩
      · have a2 : decide (((u 2).n : Int) ≤ 70) = false := by simp; omega
        have e : lightB u = false := decide_eq_false (fun h => h2 h.2.2)
        rw [e]
        clear h0 h1 h2 e
        go_enter Tryd.func14, Tryd.ntmps14
        go_wp2
        go_ret
        exact ⟨rfl, (Below.refl _ _).alloc (Nat.le_refl _) _⟩
    · have a1 : decide (((u 1).n : Int) ≤ 70) = false := by simp; omega
      have e : lightB u = false := decide_eq_false (fun h => h1 h.2.1)
      rw [e]
      clear h0 h1 e
      go_enter Tryd.func14, Tryd.ntmps14
      go_wp2
      go_ret
      exact ⟨rfl, (Below.refl _ _).alloc (Nat.le_refl _) _⟩
  · have a0 : decide (((u 0).n : Int) ≤ 70) = false := by simp; omega
    have e : lightB u = false := decide_eq_false (fun h => h0 h.1)
    rw [e]
    clear h0 e
    go_enter Tryd.func14, Tryd.ntmps14
    go_wp2
    go_ret
    exact ⟨rfl, (Below.refl _ _).alloc (Nat.le_refl _) _⟩
def fewH (s : Hs) : Bool := decide (s.w.n ≤ 130) && (decide (s.p.n ≤ 9) && (decide (s.c.n ≤ 20) && lightB s.u))
theorem rfew_any (s : Hs) (w : World) : Calls Tryd.prog 5 #[(.agg #[.slice s.w.a s.w.n s.w.c, .slice s.p.a s.p.n s.p.c, .slice (s.u 0).a (s.u 0).n (s.u 0).c, .slice (s.u 1).a (s.u 1).n (s.u 1).c, .slice (s.u 2).a (s.u 2).n (s.u 2).c, .slice s.c.a s.c.n s.c.c])] w fun e w' => e = .returned (.bool (fewH s)) ∧ Below w.heap.size w w' := by
  by_cases h0 : s.w.n ≤ 130
  · have a0 : decide ((s.w.n : Int) ≤ 130) = true := by simp; omega
    by_cases h1 : s.p.n ≤ 9
    · have a1 : decide ((s.p.n : Int) ≤ 9) = true := by simp; omega
      by_cases h2 : s.c.n ≤ 20
      · have a2 : decide ((s.c.n : Int) ≤ 20) = true := by simp; omega
        have e : fewH s = lightB s.u := by simp [fewH, h0, h1, h2]
        rw [e]
        clear h0 h1 h2 e
        go_enter Tryd.func5, Tryd.ntmps5
        go_wp2_with fail
        refine (rlight_any s.u _).mono ?_
        rintro e w1 ⟨rfl, hb⟩
        have HB := Lib.hid (((Below.refl w.heap.size w).alloc (Nat.le_refl _) _).trans (hb.mono (by simp)))
        clear hb
        go_wp2
        go_ret
        exact ⟨rfl, HB.out⟩
      · have a2 : decide ((s.c.n : Int) ≤ 20) = false := by simp; omega
        have e : fewH s = false := by simp [fewH, h2]
        rw [e]
        clear h0 h1 h2 e
        go_enter Tryd.func5, Tryd.ntmps5
        go_wp2
        go_ret
        exact ⟨rfl, (Below.refl _ _).alloc (Nat.le_refl _) _⟩
    · have a1 : decide ((s.p.n : Int) ≤ 9) = false := by simp; omega
      have e : fewH s = false := by simp [fewH, h1]
      rw [e]
      clear h0 h1 e
      go_enter Tryd.func5, Tryd.ntmps5
      go_wp2
      go_ret
      exact ⟨rfl, (Below.refl _ _).alloc (Nat.le_refl _) _⟩
  · have a0 : decide ((s.w.n : Int) ≤ 130) = false := by simp; omega
    have e : fewH s = false := by simp [fewH, h0]
    rw [e]
    clear h0 e
    go_enter Tryd.func5, Tryd.ntmps5
    go_wp2
    go_ret
    exact ⟨rfl, (Below.refl _ _).alloc (Nat.le_refl _) _⟩
end Go.Proofs.YtjppimabhefeeaaDoor
end
section
namespace Go.Proofs.YtjppimabhefeeaaDoor.Hd
open Go.Proofs.YtjppimabhefeeaaDoor
set_option maxRecDepth 100000
open Go.RowKit

theorem ofInt_and (x : Int) (m : Nat) (hm : m < 9223372036854775808) : bits .and .i64 x (m : Int) = (((x % 18446744073709551616).toNat &&& m : Nat) : Int) := by
  have h2 : m % 18446744073709551616 = m := Nat.mod_eq_of_lt (by omega)
  have h3 : ((x % 18446744073709551616).toNat &&& m) ≤ m := Nat.and_le_right
  have e : (BitVec.ofInt 64 x).toNat = (x % 18446744073709551616).toNat := by
    rw [BitVec.toNat_ofInt]; rfl
  have e2 : (BitVec.ofInt 64 (m : Int)).toNat = m := by
    rw [BitVec.ofInt_natCast, BitVec.toNat_ofNat]; exact h2
  have e3 : (BitVec.ofInt 64 x &&& BitVec.ofInt 64 (m : Int)).toNat = ((x % 18446744073709551616).toNat &&& m) := by
    rw [BitVec.toNat_and, e, e2]
  show IntKind.i64.wrap (((BitVec.ofInt 64 x &&& BitVec.ofInt 64 (m : Int)).toNat : Nat) : Int) = _
  rw [e3]
  exact IntWalk.i64_in _ ⟨by omega, by omega⟩

theorem and_1 (x : Int) : bits .and .i64 x 1 = x % 2 := by
  refine (ofInt_and x 1 (by decide)).trans ?_
  rw [Nat.and_one_is_mod]
  omega
theorem and_2 (x : Int) : bits .and .i64 x 2 = x / 2 % 2 * 2 := by
  refine (ofInt_and x 2 (by decide)).trans ?_
  rw [nat_bit1]
  omega
theorem and_4 (x : Int) : bits .and .i64 x 4 = x / 4 % 2 * 4 := by
  refine (ofInt_and x 4 (by decide)).trans ?_
  rw [nat_bit2]
  omega
theorem and_127 (x : Int) : bits .and .i64 x 127 = x % 128 := by
  refine (ofInt_and x 127 (by decide)).trans ?_
  rw [nat_mask7]
  omega
theorem and_4194303 (x : Int) : bits .and .i64 x 4194303 = x % 4194304 := by
  refine (ofInt_and x 4194303 (by decide)).trans ?_
  rw [nat_mask22]
  omega

end Go.Proofs.YtjppimabhefeeaaDoor.Hd
end
section
namespace Go.Proofs.YtjppimabhefeeaaDoor.Hd
open Go.Proofs.YtjppimabhefeeaaDoor
set_option maxRecDepth 100000

/-- May the head be? -/
def mayB (u o d : Bool) (n b m : Int) : Bool :=
  if u then decide (0 ≤ n ∧ n ≤ 63 ∧ 0 ≤ b ∧ b ≤ 1048576 ∧ 0 ≤ m ∧ m ≤ 1048576)
  else !o && !d && decide (n = 0 ∧ b = 0 ∧ m = 0)
def bitOf (u : Bool) (k : Int) : Int := if u then k else 0
/-- A head's word. -/
def word (u o d : Bool) (n b m : Int) : Int :=
  if u then 1 + bitOf o 2 + bitOf d 4 + n * 8 + b * 1024 + m * 4294967296 else 0

theorem may_used_iff (o d : Bool) (n b m : Int) : mayB true o d n b m = true ↔ (0 ≤ n ∧ n ≤ 63 ∧ 0 ≤ b ∧ b ≤ 1048576 ∧ 0 ≤ m ∧ m ≤ 1048576) := by
  simp [mayB]
theorem may_free_iff (o d : Bool) (n b m : Int) : mayB false o d n b m = true ↔ (o = false ∧ d = false ∧ n = 0 ∧ b = 0 ∧ m = 0) := by
  simp [mayB, and_assoc]

theorem bit_le (u : Bool) (k : Int) (h : 0 ≤ k) : 0 ≤ bitOf u k ∧ bitOf u k ≤ k := by
  unfold bitOf; split <;> omega
/-- The word of a head that may be is no negative number, and less than 2^53. -/
theorem word_range {u o d : Bool} {n b m : Int} (h : mayB u o d n b m = true) : 0 ≤ word u o d n b m ∧ word u o d n b m ≤ 4503600701112831 := by
  cases u
  · simp [word]
  · have h' := (may_used_iff o d n b m).1 h
    have h2 := bit_le o 2 (by decide)
    have h4 := bit_le d 4 (by decide)
    simp only [word, if_true]
    omega
theorem word_parts {o d : Bool} {n b m : Int} (h : mayB true o d n b m = true) :
    word true o d n b m % 2 = 1 ∧ (word true o d n b m / 2 % 2 = 1 ↔ o = true) ∧ (word true o d n b m / 4 % 2 = 1 ↔ d = true) ∧
    word true o d n b m / 8 % 128 = n ∧ word true o d n b m / 1024 % 4194304 = b ∧ word true o d n b m / 4294967296 = m := by
  have h' := (may_used_iff o d n b m).1 h
  cases o <;> cases d <;> simp [word, bitOf] <;> omega
theorem word_back (x : Int) (h1 : x % 2 = 1) :
    word true (decide (x / 2 % 2 = 1)) (decide (x / 4 % 2 = 1)) (x / 8 % 128) (x / 1024 % 4194304) (x / 4294967296) = x := by
  by_cases a : x / 2 % 2 = 1 <;> by_cases c : x / 4 % 2 = 1 <;> simp [word, bitOf, a, c] <;> omega

/-- What Unpack reads in a number, whatever it is. -/
def isWord (x : Int) : Bool := mayB (decide (x % 2 = 1)) (decide (x / 2 % 2 = 1)) (decide (x / 4 % 2 = 1)) (x / 8 % 128) (x / 1024 % 4194304) (x / 4294967296)

theorem isWord_cases (x : Int) (h : isWord x = true) : ∃ u o d n b m, mayB u o d n b m = true ∧ x = word u o d n b m ∧
    u = decide (x % 2 = 1) ∧ o = decide (x / 2 % 2 = 1) ∧ d = decide (x / 4 % 2 = 1) ∧ n = x / 8 % 128 ∧ b = x / 1024 % 4194304 ∧ m = x / 4294967296 := by
  refine ⟨_, _, _, _, _, _, h, ?_, rfl, rfl, rfl, rfl, rfl, rfl⟩
  by_cases h1 : x % 2 = 1
  · rw [decide_eq_true h1]
    exact (word_back x h1).symm
  · unfold isWord at h
    rw [decide_eq_false h1] at h ⊢
    obtain ⟨_, _, e1, e2, e3⟩ := (may_free_iff _ _ _ _ _).1 h
    simp only [word]
    simp only [decide_eq_false_iff_not] at *
    simp
    omega
theorem isWord_even {x : Int} (h : isWord x = true) (h1 : ¬ x % 2 = 1) : x = 0 := by
  unfold isWord at h
  rw [decide_eq_false h1] at h
  obtain ⟨h2, h3, e1, e2, e3⟩ := (may_free_iff _ _ _ _ _).1 h
  simp only [decide_eq_false_iff_not] at h2 h3
  omega
theorem bit_1 (x : Int) : (bits .and .i64 x 1 != 0) = decide (x % 2 = 1) := by
  rw [and_1, Bool.eq_iff_iff]; simp; omega
theorem bit_2 (x : Int) : (bits .and .i64 x 2 != 0) = decide (x / 2 % 2 = 1) := by
  rw [and_2, Bool.eq_iff_iff]; simp; omega
theorem bit_4 (x : Int) : (bits .and .i64 x 4 != 0) = decide (x / 4 % 2 = 1) := by
  rw [and_4, Bool.eq_iff_iff]; simp; omega
end Go.Proofs.YtjppimabhefeeaaDoor.Hd
end
section
namespace Go.Proofs.YtjppimabhefeeaaDoor.Hd
open Go.Proofs.YtjppimabhefeeaaDoor
set_option maxRecDepth 100000
open Go.RowKit

/-- A block that was there holds what it held. -/
theorem old_cell {a z : World} (h : Below a.heap.size a z) : ∀ i k, i < a.heap.size → z.cell? ⟨i, k, none⟩ = a.cell? ⟨i, k, none⟩ := by
  intro i k hi
  exact h.cell (p := ⟨i, k, none⟩) hi
/-- .. and is marked as it was. -/
theorem old_mark {a z : World} (h : Below a.heap.size a z) : ∀ i k, i < a.heap.size → z.frozen? ⟨i, k, none⟩ = a.frozen? ⟨i, k, none⟩ := by
  intro i k hi
  exact h.frozen (p := ⟨i, k, none⟩) hi

theorem upTo_yes (n m : Int) (w : World) (h0 : 0 ≤ n) (h1 : n ≤ m) :
    Calls Tryd.prog 66 #[.int .i64 n, .int .i64 m] w fun e w' => e = .returned (.bool true) ∧ w = w' := by
  go_enter Tryd.func66, Tryd.ntmps66
  go_wp2
  go_ret
  exact ⟨rfl, rfl⟩
theorem upTo_no (n m : Int) (w : World) (h : n < 0 ∨ m < n) :
    Calls Tryd.prog 66 #[.int .i64 n, .int .i64 m] w fun e w' => e = .returned (.bool false) ∧ w = w' := by
  by_cases h0 : n < 0
  · go_enter Tryd.func66, Tryd.ntmps66
    go_wp2
    go_ret
    exact ⟨rfl, rfl⟩
  · have h1 : m < n := by omega
    have h2 : 0 ≤ n := by omega
    have h3 : decide (n ≤ m) = false := by simp; omega
    clear h
    go_enter Tryd.func66, Tryd.ntmps66
    go_wp2
    go_ret
    exact ⟨rfl, rfl⟩

theorem may_used (o d : Bool) (n b m : Int) (w : World) (n0 : 0 ≤ n) (n1 : n ≤ 63) (b0 : 0 ≤ b) (b1 : b ≤ 1048576) (m0 : 0 ≤ m) (m1 : m ≤ 1048576) :
    Calls Tryd.prog 47 #[.agg #[.bool true, .bool o, .bool d, .int .i64 n, .int .i64 b, .int .i64 m]] w fun e w' => e = .returned (.bool true) ∧ Below w.heap.size w w' := by
  go_enter Tryd.func47, Tryd.ntmps47
  go_wp2
  go_ret
  exact ⟨rfl, (Below.refl _ _).alloc (Nat.le_refl _) _⟩
theorem may_free (w : World) :
    Calls Tryd.prog 47 #[.agg #[.bool false, .bool false, .bool false, .int .i64 0, .int .i64 0, .int .i64 0]] w fun e w' => e = .returned (.bool true) ∧ Below w.heap.size w w' := by
  go_enter Tryd.func47, Tryd.ntmps47
  go_wp2
  go_ret
  exact ⟨rfl, (Below.refl _ _).alloc (Nat.le_refl _) _⟩
theorem may_yes (u o d : Bool) (n b m : Int) (w : World) (h : mayB u o d n b m = true) :
    Calls Tryd.prog 47 #[.agg #[.bool u, .bool o, .bool d, .int .i64 n, .int .i64 b, .int .i64 m]] w fun e w' => e = .returned (.bool true) ∧ Below w.heap.size w w' := by
  cases u
  · obtain ⟨rfl, rfl, rfl, rfl, rfl⟩ := (may_free_iff _ _ _ _ _).1 h
    exact may_free w
  · obtain ⟨a1, a2, a3, a4, a5, a6⟩ := (may_used_iff _ _ _ _ _).1 h
    exact may_used o d n b m w a1 a2 a3 a4 a5 a6
theorem no_n (o d : Bool) (n b m : Int) (w : World) (h : n < 0 ∨ 63 < n) :
    Calls Tryd.prog 47 #[.agg #[.bool true, .bool o, .bool d, .int .i64 n, .int .i64 b, .int .i64 m]] w fun e w' => e = .returned (.bool false) ∧ Below w.heap.size w w' := by
  have H := Lib.hid h
  clear h
  go_enter Tryd.func47, Tryd.ntmps47
  go_wp2_with (go_at_call 66; refine (upTo_no _ _ _ H.out).mono ?_; rintro e w' ⟨rfl, rfl⟩)
  go_ret
  exact ⟨rfl, (Below.refl _ _).alloc (Nat.le_refl _) _⟩
theorem no_b (o d : Bool) (n b m : Int) (w : World) (n0 : 0 ≤ n) (n1 : n ≤ 63) (h : b < 0 ∨ 1048576 < b) :
    Calls Tryd.prog 47 #[.agg #[.bool true, .bool o, .bool d, .int .i64 n, .int .i64 b, .int .i64 m]] w fun e w' => e = .returned (.bool false) ∧ Below w.heap.size w w' := by
  have H := Lib.hid h
  clear h
  go_enter Tryd.func47, Tryd.ntmps47
  go_wp2_with (go_at_call 66; first | ((with_reducible refine (upTo_yes n 63 _ n0 n1).mono ?_); rintro e w' ⟨rfl, rfl⟩) | ((with_reducible refine (upTo_no b 1048576 _ H.out).mono ?_); rintro e w' ⟨rfl, rfl⟩))
  go_ret
  exact ⟨rfl, (Below.refl _ _).alloc (Nat.le_refl _) _⟩
theorem no_m (o d : Bool) (n b m : Int) (w : World) (n0 : 0 ≤ n) (n1 : n ≤ 63) (b0 : 0 ≤ b) (b1 : b ≤ 1048576) (h : m < 0 ∨ 1048576 < m) :
    Calls Tryd.prog 47 #[.agg #[.bool true, .bool o, .bool d, .int .i64 n, .int .i64 b, .int .i64 m]] w fun e w' => e = .returned (.bool false) ∧ Below w.heap.size w w' := by
  have H := Lib.hid h
  clear h
  go_enter Tryd.func47, Tryd.ntmps47
  go_wp2_with (go_at_call 66; first | ((with_reducible refine (upTo_yes n 63 _ n0 n1).mono ?_); rintro e w' ⟨rfl, rfl⟩) | ((with_reducible refine (upTo_yes b 1048576 _ b0 b1).mono ?_); rintro e w' ⟨rfl, rfl⟩) | ((with_reducible refine (upTo_no m 1048576 _ H.out).mono ?_); rintro e w' ⟨rfl, rfl⟩))
  go_ret
  exact ⟨rfl, (Below.refl _ _).alloc (Nat.le_refl _) _⟩
theorem no_free (o d : Bool) (n b m : Int) (w : World) (h : mayB false o d n b m = false) :
    Calls Tryd.prog 47 #[.agg #[.bool false, .bool o, .bool d, .int .i64 n, .int .i64 b, .int .i64 m]] w fun e w' => e = .returned (.bool false) ∧ Below w.heap.size w w' := by
  have H := Lib.hid h
  clear h
  cases o
  · cases d
    · by_cases hn : (n == 0) = true
      · obtain rfl : n = 0 := by simpa using hn
        clear hn
        by_cases hb : (b == 0) = true
        · obtain rfl : b = 0 := by simpa using hb
          clear hb
          have hm : (m == 0) = false := by
            have := H.out
            simp [mayB] at this
            simp [this]
          go_enter Tryd.func47, Tryd.ntmps47
          go_wp2
          go_ret
          exact ⟨rfl, (Below.refl _ _).alloc (Nat.le_refl _) _⟩
        · have hb' : (b == 0) = false := by simpa using hb
          clear hb
          go_enter Tryd.func47, Tryd.ntmps47
          go_wp2
          go_ret
          exact ⟨rfl, (Below.refl _ _).alloc (Nat.le_refl _) _⟩
      · have hn' : (n == 0) = false := by simpa using hn
        clear hn
        go_enter Tryd.func47, Tryd.ntmps47
        go_wp2
        go_ret
        exact ⟨rfl, (Below.refl _ _).alloc (Nat.le_refl _) _⟩
    · go_enter Tryd.func47, Tryd.ntmps47
      go_wp2
      go_ret
      exact ⟨rfl, (Below.refl _ _).alloc (Nat.le_refl _) _⟩
  · go_enter Tryd.func47, Tryd.ntmps47
    go_wp2
    go_ret
    exact ⟨rfl, (Below.refl _ _).alloc (Nat.le_refl _) _⟩
theorem may_no (u o d : Bool) (n b m : Int) (w : World) (h : mayB u o d n b m = false) :
    Calls Tryd.prog 47 #[.agg #[.bool u, .bool o, .bool d, .int .i64 n, .int .i64 b, .int .i64 m]] w fun e w' => e = .returned (.bool false) ∧ Below w.heap.size w w' := by
  cases u
  · exact no_free o d n b m w h
  · have h' : ¬ (0 ≤ n ∧ n ≤ 63 ∧ 0 ≤ b ∧ b ≤ 1048576 ∧ 0 ≤ m ∧ m ≤ 1048576) := fun c => by
      rw [(may_used_iff o d n b m).2 c] at h; cases h
    by_cases hn : 0 ≤ n ∧ n ≤ 63
    · by_cases hb : 0 ≤ b ∧ b ≤ 1048576
      · exact no_m o d n b m w hn.1 hn.2 hb.1 hb.2 (by omega)
      · exact no_b o d n b m w hn.1 hn.2 (by omega)
    · exact no_n o d n b m w (by omega)

end Go.Proofs.YtjppimabhefeeaaDoor.Hd
end
section
namespace Go.Proofs.YtjppimabhefeeaaDoor.Hd
open Go.Proofs.YtjppimabhefeeaaDoor
set_option maxRecDepth 100000
open Go.RowKit

theorem unpacked_below {w w1 : World} {o o' : Obj} (hb : Below ((w.alloc o).alloc o').heap.size ((w.alloc o).alloc o') w1) : Below w.heap.size w w1 :=
  (((Below.refl _ _).alloc (Nat.le_refl _) _).alloc (by simp) _).trans (hb.mono (by simp; omega))
theorem six_below {B b : Nat} {w w1 : World} (h : Below B w w1) (hb : B ≤ b) (v0 v1 v2 v3 v4 v5 : Value) :
    Below B w ((((((w1.setCell ⟨b, 0, none⟩ v0).setCell ⟨b, 1, none⟩ v1).setCell ⟨b, 2, none⟩ v2).setCell ⟨b, 3, none⟩ v3).setCell ⟨b, 4, none⟩ v4).setCell ⟨b, 5, none⟩ v5) :=
  (((((h.setCell hb v0).setCell hb v1).setCell hb v2).setCell hb v3).setCell hb v4).setCell hb v5

theorem first_cells {w w1 : World} {o' : Obj} {cs : Array Value} {t : TypeId} (hb : Below ((w.alloc (.cells cs t)).alloc o').heap.size ((w.alloc (.cells cs t)).alloc o') w1) (k : Nat) :
    w1.cell? ⟨w.heap.size, k, none⟩ = cs[k]? := by
  rw [old_cell hb _ _ (by simp; omega)]
  simp [go_sem]
theorem unpack_core_yes (x : Int) (u o d : Bool) (n b m : Int) (w : World) (h : mayB u o d n b m = true)
    (eu : (bits .and .i64 x 1 != 0) = u) (eo : (bits .and .i64 x 2 != 0) = o) (ed : (bits .and .i64 x 4 != 0) = d) (en : bits .and .i64 (x / 8) 127 = n) (eb : bits .and .i64 (x / 1024) 4194303 = b) (em : x / 4294967296 = m) :
    Calls Tryd.prog 26 #[.int .i64 x] w fun e w' => e = .returned (.tuple #[.agg #[.bool u, .bool o, .bool d, .int .i64 n, .int .i64 b, .int .i64 m], .bool true]) ∧ Below w.heap.size w w' := by
  have H := Lib.hid h
  clear h
  go_enter Tryd.func26, Tryd.ntmps26
  go_wp2_with fail
  refine (may_yes _ _ _ _ _ _ _ H.out).mono ?_
  rintro e w1 ⟨rfl, hb⟩
  have hc := old_cell hb
  have hf := old_mark hb
  clear eu eo ed en eb em
  have c0 := first_cells hb 0
  have c1 := first_cells hb 1
  have c2 := first_cells hb 2
  have c3 := first_cells hb 3
  have c4 := first_cells hb 4
  have c5 := first_cells hb 5
  simp at c0 c1 c2 c3 c4 c5
  go_wp2
  refine bodyPost_ret (v := .tuple #[.agg #[.bool u, .bool o, .bool d, .int .i64 n, .int .i64 b, .int .i64 m], .bool true]) ?_ rfl ⟨rfl, six_below (unpacked_below hb) (Nat.le_refl _) _ _ _ _ _ _⟩
  simp [results, Tryd.results26, go_sem, c0, c1, c2, c3, c4, c5]
theorem unpack_core_no (x : Int) (u o d : Bool) (n b m : Int) (w : World) (h : mayB u o d n b m = false)
    (eu : (bits .and .i64 x 1 != 0) = u) (eo : (bits .and .i64 x 2 != 0) = o) (ed : (bits .and .i64 x 4 != 0) = d) (en : bits .and .i64 (x / 8) 127 = n) (eb : bits .and .i64 (x / 1024) 4194303 = b) (em : x / 4294967296 = m) :
    Calls Tryd.prog 26 #[.int .i64 x] w fun e w' => e = .returned (.tuple #[.agg #[.bool false, .bool false, .bool false, .int .i64 0, .int .i64 0, .int .i64 0], .bool false]) ∧ Below w.heap.size w w' := by
  have H := Lib.hid h
  clear h
  go_enter Tryd.func26, Tryd.ntmps26
  go_wp2_with fail
  refine (may_no _ _ _ _ _ _ _ H.out).mono ?_
  rintro e w1 ⟨rfl, hb⟩
  have hc := old_cell hb
  have hf := old_mark hb
  clear eu eo ed en eb em
  have c0 := first_cells hb 0
  have c1 := first_cells hb 1
  have c2 := first_cells hb 2
  have c3 := first_cells hb 3
  have c4 := first_cells hb 4
  have c5 := first_cells hb 5
  simp at c0 c1 c2 c3 c4 c5
  go_wp2
  refine bodyPost_ret (v := .tuple #[.agg #[.bool false, .bool false, .bool false, .int .i64 0, .int .i64 0, .int .i64 0], .bool false]) ?_ rfl ⟨rfl, six_below (unpacked_below hb) (Nat.le_refl _) _ _ _ _ _ _⟩
  simp [results, Tryd.results26, go_sem, c0, c1, c2, c3, c4, c5]

theorem unpack_no (x : Int) (w : World) (h : isWord x = false) :
    Calls Tryd.prog 26 #[.int .i64 x] w fun e w' => e = .returned (.tuple #[.agg #[.bool false, .bool false, .bool false, .int .i64 0, .int .i64 0, .int .i64 0], .bool false]) ∧ Below w.heap.size w w' :=
  unpack_core_no x _ _ _ _ _ _ w h (bit_1 x) (bit_2 x) (bit_4 x) (and_127 _) (and_4194303 _) rfl
theorem unpack_yes (x : Int) (w : World) (h : isWord x = true) :
    Calls Tryd.prog 26 #[.int .i64 x] w fun e w' => e = .returned (.tuple #[.agg #[.bool (decide (x % 2 = 1)), .bool (decide (x / 2 % 2 = 1)), .bool (decide (x / 4 % 2 = 1)), .int .i64 (x / 8 % 128), .int .i64 (x / 1024 % 4194304), .int .i64 (x / 4294967296)], .bool true]) ∧ Below w.heap.size w w' :=
  unpack_core_yes x _ _ _ _ _ _ w h (bit_1 x) (bit_2 x) (bit_4 x) (and_127 _) (and_4194303 _) rfl
end Go.Proofs.YtjppimabhefeeaaDoor.Hd
end
section
namespace Go.Proofs.YtjppimabhefeeaaDoor.Hd
open Go.Proofs.YtjppimabhefeeaaDoor
set_option maxRecDepth 100000
open Go.RowKit

end Go.Proofs.YtjppimabhefeeaaDoor.Hd
end
section
namespace Go.Proofs.YtjppimabhefeeaaDoor.Hd
open Go.Proofs.YtjppimabhefeeaaDoor
set_option maxRecDepth 100000
open Go.RowKit

theorem rmay_used (o e : Bool) (n b m : Int) (w : World) (n0 : 0 ≤ n) (n1 : n ≤ 63) (b0 : 0 ≤ b) (b1 : b ≤ 1048576) (m0 : 0 ≤ m) (m1 : m ≤ 1048576) :
    Calls Tryd.prog 34 #[.agg #[.bool true, .bool o, .bool e, .int .i64 n, .int .i64 b, .int .i64 m]] w fun r w' => r = .returned (.bool true) ∧ Below w.heap.size w w' := by
  go_enter Tryd.func34, Tryd.ntmps34
  go_wp2
  go_ret
  exact ⟨rfl, (Below.refl _ _).alloc (Nat.le_refl _) _⟩
theorem rmay_free  (w : World)  :
    Calls Tryd.prog 34 #[.agg #[.bool false, .bool false, .bool false, .int .i64 0, .int .i64 0, .int .i64 0]] w fun r w' => r = .returned (.bool true) ∧ Below w.heap.size w w' := by
  go_enter Tryd.func34, Tryd.ntmps34
  go_wp2
  go_ret
  exact ⟨rfl, (Below.refl _ _).alloc (Nat.le_refl _) _⟩
theorem rno_n0 (u o e : Bool) (n b m : Int) (w : World) (h : n < 0) :
    Calls Tryd.prog 34 #[.agg #[.bool u, .bool o, .bool e, .int .i64 n, .int .i64 b, .int .i64 m]] w fun r w' => r = .returned (.bool false) ∧ Below w.heap.size w w' := by
  go_enter Tryd.func34, Tryd.ntmps34
  go_wp2
  go_ret
  exact ⟨rfl, (Below.refl _ _).alloc (Nat.le_refl _) _⟩
theorem rno_n1 (u o e : Bool) (n b m : Int) (w : World) (n0 : 0 ≤ n) (h : 63 < n) :
    Calls Tryd.prog 34 #[.agg #[.bool u, .bool o, .bool e, .int .i64 n, .int .i64 b, .int .i64 m]] w fun r w' => r = .returned (.bool false) ∧ Below w.heap.size w w' := by
  go_enter Tryd.func34, Tryd.ntmps34
  go_wp2
  go_ret
  exact ⟨rfl, (Below.refl _ _).alloc (Nat.le_refl _) _⟩
theorem rno_b0 (u o e : Bool) (n b m : Int) (w : World) (n0 : 0 ≤ n) (n1 : n ≤ 63) (h : b < 0) :
    Calls Tryd.prog 34 #[.agg #[.bool u, .bool o, .bool e, .int .i64 n, .int .i64 b, .int .i64 m]] w fun r w' => r = .returned (.bool false) ∧ Below w.heap.size w w' := by
  go_enter Tryd.func34, Tryd.ntmps34
  go_wp2
  go_ret
  exact ⟨rfl, (Below.refl _ _).alloc (Nat.le_refl _) _⟩
theorem rno_b1 (u o e : Bool) (n b m : Int) (w : World) (n0 : 0 ≤ n) (n1 : n ≤ 63) (b0 : 0 ≤ b) (h : 1048576 < b) :
    Calls Tryd.prog 34 #[.agg #[.bool u, .bool o, .bool e, .int .i64 n, .int .i64 b, .int .i64 m]] w fun r w' => r = .returned (.bool false) ∧ Below w.heap.size w w' := by
  go_enter Tryd.func34, Tryd.ntmps34
  go_wp2
  go_ret
  exact ⟨rfl, (Below.refl _ _).alloc (Nat.le_refl _) _⟩
theorem rno_m0 (u o e : Bool) (n b m : Int) (w : World) (n0 : 0 ≤ n) (n1 : n ≤ 63) (b0 : 0 ≤ b) (b1 : b ≤ 1048576) (h : m < 0) :
    Calls Tryd.prog 34 #[.agg #[.bool u, .bool o, .bool e, .int .i64 n, .int .i64 b, .int .i64 m]] w fun r w' => r = .returned (.bool false) ∧ Below w.heap.size w w' := by
  go_enter Tryd.func34, Tryd.ntmps34
  go_wp2
  go_ret
  exact ⟨rfl, (Below.refl _ _).alloc (Nat.le_refl _) _⟩
theorem rno_m1 (u o e : Bool) (n b m : Int) (w : World) (n0 : 0 ≤ n) (n1 : n ≤ 63) (b0 : 0 ≤ b) (b1 : b ≤ 1048576) (m0 : 0 ≤ m) (h : 1048576 < m) :
    Calls Tryd.prog 34 #[.agg #[.bool u, .bool o, .bool e, .int .i64 n, .int .i64 b, .int .i64 m]] w fun r w' => r = .returned (.bool false) ∧ Below w.heap.size w w' := by
  go_enter Tryd.func34, Tryd.ntmps34
  go_wp2
  go_ret
  exact ⟨rfl, (Below.refl _ _).alloc (Nat.le_refl _) _⟩
theorem rno_o (e : Bool) (n b m : Int) (w : World) (n0 : 0 ≤ n) (n1 : n ≤ 63) (b0 : 0 ≤ b) (b1 : b ≤ 1048576) (m0 : 0 ≤ m) (m1 : m ≤ 1048576) :
    Calls Tryd.prog 34 #[.agg #[.bool false, .bool true, .bool e, .int .i64 n, .int .i64 b, .int .i64 m]] w fun r w' => r = .returned (.bool false) ∧ Below w.heap.size w w' := by
  go_enter Tryd.func34, Tryd.ntmps34
  go_wp2
  go_ret
  exact ⟨rfl, (Below.refl _ _).alloc (Nat.le_refl _) _⟩
theorem rno_e (n b m : Int) (w : World) (n0 : 0 ≤ n) (n1 : n ≤ 63) (b0 : 0 ≤ b) (b1 : b ≤ 1048576) (m0 : 0 ≤ m) (m1 : m ≤ 1048576) :
    Calls Tryd.prog 34 #[.agg #[.bool false, .bool false, .bool true, .int .i64 n, .int .i64 b, .int .i64 m]] w fun r w' => r = .returned (.bool false) ∧ Below w.heap.size w w' := by
  go_enter Tryd.func34, Tryd.ntmps34
  go_wp2
  go_ret
  exact ⟨rfl, (Below.refl _ _).alloc (Nat.le_refl _) _⟩
theorem rno_n (n b m : Int) (w : World) (n0 : 0 ≤ n) (n1 : n ≤ 63) (b0 : 0 ≤ b) (b1 : b ≤ 1048576) (m0 : 0 ≤ m) (m1 : m ≤ 1048576) (h : (n == 0) = false) :
    Calls Tryd.prog 34 #[.agg #[.bool false, .bool false, .bool false, .int .i64 n, .int .i64 b, .int .i64 m]] w fun r w' => r = .returned (.bool false) ∧ Below w.heap.size w w' := by
  go_enter Tryd.func34, Tryd.ntmps34
  go_wp2
  go_ret
  exact ⟨rfl, (Below.refl _ _).alloc (Nat.le_refl _) _⟩
theorem rno_b (b m : Int) (w : World) (b0 : 0 ≤ b) (b1 : b ≤ 1048576) (m0 : 0 ≤ m) (m1 : m ≤ 1048576) (h : (b == 0) = false) :
    Calls Tryd.prog 34 #[.agg #[.bool false, .bool false, .bool false, .int .i64 0, .int .i64 b, .int .i64 m]] w fun r w' => r = .returned (.bool false) ∧ Below w.heap.size w w' := by
  go_enter Tryd.func34, Tryd.ntmps34
  go_wp2
  go_ret
  exact ⟨rfl, (Below.refl _ _).alloc (Nat.le_refl _) _⟩
theorem rno_m (m : Int) (w : World) (m0 : 0 ≤ m) (m1 : m ≤ 1048576) (h : (m == 0) = false) :
    Calls Tryd.prog 34 #[.agg #[.bool false, .bool false, .bool false, .int .i64 0, .int .i64 0, .int .i64 m]] w fun r w' => r = .returned (.bool false) ∧ Below w.heap.size w w' := by
  go_enter Tryd.func34, Tryd.ntmps34
  go_wp2
  go_ret
  exact ⟨rfl, (Below.refl _ _).alloc (Nat.le_refl _) _⟩
theorem rmay_yes (u o e : Bool) (n b m : Int) (w : World) (h : mayB u o e n b m = true) :
    Calls Tryd.prog 34 #[.agg #[.bool u, .bool o, .bool e, .int .i64 n, .int .i64 b, .int .i64 m]] w fun r w' => r = .returned (.bool true) ∧ Below w.heap.size w w' := by
  cases u
  · obtain ⟨rfl, rfl, rfl, rfl, rfl⟩ := (may_free_iff _ _ _ _ _).1 h
    exact rmay_free w
  · obtain ⟨a1, a2, a3, a4, a5, a6⟩ := (may_used_iff _ _ _ _ _).1 h
    exact rmay_used o e n b m w a1 a2 a3 a4 a5 a6
theorem rmay_no (u o e : Bool) (n b m : Int) (w : World) (h : mayB u o e n b m = false) :
    Calls Tryd.prog 34 #[.agg #[.bool u, .bool o, .bool e, .int .i64 n, .int .i64 b, .int .i64 m]] w fun r w' => r = .returned (.bool false) ∧ Below w.heap.size w w' := by
  by_cases n0 : 0 ≤ n
  · by_cases n1 : n ≤ 63
    · by_cases b0 : 0 ≤ b
      · by_cases b1 : b ≤ 1048576
        · by_cases m0 : 0 ≤ m
          · by_cases m1 : m ≤ 1048576
            · cases u
              · cases o
                · cases e
                  · by_cases z : n = 0
                    · subst z
                      by_cases z : b = 0
                      · subst z
                        have z : m ≠ 0 := fun z => by subst z; cases h
                        exact rno_m m w m0 m1 (beq_eq_false_iff_ne.2 z)
                      · exact rno_b b m w b0 b1 m0 m1 (beq_eq_false_iff_ne.2 z)
                    · exact rno_n n b m w n0 n1 b0 b1 m0 m1 (beq_eq_false_iff_ne.2 z)
                  · exact rno_e n b m w n0 n1 b0 b1 m0 m1
                · exact rno_o e n b m w n0 n1 b0 b1 m0 m1
              · have := (may_used_iff o e n b m).2 ⟨n0, n1, b0, b1, m0, m1⟩
                rw [this] at h
                cases h
            · exact rno_m1 u o e n b m w n0 n1 b0 b1 m0 (by omega)
          · exact rno_m0 u o e n b m w n0 n1 b0 b1 (by omega)
        · exact rno_b1 u o e n b m w n0 n1 b0 (by omega)
      · exact rno_b0 u o e n b m w n0 n1 (by omega)
    · exact rno_n1 u o e n b m w n0 (by omega)
  · exact rno_n0 u o e n b m w (by omega)

end Go.Proofs.YtjppimabhefeeaaDoor.Hd
end
section
namespace Go.Proofs.YtjppimabhefeeaaDoor.Hd
open Go.Proofs.YtjppimabhefeeaaDoor
set_option maxRecDepth 100000
open Go.RowKit

theorem runpack_zero (w : World) :
    Calls Tryd.prog 19 #[.int .i64 0] w fun r w' => r = .returned (.tuple #[.agg #[.bool false, .bool false, .bool false, .int .i64 0, .int .i64 0, .int .i64 0], .bool true]) ∧ Below w.heap.size w w' := by
  go_enter Tryd.func19, Tryd.ntmps19
  go_wp2
  refine bodyPost_ret (v := .tuple #[.agg #[.bool false, .bool false, .bool false, .int .i64 0, .int .i64 0, .int .i64 0], .bool true]) ?_ rfl ⟨rfl, (((Below.refl _ _).alloc (Nat.le_refl _) _).alloc (by simp) _)⟩
  simp [results, Tryd.results19, go_sem]
theorem runpack_less (x : Int) (w : World) (h : x < 0) :
    Calls Tryd.prog 19 #[.int .i64 x] w fun r w' => r = .returned (.tuple #[.agg #[.bool false, .bool false, .bool false, .int .i64 0, .int .i64 0, .int .i64 0], .bool false]) ∧ Below w.heap.size w w' := by
  go_enter Tryd.func19, Tryd.ntmps19
  go_wp2
  refine bodyPost_ret (v := .tuple #[.agg #[.bool false, .bool false, .bool false, .int .i64 0, .int .i64 0, .int .i64 0], .bool false]) ?_ rfl ⟨rfl, (((Below.refl _ _).alloc (Nat.le_refl _) _).alloc (by simp) _)⟩
  simp [results, Tryd.results19, go_sem]
theorem runpack_even (x : Int) (w : World) (x0 : 1 ≤ x) (x1 : x ≤ 9223372036854775807) (h : x % 2 = 0) :
    Calls Tryd.prog 19 #[.int .i64 x] w fun r w' => r = .returned (.tuple #[.agg #[.bool false, .bool false, .bool false, .int .i64 0, .int .i64 0, .int .i64 0], .bool false]) ∧ Below w.heap.size w w' := by
  go_enter Tryd.func19, Tryd.ntmps19
  go_wp2
  refine bodyPost_ret (v := .tuple #[.agg #[.bool false, .bool false, .bool false, .int .i64 0, .int .i64 0, .int .i64 0], .bool false]) ?_ rfl ⟨rfl, (((Below.refl _ _).alloc (Nat.le_refl _) _).alloc (by simp) _)⟩
  simp [results, Tryd.results19, go_sem]
theorem three_below {w w1 : World} {c c' c'' : Obj} (hb : Below (((w.alloc c).alloc c').alloc c'').heap.size (((w.alloc c).alloc c').alloc c'') w1) : Below w.heap.size w w1 :=
  ((((Below.refl _ _).alloc (Nat.le_refl _) _).alloc (by simp) _).alloc (by simp; omega) _).trans (hb.mono (by simp; omega))
theorem far_cells {w w1 : World} {c' c'' : Obj} {cs : Array Value} {t : TypeId} (hb : Below (((w.alloc (.cells cs t)).alloc c').alloc c'').heap.size (((w.alloc (.cells cs t)).alloc c').alloc c'') w1) (k : Nat) :
    w1.cell? ⟨w.heap.size, k, none⟩ = cs[k]? := by
  rw [old_cell hb _ _ (by simp; omega)]
  simp [go_sem]
theorem runpack_odd (x : Int) (o e : Bool) (n b m : Int) (w : World) (h : mayB true o e n b m = true) (x0 : 1 ≤ x) (x1 : x ≤ 9223372036854775807) (h1 : x % 2 = 1) (eo : (x / 2 % 2 == 1) = o) (ee : (x / 4 % 2 == 1) = e) (en : x / 8 % 128 = n) (eb : x / 1024 % 4194304 = b) (em : x / 4294967296 = m) :
    Calls Tryd.prog 19 #[.int .i64 x] w fun r w' => r = .returned (.tuple #[.agg #[.bool true, .bool o, .bool e, .int .i64 n, .int .i64 b, .int .i64 m], .bool true]) ∧ Below w.heap.size w w' := by
  have H := Lib.hid h
  clear h
  go_enter Tryd.func19, Tryd.ntmps19
  go_wp2_with fail
  refine (rmay_yes _ _ _ _ _ _ _ H.out).mono ?_
  rintro r w1 ⟨rfl, hb⟩
  have hc := old_cell hb; have hf := old_mark hb
  clear x0 x1 h1 eo ee en eb em
  have c0 := far_cells hb 0
  have c1 := far_cells hb 1
  have c2 := far_cells hb 2
  have c3 := far_cells hb 3
  have c4 := far_cells hb 4
  have c5 := far_cells hb 5
  simp at c0 c1 c2 c3 c4 c5
  go_wp2
  refine bodyPost_ret (v := .tuple #[.agg #[.bool true, .bool o, .bool e, .int .i64 n, .int .i64 b, .int .i64 m], .bool true]) ?_ rfl ⟨rfl, six_below (three_below hb) (Nat.le_refl _) _ _ _ _ _ _⟩
  simp [results, Tryd.results19, go_sem, c0, c1, c2, c3, c4, c5]
theorem runpack_bad (x : Int) (o e : Bool) (n b m : Int) (w : World) (h : mayB true o e n b m = false) (x0 : 1 ≤ x) (x1 : x ≤ 9223372036854775807) (h1 : x % 2 = 1) (eo : (x / 2 % 2 == 1) = o) (ee : (x / 4 % 2 == 1) = e) (en : x / 8 % 128 = n) (eb : x / 1024 % 4194304 = b) (em : x / 4294967296 = m) :
    Calls Tryd.prog 19 #[.int .i64 x] w fun r w' => r = .returned (.tuple #[.agg #[.bool false, .bool false, .bool false, .int .i64 0, .int .i64 0, .int .i64 0], .bool false]) ∧ Below w.heap.size w w' := by
  have H := Lib.hid h
  clear h
  go_enter Tryd.func19, Tryd.ntmps19
  go_wp2_with fail
  refine (rmay_no _ _ _ _ _ _ _ H.out).mono ?_
  rintro r w1 ⟨rfl, hb⟩
  have hc := old_cell hb; have hf := old_mark hb
  clear x0 x1 h1 eo ee en eb em
  have c0 := far_cells hb 0
  have c1 := far_cells hb 1
  have c2 := far_cells hb 2
  have c3 := far_cells hb 3
  have c4 := far_cells hb 4
  have c5 := far_cells hb 5
  simp at c0 c1 c2 c3 c4 c5
  go_wp2
  refine bodyPost_ret (v := .tuple #[.agg #[.bool false, .bool false, .bool false, .int .i64 0, .int .i64 0, .int .i64 0], .bool false]) ?_ rfl ⟨rfl, six_below (three_below hb) (Nat.le_refl _) _ _ _ _ _ _⟩
  simp [results, Tryd.results19, go_sem, c0, c1, c2, c3, c4, c5]
theorem beq_one (x : Int) : (x == 1) = decide (x = 1) := by
  rw [Bool.eq_iff_iff]; simp
theorem runpack_no (x : Int) (w : World) (x0 : -9223372036854775808 ≤ x) (x1 : x ≤ 9223372036854775807) (h : isWord x = false) :
    Calls Tryd.prog 19 #[.int .i64 x] w fun r w' => r = .returned (.tuple #[.agg #[.bool false, .bool false, .bool false, .int .i64 0, .int .i64 0, .int .i64 0], .bool false]) ∧ Below w.heap.size w w' := by
  by_cases h0 : x < 0
  · exact runpack_less x w h0
  · by_cases h1 : x % 2 = 1
    · unfold isWord at h
      rw [decide_eq_true h1] at h
      exact runpack_bad x _ _ _ _ _ w h (by omega) x1 h1 (beq_one _) (beq_one _) rfl rfl rfl
    · by_cases h2 : x = 0
      · subst h2
        cases h
      · exact runpack_even x w (by omega) x1 (by omega)
theorem runpack_word (u o e : Bool) (n b m : Int) (w : World) (h : mayB u o e n b m = true) :
    Calls Tryd.prog 19 #[.int .i64 (word u o e n b m)] w fun r w' => r = .returned (.tuple #[.agg #[.bool u, .bool o, .bool e, .int .i64 n, .int .i64 b, .int .i64 m], .bool true]) ∧ Below w.heap.size w w' := by
  cases u
  · obtain ⟨rfl, rfl, rfl, rfl, rfl⟩ := (may_free_iff _ _ _ _ _).1 h
    exact runpack_zero w
  · have r := word_range h
    obtain ⟨p1, p2, p3, p4, p5, p6⟩ := word_parts h
    refine runpack_odd _ o e n b m w h (by omega) (by omega) p1 ?_ ?_ p4 p5 p6
    · rw [beq_one, Bool.eq_iff_iff, decide_eq_true_iff]
      exact p2
    · rw [beq_one, Bool.eq_iff_iff, decide_eq_true_iff]
      exact p3
end Go.Proofs.YtjppimabhefeeaaDoor.Hd
end
section
namespace Go.Proofs.YtjppimabhefeeaaDoor
open Go.RowKit

def headOf (x : Int) : Value :=
  if Hd.isWord x then .agg #[.bool (decide (x % 2 = 1)), .bool (decide (x / 2 % 2 = 1)), .bool (decide (x / 4 % 2 = 1)), .int .i64 (x / 8 % 128), .int .i64 (x / 1024 % 4194304), .int .i64 (x / 4294967296)]
  else .agg #[.bool false, .bool false, .bool false, .int .i64 0, .int .i64 0, .int .i64 0]
theorem unpack_any (x : Int) (w : World) : Calls Tryd.prog 26 #[.int .i64 x] w fun e w' => e = .returned (.tuple #[headOf x, .bool (Hd.isWord x)]) ∧ Below w.heap.size w w' := by
  unfold headOf
  cases h : Hd.isWord x
  · exact Hd.unpack_no x w h
  · exact Hd.unpack_yes x w h
theorem runpack_any (x : Int) (w : World) (x0 : -9223372036854775808 ≤ x) (x1 : x ≤ 9223372036854775807) : Calls Tryd.prog 19 #[.int .i64 x] w fun e w' => e = .returned (.tuple #[headOf x, .bool (Hd.isWord x)]) ∧ Below w.heap.size w w' := by
  unfold headOf
  cases h : Hd.isWord x
  · exact Hd.runpack_no x w x0 x1 h
  · obtain ⟨u, o, d, n, b, m, h', e, e1, e2, e3, e4, e5, e6⟩ := Hd.isWord_cases x h
    have := Hd.runpack_word u o d n b m w h'
    rw [← e, e1, e2, e3, e4, e5, e6] at this
    exact this
end Go.Proofs.YtjppimabhefeeaaDoor
end
section
namespace Go.Proofs.YtjppimabhefeeaaDoor.Cl
open Go.Proofs.YtjppimabhefeeaaDoor
set_option maxRecDepth 100000
open Go.RowKit

theorem words_any (n : Int) (w : World) (h0 : 1 ≤ n) (h1 : n ≤ 63) :
    Calls Tryd.prog 69 #[.int .i64 n] w fun e w' => e = .returned (.int .i64 (1 + n)) ∧ w = w' := by
  go_enter Tryd.func69, Tryd.ntmps69
  go_wp2
  go_ret
  exact ⟨rfl, rfl⟩

/-- The table of sizes lies as it is written. -/
def Sz (w : World) : Prop := w.cell? ⟨0, 0, none⟩ = some (.int .i64 2) ∧ w.cell? ⟨0, 1, none⟩ = some (.int .i64 4) ∧ w.cell? ⟨0, 2, none⟩ = some (.int .i64 8)

theorem of_low (n : Int) (w : World) (h : n < 1) :
    Calls Tryd.prog 56 #[.int .i64 n] w fun e w' => e = .returned (.tuple #[.int .i64 0, .int .i64 1]) ∧ w = w' := by
  go_enter Tryd.func56, Tryd.ntmps56
  go_wp2
  go_ret2
  exact ⟨rfl, rfl⟩
theorem of_high (n : Int) (w : World) (h : 63 < n) :
    Calls Tryd.prog 56 #[.int .i64 n] w fun e w' => e = .returned (.tuple #[.int .i64 0, .int .i64 2]) ∧ w = w' := by
  go_enter Tryd.func56, Tryd.ntmps56
  go_wp2
  go_ret2
  exact ⟨rfl, rfl⟩
theorem index_at0 (w : World) : (Instr.index 106 (.agg #[.int .i64 2, .int .i64 4, .int .i64 8]) (.int .i64 0)).run Tryd.prog w = .ok (.int .i64 2) w := by kernel_rfl
theorem index_at1 (w : World) : (Instr.index 106 (.agg #[.int .i64 2, .int .i64 4, .int .i64 8]) (.int .i64 1)).run Tryd.prog w = .ok (.int .i64 4) w := by kernel_rfl
theorem index_at2 (w : World) : (Instr.index 106 (.agg #[.int .i64 2, .int .i64 4, .int .i64 8]) (.int .i64 2)).run Tryd.prog w = .ok (.int .i64 8) w := by kernel_rfl
theorem of_0 (n : Int) (w : World) (hz : Sz w) (h0 : 1 ≤ n) (h1 : n ≤ 1) :
    Calls Tryd.prog 56 #[.int .i64 n] w fun e w' => e = .returned (.tuple #[.int .i64 0, .int .i64 0]) ∧ w = w' := by
  obtain ⟨z0, z1, z2⟩ := hz
  have d1 : decide (n < 1) = false := by simp; omega
  have d2 : decide (63 < n) = false := by simp; omega
  go_enter Tryd.func56, Tryd.ntmps56
  go_wp2
  clear z0 z1 z2
  go_loop [11] (fun i => ∃ k : Nat, k ≤ 0 ∧ i = .int .i64 k) (fun i => 3 - (intOf i).toNat)
  case atStart => exact ⟨0, by omega, rfl⟩
  case round =>
    obtain ⟨k, hk, rfl⟩ := hrel
    have hc : k = 0 := by omega
    clear hk
    subst hc
    · have ix := index_at0 w
      go_wp2_with (go_at_call 69; refine (words_any _ _ (by omega) (by omega)).mono ?_; rintro e w1 ⟨rfl, rfl⟩)
      go_ret2
      exact ⟨rfl, rfl⟩
theorem of_1 (n : Int) (w : World) (hz : Sz w) (h0 : 2 ≤ n) (h1 : n ≤ 3) :
    Calls Tryd.prog 56 #[.int .i64 n] w fun e w' => e = .returned (.tuple #[.int .i64 1, .int .i64 0]) ∧ w = w' := by
  obtain ⟨z0, z1, z2⟩ := hz
  have d1 : decide (n < 1) = false := by simp; omega
  have d2 : decide (63 < n) = false := by simp; omega
  go_enter Tryd.func56, Tryd.ntmps56
  go_wp2
  clear z0 z1 z2
  go_loop [11] (fun i => ∃ k : Nat, k ≤ 1 ∧ i = .int .i64 k) (fun i => 3 - (intOf i).toNat)
  case atStart => exact ⟨0, by omega, rfl⟩
  case round =>
    obtain ⟨k, hk, rfl⟩ := hrel
    have hc : k = 0 ∨ k = 1 := by omega
    clear hk
    rcases hc with rfl | rfl
    · have ix := index_at0 w
      go_wp2_with (go_at_call 69; refine (words_any _ _ (by omega) (by omega)).mono ?_; rintro e w1 ⟨rfl, rfl⟩)
      go_round
      case rel => exact ⟨1, by omega, by go_num⟩
      case measure => simp [intOf]
    · have ix := index_at1 w
      go_wp2_with (go_at_call 69; refine (words_any _ _ (by omega) (by omega)).mono ?_; rintro e w1 ⟨rfl, rfl⟩)
      go_ret2
      exact ⟨rfl, rfl⟩
theorem of_2 (n : Int) (w : World) (hz : Sz w) (h0 : 4 ≤ n) (h1 : n ≤ 7) :
    Calls Tryd.prog 56 #[.int .i64 n] w fun e w' => e = .returned (.tuple #[.int .i64 2, .int .i64 0]) ∧ w = w' := by
  obtain ⟨z0, z1, z2⟩ := hz
  have d1 : decide (n < 1) = false := by simp; omega
  have d2 : decide (63 < n) = false := by simp; omega
  go_enter Tryd.func56, Tryd.ntmps56
  go_wp2
  clear z0 z1 z2
  go_loop [11] (fun i => ∃ k : Nat, k ≤ 2 ∧ i = .int .i64 k) (fun i => 3 - (intOf i).toNat)
  case atStart => exact ⟨0, by omega, rfl⟩
  case round =>
    obtain ⟨k, hk, rfl⟩ := hrel
    have hc : k = 0 ∨ k = 1 ∨ k = 2 := by omega
    clear hk
    rcases hc with rfl | rfl | rfl
    · have ix := index_at0 w
      go_wp2_with (go_at_call 69; refine (words_any _ _ (by omega) (by omega)).mono ?_; rintro e w1 ⟨rfl, rfl⟩)
      go_round
      case rel => exact ⟨1, by omega, by go_num⟩
      case measure => simp [intOf]
    · have ix := index_at1 w
      go_wp2_with (go_at_call 69; refine (words_any _ _ (by omega) (by omega)).mono ?_; rintro e w1 ⟨rfl, rfl⟩)
      go_round
      case rel => exact ⟨2, by omega, by go_num⟩
      case measure => simp [intOf]
    · have ix := index_at2 w
      go_wp2_with (go_at_call 69; refine (words_any _ _ (by omega) (by omega)).mono ?_; rintro e w1 ⟨rfl, rfl⟩)
      go_ret2
      exact ⟨rfl, rfl⟩
theorem of_3 (n : Int) (w : World) (hz : Sz w) (h0 : 8 ≤ n) (h1 : n ≤ 63) :
    Calls Tryd.prog 56 #[.int .i64 n] w fun e w' => e = .returned (.tuple #[.int .i64 3, .int .i64 0]) ∧ w = w' := by
  obtain ⟨z0, z1, z2⟩ := hz
  have d1 : decide (n < 1) = false := by simp; omega
  have d2 : decide (63 < n) = false := by simp; omega
  go_enter Tryd.func56, Tryd.ntmps56
  go_wp2
  clear z0 z1 z2
  go_loop [11] (fun i => ∃ k : Nat, k ≤ 3 ∧ i = .int .i64 k) (fun i => 3 - (intOf i).toNat)
  case atStart => exact ⟨0, by omega, rfl⟩
  case round =>
    obtain ⟨k, hk, rfl⟩ := hrel
    have hc : k = 0 ∨ k = 1 ∨ k = 2 ∨ k = 3 := by omega
    clear hk
    rcases hc with rfl | rfl | rfl | rfl
    · have ix := index_at0 w
      go_wp2_with (go_at_call 69; refine (words_any _ _ (by omega) (by omega)).mono ?_; rintro e w1 ⟨rfl, rfl⟩)
      go_round
      case rel => exact ⟨1, by omega, by go_num⟩
      case measure => simp [intOf]
    · have ix := index_at1 w
      go_wp2_with (go_at_call 69; refine (words_any _ _ (by omega) (by omega)).mono ?_; rintro e w1 ⟨rfl, rfl⟩)
      go_round
      case rel => exact ⟨2, by omega, by go_num⟩
      case measure => simp [intOf]
    · have ix := index_at2 w
      go_wp2_with (go_at_call 69; refine (words_any _ _ (by omega) (by omega)).mono ?_; rintro e w1 ⟨rfl, rfl⟩)
      go_round
      case rel => exact ⟨3, by omega, by go_num⟩
      case measure => simp [intOf]
    · go_wp2
      go_ret2
      exact ⟨rfl, rfl⟩
end Go.Proofs.YtjppimabhefeeaaDoor.Cl
end
section
namespace Go.Proofs.YtjppimabhefeeaaDoor.Cl
open Go.Proofs.YtjppimabhefeeaaDoor
set_option maxRecDepth 100000
open Go.RowKit

/-- A cell's words, by its class. -/
def wordsOf (c : Int) : Int := if c = 0 then 2 else if c = 1 then 4 else if c = 2 then 8 else 0
/-- How many cells of a class a page has. -/
def perPage (c : Int) : Int := if c = 0 then 8 else if c = 1 then 4 else if c = 2 then 2 else 0
theorem wordsOf_no {c : Int} (h : c < 0 ∨ 2 < c) : wordsOf c = 0 := by
  unfold wordsOf
  rw [if_neg (by omega), if_neg (by omega), if_neg (by omega)]
theorem perPage_no {c : Int} (h : c < 0 ∨ 2 < c) : perPage c = 0 := by
  unfold perPage
  rw [if_neg (by omega), if_neg (by omega), if_neg (by omega)]
/-- The class, the pages, and the errors, by the number of fields. -/
def classOf (n : Int) : Int := if n < 1 ∨ 63 < n then 0 else if n ≤ 1 then 0 else if n ≤ 3 then 1 else if n ≤ 7 then 2 else 3
def classErr (n : Int) : Int := if n < 1 then 1 else if 63 < n then 2 else 0
def runOf (n : Int) : Int := if n < 8 ∨ 63 < n then 0 else if n ≤ 15 then 1 else if n ≤ 31 then 2 else if n ≤ 47 then 3 else 4
def runErr (n : Int) : Int := if n < 1 then 1 else if 63 < n then 2 else if n ≤ 7 then 3 else 0
theorem words_at0 (w : World) (hz : Sz w) :
    Calls Tryd.prog 100 #[.int .i64 0] w fun e w' => e = .returned (.int .i64 2) ∧ w = w' := by
  obtain ⟨z0, z1, z2⟩ := hz
  go_enter Tryd.func100, Tryd.ntmps100
  go_wp2
  go_ret
  exact ⟨rfl, rfl⟩
theorem words_at1 (w : World) (hz : Sz w) :
    Calls Tryd.prog 100 #[.int .i64 1] w fun e w' => e = .returned (.int .i64 4) ∧ w = w' := by
  obtain ⟨z0, z1, z2⟩ := hz
  go_enter Tryd.func100, Tryd.ntmps100
  go_wp2
  go_ret
  exact ⟨rfl, rfl⟩
theorem words_at2 (w : World) (hz : Sz w) :
    Calls Tryd.prog 100 #[.int .i64 2] w fun e w' => e = .returned (.int .i64 8) ∧ w = w' := by
  obtain ⟨z0, z1, z2⟩ := hz
  go_enter Tryd.func100, Tryd.ntmps100
  go_wp2
  go_ret
  exact ⟨rfl, rfl⟩
theorem words_low (c : Int) (w : World) (h : c < 0) :
    Calls Tryd.prog 100 #[.int .i64 c] w fun e w' => e = .returned (.int .i64 0) ∧ w = w' := by
  go_enter Tryd.func100, Tryd.ntmps100
  go_wp2
  go_ret
  exact ⟨rfl, rfl⟩
theorem words_high (c : Int) (w : World) (h : 2 < c) :
    Calls Tryd.prog 100 #[.int .i64 c] w fun e w' => e = .returned (.int .i64 0) ∧ w = w' := by
  have d : (3 : Int) ≤ c := by omega
  have d0 : ¬ c < 0 := by omega
  go_enter Tryd.func100, Tryd.ntmps100
  go_wp2
  go_ret
  exact ⟨rfl, rfl⟩
theorem words_of (c : Int) (w : World) (hz : Sz w) :
    Calls Tryd.prog 100 #[.int .i64 c] w fun e w' => e = .returned (.int .i64 (wordsOf c)) ∧ w = w' := by
  by_cases h : c < 0 ∨ 2 < c
  · rw [wordsOf_no h]
    rcases h with h | h
    · exact words_low c w h
    · exact words_high c w h
  · have hc : c = 0 ∨ c = 1 ∨ c = 2 := by omega
    clear h
    rcases hc with rfl | rfl | rfl
    · exact words_at0 w hz
    · exact words_at1 w hz
    · exact words_at2 w hz
theorem cells_at0 (w : World) (hz : Sz w) :
    Calls Tryd.prog 99 #[.int .i64 0] w fun e w' => e = .returned (.int .i64 8) ∧ w = w' := by
  have H := Lib.hid hz
  clear hz
  go_enter Tryd.func99, Tryd.ntmps99
  go_wp2_with (go_at_call 100; (with_reducible refine (words_at0 _ H.out).mono ?_); rintro e w1 ⟨rfl, rfl⟩)
  go_ret
  exact ⟨rfl, rfl⟩
theorem cells_at1 (w : World) (hz : Sz w) :
    Calls Tryd.prog 99 #[.int .i64 1] w fun e w' => e = .returned (.int .i64 4) ∧ w = w' := by
  have H := Lib.hid hz
  clear hz
  go_enter Tryd.func99, Tryd.ntmps99
  go_wp2_with (go_at_call 100; (with_reducible refine (words_at1 _ H.out).mono ?_); rintro e w1 ⟨rfl, rfl⟩)
  go_ret
  exact ⟨rfl, rfl⟩
theorem cells_at2 (w : World) (hz : Sz w) :
    Calls Tryd.prog 99 #[.int .i64 2] w fun e w' => e = .returned (.int .i64 2) ∧ w = w' := by
  have H := Lib.hid hz
  clear hz
  go_enter Tryd.func99, Tryd.ntmps99
  go_wp2_with (go_at_call 100; (with_reducible refine (words_at2 _ H.out).mono ?_); rintro e w1 ⟨rfl, rfl⟩)
  go_ret
  exact ⟨rfl, rfl⟩
theorem cells_low (c : Int) (w : World) (h : c < 0) :
    Calls Tryd.prog 99 #[.int .i64 c] w fun e w' => e = .returned (.int .i64 0) ∧ w = w' := by
  go_enter Tryd.func99, Tryd.ntmps99
  go_wp2_with (go_at_call 100; (with_reducible refine (words_low _ _ h).mono ?_); rintro e w1 ⟨rfl, rfl⟩)
  go_ret
  exact ⟨rfl, rfl⟩
theorem cells_high (c : Int) (w : World) (h : 2 < c) :
    Calls Tryd.prog 99 #[.int .i64 c] w fun e w' => e = .returned (.int .i64 0) ∧ w = w' := by
  go_enter Tryd.func99, Tryd.ntmps99
  go_wp2_with (go_at_call 100; (with_reducible refine (words_high _ _ h).mono ?_); rintro e w1 ⟨rfl, rfl⟩)
  go_ret
  exact ⟨rfl, rfl⟩
theorem cells_of (c : Int) (w : World) (hz : Sz w) :
    Calls Tryd.prog 99 #[.int .i64 c] w fun e w' => e = .returned (.int .i64 (perPage c)) ∧ w = w' := by
  by_cases h : c < 0 ∨ 2 < c
  · rw [perPage_no h]
    rcases h with h | h
    · exact cells_low c w h
    · exact cells_high c w h
  · have hc : c = 0 ∨ c = 1 ∨ c = 2 := by omega
    clear h
    rcases hc with rfl | rfl | rfl
    · exact cells_at0 w hz
    · exact cells_at1 w hz
    · exact cells_at2 w hz
theorem of_of (n : Int) (w : World) (hz : Sz w) :
    Calls Tryd.prog 56 #[.int .i64 n] w fun e w' => e = .returned (.tuple #[.int .i64 (classOf n), .int .i64 (classErr n)]) ∧ w = w' := by
  have key : ∀ {a b : Int}, classOf n = a → classErr n = b → Calls Tryd.prog 56 #[.int .i64 n] w (fun e w' => e = .returned (.tuple #[.int .i64 a, .int .i64 b]) ∧ w = w') → Calls Tryd.prog 56 #[.int .i64 n] w (fun e w' => e = .returned (.tuple #[.int .i64 (classOf n), .int .i64 (classErr n)]) ∧ w = w') := by
    intro a b h1 h2 h3
    rw [h1, h2]
    exact h3
  by_cases c1 : n < 1
  · exact key (by simp [classOf, c1]) (by simp [classErr, c1]) (of_low n w c1)
  by_cases c2 : 63 < n
  · exact key (by simp [classOf, c2]) (by simp [classErr, c1, c2]) (of_high n w c2)
  by_cases c3 : n ≤ 1
  · exact key (by simp [classOf, c1, c2, c3]) (by simp [classErr, c1, c2]) (of_0 n w hz (by omega) c3)
  by_cases c4 : n ≤ 3
  · exact key (by simp [classOf, c1, c2, c3, c4]) (by simp [classErr, c1, c2]) (of_1 n w hz (by omega) c4)
  by_cases c5 : n ≤ 7
  · exact key (by simp [classOf, c1, c2, c3, c4, c5]) (by simp [classErr, c1, c2]) (of_2 n w hz (by omega) c5)
  exact key (by simp [classOf, c1, c2, c3, c4, c5]) (by simp [classErr, c1, c2]) (of_3 n w hz (by omega) (by omega))
theorem run_low (n : Int) (w : World) (h : n < 1) :
    Calls Tryd.prog 57 #[.int .i64 n] w fun e w' => e = .returned (.tuple #[.int .i64 0, .int .i64 1]) ∧ w = w' := by
  go_enter Tryd.func57, Tryd.ntmps57
  go_wp2_with (go_at_call 56; (with_reducible refine (of_low _ _ h).mono ?_); rintro e w1 ⟨rfl, rfl⟩)
  go_ret2
  exact ⟨rfl, rfl⟩
theorem run_high (n : Int) (w : World) (h : 63 < n) :
    Calls Tryd.prog 57 #[.int .i64 n] w fun e w' => e = .returned (.tuple #[.int .i64 0, .int .i64 2]) ∧ w = w' := by
  go_enter Tryd.func57, Tryd.ntmps57
  go_wp2_with (go_at_call 56; (with_reducible refine (of_high _ _ h).mono ?_); rintro e w1 ⟨rfl, rfl⟩)
  go_ret2
  exact ⟨rfl, rfl⟩
theorem run_s0 (n : Int) (w : World) (hz : Sz w) (h0 : 1 ≤ n) (h1 : n ≤ 1) :
    Calls Tryd.prog 57 #[.int .i64 n] w fun e w' => e = .returned (.tuple #[.int .i64 0, .int .i64 3]) ∧ w = w' := by
  have H := Lib.hid hz
  clear hz
  go_enter Tryd.func57, Tryd.ntmps57
  go_wp2_with (go_at_call 56; (with_reducible refine (of_0 _ _ H.out h0 h1).mono ?_); rintro e w1 ⟨rfl, rfl⟩)
  go_ret2
  exact ⟨rfl, rfl⟩
theorem run_s1 (n : Int) (w : World) (hz : Sz w) (h0 : 2 ≤ n) (h1 : n ≤ 3) :
    Calls Tryd.prog 57 #[.int .i64 n] w fun e w' => e = .returned (.tuple #[.int .i64 0, .int .i64 3]) ∧ w = w' := by
  have H := Lib.hid hz
  clear hz
  go_enter Tryd.func57, Tryd.ntmps57
  go_wp2_with (go_at_call 56; (with_reducible refine (of_1 _ _ H.out h0 h1).mono ?_); rintro e w1 ⟨rfl, rfl⟩)
  go_ret2
  exact ⟨rfl, rfl⟩
theorem run_s2 (n : Int) (w : World) (hz : Sz w) (h0 : 4 ≤ n) (h1 : n ≤ 7) :
    Calls Tryd.prog 57 #[.int .i64 n] w fun e w' => e = .returned (.tuple #[.int .i64 0, .int .i64 3]) ∧ w = w' := by
  have H := Lib.hid hz
  clear hz
  go_enter Tryd.func57, Tryd.ntmps57
  go_wp2_with (go_at_call 56; (with_reducible refine (of_2 _ _ H.out h0 h1).mono ?_); rintro e w1 ⟨rfl, rfl⟩)
  go_ret2
  exact ⟨rfl, rfl⟩
theorem run_1part (n : Int) (w : World) (hz : Sz w) (h0 : 8 ≤ n) (h1 : n ≤ 14) :
    Calls Tryd.prog 57 #[.int .i64 n] w fun e w' => e = .returned (.tuple #[.int .i64 1, .int .i64 0]) ∧ w = w' := by
  have H := Lib.hid hz
  clear hz
  have q : (1 + n) / 16 = 0 := by omega
  have r : 0 < (1 + n) % 16 := by omega
  go_enter Tryd.func57, Tryd.ntmps57
  go_wp2_with (first | ((go_at_call 56; (with_reducible refine (of_3 _ _ H.out (by omega) (by omega)).mono ?_); rintro e w1 ⟨rfl, rfl⟩)) | ((go_at_call 69; (with_reducible refine (words_any _ _ (by omega) (by omega)).mono ?_); rintro e w1 ⟨rfl, rfl⟩)))
  go_ret2
  exact ⟨rfl, rfl⟩
theorem run_1full (w : World) (hz : Sz w) :
    Calls Tryd.prog 57 #[.int .i64 15] w fun e w' => e = .returned (.tuple #[.int .i64 1, .int .i64 0]) ∧ w = w' := by
  have H := Lib.hid hz
  clear hz
  go_enter Tryd.func57, Tryd.ntmps57
  go_wp2_with (first | ((go_at_call 56; (with_reducible refine (of_3 _ _ H.out (by omega) (by omega)).mono ?_); rintro e w1 ⟨rfl, rfl⟩)) | ((go_at_call 69; (with_reducible refine (words_any _ _ (by omega) (by omega)).mono ?_); rintro e w1 ⟨rfl, rfl⟩)))
  go_ret2
  exact ⟨rfl, rfl⟩
theorem run_1 (n : Int) (w : World) (hz : Sz w) (h0 : 8 ≤ n) (h1 : n ≤ 15) :
    Calls Tryd.prog 57 #[.int .i64 n] w fun e w' => e = .returned (.tuple #[.int .i64 1, .int .i64 0]) ∧ w = w' := by
  by_cases h : n = 15
  · subst h
    exact run_1full w hz
  · exact run_1part n w hz h0 (by omega)
theorem run_2part (n : Int) (w : World) (hz : Sz w) (h0 : 16 ≤ n) (h1 : n ≤ 30) :
    Calls Tryd.prog 57 #[.int .i64 n] w fun e w' => e = .returned (.tuple #[.int .i64 2, .int .i64 0]) ∧ w = w' := by
  have H := Lib.hid hz
  clear hz
  have q : (1 + n) / 16 = 1 := by omega
  have r : 0 < (1 + n) % 16 := by omega
  go_enter Tryd.func57, Tryd.ntmps57
  go_wp2_with (first | ((go_at_call 56; (with_reducible refine (of_3 _ _ H.out (by omega) (by omega)).mono ?_); rintro e w1 ⟨rfl, rfl⟩)) | ((go_at_call 69; (with_reducible refine (words_any _ _ (by omega) (by omega)).mono ?_); rintro e w1 ⟨rfl, rfl⟩)))
  go_ret2
  exact ⟨rfl, rfl⟩
theorem run_2full (w : World) (hz : Sz w) :
    Calls Tryd.prog 57 #[.int .i64 31] w fun e w' => e = .returned (.tuple #[.int .i64 2, .int .i64 0]) ∧ w = w' := by
  have H := Lib.hid hz
  clear hz
  go_enter Tryd.func57, Tryd.ntmps57
  go_wp2_with (first | ((go_at_call 56; (with_reducible refine (of_3 _ _ H.out (by omega) (by omega)).mono ?_); rintro e w1 ⟨rfl, rfl⟩)) | ((go_at_call 69; (with_reducible refine (words_any _ _ (by omega) (by omega)).mono ?_); rintro e w1 ⟨rfl, rfl⟩)))
  go_ret2
  exact ⟨rfl, rfl⟩
theorem run_2 (n : Int) (w : World) (hz : Sz w) (h0 : 16 ≤ n) (h1 : n ≤ 31) :
    Calls Tryd.prog 57 #[.int .i64 n] w fun e w' => e = .returned (.tuple #[.int .i64 2, .int .i64 0]) ∧ w = w' := by
  by_cases h : n = 31
  · subst h
    exact run_2full w hz
  · exact run_2part n w hz h0 (by omega)
theorem run_3part (n : Int) (w : World) (hz : Sz w) (h0 : 32 ≤ n) (h1 : n ≤ 46) :
    Calls Tryd.prog 57 #[.int .i64 n] w fun e w' => e = .returned (.tuple #[.int .i64 3, .int .i64 0]) ∧ w = w' := by
  have H := Lib.hid hz
  clear hz
  have q : (1 + n) / 16 = 2 := by omega
  have r : 0 < (1 + n) % 16 := by omega
  go_enter Tryd.func57, Tryd.ntmps57
  go_wp2_with (first | ((go_at_call 56; (with_reducible refine (of_3 _ _ H.out (by omega) (by omega)).mono ?_); rintro e w1 ⟨rfl, rfl⟩)) | ((go_at_call 69; (with_reducible refine (words_any _ _ (by omega) (by omega)).mono ?_); rintro e w1 ⟨rfl, rfl⟩)))
  go_ret2
  exact ⟨rfl, rfl⟩
theorem run_3full (w : World) (hz : Sz w) :
    Calls Tryd.prog 57 #[.int .i64 47] w fun e w' => e = .returned (.tuple #[.int .i64 3, .int .i64 0]) ∧ w = w' := by
  have H := Lib.hid hz
  clear hz
  go_enter Tryd.func57, Tryd.ntmps57
  go_wp2_with (first | ((go_at_call 56; (with_reducible refine (of_3 _ _ H.out (by omega) (by omega)).mono ?_); rintro e w1 ⟨rfl, rfl⟩)) | ((go_at_call 69; (with_reducible refine (words_any _ _ (by omega) (by omega)).mono ?_); rintro e w1 ⟨rfl, rfl⟩)))
  go_ret2
  exact ⟨rfl, rfl⟩
theorem run_3 (n : Int) (w : World) (hz : Sz w) (h0 : 32 ≤ n) (h1 : n ≤ 47) :
    Calls Tryd.prog 57 #[.int .i64 n] w fun e w' => e = .returned (.tuple #[.int .i64 3, .int .i64 0]) ∧ w = w' := by
  by_cases h : n = 47
  · subst h
    exact run_3full w hz
  · exact run_3part n w hz h0 (by omega)
theorem run_4part (n : Int) (w : World) (hz : Sz w) (h0 : 48 ≤ n) (h1 : n ≤ 62) :
    Calls Tryd.prog 57 #[.int .i64 n] w fun e w' => e = .returned (.tuple #[.int .i64 4, .int .i64 0]) ∧ w = w' := by
  have H := Lib.hid hz
  clear hz
  have q : (1 + n) / 16 = 3 := by omega
  have r : 0 < (1 + n) % 16 := by omega
  go_enter Tryd.func57, Tryd.ntmps57
  go_wp2_with (first | ((go_at_call 56; (with_reducible refine (of_3 _ _ H.out (by omega) (by omega)).mono ?_); rintro e w1 ⟨rfl, rfl⟩)) | ((go_at_call 69; (with_reducible refine (words_any _ _ (by omega) (by omega)).mono ?_); rintro e w1 ⟨rfl, rfl⟩)))
  go_ret2
  exact ⟨rfl, rfl⟩
theorem run_4full (w : World) (hz : Sz w) :
    Calls Tryd.prog 57 #[.int .i64 63] w fun e w' => e = .returned (.tuple #[.int .i64 4, .int .i64 0]) ∧ w = w' := by
  have H := Lib.hid hz
  clear hz
  go_enter Tryd.func57, Tryd.ntmps57
  go_wp2_with (first | ((go_at_call 56; (with_reducible refine (of_3 _ _ H.out (by omega) (by omega)).mono ?_); rintro e w1 ⟨rfl, rfl⟩)) | ((go_at_call 69; (with_reducible refine (words_any _ _ (by omega) (by omega)).mono ?_); rintro e w1 ⟨rfl, rfl⟩)))
  go_ret2
  exact ⟨rfl, rfl⟩
theorem run_4 (n : Int) (w : World) (hz : Sz w) (h0 : 48 ≤ n) (h1 : n ≤ 63) :
    Calls Tryd.prog 57 #[.int .i64 n] w fun e w' => e = .returned (.tuple #[.int .i64 4, .int .i64 0]) ∧ w = w' := by
  by_cases h : n = 63
  · subst h
    exact run_4full w hz
  · exact run_4part n w hz h0 (by omega)
theorem run_of (n : Int) (w : World) (hz : Sz w) :
    Calls Tryd.prog 57 #[.int .i64 n] w fun e w' => e = .returned (.tuple #[.int .i64 (runOf n), .int .i64 (runErr n)]) ∧ w = w' := by
  have key : ∀ {a b : Int}, runOf n = a → runErr n = b → Calls Tryd.prog 57 #[.int .i64 n] w (fun e w' => e = .returned (.tuple #[.int .i64 a, .int .i64 b]) ∧ w = w') → Calls Tryd.prog 57 #[.int .i64 n] w (fun e w' => e = .returned (.tuple #[.int .i64 (runOf n), .int .i64 (runErr n)]) ∧ w = w') := by
    intro a b h1 h2 h3
    rw [h1, h2]
    exact h3
  by_cases c1 : n < 1
  · exact key (by unfold runOf; rw [if_pos (by omega)]) (by unfold runErr; rw [if_pos (by omega)]) (run_low n w c1)
  by_cases c2 : 63 < n
  · exact key (by unfold runOf; rw [if_pos (by omega)]) (by unfold runErr; rw [if_neg (by omega), if_pos (by omega)]) (run_high n w c2)
  by_cases d0 : n ≤ 1
  · exact key (by unfold runOf; rw [if_pos (by omega)]) (by unfold runErr; rw [if_neg (by omega), if_neg (by omega), if_pos (by omega)]) (run_s0 n w hz (by omega) d0)
  by_cases d1 : n ≤ 3
  · exact key (by unfold runOf; rw [if_pos (by omega)]) (by unfold runErr; rw [if_neg (by omega), if_neg (by omega), if_pos (by omega)]) (run_s1 n w hz (by omega) d1)
  by_cases d2 : n ≤ 7
  · exact key (by unfold runOf; rw [if_pos (by omega)]) (by unfold runErr; rw [if_neg (by omega), if_neg (by omega), if_pos (by omega)]) (run_s2 n w hz (by omega) d2)
  by_cases e1 : n ≤ 15
  · exact key (by unfold runOf; rw [if_neg (by omega), if_pos (by omega)]) (by unfold runErr; rw [if_neg (by omega), if_neg (by omega), if_neg (by omega)]) (run_1 n w hz (by omega) e1)
  by_cases e2 : n ≤ 31
  · exact key (by unfold runOf; rw [if_neg (by omega), if_neg (by omega), if_pos (by omega)]) (by unfold runErr; rw [if_neg (by omega), if_neg (by omega), if_neg (by omega)]) (run_2 n w hz (by omega) e2)
  by_cases e3 : n ≤ 47
  · exact key (by unfold runOf; rw [if_neg (by omega), if_neg (by omega), if_neg (by omega), if_pos (by omega)]) (by unfold runErr; rw [if_neg (by omega), if_neg (by omega), if_neg (by omega)]) (run_3 n w hz (by omega) e3)
  exact key (by unfold runOf; rw [if_neg (by omega), if_neg (by omega), if_neg (by omega), if_neg (by omega)]) (by unfold runErr; rw [if_neg (by omega), if_neg (by omega), if_neg (by omega)]) (run_4 n w hz (by omega) (by omega))
end Go.Proofs.YtjppimabhefeeaaDoor.Cl
end
section
namespace Go.Proofs.YtjppimabhefeeaaDoor.Cl
open Go.Proofs.YtjppimabhefeeaaDoor
set_option maxRecDepth 100000
open Go.RowKit

theorem rwords_at0 (w : World) :
    Calls Tryd.prog 33 #[.int .i64 0] w fun e w' => e = .returned (.int .i64 2) ∧ w = w' := by
  go_enter Tryd.func33, Tryd.ntmps33
  go_wp2
  go_ret
  exact ⟨rfl, rfl⟩
theorem rwords_at1 (w : World) :
    Calls Tryd.prog 33 #[.int .i64 1] w fun e w' => e = .returned (.int .i64 4) ∧ w = w' := by
  go_enter Tryd.func33, Tryd.ntmps33
  go_wp2
  go_ret
  exact ⟨rfl, rfl⟩
theorem rwords_at2 (w : World) :
    Calls Tryd.prog 33 #[.int .i64 2] w fun e w' => e = .returned (.int .i64 8) ∧ w = w' := by
  go_enter Tryd.func33, Tryd.ntmps33
  go_wp2
  go_ret
  exact ⟨rfl, rfl⟩
theorem rwords_low (c : Int) (w : World) (h : c < 0) :
    Calls Tryd.prog 33 #[.int .i64 c] w fun e w' => e = .returned (.int .i64 0) ∧ w = w' := by
  have b0 : (c == 0) = false := by simp; omega
  have b1 : (c == 1) = false := by simp; omega
  have b2 : (c == 2) = false := by simp; omega
  go_enter Tryd.func33, Tryd.ntmps33
  go_wp2
  go_ret
  exact ⟨rfl, rfl⟩
theorem rwords_high (c : Int) (w : World) (h : 2 < c) :
    Calls Tryd.prog 33 #[.int .i64 c] w fun e w' => e = .returned (.int .i64 0) ∧ w = w' := by
  have b0 : (c == 0) = false := by simp; omega
  have b1 : (c == 1) = false := by simp; omega
  have b2 : (c == 2) = false := by simp; omega
  go_enter Tryd.func33, Tryd.ntmps33
  go_wp2
  go_ret
  exact ⟨rfl, rfl⟩
theorem rwords_of (c : Int) (w : World) :
    Calls Tryd.prog 33 #[.int .i64 c] w fun e w' => e = .returned (.int .i64 (wordsOf c)) ∧ w = w' := by
  by_cases h : c < 0 ∨ 2 < c
  · rw [wordsOf_no h]
    rcases h with h | h
    · exact rwords_low c w h
    · exact rwords_high c w h
  · have hc : c = 0 ∨ c = 1 ∨ c = 2 := by omega
    clear h
    rcases hc with rfl | rfl | rfl
    · exact rwords_at0 w
    · exact rwords_at1 w
    · exact rwords_at2 w
theorem rof_low (n : Int) (w : World) (h : n < 1) :
    Calls Tryd.prog 48 #[.int .i64 n] w fun e w' => e = .returned (.tuple #[.int .i64 0, .int .i64 1]) ∧ w = w' := by
  go_enter Tryd.func48, Tryd.ntmps48
  go_wp2
  go_ret2
  exact ⟨rfl, rfl⟩
theorem rof_high (n : Int) (w : World) (h : 63 < n) :
    Calls Tryd.prog 48 #[.int .i64 n] w fun e w' => e = .returned (.tuple #[.int .i64 0, .int .i64 2]) ∧ w = w' := by
  go_enter Tryd.func48, Tryd.ntmps48
  go_wp2
  go_ret2
  exact ⟨rfl, rfl⟩
theorem rof_0 (n : Int) (w : World) (h0 : 1 ≤ n) (h1 : n ≤ 1) :
    Calls Tryd.prog 48 #[.int .i64 n] w fun e w' => e = .returned (.tuple #[.int .i64 0, .int .i64 0]) ∧ w = w' := by
  have d1 : decide (n < 1) = false := by simp; omega
  have d2 : decide (63 < n) = false := by simp; omega
  go_enter Tryd.func48, Tryd.ntmps48
  go_wp2
  go_loop [4] (fun i => ∃ k : Nat, k ≤ 0 ∧ i = .int .i64 k) (fun i => 3 - (intOf i).toNat)
  case atStart => exact ⟨0, by omega, rfl⟩
  case round =>
    obtain ⟨k, hk, rfl⟩ := hrel
    have hc : k = 0 := by omega
    clear hk
    subst hc
    · have t : decide (n + 1 ≤ (2 : Int)) = true := by simp; omega
      go_wp2_with (go_at_call 33; (with_reducible refine (rwords_at0 _).mono ?_); rintro e w1 ⟨rfl, rfl⟩)
      go_ret2
      exact ⟨rfl, rfl⟩
theorem rof_1 (n : Int) (w : World) (h0 : 2 ≤ n) (h1 : n ≤ 3) :
    Calls Tryd.prog 48 #[.int .i64 n] w fun e w' => e = .returned (.tuple #[.int .i64 1, .int .i64 0]) ∧ w = w' := by
  have d1 : decide (n < 1) = false := by simp; omega
  have d2 : decide (63 < n) = false := by simp; omega
  go_enter Tryd.func48, Tryd.ntmps48
  go_wp2
  go_loop [4] (fun i => ∃ k : Nat, k ≤ 1 ∧ i = .int .i64 k) (fun i => 3 - (intOf i).toNat)
  case atStart => exact ⟨0, by omega, rfl⟩
  case round =>
    obtain ⟨k, hk, rfl⟩ := hrel
    have hc : k = 0 ∨ k = 1 := by omega
    clear hk
    rcases hc with rfl | rfl
    · have t : decide (n + 1 ≤ (2 : Int)) = false := by simp; omega
      go_wp2_with (go_at_call 33; (with_reducible refine (rwords_at0 _).mono ?_); rintro e w1 ⟨rfl, rfl⟩)
      go_round
      case rel => exact ⟨1, by omega, by go_num⟩
      case measure => simp [intOf]
    · have t : decide (n + 1 ≤ (4 : Int)) = true := by simp; omega
      go_wp2_with (go_at_call 33; (with_reducible refine (rwords_at1 _).mono ?_); rintro e w1 ⟨rfl, rfl⟩)
      go_ret2
      exact ⟨rfl, rfl⟩
theorem rof_2 (n : Int) (w : World) (h0 : 4 ≤ n) (h1 : n ≤ 7) :
    Calls Tryd.prog 48 #[.int .i64 n] w fun e w' => e = .returned (.tuple #[.int .i64 2, .int .i64 0]) ∧ w = w' := by
  have d1 : decide (n < 1) = false := by simp; omega
  have d2 : decide (63 < n) = false := by simp; omega
  go_enter Tryd.func48, Tryd.ntmps48
  go_wp2
  go_loop [4] (fun i => ∃ k : Nat, k ≤ 2 ∧ i = .int .i64 k) (fun i => 3 - (intOf i).toNat)
  case atStart => exact ⟨0, by omega, rfl⟩
  case round =>
    obtain ⟨k, hk, rfl⟩ := hrel
    have hc : k = 0 ∨ k = 1 ∨ k = 2 := by omega
    clear hk
    rcases hc with rfl | rfl | rfl
    · have t : decide (n + 1 ≤ (2 : Int)) = false := by simp; omega
      go_wp2_with (go_at_call 33; (with_reducible refine (rwords_at0 _).mono ?_); rintro e w1 ⟨rfl, rfl⟩)
      go_round
      case rel => exact ⟨1, by omega, by go_num⟩
      case measure => simp [intOf]
    · have t : decide (n + 1 ≤ (4 : Int)) = false := by simp; omega
      go_wp2_with (go_at_call 33; (with_reducible refine (rwords_at1 _).mono ?_); rintro e w1 ⟨rfl, rfl⟩)
      go_round
      case rel => exact ⟨2, by omega, by go_num⟩
      case measure => simp [intOf]
    · have t : decide (n + 1 ≤ (8 : Int)) = true := by simp; omega
      go_wp2_with (go_at_call 33; (with_reducible refine (rwords_at2 _).mono ?_); rintro e w1 ⟨rfl, rfl⟩)
      go_ret2
      exact ⟨rfl, rfl⟩
theorem rof_3 (n : Int) (w : World) (h0 : 8 ≤ n) (h1 : n ≤ 63) :
    Calls Tryd.prog 48 #[.int .i64 n] w fun e w' => e = .returned (.tuple #[.int .i64 3, .int .i64 0]) ∧ w = w' := by
  have d1 : decide (n < 1) = false := by simp; omega
  have d2 : decide (63 < n) = false := by simp; omega
  go_enter Tryd.func48, Tryd.ntmps48
  go_wp2
  go_loop [4] (fun i => ∃ k : Nat, k ≤ 3 ∧ i = .int .i64 k) (fun i => 3 - (intOf i).toNat)
  case atStart => exact ⟨0, by omega, rfl⟩
  case round =>
    obtain ⟨k, hk, rfl⟩ := hrel
    have hc : k = 0 ∨ k = 1 ∨ k = 2 ∨ k = 3 := by omega
    clear hk
    rcases hc with rfl | rfl | rfl | rfl
    · have t : decide (n + 1 ≤ (2 : Int)) = false := by simp; omega
      go_wp2_with (go_at_call 33; (with_reducible refine (rwords_at0 _).mono ?_); rintro e w1 ⟨rfl, rfl⟩)
      go_round
      case rel => exact ⟨1, by omega, by go_num⟩
      case measure => simp [intOf]
    · have t : decide (n + 1 ≤ (4 : Int)) = false := by simp; omega
      go_wp2_with (go_at_call 33; (with_reducible refine (rwords_at1 _).mono ?_); rintro e w1 ⟨rfl, rfl⟩)
      go_round
      case rel => exact ⟨2, by omega, by go_num⟩
      case measure => simp [intOf]
    · have t : decide (n + 1 ≤ (8 : Int)) = false := by simp; omega
      go_wp2_with (go_at_call 33; (with_reducible refine (rwords_at2 _).mono ?_); rintro e w1 ⟨rfl, rfl⟩)
      go_round
      case rel => exact ⟨3, by omega, by go_num⟩
      case measure => simp [intOf]
    · go_wp2
      go_ret2
      exact ⟨rfl, rfl⟩
theorem rof_of (n : Int) (w : World) :
    Calls Tryd.prog 48 #[.int .i64 n] w fun e w' => e = .returned (.tuple #[.int .i64 (classOf n), .int .i64 (classErr n)]) ∧ w = w' := by
  have key : ∀ {a b : Int}, classOf n = a → classErr n = b → Calls Tryd.prog 48 #[.int .i64 n] w (fun e w' => e = .returned (.tuple #[.int .i64 a, .int .i64 b]) ∧ w = w') → Calls Tryd.prog 48 #[.int .i64 n] w (fun e w' => e = .returned (.tuple #[.int .i64 (classOf n), .int .i64 (classErr n)]) ∧ w = w') := by
    intro a b h1 h2 h3
    rw [h1, h2]
    exact h3
  by_cases c1 : n < 1
  · exact key (by simp [classOf, c1]) (by simp [classErr, c1]) (rof_low n w c1)
  by_cases c2 : 63 < n
  · exact key (by simp [classOf, c2]) (by simp [classErr, c1, c2]) (rof_high n w c2)
  by_cases c3 : n ≤ 1
  · exact key (by simp [classOf, c1, c2, c3]) (by simp [classErr, c1, c2]) (rof_0 n w (by omega) c3)
  by_cases c4 : n ≤ 3
  · exact key (by simp [classOf, c1, c2, c3, c4]) (by simp [classErr, c1, c2]) (rof_1 n w (by omega) c4)
  by_cases c5 : n ≤ 7
  · exact key (by simp [classOf, c1, c2, c3, c4, c5]) (by simp [classErr, c1, c2]) (rof_2 n w (by omega) c5)
  exact key (by simp [classOf, c1, c2, c3, c4, c5]) (by simp [classErr, c1, c2]) (rof_3 n w (by omega) (by omega))
theorem rrun_low (n : Int) (w : World) (h : n < 1) :
    Calls Tryd.prog 49 #[.int .i64 n] w fun e w' => e = .returned (.tuple #[.int .i64 0, .int .i64 1]) ∧ w = w' := by
  go_enter Tryd.func49, Tryd.ntmps49
  go_wp2_with (go_at_call 48; (with_reducible refine (rof_low _ _ h).mono ?_); rintro e w1 ⟨rfl, rfl⟩)
  go_ret2
  exact ⟨rfl, rfl⟩
theorem rrun_high (n : Int) (w : World) (h : 63 < n) :
    Calls Tryd.prog 49 #[.int .i64 n] w fun e w' => e = .returned (.tuple #[.int .i64 0, .int .i64 2]) ∧ w = w' := by
  go_enter Tryd.func49, Tryd.ntmps49
  go_wp2_with (go_at_call 48; (with_reducible refine (rof_high _ _ h).mono ?_); rintro e w1 ⟨rfl, rfl⟩)
  go_ret2
  exact ⟨rfl, rfl⟩
theorem rrun_s0 (n : Int) (w : World) (h0 : 1 ≤ n) (h1 : n ≤ 1) :
    Calls Tryd.prog 49 #[.int .i64 n] w fun e w' => e = .returned (.tuple #[.int .i64 0, .int .i64 3]) ∧ w = w' := by
  go_enter Tryd.func49, Tryd.ntmps49
  go_wp2_with (go_at_call 48; (with_reducible refine (rof_0 _ _ h0 h1).mono ?_); rintro e w1 ⟨rfl, rfl⟩)
  go_ret2
  exact ⟨rfl, rfl⟩
theorem rrun_s1 (n : Int) (w : World) (h0 : 2 ≤ n) (h1 : n ≤ 3) :
    Calls Tryd.prog 49 #[.int .i64 n] w fun e w' => e = .returned (.tuple #[.int .i64 0, .int .i64 3]) ∧ w = w' := by
  go_enter Tryd.func49, Tryd.ntmps49
  go_wp2_with (go_at_call 48; (with_reducible refine (rof_1 _ _ h0 h1).mono ?_); rintro e w1 ⟨rfl, rfl⟩)
  go_ret2
  exact ⟨rfl, rfl⟩
theorem rrun_s2 (n : Int) (w : World) (h0 : 4 ≤ n) (h1 : n ≤ 7) :
    Calls Tryd.prog 49 #[.int .i64 n] w fun e w' => e = .returned (.tuple #[.int .i64 0, .int .i64 3]) ∧ w = w' := by
  go_enter Tryd.func49, Tryd.ntmps49
  go_wp2_with (go_at_call 48; (with_reducible refine (rof_2 _ _ h0 h1).mono ?_); rintro e w1 ⟨rfl, rfl⟩)
  go_ret2
  exact ⟨rfl, rfl⟩
theorem rrun_1 (n : Int) (w : World) (h0 : 8 ≤ n) (h1 : n ≤ 15) :
    Calls Tryd.prog 49 #[.int .i64 n] w fun e w' => e = .returned (.tuple #[.int .i64 1, .int .i64 0]) ∧ w = w' := by
  go_enter Tryd.func49, Tryd.ntmps49
  go_wp2_with (go_at_call 48; (with_reducible refine (rof_3 _ _ (by omega) (by omega)).mono ?_); rintro e w1 ⟨rfl, rfl⟩)
  go_loop [6] (fun i => ∃ k : Nat, k ≤ 1 ∧ i = .int .i64 k) (fun i => 4 - (intOf i).toNat)
  case atStart => exact ⟨0, by omega, rfl⟩
  case round =>
    obtain ⟨k, hk, rfl⟩ := hrel
    have hc : k = 0 ∨ k = 1 := by omega
    clear hk
    rcases hc with rfl | rfl
    · have t : decide ((0 : Int) < n + 1) = true := by simp; omega
      go_wp2
      go_round
      case rel => exact ⟨1, by omega, by go_num⟩
      case measure => simp [intOf]
    · have t : decide ((16 : Int) < n + 1) = false := by simp; omega
      go_wp2
      go_ret2
      exact ⟨rfl, rfl⟩
theorem rrun_2 (n : Int) (w : World) (h0 : 16 ≤ n) (h1 : n ≤ 31) :
    Calls Tryd.prog 49 #[.int .i64 n] w fun e w' => e = .returned (.tuple #[.int .i64 2, .int .i64 0]) ∧ w = w' := by
  go_enter Tryd.func49, Tryd.ntmps49
  go_wp2_with (go_at_call 48; (with_reducible refine (rof_3 _ _ (by omega) (by omega)).mono ?_); rintro e w1 ⟨rfl, rfl⟩)
  go_loop [6] (fun i => ∃ k : Nat, k ≤ 2 ∧ i = .int .i64 k) (fun i => 4 - (intOf i).toNat)
  case atStart => exact ⟨0, by omega, rfl⟩
  case round =>
    obtain ⟨k, hk, rfl⟩ := hrel
    have hc : k = 0 ∨ k = 1 ∨ k = 2 := by omega
    clear hk
    rcases hc with rfl | rfl | rfl
    · have t : decide ((0 : Int) < n + 1) = true := by simp; omega
      go_wp2
      go_round
      case rel => exact ⟨1, by omega, by go_num⟩
      case measure => simp [intOf]
    · have t : decide ((16 : Int) < n + 1) = true := by simp; omega
      go_wp2
      go_round
      case rel => exact ⟨2, by omega, by go_num⟩
      case measure => simp [intOf]
    · have t : decide ((32 : Int) < n + 1) = false := by simp; omega
      go_wp2
      go_ret2
      exact ⟨rfl, rfl⟩
theorem rrun_3 (n : Int) (w : World) (h0 : 32 ≤ n) (h1 : n ≤ 47) :
    Calls Tryd.prog 49 #[.int .i64 n] w fun e w' => e = .returned (.tuple #[.int .i64 3, .int .i64 0]) ∧ w = w' := by
  go_enter Tryd.func49, Tryd.ntmps49
  go_wp2_with (go_at_call 48; (with_reducible refine (rof_3 _ _ (by omega) (by omega)).mono ?_); rintro e w1 ⟨rfl, rfl⟩)
  go_loop [6] (fun i => ∃ k : Nat, k ≤ 3 ∧ i = .int .i64 k) (fun i => 4 - (intOf i).toNat)
  case atStart => exact ⟨0, by omega, rfl⟩
  case round =>
    obtain ⟨k, hk, rfl⟩ := hrel
    have hc : k = 0 ∨ k = 1 ∨ k = 2 ∨ k = 3 := by omega
    clear hk
    rcases hc with rfl | rfl | rfl | rfl
    · have t : decide ((0 : Int) < n + 1) = true := by simp; omega
      go_wp2
      go_round
      case rel => exact ⟨1, by omega, by go_num⟩
      case measure => simp [intOf]
    · have t : decide ((16 : Int) < n + 1) = true := by simp; omega
      go_wp2
      go_round
      case rel => exact ⟨2, by omega, by go_num⟩
      case measure => simp [intOf]
    · have t : decide ((32 : Int) < n + 1) = true := by simp; omega
      go_wp2
      go_round
      case rel => exact ⟨3, by omega, by go_num⟩
      case measure => simp [intOf]
    · have t : decide ((48 : Int) < n + 1) = false := by simp; omega
      go_wp2
      go_ret2
      exact ⟨rfl, rfl⟩
theorem rrun_4 (n : Int) (w : World) (h0 : 48 ≤ n) (h1 : n ≤ 63) :
    Calls Tryd.prog 49 #[.int .i64 n] w fun e w' => e = .returned (.tuple #[.int .i64 4, .int .i64 0]) ∧ w = w' := by
  go_enter Tryd.func49, Tryd.ntmps49
  go_wp2_with (go_at_call 48; (with_reducible refine (rof_3 _ _ (by omega) (by omega)).mono ?_); rintro e w1 ⟨rfl, rfl⟩)
  go_loop [6] (fun i => ∃ k : Nat, k ≤ 4 ∧ i = .int .i64 k) (fun i => 4 - (intOf i).toNat)
  case atStart => exact ⟨0, by omega, rfl⟩
  case round =>
    obtain ⟨k, hk, rfl⟩ := hrel
    have hc : k = 0 ∨ k = 1 ∨ k = 2 ∨ k = 3 ∨ k = 4 := by omega
    clear hk
    rcases hc with rfl | rfl | rfl | rfl | rfl
    · have t : decide ((0 : Int) < n + 1) = true := by simp; omega
      go_wp2
      go_round
      case rel => exact ⟨1, by omega, by go_num⟩
      case measure => simp [intOf]
    · have t : decide ((16 : Int) < n + 1) = true := by simp; omega
      go_wp2
      go_round
      case rel => exact ⟨2, by omega, by go_num⟩
      case measure => simp [intOf]
    · have t : decide ((32 : Int) < n + 1) = true := by simp; omega
      go_wp2
      go_round
      case rel => exact ⟨3, by omega, by go_num⟩
      case measure => simp [intOf]
    · have t : decide ((48 : Int) < n + 1) = true := by simp; omega
      go_wp2
      go_round
      case rel => exact ⟨4, by omega, by go_num⟩
      case measure => simp [intOf]
    · have t : decide ((64 : Int) < n + 1) = false := by simp; omega
      go_wp2
      go_ret2
      exact ⟨rfl, rfl⟩
theorem rrun_of (n : Int) (w : World) :
    Calls Tryd.prog 49 #[.int .i64 n] w fun e w' => e = .returned (.tuple #[.int .i64 (runOf n), .int .i64 (runErr n)]) ∧ w = w' := by
  have key : ∀ {a b : Int}, runOf n = a → runErr n = b → Calls Tryd.prog 49 #[.int .i64 n] w (fun e w' => e = .returned (.tuple #[.int .i64 a, .int .i64 b]) ∧ w = w') → Calls Tryd.prog 49 #[.int .i64 n] w (fun e w' => e = .returned (.tuple #[.int .i64 (runOf n), .int .i64 (runErr n)]) ∧ w = w') := by
    intro a b h1 h2 h3
    rw [h1, h2]
    exact h3
  by_cases c1 : n < 1
  · exact key (by unfold runOf; rw [if_pos (by omega)]) (by unfold runErr; rw [if_pos (by omega)]) (rrun_low n w c1)
  by_cases c2 : 63 < n
  · exact key (by unfold runOf; rw [if_pos (by omega)]) (by unfold runErr; rw [if_neg (by omega), if_pos (by omega)]) (rrun_high n w c2)
  by_cases d0 : n ≤ 1
  · exact key (by unfold runOf; rw [if_pos (by omega)]) (by unfold runErr; rw [if_neg (by omega), if_neg (by omega), if_pos (by omega)]) (rrun_s0 n w (by omega) d0)
  by_cases d1 : n ≤ 3
  · exact key (by unfold runOf; rw [if_pos (by omega)]) (by unfold runErr; rw [if_neg (by omega), if_neg (by omega), if_pos (by omega)]) (rrun_s1 n w (by omega) d1)
  by_cases d2 : n ≤ 7
  · exact key (by unfold runOf; rw [if_pos (by omega)]) (by unfold runErr; rw [if_neg (by omega), if_neg (by omega), if_pos (by omega)]) (rrun_s2 n w (by omega) d2)
  by_cases e1 : n ≤ 15
  · exact key (by unfold runOf; rw [if_neg (by omega), if_pos (by omega)]) (by unfold runErr; rw [if_neg (by omega), if_neg (by omega), if_neg (by omega)]) (rrun_1 n w (by omega) e1)
  by_cases e2 : n ≤ 31
  · exact key (by unfold runOf; rw [if_neg (by omega), if_neg (by omega), if_pos (by omega)]) (by unfold runErr; rw [if_neg (by omega), if_neg (by omega), if_neg (by omega)]) (rrun_2 n w (by omega) e2)
  by_cases e3 : n ≤ 47
  · exact key (by unfold runOf; rw [if_neg (by omega), if_neg (by omega), if_neg (by omega), if_pos (by omega)]) (by unfold runErr; rw [if_neg (by omega), if_neg (by omega), if_neg (by omega)]) (rrun_3 n w (by omega) e3)
  exact key (by unfold runOf; rw [if_neg (by omega), if_neg (by omega), if_neg (by omega), if_neg (by omega)]) (by unfold runErr; rw [if_neg (by omega), if_neg (by omega), if_neg (by omega)]) (rrun_4 n w (by omega) (by omega))
end Go.Proofs.YtjppimabhefeeaaDoor.Cl
end
section
namespace Go.Proofs.YtjppimabhefeeaaDoor
open Go.RowKit
set_option maxRecDepth 100000

/-- The box of a heap. -/
structure HBox (W : World) (b : Nat) (s : Hs) : Prop where
  c0 : W.cell? ⟨b, 0, none⟩ = some (.slice s.w.a s.w.n s.w.c)
  c1 : W.cell? ⟨b, 1, none⟩ = some (.slice s.p.a s.p.n s.p.c)
  c2 : W.cell? ⟨b, 2, none⟩ = some (.slice (s.u 0).a (s.u 0).n (s.u 0).c)
  c3 : W.cell? ⟨b, 3, none⟩ = some (.slice (s.u 1).a (s.u 1).n (s.u 1).c)
  c4 : W.cell? ⟨b, 4, none⟩ = some (.slice (s.u 2).a (s.u 2).n (s.u 2).c)
  c5 : W.cell? ⟨b, 5, none⟩ = some (.slice s.c.a s.c.n s.c.c)
  lt : b < W.heap.size
theorem HBox.new (w : World) (s : Hs) (t : TypeId) : HBox (w.alloc (.cells #[.slice s.w.a s.w.n s.w.c, .slice s.p.a s.p.n s.p.c, .slice (s.u 0).a (s.u 0).n (s.u 0).c, .slice (s.u 1).a (s.u 1).n (s.u 1).c, .slice (s.u 2).a (s.u 2).n (s.u 2).c, .slice s.c.a s.c.n s.c.c] t)) w.heap.size s := by
  refine ⟨?_, ?_, ?_, ?_, ?_, ?_, by simp⟩ <;> simp [go_sem]
theorem HBox.next {W W' : World} {b : Nat} {s : Hs} (h : HBox W b s) (hb : Below W.heap.size W W') : HBox W' b s :=
  ⟨(hb.cell (p := ⟨b, 0, none⟩) h.lt).trans h.c0, (hb.cell (p := ⟨b, 1, none⟩) h.lt).trans h.c1, (hb.cell (p := ⟨b, 2, none⟩) h.lt).trans h.c2, (hb.cell (p := ⟨b, 3, none⟩) h.lt).trans h.c3, (hb.cell (p := ⟨b, 4, none⟩) h.lt).trans h.c4, (hb.cell (p := ⟨b, 5, none⟩) h.lt).trans h.c5, Nat.lt_of_lt_of_le h.lt hb.size⟩

def nOf (x : Int) : Int := x / 8 % 128
def cellB (x : Int) (p : Int × Int) : Bool :=
  if Hd.isWord x = true ∧ x % 2 = 1 then (Cl.classErr (nOf x) == 0) && (if p.1 = 1 then Cl.classOf (nOf x) == p.2 else (Cl.runErr (nOf x) == 0) && (Cl.runOf (nOf x) == p.2))
  else Hd.isWord x && (p.1 == 1)
theorem headOf_no {x : Int} (h : Hd.isWord x = false) : headOf x = .agg #[.bool false, .bool false, .bool false, .int .i64 0, .int .i64 0, .int .i64 0] := by simp [headOf, h]
theorem headOf_yes {x : Int} (h : Hd.isWord x = true) : headOf x = .agg #[.bool (decide (x % 2 = 1)), .bool (decide (x / 2 % 2 = 1)), .bool (decide (x / 4 % 2 = 1)), .int .i64 (nOf x), .int .i64 (x / 1024 % 4194304), .int .i64 (x / 4294967296)] := by simp [headOf, h, nOf]
section
variable (s : Hs) (d : Hd_) (w : World) (a : Int) (i j : Nat) (x : Int) (p : Int × Int)
/-- What a walk through cell has when Unpack has answered. -/
theorem rcell_start (hp : Hp w w.heap.size s d) (hi : i < s.w.n) (hj : j < s.p.n) (hwn : s.w.n ≤ 4000) (hpn : s.p.n ≤ 4000) (ha : a - 16 = i) (hb : a / 16 - 1 = j) (hx : x = d.ws.getD i 0) (hpp : p = d.f j) (x0 : -9223372036854775808 ≤ x) (x1 : x ≤ 9223372036854775807)
    (u o e : Bool) (n b m : Int) (ok : Bool) (R : Bool) (hun : headOf x = .agg #[.bool u, .bool o, .bool e, .int .i64 n, .int .i64 b, .int .i64 m]) (hok : Hd.isWord x = ok)
    (hR : R = if ok = true ∧ u = true then (Cl.classErr n == 0) && (if p.1 = 1 then Cl.classOf n == p.2 else (Cl.runErr n == 0) && (Cl.runOf n == p.2)) else ok && (p.1 == 1)) :
    Calls Tryd.prog 30 #[(.agg #[.slice s.w.a s.w.n s.w.c, .slice s.p.a s.p.n s.p.c, .slice (s.u 0).a (s.u 0).n (s.u 0).c, .slice (s.u 1).a (s.u 1).n (s.u 1).c, .slice (s.u 2).a (s.u 2).n (s.u 2).c, .slice s.c.a s.c.n s.c.c]), .int .i64 a] w fun e w' => e = .returned (.bool R) ∧ Below w.heap.size w w' := by
  rcases s with ⟨⟨aw, nw, cw⟩, ⟨ap, np, cp⟩, su, ⟨ac, nc, cc⟩⟩
  dsimp only at hi hj hwn hpn ⊢
  obtain ⟨bw, ow, rfl, hbw, hcw⟩ := hp.words.2 (show 0 < nw by omega)
  obtain ⟨bp, op, rfl, hbp, hcp⟩ := hp.pages (show 0 < np by omega)
  have hw0 := hcw i hi
  obtain ⟨hp0, hp1⟩ := hcp j hj
  rw [← hx] at hw0
  rw [← hpp] at hp0 hp1
  have HR := Lib.hid hR
  have HOK := Lib.hid hok
  have HUN := Lib.hid hun
  have i0 : (0 : Int) ≤ i := by omega
  have i1 : (i : Int) < nw := by omega
  have j0 : (0 : Int) ≤ j := by omega
  have j1 : (j : Int) < np := by omega
  clear hcw hcp hx hpp hR hok hun hp
  go_enter Tryd.func30, Tryd.ntmps30
  go_wp2_with fail
  refine (runpack_any x _ x0 x1).mono ?_
  rw [HUN.out, HOK.out]
  rintro r w1 ⟨rfl, hb1⟩
  have HB0 := (HBox.new w ⟨⟨some ⟨bw, ow, none⟩, nw, cw⟩, ⟨some ⟨bp, op, none⟩, np, cp⟩, su, ⟨ac, nc, cc⟩⟩ 28).next hb1
  have q1 := HB0.c1
  dsimp only at q1
  have ql := HB0.lt
  have BW := Lib.hid ((((Below.refl w.heap.size w).alloc (Nat.le_refl _) _).trans (hb1.mono (by simp))))
  have hpl : bp < w1.heap.size := by have := HB0.lt; omega
  have r0 := (BW.out.cell (p := ⟨bp, op + j * 2, none⟩) hbp).trans hp0
  have r1 := (BW.out.cell (p := ⟨bp, op + j * 2 + 1, none⟩) hbp).trans hp1
  clear hb1 HB0 hp0 hp1 hw0 hbw ha i0 i1
  cases ok
  · have R0 : R = false := by rw [HR.out]; simp
    subst R0
    go_wp2
    go_ret
    exact ⟨rfl, ((BW.out.alloc (by have := BW.out.size; omega) _).alloc (by simp; have := BW.out.size; omega) _)⟩
  cases u
  · have R0 : R = (p.1 == 1) := by rw [HR.out]; simp
    subst R0
    go_wp2
    go_ret
    exact ⟨rfl, ((BW.out.alloc (by have := BW.out.size; omega) _).alloc (by simp; have := BW.out.size; omega) _)⟩
  have R0 : R = ((Cl.classErr n == 0) && (if p.1 = 1 then Cl.classOf n == p.2 else (Cl.runErr n == 0) && (Cl.runOf n == p.2))) := by rw [HR.out]; simp
  go_wp2_with fail
  refine (Cl.rof_of n _).mono ?_
  rintro r w2 ⟨rfl, rfl⟩
  clear HR
  by_cases he : Cl.classErr n = 0
  · rw [he] at R0 ⊢
    clear he
    by_cases hk : p.1 = 1
    · have k1 : (p.1 == 1) = true := by simp [hk]
      have R1 : R = (Cl.classOf n == p.2) := by rw [R0, if_pos hk]; simp
      subst R1
      clear R0 hk
      go_wp2
      go_ret
      exact ⟨rfl, ((BW.out.alloc (by have := BW.out.size; omega) _).alloc (by simp; have := BW.out.size; omega) _)⟩
    · have k1 : (p.1 == 1) = false := by simp [hk]
      have R1 : R = ((Cl.runErr n == 0) && (Cl.runOf n == p.2)) := by rw [R0, if_neg hk]; simp
      clear R0 hk
      go_wp2_with fail
      refine (Cl.rrun_of n _).mono ?_
      rintro r w2 ⟨rfl, rfl⟩
      cases hr : (Cl.runErr n == 0)
      · rw [hr] at R1
        have R2 : R = false := by rw [R1]; simp
        subst R2
        clear R1
        go_wp2
        go_ret
        exact ⟨rfl, ((BW.out.alloc (by have := BW.out.size; omega) _).alloc (by simp; have := BW.out.size; omega) _)⟩
      · rw [hr] at R1
        have R2 : R = (Cl.runOf n == p.2) := by rw [R1]; simp
        subst R2
        clear R1
        go_wp2
        go_ret
        exact ⟨rfl, ((BW.out.alloc (by have := BW.out.size; omega) _).alloc (by simp; have := BW.out.size; omega) _)⟩
  · have h1 : (Cl.classErr n == 0) = false := by simp [he]
    have h2 : (Cl.classErr n != 0) = true := by simp [he]
    have R1 : R = false := by rw [R0, h1]; simp
    subst R1
    clear R0 he
    go_wp2
    go_ret
    exact ⟨rfl, ((BW.out.alloc (by have := BW.out.size; omega) _).alloc (by simp; have := BW.out.size; omega) _)⟩
end
theorem rcell_any (s : Hs) (d : Hd_) (w : World) (a : Int) (i j : Nat) (hp : Hp w w.heap.size s d) (hi : i < s.w.n) (hj : j < s.p.n) (hwn : s.w.n ≤ 4000) (hpn : s.p.n ≤ 4000) (ha : a - 16 = i) (hb : a / 16 - 1 = j) (x0 : -9223372036854775808 ≤ d.ws.getD i 0) (x1 : d.ws.getD i 0 ≤ 9223372036854775807) :
    Calls Tryd.prog 30 #[(.agg #[.slice s.w.a s.w.n s.w.c, .slice s.p.a s.p.n s.p.c, .slice (s.u 0).a (s.u 0).n (s.u 0).c, .slice (s.u 1).a (s.u 1).n (s.u 1).c, .slice (s.u 2).a (s.u 2).n (s.u 2).c, .slice s.c.a s.c.n s.c.c]), .int .i64 a] w fun e w' => e = .returned (.bool (cellB (d.ws.getD i 0) (d.f j))) ∧ Below w.heap.size w w' := by
  generalize hx : d.ws.getD i 0 = x at x0 x1 ⊢
  cases hw : Hd.isWord x
  · refine rcell_start s d w a i j _ _ hp hi hj hwn hpn ha hb hx.symm rfl x0 x1 _ _ _ _ _ _ _ _ (headOf_no hw) hw ?_
    simp [cellB, hw]
  · refine rcell_start s d w a i j _ _ hp hi hj hwn hpn ha hb hx.symm rfl x0 x1 _ _ _ _ _ _ _ _ (headOf_yes hw) hw ?_
    simp [cellB, hw]
end Go.Proofs.YtjppimabhefeeaaDoor
end
section
namespace Go.Proofs.YtjppimabhefeeaaDoor.Cl
open Go.Proofs.YtjppimabhefeeaaDoor
set_option maxRecDepth 100000

/-- A page, seen alone. -/
def pmB (p : Int × Int) : Bool := (p.1 == 0 && p.2 == 0) || (p.1 == 1 && decide (0 ≤ p.2) && decide (p.2 ≤ 2)) || (p.1 == 2 && decide (1 ≤ p.2) && decide (p.2 ≤ 4)) || (p.1 == 3 && p.2 == 0)
theorem pmB_iff (p : Int × Int) : pmB p = true ↔ (p.1 = 0 ∧ p.2 = 0) ∨ (p.1 = 1 ∧ 0 ≤ p.2 ∧ p.2 ≤ 2) ∨ (p.1 = 2 ∧ 1 ≤ p.2 ∧ p.2 ≤ 4) ∨ (p.1 = 3 ∧ p.2 = 0) := by
  simp [pmB, or_assoc, and_assoc]

/-- How many pages the large object ahead of page k still asks for. -/
def st (f : Nat → Int × Int) : Nat → Int
  | 0 => 0
  | k + 1 => if (f k).1 = 2 then (f k).2 - 1 else if 0 < st f k then st f k - 1 else st f k
def okB (f : Nat → Int × Int) (k : Nat) : Bool := pmB (f k) && (decide ((f k).1 = 3) == decide (0 < st f k))
theorem okB_iff (f : Nat → Int × Int) (k : Nat) : okB f k = true ↔ pmB (f k) = true ∧ ((f k).1 = 3 ↔ 0 < st f k) := by
  simp [okB]
def mayB (f : Nat → Int × Int) (n : Nat) : Bool := decide (1 ≤ n) && decide (n ≤ 64) && (List.range n).all (okB f) && (st f n == 0)
theorem mayB_iff (f : Nat → Int × Int) (n : Nat) : mayB f n = true ↔ 1 ≤ n ∧ n ≤ 64 ∧ (∀ k, k < n → okB f k = true) ∧ st f n = 0 := by
  simp [mayB, and_assoc]
theorem mayB_short {f : Nat → Int × Int} {n : Nat} (h : n < 1 ∨ 64 < n) : mayB f n = false := by
  rw [Bool.eq_false_iff]
  intro h'
  have := (mayB_iff f n).1 h'
  omega
theorem mayB_not {f : Nat → Int × Int} {n k : Nat} (hk : k < n) (h : okB f k = false) : mayB f n = false := by
  rw [Bool.eq_false_iff]
  intro h'
  have := ((mayB_iff f n).1 h').2.2.1 k hk
  rw [h] at this
  cases this
theorem mayB_end {f : Nat → Int × Int} {n : Nat} (h : st f n ≠ 0) : mayB f n = false := by
  rw [Bool.eq_false_iff]
  intro h'
  exact h ((mayB_iff f n).1 h').2.2.2
theorem mayB_mk {f : Nat → Int × Int} {n : Nat} (h0 : 1 ≤ n) (h1 : n ≤ 64) (h2 : ∀ k, k < n → okB f k = true) (h3 : st f n = 0) : mayB f n = true := (mayB_iff f n).2 ⟨h0, h1, h2, h3⟩
theorem st_nonneg {f : Nat → Int × Int} {n : Nat} (h : ∀ k, k < n → okB f k = true) : ∀ k, k ≤ n → 0 ≤ st f k ∧ st f k ≤ 3
  | 0, _ => by simp [st]
  | k + 1, hk => by
    have hr := st_nonneg h k (by omega)
    have h1 := (okB_iff f k).1 (h k (by omega))
    have h2 := (pmB_iff _).1 h1.1
    unfold st
    split
    · omega
    · split <;> omega
/-- n pages from page a on are free. -/
def freeB (f : Nat → Int × Int) (a n : Nat) : Bool := (List.range n).all fun j => (f (a + j)).1 == 0
/-- A large object's m pages from a place on. -/
def large (f : Nat → Int × Int) (a : Nat) (m : Int) : Nat → Int × Int := fun j => if j = a then (2, m) else if a < j ∧ (j : Int) < a + m then (3, 0) else f j
/-- How many pages begin at page a, where a small or a large one does. -/
def wide (f : Nat → Int × Int) (a : Nat) : Int := if (f a).1 = 2 then (f a).2 else 1
def drop (f : Nat → Int × Int) (a : Nat) : Nat → Int × Int := fun j => if a ≤ j ∧ (j : Int) < a + wide f a then (0, 0) else f j
end Go.Proofs.YtjppimabhefeeaaDoor.Cl
end
section
namespace Go.Proofs.YtjppimabhefeeaaDoor.Cl
open Go.Proofs.YtjppimabhefeeaaDoor
set_option maxRecDepth 100000
open Go.RowKit

end Go.Proofs.YtjppimabhefeeaaDoor.Cl
end
