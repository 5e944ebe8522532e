/-
  All of any lists: package lists' All and the reference's.
-/
import Derived.Test.YtegggfghocicaaaLsMove
import Derived.Deep.LoopGhost
namespace Go.Proofs.Ytegggfghocicaaa
open Go.RowKit

/-- A slice of lists: each element's three cells hold slices, which are rows. -/
def LRow (w : World) (B : Nat) (A : Option Addr) (n : Nat) (u : Nat → Nat → Sl) (f : Nat → Nat → List Int) : Prop :=
  0 < n → ∃ b off, A = some ⟨b, off, none⟩ ∧ b < B ∧ ∀ i, i < n → (∀ j, j < 3 → w.cell? ⟨b, off + i * 3 + j, none⟩ = some (.slice (u i j).a (u i j).n (u i j).c)) ∧ L3 w B (u i) (f i)
theorem LRow.below {w w' : World} {B n : Nat} {A : Option Addr} {u : Nat → Nat → Sl} {f : Nat → Nat → List Int} (h : LRow w B A n u f) (hb : Below B w w') : LRow w' B A n u f := fun hn => by
  obtain ⟨b, off, e, hlt, hc⟩ := h hn
  exact ⟨b, off, e, hlt, fun i hi => ⟨fun j hj => (hb.cell (p := ⟨b, off + i * 3 + j, none⟩) hlt).trans ((hc i hi).1 j hj), (hc i hi).2.below hb⟩⟩
theorem LRow.over {w w' : World} {B C n : Nat} {A : Option Addr} {u : Nat → Nat → Sl} {f : Nat → Nat → List Int} (h : LRow w B A n u f) (hb : Below C w w') (hB : B ≤ C) : LRow w' B A n u f := h.below (hb.mono hB)

def upTo (g : Nat → List Int) (j : Nat) : List Int := (List.range j).flatMap g
theorem upTo_succ (g : Nat → List Int) (j : Nat) : upTo g (j + 1) = upTo g j ++ g j := by simp [upTo, List.range_succ, List.flatMap_append]
def allOf (f : Nat → Nat → List Int) (n : Nat) : List Int := (List.range n).flatMap fun i => upTo (f i) 3
theorem allOf_succ (f : Nat → Nat → List Int) (n : Nat) : allOf f (n + 1) = allOf f n ++ upTo (f n) 3 := by simp [allOf, List.range_succ, List.flatMap_append]
theorem upTo_le (g : Nat → List Int) : ∀ {j k : Nat}, j ≤ k → (upTo g j).length ≤ (upTo g k).length
  | j, k, h => by
    induction k with
    | zero => have : j = 0 := by omega
              rw [this]; exact Nat.le_refl _
    | succ k ih =>
      by_cases e : j = k + 1
      · rw [e]; exact Nat.le_refl _
      · have := ih (by omega)
        rw [upTo_succ, List.length_append]
        omega
theorem allOf_le (f : Nat → Nat → List Int) : ∀ {j k : Nat}, j ≤ k → (allOf f j).length ≤ (allOf f k).length
  | j, k, h => by
    induction k with
    | zero => have : j = 0 := by omega
              rw [this]; exact Nat.le_refl _
    | succ k ih =>
      by_cases e : j = k + 1
      · rw [e]; exact Nat.le_refl _
      · have := ih (by omega)
        rw [allOf_succ, List.length_append]
        omega
theorem part_len (f : Nat → Nat → List Int) {n k j : Nat} (hk : k < n) (hj : j < 3) : (allOf f k).length + (upTo (f k) j).length + (f k j).length ≤ (allOf f n).length := by
  have h1 := allOf_le f (show k + 1 ≤ n by omega)
  have h2 := upTo_le (f k) (show j + 1 ≤ 3 by omega)
  rw [allOf_succ, List.length_append] at h1
  rw [upTo_succ, List.length_append] at h2
  omega

/-- A list of the call's own was returned. -/
def AllOut (w : World) (xs : List Int) (e : Ending) (w' : World) : Prop := ∃ s : Sl, e = .returned (.slice s.a s.n s.c) ∧ w'.ownsRow w.heap.size 3 1 (.slice s.a s.n s.c) s.n (xs.map (Value.int .i64)) ∧ Below w.heap.size w w'
structure Alling (w wr : World) (s : Sl) (xs : List Int) : Prop where
  own : wr.ownsRow w.heap.size 3 1 (.slice s.a s.n s.c) s.n (xs.map (Value.int .i64))
  bel : Below w.heap.size w wr
theorem Alling.len {w wr : World} {s : Sl} {xs : List Int} (h : Alling w wr s xs) : s.n = xs.length := by have := h.own.1; simpa using this.symm
theorem Alling.alloc {w wr : World} {s : Sl} {xs : List Int} (h : Alling w wr s xs) (o : Obj) : Alling w (wr.alloc o) s xs := ⟨h.own.alloc o, h.bel.alloc h.bel.size o⟩
theorem Alling.cat {w wr w2 : World} {s t : Sl} {xs ys : List Int} (h : Alling w wr s xs) (hc : Catted wr w.heap.size (.slice s.a s.n s.c) t ys w2) : Alling w w2 t ys :=
  ⟨hc.own, h.bel.grown hc.grown h.bel.size (fun k hk => (h.own.lt k hk).1)⟩

set_option maxHeartbeats 1000000 in
theorem all_any (B : Nat) (A : Option Addr) (n c : Nat) (u : Nat → Nat → Sl) (f : Nat → Nat → List Int) (w : World) (h : LRow w B A n u f) (hB : B ≤ w.heap.size) (hn : n ≤ 1000000) (hlen : (allOf f n).length ≤ 2000000) :
    Calls Try.prog 21 #[.slice A n c] w (AllOut w (allOf f n)) := by
  have HL := Lib.hid h
  have HN := Lib.hid hlen
  clear h hlen
  go_enter Try.func21, Try.ntmps21
  go_wp2
  go_loopw [3, 10] (fun a i wr => ∃ (s : Sl) (k : Nat), k ≤ n ∧ a = .slice s.a s.n s.c ∧ i = .int .i64 k ∧ Hid (Alling w wr s (allOf f k))) (fun _ i _ => n - (intOf i).toNat)
  case atStart => exact ⟨⟨none, 0, 0⟩, 0, Nat.zero_le _, rfl, rfl, Lib.hid ⟨World.ownsRow_nil _ _ _ _, Below.refl _ _⟩⟩
  case round =>
    obtain ⟨s, k, hk, rfl, rfl, HA⟩ := hrel
    by_cases hlt : k < n
    · obtain ⟨b, off, rfl, hbB, hc⟩ := HL.out.over HA.out.bel hB (by omega)
      obtain ⟨hcell, hl3⟩ := hc k hlt
      have c0 := hcell 0 (by decide)
      have c1 := hcell 1 (by decide)
      have c2 := hcell 2 (by decide)
      rw [Nat.add_zero] at c0
      have hbs : b < wr.heap.size := by have := HA.out.bel.size; omega
      have HR3 := Lib.hid hl3
      have hwr := HA.out.bel.size
      clear hc hcell hl3
      obtain ⟨wo, rfl⟩ : ∃ wo : World, wo = wr := ⟨_, rfl⟩
      go_wp2
      go_loopw [3, 15] (fun a i wr => ∃ (s : Sl) (j : Nat), j ≤ 3 ∧ a = .slice s.a s.n s.c ∧ i = .int .i64 j ∧ Hid (Alling w wr s (allOf f k ++ upTo (f k) j) ∧ Below B wo wr)) (fun _ i _ => 3 - (intOf i).toNat)
      case atStart =>
        refine ⟨s, 0, by omega, rfl, rfl, Lib.hid ⟨?_, (Below.refl _ _).alloc (by omega) _⟩⟩
        have := HA.out.alloc (.cells #[.slice (u k 0).a (u k 0).n (u k 0).c, .slice (u k 1).a (u k 1).n (u k 1).c, .slice (u k 2).a (u k 2).n (u k 2).c] 24)
        simpa [upTo] using this
      case round =>
        obtain ⟨t, j, hj, rfl, rfl, HI⟩ := hrel
        by_cases hlt3 : j < 3
        · have hix := index_of (u k) j hlt3
          have hsum : t.n + (u k j).n ≤ 4000000 := by
            have h1 := HI.out.1.len
            have h2 := HR3.out.len j hlt3
            have h3 := part_len f hlt hlt3
            have h4 := HN.out
            rw [List.length_append] at h1
            omega
          go_wp2_with (at_builtin; refine list_cat rfl _ _ rfl rfl rfl HI.out.1.own ((HR3.out j hlt3).1.below HI.out.2) HI.out.1.bel.size hsum ?_)
          intro p' cp' w2 hcat
          have hA2 := HI.out.1.cat hcat
          have B2 : Below B wr w2 := (Below.refl _ _).grown hcat.grown (by have := HI.out.1.bel.size; omega) (fun q hq => by have := (HI.out.1.own.lt q hq).1; omega)
          rw [← upTo_succ] at hA2
          have H2 := Lib.hid (And.intro hA2 (HI.out.2.trans B2))
          clear hcat hA2 B2
          go_wp2
          go_roundw
          case rel => exact ⟨⟨p', t.n + (u k j).n, cp'⟩, j + 1, by omega, rfl, by go_num, H2⟩
          case measure => simp [intOf]; omega
        · obtain rfl : j = 3 := by omega
          have H3 := HI.out.1
          rw [← allOf_succ] at H3
          have H4 := Lib.hid H3
          clear H3
          go_wp2
          go_roundw
          case rel => exact ⟨t, k + 1, by omega, rfl, by go_num, H4⟩
          case measure => simp [intOf]; omega
    · obtain rfl : k = n := by omega
      go_wp2
      go_ret
      exact ⟨s, rfl, HA.out.own, HA.out.bel⟩
theorem upTo_take (g : Nat → List Int) (j : Nat) : upTo g j ++ (g j).take (g j).length = upTo g (j + 1) := by rw [List.take_length, upTo_succ]

set_option maxHeartbeats 1000000 in
theorem rall_any (B : Nat) (A : Option Addr) (n c : Nat) (u : Nat → Nat → Sl) (f : Nat → Nat → List Int) (w : World) (h : LRow w B A n u f) (hB : B ≤ w.heap.size) (hn : n ≤ 1000000) (hlen : (allOf f n).length ≤ 2000000) :
    Calls Try.prog 22 #[.slice A n c] w (AllOut w (allOf f n)) := by
  have HL := Lib.hid h
  have HN := Lib.hid hlen
  clear h hlen
  go_enter Try.func22, Try.ntmps22
  go_wp2
  go_loopw [3, 4] (fun a i wr => ∃ (s : Sl) (k : Nat), k ≤ n ∧ a = .slice s.a s.n s.c ∧ i = .int .i64 k ∧ Hid (Alling w wr s (allOf f k))) (fun _ i _ => n - (intOf i).toNat)
  case atStart => exact ⟨⟨none, 0, 0⟩, 0, Nat.zero_le _, rfl, rfl, Lib.hid ⟨World.ownsRow_nil _ _ _ _, Below.refl _ _⟩⟩
  case round =>
    obtain ⟨s, k, hk, rfl, rfl, HA⟩ := hrel
    by_cases hlt : k < n
    · obtain ⟨b, off, rfl, hbB, hc⟩ := HL.out (by omega)
      have HC := Lib.hid (hc k hlt)
      clear hc
      obtain ⟨wo, rfl⟩ : ∃ wo : World, wo = wr := ⟨_, rfl⟩
      go_wp2
      go_loopw [3, 5] (fun a i wr => ∃ (s : Sl) (j : Nat), j ≤ 3 ∧ a = .slice s.a s.n s.c ∧ i = .int .i64 j ∧ Hid (Alling w wr s (allOf f k ++ upTo (f k) j))) (fun _ i _ => 3 - (intOf i).toNat)
      case atStart => exact ⟨s, 0, by omega, rfl, rfl, Lib.hid (by have := HA.out; simpa [upTo] using this)⟩
      case round =>
        obtain ⟨t, j, hj, rfl, rfl, HI⟩ := hrel
        by_cases hlt3 : j < 3
        · have HX := Lib.hid (part_len f hlt hlt3)
          obtain ⟨wi, rfl⟩ : ∃ wi : World, wi = wr := ⟨_, rfl⟩
          have hlt3' : (j : Int) < 3 := by omega
          go_wp2
          have J3 := Lib.hid hlt3
          go_loopw [3, 6] (fun a i wr => ∃ (s : Sl) (q : Nat), q ≤ (u k j).n ∧ a = .slice s.a s.n s.c ∧ i = .int .i64 q ∧ Hid (Alling w wr s (allOf f k ++ (upTo (f k) j ++ (f k j).take q)))) (fun _ i _ => (u k j).n - (intOf i).toNat)
          case atStart => exact ⟨t, 0, Nat.zero_le _, rfl, rfl, Lib.hid (by have := HI.out; simpa using this)⟩
          case round =>
            obtain ⟨p, q, hq, rfl, rfl, HQ⟩ := hrel
            have hl3 := (HC.out.2.over HQ.out.bel hB) j J3.out
            have hcj := ((HQ.out.bel.mono hB).cell (p := ⟨b, off + k * 3 + j, none⟩) hbB).trans (HC.out.1 j J3.out)
            have hbs : b < wr.heap.size := by have := HQ.out.bel.size; omega
            have hlen' := hl3.1.1.symm
            by_cases hltq : q < (u k j).n
            · obtain ⟨b2, off2, e2, hb2, hc2⟩ := hl3.1.2 (by omega)
              have hnum := hc2 q hltq
              have hbs2 : b2 < wr.heap.size := by have := HQ.out.bel.size; omega
              clear hc2 hl3
              have hq2 : q < 2000000 := by
                have h2 := HX.out
                have h4 := HN.out
                omega
              have hsum : p.n + 1 ≤ 4000000 := by
                have h1 := HQ.out.len
                have h2 := HX.out
                have h4 := HN.out
                rw [List.length_append, List.length_append, List.length_take] at h1
                omega
              go_wp2_with (at_builtin; refine list_cat rfl _ _ rfl rfl rfl (HQ.out.alloc _).own (row_lit1 _ _) (HQ.out.alloc _).bel.size hsum ?_)
              intro p' cp' w2 hcat
              have hA2 := (HQ.out.alloc _).cat hcat
              have H2 := Lib.hid hA2
              clear hcat hA2
              go_wp2
              go_roundw
              case rel =>
                exact ⟨⟨p', p.n + 1, cp'⟩, q + 1, by omega, rfl, by go_num, H2⟩
              case measure => simp [intOf]; omega
            · obtain rfl : q = (u k j).n := by omega
              have H2 := HQ.out
              rw [hlen', upTo_take] at H2
              have H3 := Lib.hid H2
              clear H2 hlen' hl3
              go_wp2
              go_roundw
              case rel => exact ⟨p, j + 1, J3.out, rfl, by go_num, H3⟩
              case measure => simp [intOf]; omega
        · obtain rfl : j = 3 := by omega
          have H3 := HI.out
          rw [← allOf_succ] at H3
          have H4 := Lib.hid H3
          clear H3
          go_wp2
          go_roundw
          case rel => exact ⟨t, k + 1, by omega, rfl, by go_num, H4⟩
          case measure => simp [intOf]; omega
    · obtain rfl : k = n := by omega
      go_wp2
      go_ret
      exact ⟨s, rfl, HA.out.own, HA.out.bel⟩
end Go.Proofs.Ytegggfghocicaaa
