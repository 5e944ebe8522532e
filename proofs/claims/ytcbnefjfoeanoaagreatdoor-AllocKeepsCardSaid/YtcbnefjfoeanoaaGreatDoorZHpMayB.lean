/-
  The reference's May of a heap: the cells' first words, one by one; then what is told of as free; then whether all are apart.
-/
import Derived.Test.YtcbnefjfoeanoaaGreatDoorZHpMay
import Derived.Deep.RegionHeld3
import Derived.Deep.DrawnRows
namespace Go.Proofs.YtcbnefjfoeanoaaGreatDoor
open Go.RowKit
set_option maxRecDepth 100000
attribute [local go_sem ↓] Go.wp_at_zero Go.wp_at_succ

def cellAt (d : Hd_) (a : Int) : Bool := cellB (d.ws.getD (a - 16).toNat 0) (d.f (a / 16 - 1).toNat)
/-- In the midst of a walk through a heap's function: the box, all that was there. -/
structure HNow (w wr : World) (s : Hs) (d : Hd_) : Prop where
  box : HBox wr w.heap.size s
  bel : Below w.heap.size w wr
  hp : Hp wr w.heap.size s d
theorem HNow.next {w wr w' : World} {s : Hs} {d : Hd_} (h : HNow w wr s d) (hb : Below wr.heap.size wr w') : HNow w w' s d :=
  ⟨h.box.next hb, h.bel.trans (hb.mono h.bel.size), h.hp.below (hb.mono h.bel.size)⟩
theorem HNow.all {w wr : World} {s : Hs} {d : Hd_} (h : HNow w wr s d) : Hp wr wr.heap.size s d := h.hp.more h.bel.size
theorem allS_in {d : Hd_} {n : Nat} {a : Int} (h : a ∈ Cl.allS d.f n) : 16 ≤ a ∧ a < 16 + 16 * (n : Int) := by
  obtain ⟨c, hc, rfl⟩ := List.mem_map.1 h
  obtain ⟨_, k, j, hk, _, _, rfl, h0, h1⟩ := Cl.cell_page hc
  simp only
  omega
theorem rcell_at {w wr : World} {s : Hs} {d : Hd_} (h : HNow w wr s d) (a : Int) (hw : s.w.n = 16 * s.p.n) (hpn : s.p.n ≤ 64) (ha : 16 ≤ a ∧ a < 16 + 16 * (s.p.n : Int)) (hv : ∀ i, -9223372036854775808 ≤ d.ws.getD i 0 ∧ d.ws.getD i 0 ≤ 9223372036854775807) :
    Calls Tryz.prog 90 #[(.agg #[.slice s.w.a s.w.n s.w.c, .slice s.p.a s.p.n s.p.c, .slice (s.u 0).a (s.u 0).n (s.u 0).c, .slice (s.u 1).a (s.u 1).n (s.u 1).c, .slice (s.u 2).a (s.u 2).n (s.u 2).c, .slice s.c.a s.c.n s.c.c]), .int .i64 a] wr fun e w' => e = .returned (.bool (cellAt d a)) ∧ Below wr.heap.size wr w' :=
  rcell_any s d wr a (a - 16).toNat (a / 16 - 1).toNat h.all (by omega) (by omega) (by omega) (by omega) (by omega) (by omega) (hv _).1 (hv _).2
theorem hold_of {w wr : World} {s : Hs} {d : Hd_} {b : Nat} {o : Nat} {y : Int} (h : HNow w wr s d) (hy : wr.cell? ⟨b, o, none⟩ = some (.int .i64 y)) (hl : b < wr.heap.size) :
    (HNow w wr s d ∧ b < wr.heap.size) ∧ w.heap.size < wr.heap.size ∧ wr.cell? ⟨w.heap.size, 0, none⟩ = some (.slice s.w.a s.w.n s.w.c) ∧ wr.cell? ⟨w.heap.size, 1, none⟩ = some (.slice s.p.a s.p.n s.p.c) ∧ wr.cell? ⟨w.heap.size, 2, none⟩ = some (.slice (s.u 0).a (s.u 0).n (s.u 0).c) ∧ wr.cell? ⟨w.heap.size, 3, none⟩ = some (.slice (s.u 1).a (s.u 1).n (s.u 1).c) ∧ wr.cell? ⟨w.heap.size, 4, none⟩ = some (.slice (s.u 2).a (s.u 2).n (s.u 2).c) ∧ wr.cell? ⟨w.heap.size, 5, none⟩ = some (.slice s.c.a s.c.n s.c.c) ∧ wr.cell? ⟨b, o, none⟩ = some (.int .i64 y) :=
  ⟨⟨h, hl⟩, h.box.lt, h.box.c0, h.box.c1, h.box.c2, h.box.c3, h.box.c4, h.box.c5, hy⟩
theorem hold_next {w W W' : World} {s : Hs} {d : Hd_} {b : Nat} {O : Nat} {y : Int} (h : (HNow w W s d ∧ b < W.heap.size) ∧ w.heap.size < W.heap.size ∧ W.cell? ⟨w.heap.size, 0, none⟩ = some (.slice s.w.a s.w.n s.w.c) ∧ W.cell? ⟨w.heap.size, 1, none⟩ = some (.slice s.p.a s.p.n s.p.c) ∧ W.cell? ⟨w.heap.size, 2, none⟩ = some (.slice (s.u 0).a (s.u 0).n (s.u 0).c) ∧ W.cell? ⟨w.heap.size, 3, none⟩ = some (.slice (s.u 1).a (s.u 1).n (s.u 1).c) ∧ W.cell? ⟨w.heap.size, 4, none⟩ = some (.slice (s.u 2).a (s.u 2).n (s.u 2).c) ∧ W.cell? ⟨w.heap.size, 5, none⟩ = some (.slice s.c.a s.c.n s.c.c) ∧ W.cell? ⟨b, O, none⟩ = some (.int .i64 y)) (hb : Below W.heap.size W W') : (HNow w W' s d ∧ b < W'.heap.size) ∧ w.heap.size < W'.heap.size ∧ W'.cell? ⟨w.heap.size, 0, none⟩ = some (.slice s.w.a s.w.n s.w.c) ∧ W'.cell? ⟨w.heap.size, 1, none⟩ = some (.slice s.p.a s.p.n s.p.c) ∧ W'.cell? ⟨w.heap.size, 2, none⟩ = some (.slice (s.u 0).a (s.u 0).n (s.u 0).c) ∧ W'.cell? ⟨w.heap.size, 3, none⟩ = some (.slice (s.u 1).a (s.u 1).n (s.u 1).c) ∧ W'.cell? ⟨w.heap.size, 4, none⟩ = some (.slice (s.u 2).a (s.u 2).n (s.u 2).c) ∧ W'.cell? ⟨w.heap.size, 5, none⟩ = some (.slice s.c.a s.c.n s.c.c) ∧ W'.cell? ⟨b, O, none⟩ = some (.int .i64 y) :=
  hold_of (h.1.1.next hb) ((hb.cell (p := ⟨b, O, none⟩) h.1.2).trans h.2.2.2.2.2.2.2.2) (Nat.lt_of_lt_of_le h.1.2 hb.size)

theorem hold2_of {w W : World} {s : Hs} {d : Hd_} {b b2 o o2 : Nat} {v v2 : Value} (h : HNow w W s d) (h1 : W.cell? ⟨b, o, none⟩ = some v) (h2 : W.cell? ⟨b2, o2, none⟩ = some v2) (l1 : b < W.heap.size) (l2 : b2 < W.heap.size) : (HNow w W s d ∧ b < W.heap.size ∧ b2 < W.heap.size) ∧ w.heap.size < W.heap.size ∧ W.cell? ⟨w.heap.size, 0, none⟩ = some (.slice s.w.a s.w.n s.w.c) ∧ W.cell? ⟨w.heap.size, 1, none⟩ = some (.slice s.p.a s.p.n s.p.c) ∧ W.cell? ⟨w.heap.size, 2, none⟩ = some (.slice (s.u 0).a (s.u 0).n (s.u 0).c) ∧ W.cell? ⟨w.heap.size, 3, none⟩ = some (.slice (s.u 1).a (s.u 1).n (s.u 1).c) ∧ W.cell? ⟨w.heap.size, 4, none⟩ = some (.slice (s.u 2).a (s.u 2).n (s.u 2).c) ∧ W.cell? ⟨w.heap.size, 5, none⟩ = some (.slice s.c.a s.c.n s.c.c) ∧ W.cell? ⟨b, o, none⟩ = some v ∧ W.cell? ⟨b2, o2, none⟩ = some v2 :=
  ⟨⟨h, l1, l2⟩, h.box.lt, h.box.c0, h.box.c1, h.box.c2, h.box.c3, h.box.c4, h.box.c5, h1, h2⟩
theorem hold2_next {w W W' : World} {s : Hs} {d : Hd_} {b b2 o o2 : Nat} {v v2 : Value} (h : (HNow w W s d ∧ b < W.heap.size ∧ b2 < W.heap.size) ∧ w.heap.size < W.heap.size ∧ W.cell? ⟨w.heap.size, 0, none⟩ = some (.slice s.w.a s.w.n s.w.c) ∧ W.cell? ⟨w.heap.size, 1, none⟩ = some (.slice s.p.a s.p.n s.p.c) ∧ W.cell? ⟨w.heap.size, 2, none⟩ = some (.slice (s.u 0).a (s.u 0).n (s.u 0).c) ∧ W.cell? ⟨w.heap.size, 3, none⟩ = some (.slice (s.u 1).a (s.u 1).n (s.u 1).c) ∧ W.cell? ⟨w.heap.size, 4, none⟩ = some (.slice (s.u 2).a (s.u 2).n (s.u 2).c) ∧ W.cell? ⟨w.heap.size, 5, none⟩ = some (.slice s.c.a s.c.n s.c.c) ∧ W.cell? ⟨b, o, none⟩ = some v ∧ W.cell? ⟨b2, o2, none⟩ = some v2) (hb : Below W.heap.size W W') : (HNow w W' s d ∧ b < W'.heap.size ∧ b2 < W'.heap.size) ∧ w.heap.size < W'.heap.size ∧ W'.cell? ⟨w.heap.size, 0, none⟩ = some (.slice s.w.a s.w.n s.w.c) ∧ W'.cell? ⟨w.heap.size, 1, none⟩ = some (.slice s.p.a s.p.n s.p.c) ∧ W'.cell? ⟨w.heap.size, 2, none⟩ = some (.slice (s.u 0).a (s.u 0).n (s.u 0).c) ∧ W'.cell? ⟨w.heap.size, 3, none⟩ = some (.slice (s.u 1).a (s.u 1).n (s.u 1).c) ∧ W'.cell? ⟨w.heap.size, 4, none⟩ = some (.slice (s.u 2).a (s.u 2).n (s.u 2).c) ∧ W'.cell? ⟨w.heap.size, 5, none⟩ = some (.slice s.c.a s.c.n s.c.c) ∧ W'.cell? ⟨b, o, none⟩ = some v ∧ W'.cell? ⟨b2, o2, none⟩ = some v2 :=
  hold2_of (h.1.1.next hb) ((hb.cell (p := ⟨b, o, none⟩) h.1.2.1).trans h.2.2.2.2.2.2.2.2.1) ((hb.cell (p := ⟨b2, o2, none⟩) h.1.2.2).trans h.2.2.2.2.2.2.2.2.2) (Nat.lt_of_lt_of_le h.1.2.1 hb.size) (Nat.lt_of_lt_of_le h.1.2.2 hb.size)

set_option maxHeartbeats 2000000 in
theorem rmay_rest (s : Hs) (d : Hd_) (A : Option Addr) (m c : Nat) (U : Nat → Nat → Ls.Sl) (F : Nat → Nat → List Int) (w : World) (hp : Hp w w.heap.size s d) (hl : Ls.LRow w w.heap.size A m U F) (hm : m ≤ 1000) (hw : s.w.n = 16 * s.p.n) (hcd : s.c.n = 2 * s.p.n) (hpm : Cl.mayB d.f s.p.n = true) (hwm : wordsB s.w.n = true)
    (hv : ∀ i, -9223372036854775808 ≤ d.ws.getD i 0 ∧ d.ws.getD i 0 ≤ 9223372036854775807) (hlen : (Ls.allOf (ahead d.F F) (1 + m)).length ≤ 2000000) (R : Bool) (h1 : (∃ a, a ∈ Cl.allS d.f s.p.n ∧ cellAt d a = false) → R = false)
    (h2 : (∃ k j q, k < 1 + m ∧ j < 3 ∧ q < (ahead d.F F k j).length ∧ freeH d s.p.n ((ahead d.F F k j).getD q 0) (j : Nat) = false) → R = false)
    (h3 : (∀ j, j < (Cl.allS d.f s.p.n).length → cellAt d ((Cl.allS d.f s.p.n).getD j 0) = true) → (∀ k, k < 1 + m → ∀ j, j < 3 → ∀ q, q < (ahead d.F F k j).length → freeH d s.p.n ((ahead d.F F k j).getD q 0) (j : Nat) = true) → R = decide (Ls.allOf (ahead d.F F) (1 + m)).Nodup) :
    Calls Tryz.prog 39 #[(.agg #[.slice s.w.a s.w.n s.w.c, .slice s.p.a s.p.n s.p.c, .slice (s.u 0).a (s.u 0).n (s.u 0).c, .slice (s.u 1).a (s.u 1).n (s.u 1).c, .slice (s.u 2).a (s.u 2).n (s.u 2).c, .slice s.c.a s.c.n s.c.c]), .slice A m c] w fun e w' => e = .returned (.bool R) ∧ Below w.heap.size w w' := by
  have hpn : s.p.n ≤ 64 := ((Cl.mayB_iff _ _).1 hpm).2.1
  have HP := Lib.hid hp
  have E1 := Lib.hid hwm
  have E2 := Lib.hid hpm
  have H1 := Lib.hid h1
  have HV := Lib.hid hv
  have HW := Lib.hid hw
  have n3 : ((s.w.n : Int) != 16 * (s.p.n : Int)) = false := by simp; omega
  have n4 : ((s.c.n : Int) != 2 * (s.p.n : Int)) = false := by simp; omega
  have HL := Lib.hid hl
  have H2 := Lib.hid h2
  have H3 := Lib.hid h3
  have HLEN := Lib.hid hlen
  clear hp hwm hpm h1 h2 h3 hlen hv hw hcd hl
  go_enter Tryz.func39, Tryz.ntmps39
  go_wp2_with fail
  refine (rwords_may _ _ _ _ (by have := HW.out; omega)).mono ?_
  rw [E1.out]
  rintro r w1 ⟨rfl, rfl⟩
  go_wp2_with fail
  have hb0 := (Below.refl w.heap.size w).alloc (Nat.le_refl _) (.cells #[.slice s.w.a s.w.n s.w.c, .slice s.p.a s.p.n s.p.c, .slice (s.u 0).a (s.u 0).n (s.u 0).c, .slice (s.u 1).a (s.u 1).n (s.u 1).c, .slice (s.u 2).a (s.u 2).n (s.u 2).c, .slice s.c.a s.c.n s.c.c] 28)
  refine (Cl.rmay_any w.heap.size s.p.a s.p.n s.p.c d.f _ (by omega) (HP.out.pages.below hb0) (by simp)).mono ?_
  rw [E2.out]
  rintro r w1 ⟨rfl, hb1⟩
  have HB1 := (HBox.new w s 28).next hb1
  have hbw := hb0.trans (hb1.mono (by simp))
  have N1 := Lib.hid (HNow.mk (d := d) HB1 hbw (HP.out.below hbw))
  have q0 := HB1.c0
  have q1 := HB1.c1
  have q5 := HB1.c5
  have ql := HB1.lt
  clear hb1 hb0 HB1 hbw
  go_wp2_with fail
  refine (Cl.rall_any w.heap.size s.p.a s.p.n s.p.c d.f _ (by omega) N1.out.hp.pages N1.out.bel.size).mono ?_
  rintro r w2 ⟨la, lc, rfl, hrow, _, _, hb2⟩
  have N2 := Lib.hid (N1.out.next hb2)
  have hxs : (Cl.allS d.f s.p.n).length ≤ 100000 := by
    have := Cl.allS_short d.f s.p.n (Cl.allS d.f s.p.n).length
    rw [List.take_length] at this
    omega
  have HIN := Lib.hid (fun a (h : a ∈ Cl.allS d.f s.p.n) => allS_in h)
  generalize Cl.allS d.f s.p.n = xs at hrow hxs H1 H3 HIN ⊢
  have HR := Lib.hid (And.intro hrow hb2)
  obtain ⟨n, hn⟩ : ∃ n, xs.length = n := ⟨_, rfl⟩
  have HN := Lib.hid hn
  rw [hn] at hxs HR ⊢
  clear hrow hb2 q0 q1 q5 ql N1 hn n3 n4
  go_wp2
  go_loopw [8] (fun i wr => ∃ q : Nat, q ≤ n ∧ i = .int .i64 q ∧ Hid (∀ j, j < q → cellAt d (xs.getD j 0) = true) ∧ Hid (HNow w wr s d) ∧ Hid (Row wr wr.heap.size la n xs)) (fun i _ => n - (intOf i).toNat)
  case atStart => exact ⟨0, Nat.zero_le _, rfl, Lib.hid (fun j h => absurd h (by omega)), N2, Lib.hid HR.out.1⟩
  case round =>
    obtain ⟨q, hq, rfl, HG, HH, HX⟩ := hrel
    by_cases hlt : q < n
    · obtain ⟨b, off, rfl, hbl, hcell⟩ := HX.out.2 (by omega)
      have hq1 := hcell q hlt
      obtain ⟨y, hy⟩ : ∃ y, y = xs.getD q 0 := ⟨_, rfl⟩
      rw [← hy] at hq1
      have hmem : y ∈ xs := by
        have : xs[q]? = some y := by rw [hy]; simp [List.getD, List.getElem?_eq_getElem (show q < xs.length by have := HN.out; omega)]
        exact List.mem_of_getElem? this
      have j0 : (0 : Int) ≤ q := by omega
      have j1 : (q : Int) < n := by omega
      have HC := Lib.hid (fun (W : World) (hW : HNow w W s d) => rcell_at hW y HW.out hpn (HIN.out y hmem) HV.out)
      have HM := Lib.hid hmem
      have HY := Lib.hid hy
      have HQ := Lib.hid (And.intro hq1 hbl)
      have bq := HH.out.box
      have q0 := bq.c0
      have q1 := bq.c1
      have q2 := bq.c2
      have q3 := bq.c3
      have q4 := bq.c4
      have q5 := bq.c5
      have ql := bq.lt
      clear hcell hmem hy bq
      go_wp2
      have hstart := hold_of HH.out HQ.out.1 HQ.out.2
      have HST := Lib.hid hstart
      clear hstart
      cases hc : cellAt d y
      · have HR0 : R = false := H1.out ⟨y, HM.out, hc⟩
        rw [hc] at HC
        subst HR0
        go_region_held3 (fun w' => (HNow w w' s d ∧ b < w'.heap.size) ∧ w.heap.size < w'.heap.size ∧ w'.cell? ⟨w.heap.size, 0, none⟩ = some (.slice s.w.a s.w.n s.w.c) ∧ w'.cell? ⟨w.heap.size, 1, none⟩ = some (.slice s.p.a s.p.n s.p.c) ∧ w'.cell? ⟨w.heap.size, 2, none⟩ = some (.slice (s.u 0).a (s.u 0).n (s.u 0).c) ∧ w'.cell? ⟨w.heap.size, 3, none⟩ = some (.slice (s.u 1).a (s.u 1).n (s.u 1).c) ∧ w'.cell? ⟨w.heap.size, 4, none⟩ = some (.slice (s.u 2).a (s.u 2).n (s.u 2).c) ∧ w'.cell? ⟨w.heap.size, 5, none⟩ = some (.slice s.c.a s.c.n s.c.c) ∧ w'.cell? ⟨b, off + q, none⟩ = some (.int .i64 y)) (first
          | exact hold_next HST.out (below_drawn' (Below.refl _ _) 1)
          | exact hold_next ‹(HNow w _ s d ∧ _) ∧ _› ‹Below _ _ _›) (first
          | ((go_at_call 90; refine (HC.out _ (‹(HNow w _ s d ∧ _) ∧ _›).1.1).mono ?_; rintro e w3 ⟨rfl, hb3⟩)))
        have HF := Lib.hid (‹(HNow w w3 s d ∧ _) ∧ _›).1.1
        clear q0 q1 q2 q3 q4 q5 ql hq1 hbl
        go_wp2
        go_ret
        exact ⟨rfl, HF.out.bel⟩
      · rw [hc] at HC
        go_region_held3 (fun w' => (HNow w w' s d ∧ b < w'.heap.size) ∧ w.heap.size < w'.heap.size ∧ w'.cell? ⟨w.heap.size, 0, none⟩ = some (.slice s.w.a s.w.n s.w.c) ∧ w'.cell? ⟨w.heap.size, 1, none⟩ = some (.slice s.p.a s.p.n s.p.c) ∧ w'.cell? ⟨w.heap.size, 2, none⟩ = some (.slice (s.u 0).a (s.u 0).n (s.u 0).c) ∧ w'.cell? ⟨w.heap.size, 3, none⟩ = some (.slice (s.u 1).a (s.u 1).n (s.u 1).c) ∧ w'.cell? ⟨w.heap.size, 4, none⟩ = some (.slice (s.u 2).a (s.u 2).n (s.u 2).c) ∧ w'.cell? ⟨w.heap.size, 5, none⟩ = some (.slice s.c.a s.c.n s.c.c) ∧ w'.cell? ⟨b, off + q, none⟩ = some (.int .i64 y)) (first
          | exact hold_next HST.out (below_drawn' (Below.refl _ _) 1)
          | exact hold_next ‹(HNow w _ s d ∧ _) ∧ _› ‹Below _ _ _›) (first
          | ((go_at_call 90; refine (HC.out _ (‹(HNow w _ s d ∧ _) ∧ _›).1.1).mono ?_; rintro e w3 ⟨rfl, hb3⟩)))
        have HF := Lib.hid (‹(HNow w w3 s d ∧ _) ∧ _›).1.1
        have HX3 : Hid (Row w3 w3.heap.size (some ⟨b, off, none⟩) n xs) := Lib.hid ((Row.below (HX.out.below (below_drawn' (Below.refl _ _) 1)) hb3).more hb3.size)
        have HG3 : Hid (∀ j, j < q + 1 → cellAt d (xs.getD j 0) = true) := Lib.hid (fun j hj => by
          by_cases e : j = q
          · rw [e, ← HY.out]; exact hc
          · exact HG.out j (by omega))
        clear q0 q1 q2 q3 q4 q5 ql hq1 hbl hb3 hc
        go_wp2
        go_roundw
        case rel => exact ⟨q + 1, by omega, by go_num, HG3, HF, HX3⟩
        case measure => simp [intOf]; omega
    · obtain rfl : q = n := by omega
      clear hlt
      have bq := HH.out.box
      have q0 := bq.c0
      have q1 := bq.c1
      have q2 := bq.c2
      have q3 := bq.c3
      have q4 := bq.c4
      have q5 := bq.c5
      have ql := bq.lt
      clear bq
      go_wp2_with (at_builtin; refine list_glue rfl (.tmp 63) (.tmp 64) rfl rfl rfl HH.out.hp.free HH.out.bel.size (HL.out.below HH.out.bel) hm ?_)
      intro A' cap w3 hl3 hb3
      have N3 := Lib.hid (HH.out.next hb3)
      have HL3 := Lib.hid hl3
      have HG3 := Lib.hid (H3.out (fun j hj => HG.out j (by have := HN.out; omega)))
      clear hl3 hb3 q0 q1 q2 q3 q4 q5 ql HX HG H3 HH HR HL N2
      generalize ahead s.u U = U' at HL3 ⊢
      generalize ahead d.F F = F' at HL3 HG3 H2 HLEN ⊢
      obtain ⟨N, hN⟩ : ∃ N, 1 + m = N := ⟨_, rfl⟩
      rw [hN] at HL3 HG3 H2 HLEN ⊢
      have hN2 : N ≤ 2000 := by omega
      clear hN
      go_wp2
      go_loopw [10, 11, 12] (fun i _ _ wr => ∃ k : Nat, k ≤ N ∧ i = .int .i64 k ∧ Hid (HNow w wr s d ∧ Below w3.heap.size w3 wr) ∧ Hid (∀ k', k' < k → ∀ j, j < 3 → ∀ q, q < (F' k' j).length → freeH d s.p.n ((F' k' j).getD q 0) (j : Nat) = true)) (fun i _ _ _ => N - (intOf i).toNat)
      case atStart => exact ⟨0, Nat.zero_le _, rfl, Lib.hid ⟨N3.out, Below.refl _ _⟩, Lib.hid (fun k' h => absurd h (by omega))⟩
      case round =>
        obtain ⟨k, hk, rfl, HS, HG1⟩ := hrel
        by_cases hlt : k < N
        · obtain ⟨b, off, rfl, hbB, hc⟩ := HL3.out (by omega)
          have HC := Lib.hid (hc k hlt)
          clear hc
          obtain ⟨wo, rfl⟩ : ∃ wo : World, wo = wr := ⟨_, rfl⟩
          go_wp2
          go_loopw [11, 12] (fun i _ wr => ∃ j : Nat, j ≤ 3 ∧ i = .int .i64 j ∧ Hid (HNow w wr s d ∧ Below w3.heap.size w3 wr) ∧ Hid (∀ j', j' < j → ∀ q, q < (F' k j').length → freeH d s.p.n ((F' k j').getD q 0) (j' : Nat) = true)) (fun i _ _ => 3 - (intOf i).toNat)
          case atStart => exact ⟨0, Nat.zero_le _, rfl, HS, Lib.hid (fun k' h => absurd h (by omega))⟩
          case round =>
            obtain ⟨j, hj, rfl, HS2, HG2⟩ := hrel
            by_cases hlt3 : j < 3
            · have HXX := Lib.hid (Ls.part_len F' hlt hlt3)
              obtain ⟨wi, rfl⟩ : ∃ wi : World, wi = wr := ⟨_, rfl⟩
              have hlt3' : (j : Int) < 3 := by omega
              have J3 := Lib.hid hlt3
              go_wp2
              go_loopw [12] (fun i wr => ∃ q : Nat, q ≤ (U' k j).n ∧ i = .int .i64 q ∧ Hid (HNow w wr s d ∧ Below w3.heap.size w3 wr) ∧ Hid (∀ q', q' < q → freeH d s.p.n ((F' k j).getD q' 0) (j : Nat) = true)) (fun i _ => (U' k j).n - (intOf i).toNat)
              case atStart => exact ⟨0, Nat.zero_le _, rfl, HS2, Lib.hid (fun k' h => absurd h (by omega))⟩
              case round =>
                obtain ⟨q, hq, rfl, HS3, HG4⟩ := hrel
                have hl3 := (HC.out.2.over HS3.out.2 (Nat.le_refl _)) j J3.out
                have hcj := (HS3.out.2.cell (p := ⟨b, off + k * 3 + j, none⟩) hbB).trans (HC.out.1 j J3.out)
                have hbs : b < wr.heap.size := by have := HS3.out.2.size; omega
                have hln := Lib.hid hl3.1.1
                by_cases hltq : q < (U' k j).n
                · obtain ⟨b2, off2, e2, hb2, hc2⟩ := hl3.1.2 (by omega)
                  have hnum := hc2 q hltq
                  have hbs2 : b2 < wr.heap.size := by have := HS3.out.2.size; omega
                  obtain ⟨y, hy⟩ : ∃ y, y = (F' k j).getD q 0 := ⟨_, rfl⟩
                  rw [← hy] at hnum
                  have HY := Lib.hid hy
                  clear hc2 hl3 hy
                  have hun : (U' k j).n ≤ 2000000 := by have := HXX.out; have := HLEN.out; have := hln.out; omega
                  have j0 : (0 : Int) ≤ q := by omega
                  have j1 : (q : Int) < (U' k j).n := by omega
                  have k0 : (0 : Int) ≤ k := by omega
                  have k1 : (k : Int) < N := by omega
                  have jj0 : (0 : Int) ≤ j := by omega
                  have HFR := Lib.hid (fun (W : World) (hW : HNow w W s d) => rfree_any s d W y (j : Nat) hW.all HW.out (by omega))
                  have hstart := hold2_of HS3.out.1 hcj hnum hbs hbs2
                  have HST := Lib.hid hstart
                  have bq := HS3.out.1.box
                  have q0 := bq.c0
                  have q1 := bq.c1
                  have q2 := bq.c2
                  have q3 := bq.c3
                  have q4 := bq.c4
                  have q5 := bq.c5
                  have ql := bq.lt
                  have HQ := Lib.hid hltq
                  clear hstart bq
                  go_wp2
                  cases hc : freeH d s.p.n y (j : Nat)
                  · have HR0 : R = false := H2.out ⟨k, j, q, hlt, J3.out, by have := hln.out; omega, by rw [← HY.out]; exact hc⟩
                    rw [hc] at HFR
                    subst HR0
                    go_region_held3 (fun w' => (HNow w w' s d ∧ b < w'.heap.size ∧ b2 < w'.heap.size) ∧ w.heap.size < w'.heap.size ∧ w'.cell? ⟨w.heap.size, 0, none⟩ = some (.slice s.w.a s.w.n s.w.c) ∧ w'.cell? ⟨w.heap.size, 1, none⟩ = some (.slice s.p.a s.p.n s.p.c) ∧ w'.cell? ⟨w.heap.size, 2, none⟩ = some (.slice (s.u 0).a (s.u 0).n (s.u 0).c) ∧ w'.cell? ⟨w.heap.size, 3, none⟩ = some (.slice (s.u 1).a (s.u 1).n (s.u 1).c) ∧ w'.cell? ⟨w.heap.size, 4, none⟩ = some (.slice (s.u 2).a (s.u 2).n (s.u 2).c) ∧ w'.cell? ⟨w.heap.size, 5, none⟩ = some (.slice s.c.a s.c.n s.c.c) ∧ w'.cell? ⟨b, off + k * 3 + j, none⟩ = some (.slice (U' k j).a (U' k j).n (U' k j).c) ∧ w'.cell? ⟨b2, off2 + q, none⟩ = some (.int .i64 y)) (first
                      | exact hold2_next HST.out (below_drawn' (Below.refl _ _) 1)
                      | exact hold2_next ‹(HNow w _ s d ∧ _) ∧ _› ‹Below _ _ _›) (first
                      | ((go_at_call 91; refine (HFR.out _ (‹(HNow w _ s d ∧ _) ∧ _›).1.1).mono ?_; rintro e w4 ⟨rfl, hb4⟩)))
                    have HF := Lib.hid (‹(HNow w w4 s d ∧ _) ∧ _›).1.1
                    clear q0 q1 q2 q3 q4 q5 ql hcj hnum hb4 hc
                    go_wp2
                    go_ret
                    exact ⟨rfl, HF.out.bel⟩
                  · rw [hc] at HFR
                    go_region_held3 (fun w' => (HNow w w' s d ∧ b < w'.heap.size ∧ b2 < w'.heap.size) ∧ w.heap.size < w'.heap.size ∧ w'.cell? ⟨w.heap.size, 0, none⟩ = some (.slice s.w.a s.w.n s.w.c) ∧ w'.cell? ⟨w.heap.size, 1, none⟩ = some (.slice s.p.a s.p.n s.p.c) ∧ w'.cell? ⟨w.heap.size, 2, none⟩ = some (.slice (s.u 0).a (s.u 0).n (s.u 0).c) ∧ w'.cell? ⟨w.heap.size, 3, none⟩ = some (.slice (s.u 1).a (s.u 1).n (s.u 1).c) ∧ w'.cell? ⟨w.heap.size, 4, none⟩ = some (.slice (s.u 2).a (s.u 2).n (s.u 2).c) ∧ w'.cell? ⟨w.heap.size, 5, none⟩ = some (.slice s.c.a s.c.n s.c.c) ∧ w'.cell? ⟨b, off + k * 3 + j, none⟩ = some (.slice (U' k j).a (U' k j).n (U' k j).c) ∧ w'.cell? ⟨b2, off2 + q, none⟩ = some (.int .i64 y)) (first
                      | exact hold2_next HST.out (below_drawn' (Below.refl _ _) 1)
                      | exact hold2_next ‹(HNow w _ s d ∧ _) ∧ _› ‹Below _ _ _›) (first
                      | ((go_at_call 91; refine (HFR.out _ (‹(HNow w _ s d ∧ _) ∧ _›).1.1).mono ?_; rintro e w4 ⟨rfl, hb4⟩)))
                    have HF := Lib.hid (‹(HNow w w4 s d ∧ _) ∧ _›).1.1
                    have HB4 : Hid (HNow w w4 s d ∧ Below w3.heap.size w3 w4) := Lib.hid ⟨HF.out, HS3.out.2.trans (((below_drawn' (Below.refl wr.heap.size wr) 1).trans hb4).mono HS3.out.2.size)⟩
                    have HG5 : Hid (∀ q', q' < q + 1 → freeH d s.p.n ((F' k j).getD q' 0) (j : Nat) = true) := Lib.hid (fun q' hq' => by
                      by_cases e : q' = q
                      · rw [e, ← HY.out]; exact hc
                      · exact HG4.out q' (by omega))
                    clear q0 q1 q2 q3 q4 q5 ql hcj hnum hb4 hc
                    go_wp2
                    go_roundw
                    case rel => exact ⟨q + 1, HQ.out, by go_num, HB4, HG5⟩
                    case measure => have := HQ.out; simp [intOf]; omega
                · obtain rfl : q = (U' k j).n := by omega
                  have HG5 : Hid (∀ j', j' < j + 1 → ∀ q, q < (F' k j').length → freeH d s.p.n ((F' k j').getD q 0) (j' : Nat) = true) := Lib.hid (fun j' hj' q hq => by
                    by_cases e : j' = j
                    · subst e
                      exact HG4.out q (by have := hln.out; omega)
                    · exact HG2.out j' (by omega) q hq)
                  clear hl3
                  go_wp2
                  go_roundw
                  case rel => exact ⟨j + 1, J3.out, by go_num, HS3, HG5⟩
                  case measure => have := J3.out; simp [intOf]; omega
            · obtain rfl : j = 3 := by omega
              have HG5 : Hid (∀ k', k' < k + 1 → ∀ j, j < 3 → ∀ q, q < (F' k' j).length → freeH d s.p.n ((F' k' j).getD q 0) (j : Nat) = true) := Lib.hid (fun k' hk' => by
                by_cases e : k' = k
                · subst e
                  exact HG2.out
                · exact HG1.out k' (by omega))
              go_wp2
              go_roundw
              case rel => exact ⟨k + 1, by omega, by go_num, HS2, HG5⟩
              case measure => simp [intOf]; omega
        · obtain rfl : k = N := by omega
          have HR0 := HG3.out HG1.out
          subst HR0
          clear hlt
          go_wp2_with fail
          refine (Ls.rapart_any w3.heap.size A' k cap U' F' wr (HL3.out.below HS.out.2) HS.out.2.size (by omega) HLEN.out).mono ?_
          rintro e w5 ⟨rfl, hb5⟩
          have HB5 := Lib.hid (HS.out.1.bel.trans (hb5.mono HS.out.1.bel.size))
          clear hb5
          go_wp2
          go_ret
          exact ⟨rfl, HB5.out⟩
end Go.Proofs.YtcbnefjfoeanoaaGreatDoor
