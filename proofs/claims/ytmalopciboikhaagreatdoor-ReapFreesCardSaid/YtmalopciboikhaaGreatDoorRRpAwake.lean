/-
  The chapter's example of layer 9.
-/
import Derived.Test.YtmalopciboikhaaGreatDoorRRpFree
import Derived.Test.YtmalopciboikhaaGreatDoorRHpAwake
namespace Go.Proofs.YtmalopciboikhaaGreatDoor.Rp
open Go.Proofs.YtmalopciboikhaaGreatDoor
open Go.RowKit
set_option maxRecDepth 100000

def rB (g gp gc l : Nat) : Rk := rkFree (sK g gp gc l) dK 24
theorem rB_n (g gp gc l : Nat) : (rB g gp gc l).er = 0 ∧ (rB g gp gc l).wn = 16 ∧ (rB g gp gc l).pn = 1 ∧ (rB g gp gc l).cn = 2 := ⟨by kernel_rfl, by kernel_rfl, by kernel_rfl, by kernel_rfl⟩
theorem rB_f (g gp gc l : Nat) : (rB g gp gc l).d.f 0 = (0, 0) := by kernel_rfl
theorem rB_F (g gp gc l : Nat) : (rB g gp gc l).d.F 0 = [] ∧ (rB g gp gc l).d.F 1 = [] ∧ (rB g gp gc l).d.F 2 = [] := ⟨by kernel_rfl, by kernel_rfl, by kernel_rfl⟩
theorem rB_ws (g gp gc l : Nat) : (rB g gp gc l).d.ws = [0, 0, 0, 0, 0, 0, 0, 0, 0, 0, 0, 0, 0, 0, 0, 0] := by kernel_rfl
theorem rB_whole (g gp gc l : Nat) (a1 a2 a3 : Option Addr) (c1 c2 c3 : Nat) (v : Nat → Ls.Sl) : wholeH ⟨⟨a1, 16, c1⟩, ⟨a2, 1, c2⟩, v, ⟨a3, 2, c3⟩⟩ (rB g gp gc l).d 0 noCaches = true := by kernel_rfl
theorem fine_B (g gp gc l : Nat) (a1 a2 a3 : Option Addr) (c1 c2 c3 : Nat) (v : Nat → Ls.Sl) : Fine ⟨⟨a1, 16, c1⟩, ⟨a2, 1, c2⟩, v, ⟨a3, 2, c3⟩⟩ (rB g gp gc l).d := by
  refine ⟨by show (16 : Nat) ≤ 4000; omega, by show (1 : Nat) ≤ 200; omega, by show (2 : Nat) ≤ 100000; omega, fun i => ?_, ?_⟩
  · rw [rB_ws]
    have : ([0, 0, 0, 0, 0, 0, 0, 0, 0, 0, 0, 0, 0, 0, 0, 0] : List Int).getD i 0 = 0 := rep0 16 i
    omega
  · rw [show Ls.upTo (rB g gp gc l).d.F 3 = [] by kernel_rfl]
    decide
/-- A free cell is told of. -/
theorem aw_free {w w3 w5 : World} {b m mp mc : Nat} (hb : w.heap.size ≤ b) (hbel : Below w.heap.size w w3) (hr : Rm w3 b (sM m mp mc)) (hp : Hp w3 w3.heap.size (sM m mp mc) dM)
    (hw : w5 = (w3.setCell ⟨b, 4, none⟩ (.slice (some ⟨w3.heap.size, 0, none⟩) 1 1)).alloc (.cells #[.int .i64 16] 3)) : Below w.heap.size w w5 ∧ HBox w5 b (sK m mp mc w3.heap.size) ∧ Hp w5 w5.heap.size (sK m mp mc w3.heap.size) dK := by
  obtain ⟨w4, h4⟩ : ∃ w4, w4 = w3.setCell ⟨b, 4, none⟩ (.slice (some ⟨w3.heap.size, 0, none⟩) 1 1) := ⟨_, rfl⟩
  rw [← h4] at hw
  have z4 : w4.heap.size = w3.heap.size := by rw [h4]; exact set_size
  have hR : Rm w4 b (sK m mp mc w3.heap.size) := by rw [h4]; exact hr.set 4 _ _ _ rfl rfl rfl rfl rfl rfl
  have hP : Hp w4 w4.heap.size (sM m mp mc) dM := by rw [h4]; exact hp_turn hr.sl hp set_others set_size.symm
  have b4 : Below w.heap.size w w4 := by rw [h4]; exact hbel.setCell (p := ⟨b, 4, none⟩) hb _
  have b5 : Below w4.heap.size w4 w5 := by rw [hw]; exact (Below.refl _ _).alloc (Nat.le_refl _) _
  have h5 := hP.next b5
  have s5 : w5.heap.size = w3.heap.size + 1 := by rw [hw]; simp [z4]
  refine ⟨b4.trans (b5.mono b4.size), (hR.next b5).box.box, h5.words, h5.pages, fun j hj => ?_, h5.cards⟩
  by_cases e : j = 2
  · subst e
    refine ⟨⟨rfl, fun _ => ⟨w3.heap.size, 0, rfl, by omega, fun i hi => ?_⟩⟩, Nat.le_refl _, by show (1 : Nat) ≤ maxLen; unfold maxLen; omega⟩
    obtain rfl : i = 0 := by have : i < 1 := hi; omega
    rw [hw, ← z4]
    simp [go_sem, dK]
  · have e1 : (sK m mp mc w3.heap.size).u j = ⟨none, 0, 0⟩ := by simp [sK, e]
    have e2 : dK.F j = [] := by simp [dK, e]
    rw [e1, e2]
    exact ⟨Row.none_ _ _, Nat.le_refl _, by show (0 : Nat) ≤ maxLen; unfold maxLen; omega⟩
theorem rm_M {w wc : World} {b g gp gc : Nat} (h : AwM w wc b g gp gc) : Rm (wc.setCell ⟨g, 8, none⟩ (.int .i64 41)) b (sM g gp gc) := by
  have hs : (wc.setCell ⟨g, 8, none⟩ (.int .i64 41)).heap[b]? = some (.cells #[.slice (some ⟨g, 0, none⟩) 16 16, .slice (some ⟨gp, 0, none⟩) 1 1, .slice none 0 0, .slice none 0 0, .slice none 0 0, .slice (some ⟨gc, 0, none⟩) 2 2] 28) := (Below.heap_setCell _ _ _ _ (by have := h.ap.2.2; show ¬ b = g; omega)).trans h.hb
  refine ⟨⟨(aw_store h).1, fun j => by simp [World.frozen?, hs]⟩, fun j v hv => ?_⟩
  unfold World.cell? at hv
  rw [hs] at hv
  rcases j with _ | _ | _ | _ | _ | _ | j
  · simp at hv; exact ⟨_, _, _, hv.symm⟩
  · simp at hv; exact ⟨_, _, _, hv.symm⟩
  · simp at hv; exact ⟨_, _, _, hv.symm⟩
  · simp at hv; exact ⟨_, _, _, hv.symm⟩
  · simp at hv; exact ⟨_, _, _, hv.symm⟩
  · simp at hv; exact ⟨_, _, _, hv.symm⟩
  · simp at hv
set_option maxHeartbeats 2000000 in
theorem awake_any (w : World) (hz : Cl.Sz w) : Calls Tryz.prog 14 #[] w fun e w' => e = .returned (.bool true) ∧ Below w.heap.size w w' := by
  have HZ := Lib.hid hz
  have hz0 := hz.pos
  have mi := make_ints 16 (by omega)
  have mb := make_bools 2 (by omega)
  simp only [show ((2 : Nat) : Int) = 2 from rfl, show ((16 : Nat) : Int) = 16 from rfl] at mi mb
  clear hz
  go_enter Tryz.func14, Tryz.ntmps14
  go_upto_region 1 with (fail)
  go_cut [1] from 4 to 46 (fun v wc => ∃ b g gp gc : Nat, v = .pointer (some ⟨b, 0, none⟩) ∧ Hid (AwM w wc b g gp gc ∧ w.heap.size ≤ b))
  case first =>
    go_region
    all_goals go_wp2_with fail
    all_goals go_meet
    all_goals exact ⟨_, _, _, _, rfl, Lib.hid ⟨⟨(by first | exact (four _ _ _ _ _).1 | exact (four _ _ _ _ _).2.1 | exact (four _ _ _ _ _).2.2.1 | exact (four _ _ _ _ _).2.2.2), (by first | exact (four _ _ _ _ _).1 | exact (four _ _ _ _ _).2.1 | exact (four _ _ _ _ _).2.2.1 | exact (four _ _ _ _ _).2.2.2), (by first | exact (four _ _ _ _ _).1 | exact (four _ _ _ _ _).2.1 | exact (four _ _ _ _ _).2.2.1 | exact (four _ _ _ _ _).2.2.2), (by first | exact (four _ _ _ _ _).1 | exact (four _ _ _ _ _).2.1 | exact (four _ _ _ _ _).2.2.1 | exact (four _ _ _ _ _).2.2.2), ⟨by omega, by omega, by omega⟩, by omega, four_below _ _ _ _ _ _⟩, by omega⟩⟩
  case rest =>
    obtain ⟨b, m, mp, mc, rfl, HAB⟩ := hcut
    have HA := Lib.hid HAB.out.1
    have hbx := aw_box HA.out
    have q0 := hbx.c0
    have ql := hbx.lt
    obtain ⟨c8, f8, l8⟩ := aw_word HA.out
    have HS := Lib.hid (aw_store HA.out)
    have HR := Lib.hid (rm_M HA.out)
    have HB := Lib.hid HAB.out.2
    dsimp only [sM] at q0
    clear hbx mi mb
    go_upto_region 3 with (fail)
    clear c8 f8 l8 HA HAB q0 ql
    generalize wc.setCell ⟨m, 8, none⟩ (.int .i64 41) = w3 at HS HR ⊢
    have q0 := (HR.out.box.box).c0
    have q1 := (HR.out.box.box).c1
    have q2 := (HR.out.box.box).c2
    have q3 := (HR.out.box.box).c3
    have q4 := (HR.out.box.box).c4
    have q5 := (HR.out.box.box).c5
    have ql := (HR.out.box.box).lt
    have y0 := (HR.out.box).free 0
    have y1 := (HR.out.box).free 1
    have y2 := (HR.out.box).free 2
    have y3 := (HR.out.box).free 3
    have y4 := (HR.out.box).free 4
    have y5 := (HR.out.box).free 5
    dsimp only [sM, Ls.noSl] at q0 q1 q2 q3 q4 q5
    go_upto_region 4 with (fail)
    obtain ⟨w5, hw5⟩ : ∃ w5, w5 = (w3.setCell ⟨b, 4, none⟩ (.slice (some ⟨w3.heap.size, 0, none⟩) 1 1)).alloc (.cells #[.int .i64 16] 3) := ⟨_, rfl⟩
    have K5 := Lib.hid (aw_free HB.out HS.out.2.2 HR.out HS.out.2.1 hw5)
    rw [← hw5]
    clear hw5 HS HR
    clear q0 q1 q2 q3 q4 q5 ql
    clear y0 y1 y2 y3 y4 y5
    obtain ⟨l, hl⟩ : ∃ l, l = w3.heap.size := ⟨_, rfl⟩
    rw [← hl] at K5
    clear hl
    have q0 := (K5.out.2.1).c0
    have q1 := (K5.out.2.1).c1
    have q2 := (K5.out.2.1).c2
    have q3 := (K5.out.2.1).c3
    have q4 := (K5.out.2.1).c4
    have q5 := (K5.out.2.1).c5
    have ql := (K5.out.2.1).lt
    dsimp only [sK] at q0 q1 q2 q3 q4 q5
    have q2' : w5.cell? ⟨b, 2, none⟩ = some (.slice none 0 0) := q2
    have q3' : w5.cell? ⟨b, 3, none⟩ = some (.slice none 0 0) := q3
    have q4' : w5.cell? ⟨b, 4, none⟩ = some (.slice (some ⟨l, 0, none⟩) 1 1) := q4
    clear q2 q3 q4
    go_wp2_with fail
    refine (free_any (sK m mp mc l) dK 24 w5 K5.out.2.2 (HZ.out.over K5.out.1 hz0) (fine_K m mp mc l) (fun j hj => by
      show (if j = 2 then (⟨some ⟨l, 0, none⟩, 1, 1⟩ : Ls.Sl) else ⟨none, 0, 0⟩).n ≤ _
      split
      · exact (by decide : 1 ≤ 1000000)
      · exact Nat.zero_le _)).mono ?_
    rintro e w6 ⟨⟨⟨a1, n1, c1⟩, ⟨a2, n2, c2⟩, x, ⟨a3, n3, c3⟩⟩, rfl, h6, hn6, hb6⟩
    obtain ⟨e0, e1, e2, e3⟩ := rB_n m mp mc l
    rw [show rkFree (sK m mp mc l) dK 24 = rB m mp mc l from rfl] at h6 hn6 ⊢
    rw [e1, e2, e3] at hn6
    rw [e0]
    obtain ⟨rfl, rfl, rfl⟩ := hn6
    have P6 := Lib.hid h6
    have B6 := Lib.hid (K5.out.1.trans (hb6.mono K5.out.1.size))
    clear h6 hb6 e0 e1 e2 e3 q0 q1 q2' q3' q4' q5 ql K5
    obtain ⟨w7, hw7⟩ : ∃ w7, w7 = w6.alloc (.cells #[.slice (⟨⟨a1, 16, c1⟩, ⟨a2, 1, c2⟩, x, ⟨a3, 2, c3⟩⟩ : Hs).w.a (⟨⟨a1, 16, c1⟩, ⟨a2, 1, c2⟩, x, ⟨a3, 2, c3⟩⟩ : Hs).w.n (⟨⟨a1, 16, c1⟩, ⟨a2, 1, c2⟩, x, ⟨a3, 2, c3⟩⟩ : Hs).w.c, .slice (⟨⟨a1, 16, c1⟩, ⟨a2, 1, c2⟩, x, ⟨a3, 2, c3⟩⟩ : Hs).p.a (⟨⟨a1, 16, c1⟩, ⟨a2, 1, c2⟩, x, ⟨a3, 2, c3⟩⟩ : Hs).p.n (⟨⟨a1, 16, c1⟩, ⟨a2, 1, c2⟩, x, ⟨a3, 2, c3⟩⟩ : Hs).p.c, .slice ((⟨⟨a1, 16, c1⟩, ⟨a2, 1, c2⟩, x, ⟨a3, 2, c3⟩⟩ : Hs).u 0).a ((⟨⟨a1, 16, c1⟩, ⟨a2, 1, c2⟩, x, ⟨a3, 2, c3⟩⟩ : Hs).u 0).n ((⟨⟨a1, 16, c1⟩, ⟨a2, 1, c2⟩, x, ⟨a3, 2, c3⟩⟩ : Hs).u 0).c, .slice ((⟨⟨a1, 16, c1⟩, ⟨a2, 1, c2⟩, x, ⟨a3, 2, c3⟩⟩ : Hs).u 1).a ((⟨⟨a1, 16, c1⟩, ⟨a2, 1, c2⟩, x, ⟨a3, 2, c3⟩⟩ : Hs).u 1).n ((⟨⟨a1, 16, c1⟩, ⟨a2, 1, c2⟩, x, ⟨a3, 2, c3⟩⟩ : Hs).u 1).c, .slice ((⟨⟨a1, 16, c1⟩, ⟨a2, 1, c2⟩, x, ⟨a3, 2, c3⟩⟩ : Hs).u 2).a ((⟨⟨a1, 16, c1⟩, ⟨a2, 1, c2⟩, x, ⟨a3, 2, c3⟩⟩ : Hs).u 2).n ((⟨⟨a1, 16, c1⟩, ⟨a2, 1, c2⟩, x, ⟨a3, 2, c3⟩⟩ : Hs).u 2).c, .slice (⟨⟨a1, 16, c1⟩, ⟨a2, 1, c2⟩, x, ⟨a3, 2, c3⟩⟩ : Hs).c.a (⟨⟨a1, 16, c1⟩, ⟨a2, 1, c2⟩, x, ⟨a3, 2, c3⟩⟩ : Hs).c.n (⟨⟨a1, 16, c1⟩, ⟨a2, 1, c2⟩, x, ⟨a3, 2, c3⟩⟩ : Hs).c.c] 28) := ⟨_, rfl⟩
    have b7 : Below w6.heap.size w6 w7 := by rw [hw7]; exact (Below.refl _ _).alloc (Nat.le_refl _) _
    have X7 : HBox w7 w6.heap.size ⟨⟨a1, 16, c1⟩, ⟨a2, 1, c2⟩, x, ⟨a3, 2, c3⟩⟩ := by rw [hw7]; exact HBox.new w6 ⟨⟨a1, 16, c1⟩, ⟨a2, 1, c2⟩, x, ⟨a3, 2, c3⟩⟩ _
    have P7 := Lib.hid (P6.out.next b7)
    have B7 := Lib.hid (B6.out.trans (b7.mono B6.out.size))
    have HX := Lib.hid X7
    go_upto_region 5 with fail
    rw [← hw7]
    clear hw7 b7 X7 P6 B6
    obtain ⟨bp, off, rfl, hbp, hcp⟩ := P7.out.pages (show (0 : Nat) < 1 by omega)
    have g0 := (hcp 0 (show (0 : Nat) < 1 by omega)).1
    rw [rB_f] at g0
    dsimp only at g0
    simp only [Nat.zero_mul, Nat.add_zero] at g0
    have x2 : (x 2).n = 0 := by
      have := P7.out.free.len 2 (by decide)
      rw [(rB_F m mp mc l).2.2] at this
      exact this
    have q0 := (HX.out).c0
    have q1 := (HX.out).c1
    have q2 := (HX.out).c2
    have q3 := (HX.out).c3
    have q4 := (HX.out).c4
    have q5 := (HX.out).c5
    have ql := (HX.out).lt
    dsimp only at q0 q1 q2 q3 q4 q5
    rw [x2] at q4
    have HX2 := Lib.hid x2
    clear hcp x2
    go_wp2_with fail
    have HW := pwhole0_any ⟨⟨a1, 16, c1⟩, ⟨some ⟨bp, off, none⟩, 1, c2⟩, x, ⟨a3, 2, c3⟩⟩ (rB m mp mc l).d w7 P7.out (HZ.out.over B7.out hz0) (fine_B m mp mc l _ _ _ _ _ _ _)
    rw [rB_whole] at HW
    dsimp only at HW
    rw [HX2.out] at HW
    refine HW.mono ?_
    rintro e9 w8 ⟨rfl, hb8⟩
    have B8 := Lib.hid (B7.out.trans (hb8.mono B7.out.size))
    clear hb8 HW
    go_wp2
    go_ret
    exact ⟨rfl, B8.out⟩
end Go.Proofs.YtmalopciboikhaaGreatDoor.Rp
