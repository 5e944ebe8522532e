/-
  The chapter's example.
-/
import Derived.Test.YtdmclfolooiccaaGreatDoorHpAR
namespace Go.Proofs.YtdmclfolooiccaaGreatDoor.Al
open Go.Proofs.YtdmclfolooiccaaGreatDoor
open Go.RowKit
set_option maxRecDepth 100000

def dA : Hd_ := ⟨List.replicate 16 0, fun _ => (0, 0), Ls.noLists, fun _ => false⟩
def sA (g cw : Nat) (A C : Option Addr) : Hs := ⟨⟨some ⟨g, 0, none⟩, 16 * 1, cw⟩, ⟨A, 1, 1⟩, Ls.noSl, ⟨C, 2 * 1, 2 * 1⟩⟩
theorem fine_A (g cw : Nat) (A C : Option Addr) : Fine (sA g cw A C) dA := by
  refine ⟨by show (16 : Nat) ≤ 4000; omega, by show (1 : Nat) ≤ 200; omega, by show (2 : Nat) ≤ 100000; omega, fun i => ?_, by decide⟩
  have : dA.ws.getD i 0 = 0 := by
    show (List.replicate 16 (0 : Int)).getD i 0 = 0
    exact rep0 16 i
  omega
theorem fineT_A (g cw : Nat) (A C : Option Addr) : FineT (sA g cw A C) dA Ls.noSl Ls.noLists :=
  ⟨fine_A g cw A C, fun _ _ => Nat.zero_le _, fun _ _ => Nat.zero_le _, by decide⟩
def rA (g cw : Nat) (A C : Option Addr) : Tk := tkR (sA g cw A C) dA Ls.noLists true false false 3 0 0
theorem rA_er (g cw : Nat) (A C : Option Addr) : (rA g cw A C).er = 0 := by kernel_rfl
theorem rA_a (g cw : Nat) (A C : Option Addr) : (rA g cw A C).a = 20 := by kernel_rfl
theorem rA_G (g cw : Nat) (A C : Option Addr) : (rA g cw A C).G 1 = [16] ∧ (rA g cw A C).G 0 = [] ∧ (rA g cw A C).G 2 = [] := ⟨by kernel_rfl, by kernel_rfl, by kernel_rfl⟩
theorem rA_F (g cw : Nat) (A C : Option Addr) : (rA g cw A C).d.F 1 = [28, 24] ∧ (rA g cw A C).d.F 0 = [] ∧ (rA g cw A C).d.F 2 = [] := ⟨by kernel_rfl, by kernel_rfl, by kernel_rfl⟩
theorem rA_n (g cw : Nat) (A C : Option Addr) : (rA g cw A C).wn = 16 ∧ (rA g cw A C).pn = 1 ∧ (rA g cw A C).cn = 2 := ⟨by kernel_rfl, by kernel_rfl, by kernel_rfl⟩
theorem rA_ws (g cw : Nat) (A C : Option Addr) : (rA g cw A C).d.ws = [0, 0, 0, 0, 25, 0, 0, 0, 0, 0, 0, 0, 0, 0, 0, 0] := by kernel_rfl
theorem rA_room (g cw : Nat) (A C : Option Addr) : roomB (sA g cw A C) dA Ls.noLists 3 = true := by kernel_rfl
theorem rA_whole (g cw : Nat) (A C a1 a2 a3 : Option Addr) (c1 c2 c3 : Nat) (v : Nat → Ls.Sl) : wholeH ⟨⟨a1, 16, c1⟩, ⟨a2, 1, c2⟩, v, ⟨a3, 2, c3⟩⟩ (rA g cw A C).d 1 (fun _ => (rA g cw A C).G) = true := by kernel_rfl
theorem aw_take (g cw : Nat) (A C : Option Addr) (w : World) (hz : Cl.Sz w) (hp : Hp w w.heap.size (sA g cw A C) dA) : Calls Tryz.prog 7 #[.agg #[.slice (some ⟨g, 0, none⟩) 16 cw, .slice A 1 1, .slice none 0 0, .slice none 0 0, .slice none 0 0, .slice C 2 2], .agg #[.slice none 0 0, .slice none 0 0, .slice none 0 0], .agg #[.bool true, .bool false, .bool false, .int .i64 3, .int .i64 0, .int .i64 0]] w fun e w' =>
    ∃ (a1 a2 a3 : Option Addr) (c1 c2 c3 : Nat) (x v : Nat → Ls.Sl), e = .returned (.tuple #[.agg #[.slice a1 16 c1, .slice a2 1 c2, .slice (x 0).a (x 0).n (x 0).c, .slice (x 1).a (x 1).n (x 1).c, .slice (x 2).a (x 2).n (x 2).c, .slice a3 2 c3], (.agg #[.slice (v 0).a (v 0).n (v 0).c, .slice (v 1).a (v 1).n (v 1).c, .slice (v 2).a (v 2).n (v 2).c]), .int .i64 20, .int .i64 0]) ∧
      Hp w' w'.heap.size ⟨⟨a1, 16, c1⟩, ⟨a2, 1, c2⟩, x, ⟨a3, 2, c3⟩⟩ (rA g cw A C).d ∧ Ls.L3 w' w'.heap.size v (rA g cw A C).G ∧ Below w.heap.size w w' := by
  refine (ptake_any (sA g cw A C) Ls.noSl dA Ls.noLists true false false 3 0 0 w hp (Ls.L3.none_ _ _) hz (fineT_A g cw A C)).mono ?_
  rintro e w' ⟨⟨⟨a1, n1, c1⟩, ⟨a2, n2, c2⟩, x, ⟨a3, n3, c3⟩⟩, v, rfl, h1, h2, hn, hb⟩
  have hr : tkR (sA g cw A C) dA Ls.noLists true false false 3 0 0 = rA g cw A C := rfl
  rw [hr] at h1 h2 hn ⊢
  obtain ⟨e1, e2, e3⟩ := rA_n g cw A C
  rw [e1, e2, e3] at hn
  obtain ⟨rfl, rfl, rfl⟩ := hn
  rw [rA_a, rA_er]
  exact ⟨a1, a2, a3, c1, c2, c3, x, v, rfl, h1, h2, hb⟩
/-- What the example holds: two heaps in their boxes, a cache in its box. -/
structure Aw (w W : World) (b1 bk bc : Nat) (s t : Hs) (v : Nat → Ls.Sl) (d : Hd_) (G : Nat → List Int) : Prop where
  h : HBox W b1 s
  k : HBox W bk t
  c : Ls.Box3 W bc v
  ph : Hp W W.heap.size s dA
  pk : Hp W W.heap.size t d
  l3 : Ls.L3 W W.heap.size v G
  bel : Below w.heap.size w W
theorem Aw.next {w W W' : World} {b1 bk bc : Nat} {s t : Hs} {v : Nat → Ls.Sl} {d : Hd_} {G : Nat → List Int} (h : Aw w W b1 bk bc s t v d G) (hb : Below W.heap.size W W') : Aw w W' b1 bk bc s t v d G :=
  ⟨h.h.next hb, h.k.next hb, h.c.next hb, h.ph.next hb, h.pk.next hb, h.l3.next hb, h.bel.trans (hb.mono h.bel.size)⟩
theorem aw_start {w w2 w3 W5 : World} {b1 n1 n2 n3 c1 c2 c3 : Nat} {a1 a2 a3 : Option Addr} {s : Hs} {x v : Nat → Ls.Sl} {d : Hd_} {G : Nat → List Int} (hx : HBox w2 b1 s) (hs : Hp w2 w2.heap.size s dA) (hb : Below w.heap.size w w2) (hk : Hp w3 w3.heap.size ⟨⟨a1, n1, c1⟩, ⟨a2, n2, c2⟩, x, ⟨a3, n3, c3⟩⟩ d) (l3 : Ls.L3 w3 w3.heap.size v G) (hb3 : Below w2.heap.size w2 w3)
    (hW : W5 = (w3.alloc (.cells #[.slice a1 n1 c1, .slice a2 n2 c2, .slice (x 0).a (x 0).n (x 0).c, .slice (x 1).a (x 1).n (x 1).c, .slice (x 2).a (x 2).n (x 2).c, .slice a3 n3 c3] 28)).alloc (.cells #[.slice (v 0).a (v 0).n (v 0).c, .slice (v 1).a (v 1).n (v 1).c, .slice (v 2).a (v 2).n (v 2).c] 25)) : Aw w W5 b1 w3.heap.size (w3.heap.size + 1) s ⟨⟨a1, n1, c1⟩, ⟨a2, n2, c2⟩, x, ⟨a3, n3, c3⟩⟩ v d G := by
  obtain ⟨w4, h4⟩ : ∃ w4, w4 = w3.alloc (.cells #[.slice a1 n1 c1, .slice a2 n2 c2, .slice (x 0).a (x 0).n (x 0).c, .slice (x 1).a (x 1).n (x 1).c, .slice (x 2).a (x 2).n (x 2).c, .slice a3 n3 c3] 28) := ⟨_, rfl⟩
  rw [← h4] at hW
  have b4 : Below w3.heap.size w3 w4 := by rw [h4]; exact (Below.refl _ _).alloc (Nat.le_refl _) _
  have b5 : Below w4.heap.size w4 W5 := by rw [hW]; exact (Below.refl _ _).alloc (Nat.le_refl _) _
  have z4 : w4.heap.size = w3.heap.size + 1 := by rw [h4]; simp
  have k4 : HBox w4 w3.heap.size ⟨⟨a1, n1, c1⟩, ⟨a2, n2, c2⟩, x, ⟨a3, n3, c3⟩⟩ := by rw [h4]; exact HBox.new w3 ⟨⟨a1, n1, c1⟩, ⟨a2, n2, c2⟩, x, ⟨a3, n3, c3⟩⟩ _
  have k5 : Ls.Box3 W5 (w3.heap.size + 1) v := by rw [hW, ← z4]; exact Ls.Box3.new w4 v _
  have s2 := hb.size
  have s3 := hb3.size
  have s4 := b4.size
  exact ⟨((hx.next hb3).next b4).next b5, k4.next b5, k5, ((hs.next hb3).next b4).next b5, (hk.next b4).next b5, (l3.next b4).next b5, hb.trans ((hb3.mono s2).trans ((b4.mono (by omega)).trans (b5.mono (by omega))))⟩
theorem row_lit2 (w : World) (a b : Int) : Row (w.alloc (.cells #[.int .i64 a, .int .i64 b] 3)) (w.heap.size + 1) (some ⟨w.heap.size, 0, none⟩) 2 [a, b] := by
  refine ⟨rfl, fun _ => ⟨w.heap.size, 0, rfl, by omega, fun i hi => ?_⟩⟩
  rcases (show i = 0 ∨ i = 1 by omega) with rfl | rfl <;> simp [go_sem]
theorem fine_rA (g cw : Nat) (A C : Option Addr) (a1 a2 a3 : Option Addr) (c1 c2 c3 : Nat) (v : Nat → Ls.Sl) : Fine ⟨⟨a1, 16, c1⟩, ⟨a2, 1, c2⟩, v, ⟨a3, 2, c3⟩⟩ (rA g cw A C).d := by
  refine ⟨by show (16 : Nat) ≤ 4000; omega, by show (1 : Nat) ≤ 200; omega, by show (2 : Nat) ≤ 100000; omega, fun i => ?_, ?_⟩
  · rw [rA_ws]
    have : ([0, 0, 0, 0, 25, 0, 0, 0, 0, 0, 0, 0, 0, 0, 0, 0] : List Int).getD i 0 = 0 ∨ ([0, 0, 0, 0, 25, 0, 0, 0, 0, 0, 0, 0, 0, 0, 0, 0] : List Int).getD i 0 = 25 := by
      by_cases h : i < 16
      · have key : ∀ j, j < 16 → ([0, 0, 0, 0, 25, 0, 0, 0, 0, 0, 0, 0, 0, 0, 0, 0] : List Int).getD j 0 = 0 ∨ ([0, 0, 0, 0, 25, 0, 0, 0, 0, 0, 0, 0, 0, 0, 0, 0] : List Int).getD j 0 = 25 := by decide
        exact key i h
      · left
        rw [List.getD, List.getElem?_eq_none (by show 16 ≤ i; omega)]
        rfl
    omega
  · rw [show Ls.upTo (rA g cw A C).d.F 3 = [28, 24] by kernel_rfl]
    decide
theorem len_rA (g cw : Nat) (A C : Option Addr) : (Ls.allOf (ahead (rA g cw A C).d.F (fun _ => (rA g cw A C).G)) (1 + 1)).length ≤ 2000000 := by
  rw [show Ls.allOf (ahead (rA g cw A C).d.F (fun _ => (rA g cw A C).G)) (1 + 1) = [28, 24, 16] by kernel_rfl]
  decide
set_option maxHeartbeats 2000000 in
theorem awake_any (w : World) (hz : Cl.Sz w) : Calls Tryz.prog 4 #[] w fun e w' => e = .returned (.bool true) ∧ Below w.heap.size w w' := by
  have HZ := Lib.hid hz
  have hz0 := hz.pos
  have hnew := new_ok 1
  simp only [show ((1 : Nat) : Int) = 1 from rfl] at hnew
  have HNEW := Lib.hid hnew
  clear hz hnew
  go_enter Tryz.func4, Tryz.ntmps4
  go_wp2_with fail
  refine (HNEW.out w (by omega) (by omega)).mono ?_
  rintro e w1 ⟨A, C, g, cw, rfl, hr1, hp1, hc1, hb1⟩
  have H1 := Lib.hid (And.intro (show Hp w1 w1.heap.size (sA g cw A C) dA from ⟨hr1, hp1, Ls.L3.none_ _ _, hc1⟩) hb1)
  clear hr1 hp1 hc1 hb1
  go_wp2_with fail
  obtain ⟨w2, hw2⟩ : ∃ w2, w2 = w1.alloc (.cells #[.slice (some ⟨g, 0, none⟩) 16 cw, .slice A 1 1, .slice none 0 0, .slice none 0 0, .slice none 0 0, .slice C 2 2] 28) := ⟨_, rfl⟩
  have hb2 : Below w1.heap.size w1 w2 := by rw [hw2]; exact (Below.refl _ _).alloc (Nat.le_refl _) _
  have X1 : Hid (HBox w2 w1.heap.size (sA g cw A C)) := Lib.hid (by rw [hw2]; exact HBox.new w1 (sA g cw A C) 28)
  have P2 := Lib.hid (And.intro (H1.out.1.next hb2) (H1.out.2.trans (hb2.mono H1.out.2.size)))
  rw [← hw2]
  clear hw2 hb2
  refine (aw_take g cw A C w2 (HZ.out.over P2.out.2 hz0) P2.out.1).mono ?_
  rintro e3 w3 ⟨a1, a2, a3, c1, c2, c3, x, v, rfl, h3, l3, hb3⟩
  have A3 := Lib.hid (And.intro (show Hp w3 w3.heap.size ⟨⟨a1, 16, c1⟩, ⟨a2, 1, c2⟩, x, ⟨a3, 2, c3⟩⟩ (rA g cw A C).d from h3) (And.intro l3 hb3))
  clear h3 l3 hb3
  go_wp2_with fail
  obtain ⟨W5, hW5⟩ : ∃ W5, W5 = (w3.alloc (.cells #[.slice a1 16 c1, .slice a2 1 c2, .slice (x 0).a (x 0).n (x 0).c, .slice (x 1).a (x 1).n (x 1).c, .slice (x 2).a (x 2).n (x 2).c, .slice a3 2 c3] 28)).alloc (.cells #[.slice (v 0).a (v 0).n (v 0).c, .slice (v 1).a (v 1).n (v 1).c, .slice (v 2).a (v 2).n (v 2).c] 25) := ⟨_, rfl⟩
  have A5 := Lib.hid (aw_start X1.out P2.out.1 P2.out.2 A3.out.1 A3.out.2.1 A3.out.2.2 hW5)
  have hz5 : w3.heap.size + 1 + 1 = W5.heap.size := by rw [hW5]; simp
  rw [← hW5, hz5]
  obtain ⟨bk, hbk⟩ : ∃ bk, bk = w3.heap.size := ⟨_, rfl⟩
  obtain ⟨b1, hb1⟩ : ∃ b1, b1 = w1.heap.size := ⟨_, rfl⟩
  rw [← hbk, ← hb1] at A5 ⊢
  clear hW5 hz5 hbk hb1 X1 P2 A3 H1
  have R5 := Lib.hid ((A5.out.l3 1 (by decide)).1)
  rw [(rA_G g cw A C).1] at R5
  have A6 := Lib.hid (A5.out.next ((Below.refl _ _).alloc (Nat.le_refl _) (.cells #[.int .i64 16] 3)))
  have HI := Lib.hid (Ls.ints_tell W5.heap.size (W5.heap.size + 1) (v 1).a (some ⟨W5.heap.size, 0, none⟩) (v 1).n 1 (v 1).c 1 [16] [16] (W5.alloc (.cells #[.int .i64 16] 3)) (by have := R5.out.1; simp at this; omega) (by omega) (R5.out.alloc _ (Nat.le_refl _)) (Ls.row_lit1 W5 16))
  rw [decide_eq_true rfl] at HI
  refine HI.out.mono ?_
  rintro e6 w6 ⟨rfl, hb6⟩
  have A7 := Lib.hid (A6.out.next hb6)
  clear hb6 A6 A5 R5 HI
  have q3 := A7.out.k.c3
  have ql := A7.out.k.lt
  dsimp only at q3
  go_wp2_with fail
  have R7 := Lib.hid ((A7.out.pk.free 1 (by decide)).1)
  rw [(rA_F g cw A C).1] at R7
  have A8 := Lib.hid (A7.out.next ((Below.refl _ _).alloc (Nat.le_refl _) (.cells #[.int .i64 28, .int .i64 24] 3)))
  have HI := Lib.hid (Ls.ints_tell w6.heap.size (w6.heap.size + 1) (x 1).a (some ⟨w6.heap.size, 0, none⟩) (x 1).n 2 (x 1).c 2 [28, 24] [28, 24] (w6.alloc (.cells #[.int .i64 28, .int .i64 24] 3)) (by have := R7.out.1; simp at this; omega) (by omega) (R7.out.alloc _ (Nat.le_refl _)) (row_lit2 w6 28 24))
  rw [decide_eq_true rfl] at HI
  refine HI.out.mono ?_
  rintro e8 w8 ⟨rfl, hb8⟩
  have A9 := Lib.hid (A8.out.next hb8)
  clear hb8 A8 A7 R7 HI q3 ql
  have q0 := A9.out.k.c0
  have q1 := A9.out.k.c1
  have q2 := A9.out.k.c2
  have q3 := A9.out.k.c3
  have q4 := A9.out.k.c4
  have q5 := A9.out.k.c5
  have ql := A9.out.k.lt
  have p0 := A9.out.c.cell 0 (by decide)
  have p1 := A9.out.c.cell 1 (by decide)
  have p2 := A9.out.c.cell 2 (by decide)
  have pl := A9.out.c.lt
  dsimp only at q0 q1 q2 q3 q4 q5
  go_wp2_with fail
  have A10 := Lib.hid (A9.out.next ((Below.refl _ _).alloc (Nat.le_refl _) (.cells #[.slice (v 0).a (v 0).n (v 0).c, .slice (v 1).a (v 1).n (v 1).c, .slice (v 2).a (v 2).n (v 2).c] 25)))
  have HW := pwhole_any ⟨⟨a1, 16, c1⟩, ⟨a2, 1, c2⟩, x, ⟨a3, 2, c3⟩⟩ (rA g cw A C).d (some ⟨w8.heap.size, 0, none⟩) 1 1 (fun _ => v) (fun _ => (rA g cw A C).G) (w8.alloc (.cells #[.slice (v 0).a (v 0).n (v 0).c, .slice (v 1).a (v 1).n (v 1).c, .slice (v 2).a (v 2).n (v 2).c] 25)) A10.out.pk (lrow_of (own_one w8 v) (by simp) (fun _ _ => A10.out.l3)) (by decide) (HZ.out.over A10.out.bel hz0) (fine_rA g cw A C a1 a2 a3 c1 c2 c3 x) (len_rA g cw A C)
  rw [rA_whole] at HW
  refine HW.mono ?_
  rintro e11 w11 ⟨rfl, hb11⟩
  have A11 := Lib.hid (A10.out.next hb11)
  clear hb11 A10 A9 HW q0 q1 q2 q3 q4 q5 ql p0 p1 p2 pl
  have q0 := A11.out.h.c0
  have q1 := A11.out.h.c1
  have q2 := A11.out.h.c2
  have q3 := A11.out.h.c3
  have q4 := A11.out.h.c4
  have q5 := A11.out.h.c5
  have ql := A11.out.h.lt
  dsimp only [sA, Ls.noSl] at q0 q1 q2 q3 q4 q5
  go_wp2_with fail
  have HR := room_any (sA g cw A C) Ls.noSl dA Ls.noLists 3 w11 A11.out.ph (Ls.L3.none_ _ _) (HZ.out.over A11.out.bel hz0) (fineT_A g cw A C)
  rw [rA_room] at HR
  refine HR.mono ?_
  rintro e12 w12 ⟨rfl, hb12⟩
  have A12 := Lib.hid (A11.out.next hb12)
  clear hb12 A11 HR q0 q1 q2 q3 q4 q5 ql
  go_wp2
  go_ret
  exact ⟨rfl, A12.out.bel⟩
end Go.Proofs.YtdmclfolooiccaaGreatDoor.Al
