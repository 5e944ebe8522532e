/-
  The chapter's example of package regs.
-/
import Derived.Test.YtjppimabhefeeaaGreatDoorORtSame
import Derived.Test.YtjppimabhefeeaaGreatDoorHpOG
namespace Go.Proofs.YtjppimabhefeeaaGreatDoor.Rt
open Go.Proofs.YtjppimabhefeeaaGreatDoor
open Go.RowKit
set_option maxRecDepth 100000

theorem all_row {w w' : World} {s : Ls.Sl} {xs : List Int} (ho : w'.ownsRow w.heap.size 3 1 (.slice s.a s.n s.c) s.n (xs.map (Value.int .i64))) : Row w' w'.heap.size s.a s.n xs := by
  obtain ⟨a1, c1, e1, r1, _, _⟩ := Ls.owns_row ho
  simp only [Value.slice.injEq, true_and] at e1
  obtain ⟨rfl, rfl⟩ := e1
  exact r1
theorem aw_get (u : Nat → Ls.Sl) (o : Ls.Sl) : getV (tw (putT noT 2 16) u o) 2 = 16 := by kernel_rfl
theorem aw_hold (u : Nat → Ls.Sl) (o : Ls.Sl) : holdL (tw (putT noT 2 16) u o) = [16] := by kernel_rfl
theorem aw_may (u : Nat → Ls.Sl) (o : Ls.Sl) (h : o.n = (putT noT 2 16).o.n) : mayT (tw (putT noT 2 16) u o) = true := by
  have h0 : o.n = 0 := h
  refine decide_eq_true ?_
  refine ⟨?_, ?_, ?_, ?_, ?_, ?_, by show o.n ≤ 200; omega, Or.inl ?_⟩
  · show (0 : Int) ≤ (putT noT 2 16).sg; decide
  · show (putT noT 2 16).sg ≤ 3; decide
  · show (0 : Int) ≤ (putT noT 2 16).rt; decide
  · show (putT noT 2 16).rt ≤ 3; decide
  · show (0 : Int) ≤ (putT noT 2 16).pc; decide
  · show (putT noT 2 16).pc ≤ 4; decide
  · show (putT noT 2 16).pc = 0; decide
set_option maxHeartbeats 4000000 in
theorem awake_any (w : World) : Calls Tryz.prog 4 #[] w fun e w' => e = .returned (.bool true) ∧ Below w.heap.size w w' := by
  go_enter Tryz.func4, Tryz.ntmps4
  go_wp2_with fail
  refine (put_any noT Ls.noLists (fun _ => ⟨0, 0, 0, 0⟩) 2 16 w (noTh _ _ _) (fun _ _ => Nat.zero_le _) (Nat.zero_le _)).mono ?_
  rintro e w1 ⟨u, o, hon, he, hth, hb1⟩
  rw [show getE 2 = 0 by kernel_rfl] at he
  obtain ⟨t9, ht9⟩ : ∃ t9, t9 = tw (putT noT 2 16) u o := ⟨_, rfl⟩
  have hG : getV t9 2 = 16 := by rw [ht9]; exact aw_get u o
  have hH : holdL t9 = [16] := by rw [ht9]; exact aw_hold u o
  have hM : mayT t9 = true := by rw [ht9]; exact aw_may u o hon
  rw [← ht9] at he
  subst he
  have C1 := Lib.hid (fun W => get_any t9 2 W)
  have C2 := Lib.hid (fun W => holds_any t9 W)
  have C3 := Lib.hid (fun W => may_any t9 W)
  rw [hG, show getE 2 = 0 by kernel_rfl] at C1
  rw [hH] at C2
  rw [hM] at C3
  have HB := Lib.hid hb1
  clear ht9 hG hH hM hth hon hb1
  go_upto_region 2 with fail
  obtain ⟨W2, hW2⟩ : ∃ W2, W2 = w1.alloc (.cells #[.bool t9.lv, .int .i64 (t9.r 0), .int .i64 (t9.r 1), .int .i64 (t9.r 2), .int .i64 (t9.r 3), .slice (t9.u 0).a (t9.u 0).n (t9.u 0).c, .slice (t9.u 1).a (t9.u 1).n (t9.u 1).c, .slice (t9.u 2).a (t9.u 2).n (t9.u 2).c, .int .i64 t9.ep, .int .i64 t9.sg, .int .i64 t9.rt, .slice t9.o.a t9.o.n t9.o.c, .int .i64 t9.pc, .int .i64 t9.x, .int .i64 t9.y] 34) := ⟨_, rfl⟩
  obtain ⟨b, hb⟩ : ∃ b, b = w1.heap.size := ⟨_, rfl⟩
  have B2 : Hid (Box W2 b (tv t9)) := Lib.hid (by rw [hW2, hb]; exact Box.new w1 (tv t9) _)
  have H2 : Hid (Below w.heap.size w W2) := Lib.hid (by rw [hW2]; exact HB.out.trans (((Below.refl _ _).alloc (Nat.le_refl _) _).mono HB.out.size))
  rw [← hW2, ← hb]
  clear hW2 hb HB
  have x0 := (B2.out).cel 0 (.bool t9.lv) rfl
  have x1 := (B2.out).cel 1 (.int .i64 (t9.r 0)) rfl
  have x2 := (B2.out).cel 2 (.int .i64 (t9.r 1)) rfl
  have x3 := (B2.out).cel 3 (.int .i64 (t9.r 2)) rfl
  have x4 := (B2.out).cel 4 (.int .i64 (t9.r 3)) rfl
  have x5 := (B2.out).cel 5 (.slice (t9.u 0).a (t9.u 0).n (t9.u 0).c) rfl
  have x6 := (B2.out).cel 6 (.slice (t9.u 1).a (t9.u 1).n (t9.u 1).c) rfl
  have x7 := (B2.out).cel 7 (.slice (t9.u 2).a (t9.u 2).n (t9.u 2).c) rfl
  have x8 := (B2.out).cel 8 (.int .i64 t9.ep) rfl
  have x9 := (B2.out).cel 9 (.int .i64 t9.sg) rfl
  have x10 := (B2.out).cel 10 (.int .i64 t9.rt) rfl
  have x11 := (B2.out).cel 11 (.slice t9.o.a t9.o.n t9.o.c) rfl
  have x12 := (B2.out).cel 12 (.int .i64 t9.pc) rfl
  have x13 := (B2.out).cel 13 (.int .i64 t9.x) rfl
  have x14 := (B2.out).cel 14 (.int .i64 t9.y) rfl
  have xl := (B2.out).lt
  go_wp2_with fail
  refine (C1.out W2).mono ?_
  rintro e w3 ⟨rfl, hb3⟩
  have B3 := Lib.hid (B2.out.next hb3)
  have H3 := Lib.hid (H2.out.trans (hb3.mono H2.out.size))
  clear hb3 B2 H2
  clear x0 x1 x2 x3 x4 x5 x6 x7 x8 x9 x10 x11 x12 x13 x14 xl
  have x0 := (B3.out).cel 0 (.bool t9.lv) rfl
  have x1 := (B3.out).cel 1 (.int .i64 (t9.r 0)) rfl
  have x2 := (B3.out).cel 2 (.int .i64 (t9.r 1)) rfl
  have x3 := (B3.out).cel 3 (.int .i64 (t9.r 2)) rfl
  have x4 := (B3.out).cel 4 (.int .i64 (t9.r 3)) rfl
  have x5 := (B3.out).cel 5 (.slice (t9.u 0).a (t9.u 0).n (t9.u 0).c) rfl
  have x6 := (B3.out).cel 6 (.slice (t9.u 1).a (t9.u 1).n (t9.u 1).c) rfl
  have x7 := (B3.out).cel 7 (.slice (t9.u 2).a (t9.u 2).n (t9.u 2).c) rfl
  have x8 := (B3.out).cel 8 (.int .i64 t9.ep) rfl
  have x9 := (B3.out).cel 9 (.int .i64 t9.sg) rfl
  have x10 := (B3.out).cel 10 (.int .i64 t9.rt) rfl
  have x11 := (B3.out).cel 11 (.slice t9.o.a t9.o.n t9.o.c) rfl
  have x12 := (B3.out).cel 12 (.int .i64 t9.pc) rfl
  have x13 := (B3.out).cel 13 (.int .i64 t9.x) rfl
  have x14 := (B3.out).cel 14 (.int .i64 t9.y) rfl
  have xl := (B3.out).lt
  go_wp2_with fail
  refine (C2.out w3).mono ?_
  rintro e w4 ⟨s, rfl, ho, hb4⟩
  have B4 := Lib.hid (B3.out.next hb4)
  have H4 := Lib.hid (H3.out.trans (hb4.mono H3.out.size))
  have R4 := Lib.hid (all_row ho)
  have hl : s.n = 1 := by have := ho.1; simpa using this.symm
  have hl' := Lib.hid (show s.n ≤ 4000000 by omega)
  clear hb4 B3 H3 ho hl
  clear x0 x1 x2 x3 x4 x5 x6 x7 x8 x9 x10 x11 x12 x13 x14 xl
  have x0 := (B4.out).cel 0 (.bool t9.lv) rfl
  have x1 := (B4.out).cel 1 (.int .i64 (t9.r 0)) rfl
  have x2 := (B4.out).cel 2 (.int .i64 (t9.r 1)) rfl
  have x3 := (B4.out).cel 3 (.int .i64 (t9.r 2)) rfl
  have x4 := (B4.out).cel 4 (.int .i64 (t9.r 3)) rfl
  have x5 := (B4.out).cel 5 (.slice (t9.u 0).a (t9.u 0).n (t9.u 0).c) rfl
  have x6 := (B4.out).cel 6 (.slice (t9.u 1).a (t9.u 1).n (t9.u 1).c) rfl
  have x7 := (B4.out).cel 7 (.slice (t9.u 2).a (t9.u 2).n (t9.u 2).c) rfl
  have x8 := (B4.out).cel 8 (.int .i64 t9.ep) rfl
  have x9 := (B4.out).cel 9 (.int .i64 t9.sg) rfl
  have x10 := (B4.out).cel 10 (.int .i64 t9.rt) rfl
  have x11 := (B4.out).cel 11 (.slice t9.o.a t9.o.n t9.o.c) rfl
  have x12 := (B4.out).cel 12 (.int .i64 t9.pc) rfl
  have x13 := (B4.out).cel 13 (.int .i64 t9.x) rfl
  have x14 := (B4.out).cel 14 (.int .i64 t9.y) rfl
  have xl := (B4.out).lt
  go_wp2_with fail
  have b5 := (Below.refl w4.heap.size w4).alloc (Nat.le_refl _) (.cells #[.int .i64 16] 3)
  have hC9 := Ls.ints_tell _ _ s.a (some ⟨w4.heap.size, 0, none⟩) s.n 1 s.c 1 [16] [16] _ hl'.out (by decide) (R4.out.below b5) (row1 w4 16)
  rw [show decide (([16] : List Int) = [16]) = true from decide_eq_true rfl] at hC9
  refine hC9.mono ?_
  rintro e w6 ⟨rfl, hb6⟩
  have B6 := Lib.hid ((B4.out.next b5).next hb6)
  have H6 := Lib.hid ((H4.out.trans (b5.mono H4.out.size)).trans (hb6.mono (Nat.le_trans H4.out.size b5.size)))
  clear hb6 B4 H4 hC9 b5
  clear x0 x1 x2 x3 x4 x5 x6 x7 x8 x9 x10 x11 x12 x13 x14 xl
  have x0 := (B6.out).cel 0 (.bool t9.lv) rfl
  have x1 := (B6.out).cel 1 (.int .i64 (t9.r 0)) rfl
  have x2 := (B6.out).cel 2 (.int .i64 (t9.r 1)) rfl
  have x3 := (B6.out).cel 3 (.int .i64 (t9.r 2)) rfl
  have x4 := (B6.out).cel 4 (.int .i64 (t9.r 3)) rfl
  have x5 := (B6.out).cel 5 (.slice (t9.u 0).a (t9.u 0).n (t9.u 0).c) rfl
  have x6 := (B6.out).cel 6 (.slice (t9.u 1).a (t9.u 1).n (t9.u 1).c) rfl
  have x7 := (B6.out).cel 7 (.slice (t9.u 2).a (t9.u 2).n (t9.u 2).c) rfl
  have x8 := (B6.out).cel 8 (.int .i64 t9.ep) rfl
  have x9 := (B6.out).cel 9 (.int .i64 t9.sg) rfl
  have x10 := (B6.out).cel 10 (.int .i64 t9.rt) rfl
  have x11 := (B6.out).cel 11 (.slice t9.o.a t9.o.n t9.o.c) rfl
  have x12 := (B6.out).cel 12 (.int .i64 t9.pc) rfl
  have x13 := (B6.out).cel 13 (.int .i64 t9.x) rfl
  have x14 := (B6.out).cel 14 (.int .i64 t9.y) rfl
  have xl := (B6.out).lt
  go_wp2_with fail
  refine (C3.out w6).mono ?_
  rintro e w7 ⟨rfl, hb7⟩
  go_wp2
  go_ret
  exact ⟨rfl, H6.out.trans (hb7.mono H6.out.size)⟩
end Go.Proofs.YtjppimabhefeeaaGreatDoor.Rt
