/-
  ReapPages: ReapPages's walks.
-/
import Derived.Test.YtcbnefjfoeanoaaDoorHpZP
import Derived.Test.YtcbnefjfoeanoaaDoorHpZQ
import Derived.Test.YtcbnefjfoeanoaaDoorHpZD
import Derived.Deep.CutRange
namespace Go.Proofs.YtcbnefjfoeanoaaDoor.ReapPages
open Go.Proofs.YtcbnefjfoeanoaaDoor Go.Proofs.YtcbnefjfoeanoaaDoor.Rp
open Go.ChangeShapes Go.WideShapes Go.ChangeAt Go.RowKit
set_option maxRecDepth 100000

section
variable (s : Hs) (d : Hd_) (A : Option Addr) (n c : Nat) (U : Nat → Nat → Ls.Sl) (F : Nat → Nat → List Int) (w : World)
set_option maxHeartbeats 1000000 in
theorem walk_few (hf : fewL s U n = false) (hn : n ≤ 9223372036854775807) (hz : Cl.Sz w) (hp : Hp w w.heap.size s d) (hl : Ls.LRow w w.heap.size A n U F) : Calls Tryd.prog 4 #[(.agg #[.slice s.w.a s.w.n s.w.c, .slice s.p.a s.p.n s.p.c, .slice (s.u 0).a (s.u 0).n (s.u 0).c, .slice (s.u 1).a (s.u 1).n (s.u 1).c, .slice (s.u 2).a (s.u 2).n (s.u 2).c, .slice s.c.a s.c.n s.c.c]), .slice A n c] w fun e w' => e = .returned (.bool true) ∧ Below w.heap.size w w' := by
  have HZ := Lib.hid hz
  have hz0 := hz.pos
  have HP := Lib.hid hp
  have HL := Lib.hid hl
  have HF := Lib.hid hf
  clear hz hp hl hf
  go_enter Tryd.func4, Tryd.ntmps4
  go_wp2_with fail
  obtain ⟨W1, hW1⟩ : ∃ W1, W1 = w.alloc (.cells #[.slice s.w.a s.w.n s.w.c, .slice s.p.a s.p.n s.p.c, .slice (s.u 0).a (s.u 0).n (s.u 0).c, .slice (s.u 1).a (s.u 1).n (s.u 1).c, .slice (s.u 2).a (s.u 2).n (s.u 2).c, .slice s.c.a s.c.n s.c.c] 28) := ⟨_, rfl⟩
  have L1 := Lib.hid (lx_start HP.out HL.out hW1)
  rw [← hW1]
  clear hW1
  refine (Rp.awake_any W1 (HZ.out.over L1.out.bel hz0)).mono ?_
  rintro e9 w1 ⟨rfl, hb1⟩
  have L2 := Lib.hid (L1.out.next hb1)
  clear hb1 L1
  have q0 := (L2.out.at (w.heap.size) (s) (d) (by simp)).c0
  have q1 := (L2.out.at (w.heap.size) (s) (d) (by simp)).c1
  have q2 := (L2.out.at (w.heap.size) (s) (d) (by simp)).c2
  have q3 := (L2.out.at (w.heap.size) (s) (d) (by simp)).c3
  have q4 := (L2.out.at (w.heap.size) (s) (d) (by simp)).c4
  have q5 := (L2.out.at (w.heap.size) (s) (d) (by simp)).c5
  have ql := (L2.out.at (w.heap.size) (s) (d) (by simp)).lt
  go_wp2_with fail
  refine (few9_any s A _ c U F w1 hn L2.out.lr).mono ?_
  rw [HF.out]
  rintro e9 w2 ⟨rfl, hb2⟩
  have L3 := Lib.hid (L2.out.next hb2)
  clear hb2 L2
  clear q0 q1 q2 q3 q4 q5 ql
  go_wp2
  go_ret
  exact ⟨rfl, L3.out.bel⟩
set_option maxHeartbeats 1000000 in
theorem walk_whole (hf : fewL s U n = true) (hwh : ∀ W, Lx w W A n U F [(w.heap.size, s, d)] → Calls Tryd.prog 9 #[(.agg #[.slice s.w.a s.w.n s.w.c, .slice s.p.a s.p.n s.p.c, .slice (s.u 0).a (s.u 0).n (s.u 0).c, .slice (s.u 1).a (s.u 1).n (s.u 1).c, .slice (s.u 2).a (s.u 2).n (s.u 2).c, .slice s.c.a s.c.n s.c.c]), .slice A n c] W fun e w' => e = .returned (.bool false) ∧ Below W.heap.size W w') (hn : n ≤ 9223372036854775807) (hz : Cl.Sz w) (hp : Hp w w.heap.size s d) (hl : Ls.LRow w w.heap.size A n U F) : Calls Tryd.prog 4 #[(.agg #[.slice s.w.a s.w.n s.w.c, .slice s.p.a s.p.n s.p.c, .slice (s.u 0).a (s.u 0).n (s.u 0).c, .slice (s.u 1).a (s.u 1).n (s.u 1).c, .slice (s.u 2).a (s.u 2).n (s.u 2).c, .slice s.c.a s.c.n s.c.c]), .slice A n c] w fun e w' => e = .returned (.bool true) ∧ Below w.heap.size w w' := by
  have HZ := Lib.hid hz
  have hz0 := hz.pos
  have HP := Lib.hid hp
  have HL := Lib.hid hl
  have HF := Lib.hid hf
  have HWH := Lib.hid hwh
  clear hz hp hl hf hwh
  go_enter Tryd.func4, Tryd.ntmps4
  go_wp2_with fail
  obtain ⟨W1, hW1⟩ : ∃ W1, W1 = w.alloc (.cells #[.slice s.w.a s.w.n s.w.c, .slice s.p.a s.p.n s.p.c, .slice (s.u 0).a (s.u 0).n (s.u 0).c, .slice (s.u 1).a (s.u 1).n (s.u 1).c, .slice (s.u 2).a (s.u 2).n (s.u 2).c, .slice s.c.a s.c.n s.c.c] 28) := ⟨_, rfl⟩
  have L1 := Lib.hid (lx_start HP.out HL.out hW1)
  rw [← hW1]
  clear hW1
  refine (Rp.awake_any W1 (HZ.out.over L1.out.bel hz0)).mono ?_
  rintro e9 w1 ⟨rfl, hb1⟩
  have L2 := Lib.hid (L1.out.next hb1)
  clear hb1 L1
  have q0 := (L2.out.at (w.heap.size) (s) (d) (by simp)).c0
  have q1 := (L2.out.at (w.heap.size) (s) (d) (by simp)).c1
  have q2 := (L2.out.at (w.heap.size) (s) (d) (by simp)).c2
  have q3 := (L2.out.at (w.heap.size) (s) (d) (by simp)).c3
  have q4 := (L2.out.at (w.heap.size) (s) (d) (by simp)).c4
  have q5 := (L2.out.at (w.heap.size) (s) (d) (by simp)).c5
  have ql := (L2.out.at (w.heap.size) (s) (d) (by simp)).lt
  go_wp2_with fail
  refine (few9_any s A _ c U F w1 hn L2.out.lr).mono ?_
  rw [HF.out]
  rintro e9 w2 ⟨rfl, hb2⟩
  have L3 := Lib.hid (L2.out.next hb2)
  clear hb2 L2
  clear q0 q1 q2 q3 q4 q5 ql
  have q0 := (L3.out.at (w.heap.size) (s) (d) (by simp)).c0
  have q1 := (L3.out.at (w.heap.size) (s) (d) (by simp)).c1
  have q2 := (L3.out.at (w.heap.size) (s) (d) (by simp)).c2
  have q3 := (L3.out.at (w.heap.size) (s) (d) (by simp)).c3
  have q4 := (L3.out.at (w.heap.size) (s) (d) (by simp)).c4
  have q5 := (L3.out.at (w.heap.size) (s) (d) (by simp)).c5
  have ql := (L3.out.at (w.heap.size) (s) (d) (by simp)).lt
  go_wp2_with fail
  refine (HWH.out w2 L3.out).mono ?_
  rintro e9 w3 ⟨rfl, hb9⟩
  have L4 := Lib.hid (L3.out.next hb9)
  clear hb9 L3
  go_wp2
  go_ret
  exact ⟨rfl, L4.out.bel⟩
set_option maxHeartbeats 8000000 in
theorem core (D : Nat → Hd_) (DT : Hd_) (K : Nat) (hD : D 0 = d) (h64 : s.p.n ≤ 64) (hf : fewL s U n = true) (hwh : ∀ W, Lx w W A n U F [(w.heap.size, s, d)] → Calls Tryd.prog 9 #[(.agg #[.slice s.w.a s.w.n s.w.c, .slice s.p.a s.p.n s.p.c, .slice (s.u 0).a (s.u 0).n (s.u 0).c, .slice (s.u 1).a (s.u 1).n (s.u 1).c, .slice (s.u 2).a (s.u 2).n (s.u 2).c, .slice s.c.a s.c.n s.c.c]), .slice A n c] W fun e w' => e = .returned (.bool true) ∧ Below W.heap.size W w') (hfl : ∀ k, k < n → ∀ W bk t, Pq w W A n U F s d bk t (D k) → Calls Tryd.prog 13 #[(.agg #[.slice t.w.a t.w.n t.w.c, .slice t.p.a t.p.n t.p.c, .slice (t.u 0).a (t.u 0).n (t.u 0).c, .slice (t.u 1).a (t.u 1).n (t.u 1).c, .slice (t.u 2).a (t.u 2).n (t.u 2).c, .slice t.c.a t.c.n t.c.c]), (.agg #[.slice (U k 0).a (U k 0).n (U k 0).c, .slice (U k 1).a (U k 1).n (U k 1).c, .slice (U k 2).a (U k 2).n (U k 2).c])] W fun e w' => ∃ t' : Hs, e = .returned (.tuple #[(.agg #[.slice t'.w.a t'.w.n t'.w.c, .slice t'.p.a t'.p.n t'.p.c, .slice (t'.u 0).a (t'.u 0).n (t'.u 0).c, .slice (t'.u 1).a (t'.u 1).n (t'.u 1).c, .slice (t'.u 2).a (t'.u 2).n (t'.u 2).c, .slice t'.c.a t'.c.n t'.c.c]), .int .i64 0]) ∧ Hp w' w'.heap.size t' (D (k + 1)) ∧ (t'.w.n = s.w.n ∧ t'.p.n = s.p.n ∧ t'.c.n = s.c.n) ∧ Below W.heap.size W w') (htd : ∀ W bk t, Pq w W A n U F s d bk t (D n) → Calls Tryd.prog 14 #[(.agg #[.slice t.w.a t.w.n t.w.c, .slice t.p.a t.p.n t.p.c, .slice (t.u 0).a (t.u 0).n (t.u 0).c, .slice (t.u 1).a (t.u 1).n (t.u 1).c, .slice (t.u 2).a (t.u 2).n (t.u 2).c, .slice t.c.a t.c.n t.c.c])] W fun e w' => ∃ t' : Hs, e = .returned (.tuple #[(.agg #[.slice t'.w.a t'.w.n t'.w.c, .slice t'.p.a t'.p.n t'.p.c, .slice (t'.u 0).a (t'.u 0).n (t'.u 0).c, .slice (t'.u 1).a (t'.u 1).n (t'.u 1).c, .slice (t'.u 2).a (t'.u 2).n (t'.u 2).c, .slice t'.c.a t'.c.n t'.c.c]), .int .i64 0]) ∧ Hp w' w'.heap.size t' DT ∧ (t'.w.n = s.w.n ∧ t'.p.n = s.p.n ∧ t'.c.n = s.c.n) ∧ Below W.heap.size W w') (hpt : ∀ W bk t, Pq w W A n U F s d bk t DT → ∀ p : Nat, p < s.p.n → (DT.f p).1 = 1 → Calls Tryd.prog 15 #[(.agg #[.slice (t.u 0).a (t.u 0).n (t.u 0).c, .slice (t.u 1).a (t.u 1).n (t.u 1).c, .slice (t.u 2).a (t.u 2).n (t.u 2).c]), .int .i64 (DT.f p).2, .int .i64 (16 + 16 * (p : Int)), .int .i64 (32 + 16 * (p : Int))] W fun e w' => ∃ (v : Nat → Ls.Sl) (A' : Option Addr) (m C' : Nat), e = .returned (.tuple #[(.agg #[.slice (v 0).a (v 0).n (v 0).c, .slice (v 1).a (v 1).n (v 1).c, .slice (v 2).a (v 2).n (v 2).c]), .slice A' m C', .int .i64 0]) ∧ ((m : Nat) : Int) < Cl.perPage (DT.f p).2 ∧ Below W.heap.size W w') (hus : ∀ W bk t, Pq w W A n U F s d bk t DT → Calls Tryd.prog 12 #[(.agg #[.slice s.w.a s.w.n s.w.c, .slice s.p.a s.p.n s.p.c, .slice (s.u 0).a (s.u 0).n (s.u 0).c, .slice (s.u 1).a (s.u 1).n (s.u 1).c, .slice (s.u 2).a (s.u 2).n (s.u 2).c, .slice s.c.a s.c.n s.c.c])] W fun e w' => ∃ A' C', e = .returned (.slice A' K C') ∧ Below W.heap.size W w') (hct : K = 0 → ∀ W bk t, Pq w W A n U F s d bk t DT → Calls Tryd.prog 17 #[.slice t.p.a t.p.n t.p.c, .int .i64 0] W fun e w' => e = .returned (.int .i64 (s.p.n : Int)) ∧ Below W.heap.size W w') (hn : n ≤ 9223372036854775807) (hz : Cl.Sz w) (hp : Hp w w.heap.size s d) (hl : Ls.LRow w w.heap.size A n U F) : Calls Tryd.prog 4 #[(.agg #[.slice s.w.a s.w.n s.w.c, .slice s.p.a s.p.n s.p.c, .slice (s.u 0).a (s.u 0).n (s.u 0).c, .slice (s.u 1).a (s.u 1).n (s.u 1).c, .slice (s.u 2).a (s.u 2).n (s.u 2).c, .slice s.c.a s.c.n s.c.c]), .slice A n c] w fun e w' => e = .returned (.bool true) ∧ Below w.heap.size w w' := by
  have HZ := Lib.hid hz
  have hz0 := hz.pos
  have HP := Lib.hid hp
  have HL := Lib.hid hl
  have HF := Lib.hid hf
  have HWH := Lib.hid hwh
  have FL := Lib.hid hfl
  have TD := Lib.hid htd
  have PT := Lib.hid hpt
  have US := Lib.hid hus
  have CT := Lib.hid hct
  clear hz hp hl hf hwh hfl htd hpt hus hct
  go_enter Tryd.func4, Tryd.ntmps4
  go_wp2_with fail
  obtain ⟨W1, hW1⟩ : ∃ W1, W1 = w.alloc (.cells #[.slice s.w.a s.w.n s.w.c, .slice s.p.a s.p.n s.p.c, .slice (s.u 0).a (s.u 0).n (s.u 0).c, .slice (s.u 1).a (s.u 1).n (s.u 1).c, .slice (s.u 2).a (s.u 2).n (s.u 2).c, .slice s.c.a s.c.n s.c.c] 28) := ⟨_, rfl⟩
  have L1 := Lib.hid (lx_start HP.out HL.out hW1)
  rw [← hW1]
  clear hW1
  refine (Rp.awake_any W1 (HZ.out.over L1.out.bel hz0)).mono ?_
  rintro e9 w1 ⟨rfl, hb1⟩
  have L2 := Lib.hid (L1.out.next hb1)
  clear hb1 L1
  have q0 := (L2.out.at (w.heap.size) (s) (d) (by simp)).c0
  have q1 := (L2.out.at (w.heap.size) (s) (d) (by simp)).c1
  have q2 := (L2.out.at (w.heap.size) (s) (d) (by simp)).c2
  have q3 := (L2.out.at (w.heap.size) (s) (d) (by simp)).c3
  have q4 := (L2.out.at (w.heap.size) (s) (d) (by simp)).c4
  have q5 := (L2.out.at (w.heap.size) (s) (d) (by simp)).c5
  have ql := (L2.out.at (w.heap.size) (s) (d) (by simp)).lt
  go_wp2_with fail
  refine (few9_any s A _ c U F w1 hn L2.out.lr).mono ?_
  rw [HF.out]
  rintro e9 w2 ⟨rfl, hb2⟩
  have L3 := Lib.hid (L2.out.next hb2)
  clear hb2 L2
  clear q0 q1 q2 q3 q4 q5 ql
  have q0 := (L3.out.at (w.heap.size) (s) (d) (by simp)).c0
  have q1 := (L3.out.at (w.heap.size) (s) (d) (by simp)).c1
  have q2 := (L3.out.at (w.heap.size) (s) (d) (by simp)).c2
  have q3 := (L3.out.at (w.heap.size) (s) (d) (by simp)).c3
  have q4 := (L3.out.at (w.heap.size) (s) (d) (by simp)).c4
  have q5 := (L3.out.at (w.heap.size) (s) (d) (by simp)).c5
  have ql := (L3.out.at (w.heap.size) (s) (d) (by simp)).lt
  go_wp2_with fail
  refine (HWH.out w2 L3.out).mono ?_
  rintro e9 w3 ⟨rfl, hb9⟩
  have L4 := Lib.hid (L3.out.next hb9)
  clear hb9 L3
  clear q0 q1 q2 q3 q4 q5 ql
  go_upto_region 5 with fail
  have q0 := (L4.out.at (w.heap.size) (s) (d) (by simp)).c0
  have q1 := (L4.out.at (w.heap.size) (s) (d) (by simp)).c1
  have q2 := (L4.out.at (w.heap.size) (s) (d) (by simp)).c2
  have q3 := (L4.out.at (w.heap.size) (s) (d) (by simp)).c3
  have q4 := (L4.out.at (w.heap.size) (s) (d) (by simp)).c4
  have q5 := (L4.out.at (w.heap.size) (s) (d) (by simp)).c5
  have ql := (L4.out.at (w.heap.size) (s) (d) (by simp)).lt
  go_upto_region 6 with fail
  obtain ⟨w5, h0⟩ : ∃ W, W = w3.alloc (.cells #[.slice s.w.a s.w.n s.w.c, .slice s.p.a s.p.n s.p.c, .slice (s.u 0).a (s.u 0).n (s.u 0).c, .slice (s.u 1).a (s.u 1).n (s.u 1).c, .slice (s.u 2).a (s.u 2).n (s.u 2).c, .slice s.c.a s.c.n s.c.c] 28) := ⟨_, rfl⟩
  have P5 := pq_start HL.out HP.out L4.out h0
  obtain ⟨bk, h1⟩ : ∃ b, b = w3.heap.size := ⟨_, rfl⟩
  rw [← h1] at P5
  rw [← h0, ← h1]
  have K5 := Lib.hid (show Pq w w5 A n U F s d bk s (D 0) by rw [hD]; exact P5)
  clear h0 h1 P5 L4 hD
  clear q0 q1 q2 q3 q4 q5 ql
  go_wp2
  go_loopw [8, 9, 10] (fun i _ _ wr => ∃ (k : Nat) (t : Hs), k ≤ n ∧ i = .int .i64 k ∧ Hid (Pq w wr A n U F s d bk t (D k))) (fun i _ _ _ => n - (intOf i).toNat)
  case atStart => exact ⟨0, s, Nat.zero_le _, rfl, K5⟩
  case round =>
    obtain ⟨k, t, hk, rfl, HK⟩ := hrel
    clear K5
    by_cases hlt : k < n
    · have dq : decide ((k : Int) < n) = true := by simp; omega
      have iq0 : (0 : Int) ≤ k := by omega
      have iq1 : (k : Int) < n := by omega
      have FK := Lib.hid (FL.out k hlt)
      obtain ⟨bb, off, rfl, _, _⟩ := HK.out.lr (by omega)
      go_upto_region 9 with fail
      go_cut [9, 10] from 35 to 52 (fun p ee wx => ee = .int .i64 0 ∧ ∃ (bt : Nat) (t' : Hs), p = .pointer (some ⟨bt, 0, none⟩) ∧ Hid (Pq w wx (some ⟨bb, off, none⟩) n U F s d bk t (D k)) ∧ Hid ((t'.w.n = s.w.n ∧ t'.p.n = s.p.n ∧ t'.c.n = s.c.n) ∧ HBox wx bt t' ∧ Hp wx wx.heap.size t' (D (k + 1))))
      case first =>
        go_region_held3 (fun W => (Below wr.heap.size wr W ∧ True) ∧ (bk < W.heap.size ∧ W.cell? ⟨bk, 0, none⟩ = some (.slice t.w.a t.w.n t.w.c) ∧ W.cell? ⟨bk, 1, none⟩ = some (.slice t.p.a t.p.n t.p.c) ∧ W.cell? ⟨bk, 2, none⟩ = some (.slice (t.u 0).a (t.u 0).n (t.u 0).c) ∧ W.cell? ⟨bk, 3, none⟩ = some (.slice (t.u 1).a (t.u 1).n (t.u 1).c) ∧ W.cell? ⟨bk, 4, none⟩ = some (.slice (t.u 2).a (t.u 2).n (t.u 2).c) ∧ W.cell? ⟨bk, 5, none⟩ = some (.slice t.c.a t.c.n t.c.c)) ∧ bb < W.heap.size ∧ W.cell? ⟨bb, off + k * 3, none⟩ = some (.slice (U k 0).a (U k 0).n (U k 0).c) ∧ W.cell? ⟨bb, off + k * 3 + 1, none⟩ = some (.slice (U k 1).a (U k 1).n (U k 1).c) ∧ W.cell? ⟨bb, off + k * 3 + 2, none⟩ = some (.slice (U k 2).a (U k 2).n (U k 2).c)) (((with_reducible refine pq_keepF HK.out hlt ?_); repeat' (first | with_reducible exact H4.out | with_reducible exact Below.refl _ _ | with_reducible refine bl_set ?_ ?_ _ | with_reducible refine bl_alloc ?_ _ | with_reducible refine bl_drew ?_ | with_reducible exact Nat.le_refl _ | with_reducible exact Nat.le_succ _ | omega))) (first
          | ((go_at_call 13; (with_reducible refine (FK.out (World.drew wr) bk t (HK.out.next (bl_drew (Below.refl _ _)))).mono ?_); rintro e9 w4 ⟨⟨⟨A1, m1, D1⟩, ⟨A2, m2, D2⟩, t4, ⟨A3, m3, D3⟩⟩, rfl, ht, hnn, hb4⟩; dsimp only; have H4 := Lib.hid (bl_call (bl_drew (Below.refl _ _)) hb4); have T4 := Lib.hid ht; have N4 := Lib.hid hnn; clear ht hb4 hnn))
          | ((go_at_call 13; (with_reducible refine (FK.out (World.drew (World.alloc wr (.cells #[.slice none 0 0, .slice none 0 0, .slice none 0 0, .slice none 0 0, .slice none 0 0, .slice none 0 0] 28))) bk t (HK.out.next (bl_drew (bl_alloc (Below.refl _ _) _)))).mono ?_); rintro e9 w4 ⟨⟨⟨A1, m1, D1⟩, ⟨A2, m2, D2⟩, t4, ⟨A3, m3, D3⟩⟩, rfl, ht, hnn, hb4⟩; dsimp only; have H4 := Lib.hid (bl_call (bl_drew (bl_alloc (Below.refl _ _) _)) hb4); have T4 := Lib.hid ht; have N4 := Lib.hid hnn; have O6 := Lib.hid (old_rm hb4); obtain ⟨z, ⟨xa0, xa1, xa2, xa3, xa4, xa5⟩, ya0, ya1, ya2, ya3, ya4, ya5⟩ := old_cells O6.out; clear ht hb4 hnn)))
        all_goals go_wp2_with fail
        all_goals go_meet
        all_goals first
          | with_reducible exact ⟨rfl, _, ⟨⟨A1, m1, D1⟩, ⟨A2, m2, D2⟩, t4, ⟨A3, m3, D3⟩⟩, rfl, Lib.hid (HK.out.next (nw_new (t := ⟨⟨A1, m1, D1⟩, ⟨A2, m2, D2⟩, t4, ⟨A3, m3, D3⟩⟩) H4.out T4.out).bel), Lib.hid ⟨N4.out, (nw_new (t := ⟨⟨A1, m1, D1⟩, ⟨A2, m2, D2⟩, t4, ⟨A3, m3, D3⟩⟩) H4.out T4.out).box, (nw_new (t := ⟨⟨A1, m1, D1⟩, ⟨A2, m2, D2⟩, t4, ⟨A3, m3, D3⟩⟩) H4.out T4.out).hp⟩⟩
          | with_reducible exact ⟨rfl, _, ⟨⟨A1, m1, D1⟩, ⟨A2, m2, D2⟩, t4, ⟨A3, m3, D3⟩⟩, rfl, Lib.hid (HK.out.next (nw_put (t := ⟨⟨A1, m1, D1⟩, ⟨A2, m2, D2⟩, t4, ⟨A3, m3, D3⟩⟩) H4.out T4.out O6.out).bel), Lib.hid ⟨N4.out, (nw_put (t := ⟨⟨A1, m1, D1⟩, ⟨A2, m2, D2⟩, t4, ⟨A3, m3, D3⟩⟩) H4.out T4.out O6.out).box, (nw_put (t := ⟨⟨A1, m1, D1⟩, ⟨A2, m2, D2⟩, t4, ⟨A3, m3, D3⟩⟩) H4.out T4.out O6.out).hp⟩⟩
      case rest =>
        obtain ⟨rfl, bt, t', rfl, HK2, HT⟩ := hcut
        clear HK FL FK
        have q0 := (HT.out.2.1).c0
        have q1 := (HT.out.2.1).c1
        have q2 := (HT.out.2.1).c2
        have q3 := (HT.out.2.1).c3
        have q4 := (HT.out.2.1).c4
        have q5 := (HT.out.2.1).c5
        have ql := (HT.out.2.1).lt
        have x0 := (HK2.out.rm.box.box).c0
        have x1 := (HK2.out.rm.box.box).c1
        have x2 := (HK2.out.rm.box.box).c2
        have x3 := (HK2.out.rm.box.box).c3
        have x4 := (HK2.out.rm.box.box).c4
        have x5 := (HK2.out.rm.box.box).c5
        have xl := (HK2.out.rm.box.box).lt
        have z0 := (HK2.out.rm.box).free 0
        have z1 := (HK2.out.rm.box).free 1
        have z2 := (HK2.out.rm.box).free 2
        have z3 := (HK2.out.rm.box).free 3
        have z4 := (HK2.out.rm.box).free 4
        have z5 := (HK2.out.rm.box).free 5
        go_wp2
        go_roundw
        case rel => exact ⟨k + 1, t', by omega, by go_num, Lib.hid (pq_put HK2.out HT.out.2.2 HT.out.1)⟩
        case measure => simp [intOf]; omega
    · obtain rfl : k = n := by omega
      have dq : decide ((k : Int) < k) = false := by simp
      clear hlt FL
      go_upto_region 13 with fail
      have x0 := (HK.out.rm.box.box).c0
      have x1 := (HK.out.rm.box.box).c1
      have x2 := (HK.out.rm.box.box).c2
      have x3 := (HK.out.rm.box.box).c3
      have x4 := (HK.out.rm.box.box).c4
      have x5 := (HK.out.rm.box.box).c5
      have xl := (HK.out.rm.box.box).lt
      go_wp2_with fail
      refine (TD.out wr bk t HK.out).mono ?_
      rintro e9 w9 ⟨t9, rfl, hp9, hl9, hb9⟩
      have HK9 := Lib.hid (HK.out.next hb9)
      have HP9 := Lib.hid (pq_put HK9.out hp9 hl9)
      have N9 := Lib.hid hl9
      clear hp9 hb9 hl9 HK TD
      clear x0 x1 x2 x3 x4 x5 xl
      have x0 := (HK9.out.rm.box.box).c0
      have x1 := (HK9.out.rm.box.box).c1
      have x2 := (HK9.out.rm.box.box).c2
      have x3 := (HK9.out.rm.box.box).c3
      have x4 := (HK9.out.rm.box.box).c4
      have x5 := (HK9.out.rm.box.box).c5
      have xl := (HK9.out.rm.box.box).lt
      have z0 := (HK9.out.rm.box).free 0
      have z1 := (HK9.out.rm.box).free 1
      have z2 := (HK9.out.rm.box).free 2
      have z3 := (HK9.out.rm.box).free 3
      have z4 := (HK9.out.rm.box).free 4
      have z5 := (HK9.out.rm.box).free 5
      go_upto_region 14 with fail
      obtain ⟨w10, h0⟩ : ∃ W, W = ((((((w9.setCell ⟨bk, 0, none⟩ (.slice t9.w.a t9.w.n t9.w.c)).setCell ⟨bk, 1, none⟩ (.slice t9.p.a t9.p.n t9.p.c)).setCell ⟨bk, 2, none⟩ (.slice (t9.u 0).a (t9.u 0).n (t9.u 0).c)).setCell ⟨bk, 3, none⟩ (.slice (t9.u 1).a (t9.u 1).n (t9.u 1).c)).setCell ⟨bk, 4, none⟩ (.slice (t9.u 2).a (t9.u 2).n (t9.u 2).c)).setCell ⟨bk, 5, none⟩ (.slice t9.c.a t9.c.n t9.c.c)) := ⟨_, rfl⟩
      rw [← h0] at HP9
      rw [← h0]
      clear h0 HK9
      clear x0 x1 x2 x3 x4 x5 xl
      clear z0 z1 z2 z3 z4 z5
      have dl : ((t9.p.n : Int) != s.p.n) = false := by rw [N9.out.2.1]; simp
      have x1 := HP9.out.rm.box.box.c1
      have xl := HP9.out.rm.box.box.lt
      have q1 := HP9.out.hb.c1
      have ql := HP9.out.hb.lt
      go_wp2
      clear x1 xl q1 ql dl
      go_loopw [12, 13, 14, 15, 16] (fun i _ _ _ _ wr => ∃ q : Nat, q ≤ s.p.n ∧ i = .int .i64 q ∧ Hid (Pq w wr A k U F s d bk t9 DT)) (fun i _ _ _ _ _ => s.p.n - (intOf i).toNat)
      case atStart => exact ⟨0, Nat.zero_le _, rfl, HP9⟩
      case round =>
        obtain ⟨p, hk, rfl, HK⟩ := hrel
        clear HP9
        have x1 := HK.out.rm.box.box.c1
        have xl := HK.out.rm.box.box.lt
        rw [N9.out.2.1] at x1
        by_cases hlt : p < s.p.n
        · have dq : decide ((p : Int) < s.p.n) = true := by simp; omega
          have iq0 : (0 : Int) ≤ p := by omega
          have iq1 : (p : Int) < s.p.n := by omega
          obtain ⟨bp, op, ep, hbp, hcp⟩ := HK.out.hp.pages (by rw [N9.out.2.1]; omega)
          obtain ⟨g0, g1⟩ := hcp p (by rw [N9.out.2.1]; exact hlt)
          rw [ep] at x1
          have PK := Lib.hid (fun W h => PT.out W bk t9 h p hlt)
          obtain ⟨kd, hkd⟩ : ∃ x, x = (DT.f p).1 := ⟨_, rfl⟩
          obtain ⟨ar, har⟩ : ∃ x, x = (DT.f p).2 := ⟨_, rfl⟩
          rw [← hkd] at g0
          rw [← har] at g1
          rw [← hkd, ← har] at PK
          clear hcp ep hkd har
          by_cases h1 : kd = 1
          · have db : (kd != 1) = false := by simp [h1]
            have PK2 := Lib.hid (fun W h => PK.out W h h1)
            have wa : IntKind.i64.wrap (16 * (p : Int)) = 16 * p := by simp [IntKind.wrap, IntKind.signed, IntKind.bits]; omega
            have wb : IntKind.i64.wrap (16 + 16 * (p : Int)) = 16 + 16 * p := by simp [IntKind.wrap, IntKind.signed, IntKind.bits]; omega
            have wc : IntKind.i64.wrap (32 + 16 * (p : Int)) = 32 + 16 * p := by simp [IntKind.wrap, IntKind.signed, IntKind.bits]; omega
            have x2 := HK.out.rm.box.box.c2
            have x3 := HK.out.rm.box.box.c3
            have x4 := HK.out.rm.box.box.c4
            clear h1 PK
            go_wp2_with fail
            refine (PK2.out _ (HK.out.next ((Below.refl wr.heap.size wr).alloc (Nat.le_refl _) _))).mono ?_
            rintro e9 w8 ⟨v8, A8, m8, C8, rfl, hm8, hb8⟩
            have pa : w8.cell? ⟨wr.heap.size, 1, none⟩ = some (.int .i64 ar) := (hb8.cell (p := ⟨wr.heap.size, 1, none⟩) (by simp)).trans (by simp [go_sem])
            have pl : wr.heap.size < w8.heap.size := by have := hb8.size; simp at this; omega
            have H8 := Lib.hid (bl_call ((Below.refl wr.heap.size wr).alloc (Nat.le_refl _) _) hb8)
            have dg : decide (Cl.perPage ar ≤ (m8 : Int)) = false := by simp; omega
            clear hb8 hm8 x1 x2 x3 x4 xl g0 g1 hbp db wa wb wc
            go_wp2_with fail
            refine (Cl.rcells_of ar _).mono ?_
            rintro e9 w7 ⟨rfl, rfl⟩
            go_wp2
            go_roundw
            case rel => exact ⟨p + 1, by omega, by go_num, Lib.hid (HK.out.next (bl_alloc H8.out _))⟩
            case measure => simp [intOf]; omega
          · have db : (kd != 1) = true := by simp [h1]
            clear h1 PK
            go_wp2
            go_roundw
            case rel => exact ⟨p + 1, by omega, by go_num, Lib.hid (HK.out.next ((Below.refl _ _).alloc (Nat.le_refl _) _))⟩
            case measure => simp [intOf]; omega
        · obtain rfl : p = s.p.n := by omega
          have dq : decide ((s.p.n : Int) < s.p.n) = false := by simp
          clear hlt PT hk
          have HST : Hid (Pq w wr A k U F s d bk t9 DT ∧ True) := Lib.hid ⟨HK.out, trivial⟩
          go_upto_region 24 with fail
          clear x1 xl
          rcases (show K = 0 ∨ 0 < K by omega) with hK | hK
          · have dk : decide ((0 : Int) < K) = false := by simp; omega
            have dk2 : decide (0 < K) = false := by simp; omega
            have CK := Lib.hid (CT.out hK)
            have de : ((s.p.n : Int) == s.p.n) = true := by simp
            rw [← N9.out.2.1] at de
            clear hK CT HK
            go_region_held3 (fun W => (Pq w W A k U F s d bk t9 DT ∧ True) ∧ (bk < W.heap.size ∧ W.cell? ⟨bk, 0, none⟩ = some (.slice t9.w.a t9.w.n t9.w.c) ∧ W.cell? ⟨bk, 1, none⟩ = some (.slice t9.p.a t9.p.n t9.p.c) ∧ W.cell? ⟨bk, 2, none⟩ = some (.slice (t9.u 0).a (t9.u 0).n (t9.u 0).c) ∧ W.cell? ⟨bk, 3, none⟩ = some (.slice (t9.u 1).a (t9.u 1).n (t9.u 1).c) ∧ W.cell? ⟨bk, 4, none⟩ = some (.slice (t9.u 2).a (t9.u 2).n (t9.u 2).c) ∧ W.cell? ⟨bk, 5, none⟩ = some (.slice t9.c.a t9.c.n t9.c.c)) ∧ w.heap.size < W.heap.size ∧ W.cell? ⟨w.heap.size, 0, none⟩ = some (.slice s.w.a s.w.n s.w.c) ∧ W.cell? ⟨w.heap.size, 1, none⟩ = some (.slice s.p.a s.p.n s.p.c) ∧ W.cell? ⟨w.heap.size, 2, none⟩ = some (.slice (s.u 0).a (s.u 0).n (s.u 0).c) ∧ W.cell? ⟨w.heap.size, 3, none⟩ = some (.slice (s.u 1).a (s.u 1).n (s.u 1).c) ∧ W.cell? ⟨w.heap.size, 4, none⟩ = some (.slice (s.u 2).a (s.u 2).n (s.u 2).c) ∧ W.cell? ⟨w.heap.size, 5, none⟩ = some (.slice s.c.a s.c.n s.c.c)) (first
              | exact pq_keep2 HST.out (below_drawn' (Below.refl _ _) 1)
              | exact pq_keep2 (‹(Pq w _ A k U F s d bk t9 DT ∧ True) ∧ _›).1 ‹Below _ _ _›) (first
              | ((go_at_call 12; (with_reducible refine (US.out _ bk t9 (‹(Pq w _ A k U F s d bk t9 DT ∧ True) ∧ _›).1.1).mono ?_); rintro e9 w8 ⟨A8, C8, rfl, hb8⟩))
              | ((go_at_call 17; (with_reducible refine (CK.out _ bk t9 (‹(Pq w _ A k U F s d bk t9 DT ∧ True) ∧ _›).1.1).mono ?_); rw [← N9.out.2.1]; rintro e9 w8 ⟨rfl, hb8⟩)))
            have HE := Lib.hid (‹(Pq w w8 A k U F s d bk t9 DT ∧ True) ∧ _›).1.1
            clear HST
            go_wp2
            go_ret
            exact ⟨rfl, HE.out.bel⟩
          · have dk : decide ((0 : Int) < K) = true := by simp; omega
            have dk2 : decide (0 < K) = true := by simp; omega
            clear hK CT HST
            have q0 := (HK.out.hb).c0
            have q1 := (HK.out.hb).c1
            have q2 := (HK.out.hb).c2
            have q3 := (HK.out.hb).c3
            have q4 := (HK.out.hb).c4
            have q5 := (HK.out.hb).c5
            have ql := (HK.out.hb).lt
            (first
              | (go_region_with (first
                | ((go_at_call 12; (with_reducible refine (US.out (World.drew wr) bk t9 (HK.out.next (below_drawn' (Below.refl _ _) 1))).mono ?_); rintro e9 w8 ⟨A8, C8, rfl, hb8⟩))))
              | fail) <;>
              (have HE := Lib.hid ((HK.out.next (below_drawn' (Below.refl _ _) 1)).next (by assumption))
               go_wp2
               go_ret
               exact ⟨rfl, HE.out.bel⟩)
end
end Go.Proofs.YtcbnefjfoeanoaaDoor.ReapPages
