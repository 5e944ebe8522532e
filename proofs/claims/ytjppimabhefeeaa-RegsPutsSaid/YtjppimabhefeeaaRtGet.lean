/-
  Package regs: from0, isRegister, Get, May.
-/
import Derived.Test.YtjppimabhefeeaaRtP
import Derived.Test.YtjppimabhefeeaaRtClone
namespace Go.Proofs.Ytjppimabhefeeaa.Rt
open Go.Proofs.Ytjppimabhefeeaa
open Go.RowKit
set_option maxRecDepth 100000

theorem from0_any (n last : Int) (w : World) : Calls Try.prog 24 #[.int .i64 n, .int .i64 last] w fun e w' => e = .returned (.bool (decide (0 ≤ n ∧ n ≤ last))) ∧ w' = w := by
  by_cases h1 : 0 ≤ n
  · by_cases h2 : n ≤ last
    · rw [show decide (0 ≤ n ∧ n ≤ last) = true from decide_eq_true ⟨h1, h2⟩]
      have g1 : decide (0 ≤ n) = true := decide_eq_true h1
      have g2 : decide (n ≤ last) = true := decide_eq_true h2
      go_enter Try.func24, Try.ntmps24
      go_wp2
      go_ret
      exact ⟨rfl, rfl⟩
    · rw [show decide (0 ≤ n ∧ n ≤ last) = false from decide_eq_false (fun h => h2 h.2)]
      have g1 : decide (0 ≤ n) = true := decide_eq_true h1
      have g2 : decide (n ≤ last) = false := decide_eq_false h2
      go_enter Try.func24, Try.ntmps24
      go_wp2
      go_ret
      exact ⟨rfl, rfl⟩
  · rw [show decide (0 ≤ n ∧ n ≤ last) = false from decide_eq_false (fun h => h1 h.1)]
    have g1 : decide (0 ≤ n) = false := decide_eq_false h1
    go_enter Try.func24, Try.ntmps24
    go_wp2
    go_ret
    exact ⟨rfl, rfl⟩
theorem isReg_any (r : Int) (w : World) : Calls Try.prog 20 #[.int .i64 r] w fun e w' => e = .returned (.bool (inReg r)) ∧ w' = w := by
  go_enter Try.func20, Try.ntmps20
  go_wp2_with fail
  have hC9 := from0_any r 3 w
  rw [show decide (0 ≤ r ∧ r ≤ 3) = inReg r from rfl] at hC9
  refine hC9.mono ?_
  rintro e w1 ⟨rfl, rfl⟩
  go_wp2
  go_ret
  exact ⟨rfl, rfl⟩
theorem get_no (t : Ts) (r : Int) (hr : inReg r = false) (w : World) : Calls Try.prog 11 #[(.agg #[.bool t.lv, .int .i64 (t.r 0), .int .i64 (t.r 1), .int .i64 (t.r 2), .int .i64 (t.r 3), .slice (t.u 0).a (t.u 0).n (t.u 0).c, .slice (t.u 1).a (t.u 1).n (t.u 1).c, .slice (t.u 2).a (t.u 2).n (t.u 2).c, .int .i64 t.ep, .int .i64 t.sg, .int .i64 t.rt, .slice t.o.a t.o.n t.o.c, .int .i64 t.pc, .int .i64 t.x, .int .i64 t.y]), .int .i64 r] w fun e w' => e = .returned (.tuple #[.int .i64 (getV t r), .int .i64 (getE r)]) ∧ Below w.heap.size w w' := by
  rw [show getV t r = 0 from if_neg (by rw [hr]; decide), show getE r = 1 from if_neg (by rw [hr]; decide)]
  have C1 := Lib.hid (fun W => isReg_any r W)
  rw [hr] at C1
  go_enter Try.func11, Try.ntmps11
  go_wp2_with fail
  refine (C1.out _).mono ?_
  rintro e w1 ⟨rfl, rfl⟩
  go_wp2
  go_ret2
  exact ⟨rfl, (Below.refl _ _).alloc (Nat.le_refl _) _⟩
theorem get_yes (t : Ts) (k : Nat) (hk : k < 4) (w : World) : Calls Try.prog 11 #[(.agg #[.bool t.lv, .int .i64 (t.r 0), .int .i64 (t.r 1), .int .i64 (t.r 2), .int .i64 (t.r 3), .slice (t.u 0).a (t.u 0).n (t.u 0).c, .slice (t.u 1).a (t.u 1).n (t.u 1).c, .slice (t.u 2).a (t.u 2).n (t.u 2).c, .int .i64 t.ep, .int .i64 t.sg, .int .i64 t.rt, .slice t.o.a t.o.n t.o.c, .int .i64 t.pc, .int .i64 t.x, .int .i64 t.y]), .int .i64 (k : Int)] w fun e w' => e = .returned (.tuple #[.int .i64 (t.r k), .int .i64 0]) ∧ Below w.heap.size w w' := by
  have C1 := Lib.hid (fun W => isReg_any (k : Int) W)
  rw [inReg_nat hk] at C1
  go_enter Try.func11, Try.ntmps11
  go_wp2_with fail
  refine (C1.out _).mono ?_
  rintro e w1 ⟨rfl, rfl⟩
  have q := tbox_reg (Box.new w (tv t) 28) hk
  obtain ⟨W1, hW1⟩ : ∃ W1, W1 = w.alloc (.cells #[.bool t.lv, .int .i64 (t.r 0), .int .i64 (t.r 1), .int .i64 (t.r 2), .int .i64 (t.r 3), .slice (t.u 0).a (t.u 0).n (t.u 0).c, .slice (t.u 1).a (t.u 1).n (t.u 1).c, .slice (t.u 2).a (t.u 2).n (t.u 2).c, .int .i64 t.ep, .int .i64 t.sg, .int .i64 t.rt, .slice t.o.a t.o.n t.o.c, .int .i64 t.pc, .int .i64 t.x, .int .i64 t.y] 28) := ⟨_, rfl⟩
  have B1 : Hid (Below w.heap.size w W1) := Lib.hid (by rw [hW1]; exact (Below.refl _ _).alloc (Nat.le_refl _) _)
  have q1 : W1.cell? ⟨w.heap.size, 1 + k, none⟩ = some (.int .i64 (t.r k)) := by rw [hW1]; exact q
  rw [← hW1]
  clear hW1 q
  go_wp2
  go_ret2
  exact ⟨rfl, B1.out⟩
theorem get_any (t : Ts) (r : Int) (w : World) : Calls Try.prog 11 #[(.agg #[.bool t.lv, .int .i64 (t.r 0), .int .i64 (t.r 1), .int .i64 (t.r 2), .int .i64 (t.r 3), .slice (t.u 0).a (t.u 0).n (t.u 0).c, .slice (t.u 1).a (t.u 1).n (t.u 1).c, .slice (t.u 2).a (t.u 2).n (t.u 2).c, .int .i64 t.ep, .int .i64 t.sg, .int .i64 t.rt, .slice t.o.a t.o.n t.o.c, .int .i64 t.pc, .int .i64 t.x, .int .i64 t.y]), .int .i64 r] w fun e w' => e = .returned (.tuple #[.int .i64 (getV t r), .int .i64 (getE r)]) ∧ Below w.heap.size w w' := by
  cases hr : inReg r with
  | false => exact get_no t r hr w
  | true =>
    obtain ⟨k, hk, rfl⟩ := inReg_yes hr
    have := get_yes t k hk w
    rw [← getV_at t hk, ← show getE (k : Int) = 0 from if_pos hr] at this
    exact this
theorem may_is (t : Ts) : mayT t = (decide (0 ≤ t.sg ∧ t.sg ≤ 3) && inReg t.rt && decide (0 ≤ t.pc ∧ t.pc ≤ 4) && decide (t.o.n ≤ 200) && (t.pc == 0 || decide (0 < t.o.n))) := by
  unfold mayT inReg
  rw [Bool.eq_iff_iff]
  simp only [decide_eq_true_eq, Bool.and_eq_true, Bool.or_eq_true, beq_iff_eq]
  omega
set_option maxHeartbeats 1000000 in
theorem may_core (t : Ts) (b1 b2 b3 b4 b5 b6 : Bool) (h1 : decide (0 ≤ t.sg ∧ t.sg ≤ 3) = b1) (h2 : inReg t.rt = b2) (h3 : decide (0 ≤ t.pc ∧ t.pc ≤ 4) = b3) (h4 : decide (t.o.n ≤ 200) = b4) (h5 : (t.pc == 0) = b5) (h6 : decide (0 < t.o.n) = b6) (w : World) :
    Calls Try.prog 16 #[(.agg #[.bool t.lv, .int .i64 (t.r 0), .int .i64 (t.r 1), .int .i64 (t.r 2), .int .i64 (t.r 3), .slice (t.u 0).a (t.u 0).n (t.u 0).c, .slice (t.u 1).a (t.u 1).n (t.u 1).c, .slice (t.u 2).a (t.u 2).n (t.u 2).c, .int .i64 t.ep, .int .i64 t.sg, .int .i64 t.rt, .slice t.o.a t.o.n t.o.c, .int .i64 t.pc, .int .i64 t.x, .int .i64 t.y])] w fun e w' => e = .returned (.bool (b1 && b2 && b3 && b4 && (b5 || b6))) ∧ Below w.heap.size w w' := by
  have C1 := Lib.hid (fun W => from0_any t.sg 3 W)
  have C2 := Lib.hid (fun W => isReg_any t.rt W)
  have C3 := Lib.hid (fun W => from0_any t.pc 4 W)
  have g4 : decide ((t.o.n : Int) ≤ 200) = b4 := by rw [← h4]; exact decide_eq_decide.2 (by omega)
  have g6 : decide ((0 : Int) < (t.o.n : Int)) = b6 := by rw [← h6]; exact decide_eq_decide.2 (by omega)
  have g5 : decide (t.pc = 0) = b5 := by rw [← h5]; rfl
  rw [h1] at C1
  rw [h2] at C2
  rw [h3] at C3
  clear h1 h2 h3
  cases b1 with
  | false =>
    clear C2 C3 h4 h5 h6 g4 g5 g6
    go_enter Try.func16, Try.ntmps16
    go_wp2_with fail
    refine (C1.out _).mono ?_
    rintro e w1 ⟨rfl, rfl⟩
    go_wp2
    go_ret
    exact ⟨rfl, (Below.refl _ _).alloc (Nat.le_refl _) _⟩
  | true =>
    cases b2 with
    | false =>
      clear C3 h4 h5 h6 g4 g5 g6
      go_enter Try.func16, Try.ntmps16
      go_wp2_with fail
      refine (C1.out _).mono ?_
      rintro e w1 ⟨rfl, rfl⟩
      go_wp2_with fail
      refine (C2.out _).mono ?_
      rintro e w1 ⟨rfl, rfl⟩
      go_wp2
      go_ret
      exact ⟨rfl, (Below.refl _ _).alloc (Nat.le_refl _) _⟩
    | true =>
      cases b3 with
      | false =>
        clear h4 h5 h6 g4 g5 g6
        go_enter Try.func16, Try.ntmps16
        go_wp2_with fail
        refine (C1.out _).mono ?_
        rintro e w1 ⟨rfl, rfl⟩
        go_wp2_with fail
        refine (C2.out _).mono ?_
        rintro e w1 ⟨rfl, rfl⟩
        go_wp2_with fail
        refine (C3.out _).mono ?_
        rintro e w1 ⟨rfl, rfl⟩
        go_wp2
        go_ret
        exact ⟨rfl, (Below.refl _ _).alloc (Nat.le_refl _) _⟩
      | true =>
        cases b4 with
        | false =>
          clear h5 h6 g5 g6
          go_enter Try.func16, Try.ntmps16
          go_wp2_with fail
          refine (C1.out _).mono ?_
          rintro e w1 ⟨rfl, rfl⟩
          go_wp2_with fail
          refine (C2.out _).mono ?_
          rintro e w1 ⟨rfl, rfl⟩
          go_wp2_with fail
          refine (C3.out _).mono ?_
          rintro e w1 ⟨rfl, rfl⟩
          go_wp2
          go_ret
          exact ⟨rfl, (Below.refl _ _).alloc (Nat.le_refl _) _⟩
        | true =>
          cases b5 with
          | true =>
            clear h6 g6
            go_enter Try.func16, Try.ntmps16
            go_wp2_with fail
            refine (C1.out _).mono ?_
            rintro e w1 ⟨rfl, rfl⟩
            go_wp2_with fail
            refine (C2.out _).mono ?_
            rintro e w1 ⟨rfl, rfl⟩
            go_wp2_with fail
            refine (C3.out _).mono ?_
            rintro e w1 ⟨rfl, rfl⟩
            go_wp2
            go_ret
            exact ⟨rfl, (Below.refl _ _).alloc (Nat.le_refl _) _⟩
          | false =>
            cases b6 with
            | false =>
              go_enter Try.func16, Try.ntmps16
              go_wp2_with fail
              refine (C1.out _).mono ?_
              rintro e w1 ⟨rfl, rfl⟩
              go_wp2_with fail
              refine (C2.out _).mono ?_
              rintro e w1 ⟨rfl, rfl⟩
              go_wp2_with fail
              refine (C3.out _).mono ?_
              rintro e w1 ⟨rfl, rfl⟩
              go_wp2
              go_ret
              exact ⟨rfl, (Below.refl _ _).alloc (Nat.le_refl _) _⟩
            | true =>
              go_enter Try.func16, Try.ntmps16
              go_wp2_with fail
              refine (C1.out _).mono ?_
              rintro e w1 ⟨rfl, rfl⟩
              go_wp2_with fail
              refine (C2.out _).mono ?_
              rintro e w1 ⟨rfl, rfl⟩
              go_wp2_with fail
              refine (C3.out _).mono ?_
              rintro e w1 ⟨rfl, rfl⟩
              go_wp2
              go_ret
              exact ⟨rfl, (Below.refl _ _).alloc (Nat.le_refl _) _⟩
theorem may_any (t : Ts) (w : World) : Calls Try.prog 16 #[(.agg #[.bool t.lv, .int .i64 (t.r 0), .int .i64 (t.r 1), .int .i64 (t.r 2), .int .i64 (t.r 3), .slice (t.u 0).a (t.u 0).n (t.u 0).c, .slice (t.u 1).a (t.u 1).n (t.u 1).c, .slice (t.u 2).a (t.u 2).n (t.u 2).c, .int .i64 t.ep, .int .i64 t.sg, .int .i64 t.rt, .slice t.o.a t.o.n t.o.c, .int .i64 t.pc, .int .i64 t.x, .int .i64 t.y])] w fun e w' => e = .returned (.bool (mayT t)) ∧ Below w.heap.size w w' := by
  rw [may_is]
  exact may_core t _ _ _ _ _ _ rfl rfl rfl rfl rfl rfl w
end Go.Proofs.Ytjppimabhefeeaa.Rt
