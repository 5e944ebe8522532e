/-
  Package regs: Armed, Black; the reference's too.
-/
import Derived.Test.YtjppimabhefeeaaRtGet
import Derived.Test.YtjppimabhefeeaaShKs
namespace Go.Proofs.Ytjppimabhefeeaa.Rt
open Go.Proofs.Ytjppimabhefeeaa
open Go.RowKit
set_option maxRecDepth 100000

theorem arm_is (ph ep : Int) (t : Ts) : armB ph ep t = ((t.ep == ep) && decide (1 ≤ ph) && decide (ph ≤ 5)) := by
  unfold armB
  rw [Bool.eq_iff_iff]
  simp only [decide_eq_true_eq, Bool.and_eq_true, beq_iff_eq]
  exact ⟨fun h => ⟨⟨h.1, h.2.1⟩, h.2.2⟩, fun h => ⟨h.1.1, h.1.2, h.2⟩⟩
theorem black_is (ph ep : Int) (t : Ts) : blackB ph ep t = ((t.ep == ep) && (t.sg == 3) && (ph != 0)) := by
  unfold blackB
  rw [Bool.eq_iff_iff]
  simp only [decide_eq_true_eq, Bool.and_eq_true, beq_iff_eq, bne_iff_ne]
  exact ⟨fun h => ⟨⟨h.1, h.2.1⟩, h.2.2⟩, fun h => ⟨h.1.1, h.1.2, h.2⟩⟩
theorem two_boxes (w : World) (o p : Obj) : Below w.heap.size w ((w.alloc o).alloc p) := ((Below.refl _ _).alloc (Nat.le_refl _) _).alloc (by simp) _
set_option maxHeartbeats 1000000 in
theorem parmed_core (k : Sh.Ks) (t : Ts) (b1 b2 b3 : Bool) (h1 : (t.ep == k.ep) = b1) (h2 : decide (1 ≤ k.ph) = b2) (h3 : decide (k.ph ≤ 5) = b3) (w : World) :
    Calls Try.prog 14 #[(.agg #[.int .i64 k.ph, .int .i64 k.ep, .bool k.mj, .slice k.wk.a k.wk.n k.wk.c, .bool k.ov, .int .i64 k.pa, .int .i64 k.pf, .int .i64 k.ps, .int .i64 k.pc, .bool k.me]), (.agg #[.bool t.lv, .int .i64 (t.r 0), .int .i64 (t.r 1), .int .i64 (t.r 2), .int .i64 (t.r 3), .slice (t.u 0).a (t.u 0).n (t.u 0).c, .slice (t.u 1).a (t.u 1).n (t.u 1).c, .slice (t.u 2).a (t.u 2).n (t.u 2).c, .int .i64 t.ep, .int .i64 t.sg, .int .i64 t.rt, .slice t.o.a t.o.n t.o.c, .int .i64 t.pc, .int .i64 t.x, .int .i64 t.y])] w fun e w' => e = .returned (.bool (b1 && b2 && b3)) ∧ Below w.heap.size w w' := by
  have g1 : decide (t.ep = k.ep) = b1 := by rw [← h1]; rfl
  cases b1 with
  | false =>
    clear h2 h3
    go_enter Try.func14, Try.ntmps14
    go_wp2
    go_ret
    exact ⟨rfl, two_boxes _ _ _⟩
  | true =>
    cases b2 with
    | false =>
      clear h3
      go_enter Try.func14, Try.ntmps14
      go_wp2
      go_ret
      exact ⟨rfl, two_boxes _ _ _⟩
    | true =>
      cases b3 with
      | false =>
        go_enter Try.func14, Try.ntmps14
        go_wp2
        go_ret
        exact ⟨rfl, two_boxes _ _ _⟩
      | true =>
        go_enter Try.func14, Try.ntmps14
        go_wp2
        go_ret
        exact ⟨rfl, two_boxes _ _ _⟩
theorem parmed_any (k : Sh.Ks) (t : Ts) (w : World) : Calls Try.prog 14 #[(.agg #[.int .i64 k.ph, .int .i64 k.ep, .bool k.mj, .slice k.wk.a k.wk.n k.wk.c, .bool k.ov, .int .i64 k.pa, .int .i64 k.pf, .int .i64 k.ps, .int .i64 k.pc, .bool k.me]), (.agg #[.bool t.lv, .int .i64 (t.r 0), .int .i64 (t.r 1), .int .i64 (t.r 2), .int .i64 (t.r 3), .slice (t.u 0).a (t.u 0).n (t.u 0).c, .slice (t.u 1).a (t.u 1).n (t.u 1).c, .slice (t.u 2).a (t.u 2).n (t.u 2).c, .int .i64 t.ep, .int .i64 t.sg, .int .i64 t.rt, .slice t.o.a t.o.n t.o.c, .int .i64 t.pc, .int .i64 t.x, .int .i64 t.y])] w fun e w' => e = .returned (.bool (armB k.ph k.ep t)) ∧ Below w.heap.size w w' := by
  rw [arm_is]
  exact parmed_core k t _ _ _ rfl rfl rfl w
set_option maxHeartbeats 1000000 in
theorem pblack_core (k : Sh.Ks) (t : Ts) (b1 b2 b3 : Bool) (h1 : (t.ep == k.ep) = b1) (h2 : (t.sg == 3) = b2) (h3 : (k.ph != 0) = b3) (w : World) :
    Calls Try.prog 15 #[(.agg #[.int .i64 k.ph, .int .i64 k.ep, .bool k.mj, .slice k.wk.a k.wk.n k.wk.c, .bool k.ov, .int .i64 k.pa, .int .i64 k.pf, .int .i64 k.ps, .int .i64 k.pc, .bool k.me]), (.agg #[.bool t.lv, .int .i64 (t.r 0), .int .i64 (t.r 1), .int .i64 (t.r 2), .int .i64 (t.r 3), .slice (t.u 0).a (t.u 0).n (t.u 0).c, .slice (t.u 1).a (t.u 1).n (t.u 1).c, .slice (t.u 2).a (t.u 2).n (t.u 2).c, .int .i64 t.ep, .int .i64 t.sg, .int .i64 t.rt, .slice t.o.a t.o.n t.o.c, .int .i64 t.pc, .int .i64 t.x, .int .i64 t.y])] w fun e w' => e = .returned (.bool (b1 && b2 && b3)) ∧ Below w.heap.size w w' := by
  have g1 : decide (t.ep = k.ep) = b1 := by rw [← h1]; rfl
  have g2 : decide (t.sg = 3) = b2 := by rw [← h2]; rfl
  cases b1 with
  | false =>
    clear h2 h3 g2
    go_enter Try.func15, Try.ntmps15
    go_wp2
    go_ret
    exact ⟨rfl, two_boxes _ _ _⟩
  | true =>
    cases b2 with
    | false =>
      clear h3
      go_enter Try.func15, Try.ntmps15
      go_wp2
      go_ret
      exact ⟨rfl, two_boxes _ _ _⟩
    | true =>
      cases b3 with
      | false =>
        go_enter Try.func15, Try.ntmps15
        go_wp2
        go_ret
        exact ⟨rfl, two_boxes _ _ _⟩
      | true =>
        go_enter Try.func15, Try.ntmps15
        go_wp2
        go_ret
        exact ⟨rfl, two_boxes _ _ _⟩
theorem pblack_any (k : Sh.Ks) (t : Ts) (w : World) : Calls Try.prog 15 #[(.agg #[.int .i64 k.ph, .int .i64 k.ep, .bool k.mj, .slice k.wk.a k.wk.n k.wk.c, .bool k.ov, .int .i64 k.pa, .int .i64 k.pf, .int .i64 k.ps, .int .i64 k.pc, .bool k.me]), (.agg #[.bool t.lv, .int .i64 (t.r 0), .int .i64 (t.r 1), .int .i64 (t.r 2), .int .i64 (t.r 3), .slice (t.u 0).a (t.u 0).n (t.u 0).c, .slice (t.u 1).a (t.u 1).n (t.u 1).c, .slice (t.u 2).a (t.u 2).n (t.u 2).c, .int .i64 t.ep, .int .i64 t.sg, .int .i64 t.rt, .slice t.o.a t.o.n t.o.c, .int .i64 t.pc, .int .i64 t.x, .int .i64 t.y])] w fun e w' => e = .returned (.bool (blackB k.ph k.ep t)) ∧ Below w.heap.size w w' := by
  rw [black_is]
  exact pblack_core k t _ _ _ rfl rfl rfl w
end Go.Proofs.Ytjppimabhefeeaa.Rt
