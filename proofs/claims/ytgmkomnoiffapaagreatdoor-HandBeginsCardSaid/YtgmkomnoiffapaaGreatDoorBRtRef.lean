/-
  The reference's Few and Own of a thread.
-/
import Derived.Test.YtgmkomnoiffapaaGreatDoorBRtPut
import Derived.Test.YtgmkomnoiffapaaGreatDoorHpBA
namespace Go.Proofs.YtgmkomnoiffapaaGreatDoor.Rt
open Go.Proofs.YtgmkomnoiffapaaGreatDoor
open Go.RowKit
set_option maxRecDepth 100000

theorem few_is (t : Ts) : fewT t = (decide (t.o.n ≤ 220) && lightB t.u) := rfl
set_option maxHeartbeats 1000000 in
theorem rfew_any (t : Ts) (w : World) : Calls Tryz.prog 39 #[(.agg #[.bool t.lv, .int .i64 (t.r 0), .int .i64 (t.r 1), .int .i64 (t.r 2), .int .i64 (t.r 3), .slice (t.u 0).a (t.u 0).n (t.u 0).c, .slice (t.u 1).a (t.u 1).n (t.u 1).c, .slice (t.u 2).a (t.u 2).n (t.u 2).c, .int .i64 t.ep, .int .i64 t.sg, .int .i64 t.rt, .slice t.o.a t.o.n t.o.c, .int .i64 t.pc, .int .i64 t.x, .int .i64 t.y])] w fun e w' => e = .returned (.bool (fewT t)) ∧ Below w.heap.size w w' := by
  by_cases h : t.o.n ≤ 220
  · rw [few_is, show decide (t.o.n ≤ 220) = true from decide_eq_true h, Bool.true_and]
    have g1 : decide ((t.o.n : Int) ≤ 220) = true := decide_eq_true (by omega)
    have g2 : decide (t.o.n ≤ 220) = true := decide_eq_true h
    obtain ⟨b, hb⟩ : ∃ b, b = lightB t.u := ⟨_, rfl⟩
    have C1 := Lib.hid (fun W => rlight_any t.u W)
    rw [← hb] at C1 ⊢
    clear hb
    go_enter Tryz.func39, Tryz.ntmps39
    go_wp2_with fail
    refine (C1.out _).mono ?_
    rintro e w1 ⟨rfl, hb1⟩
    go_wp2
    go_ret
    exact ⟨rfl, ((Below.refl _ _).alloc (Nat.le_refl _) _).trans (hb1.mono (by simp))⟩
  · rw [few_is, show decide (t.o.n ≤ 220) = false from decide_eq_false h, Bool.false_and]
    have g1 : decide ((t.o.n : Int) ≤ 220) = false := decide_eq_false (by omega)
    have g2 : decide (t.o.n ≤ 220) = false := decide_eq_false h
    go_enter Tryz.func39, Tryz.ntmps39
    go_wp2
    go_ret
    exact ⟨rfl, (Below.refl _ _).alloc (Nat.le_refl _) _⟩
/-- The boxes of the argument, of the result, and of the copy. -/
structure On (w W : World) (t t' : Ts) : Prop where
  ft : Ft w W t
  out : Box W (w.heap.size + 2) (tv t')
section
variable {w W W' : World} {t t' : Ts} {F : Nat → List Int} {g : Nat → O4} {u : Nat → Ls.Sl} {o : Ls.Sl}
theorem On.next (h : On w W t t') (hb : Below W.heap.size W W') : On w W' t t' := ⟨h.ft.next hb, h.out.next hb⟩
end
end Go.Proofs.YtgmkomnoiffapaaGreatDoor.Rt
