/-
  The reference's May of a heap: what is looked at first.
-/
import Derived.Test.YtcbnefjfoeanoaaGreatDoorHpZG
import Derived.Test.YtcbnefjfoeanoaaGreatDoorZLsApart
namespace Go.Proofs.YtcbnefjfoeanoaaGreatDoor
open Go.RowKit
set_option maxRecDepth 100000

def wordsB (n : Nat) : Bool := decide (16 ≤ n ∧ n ≤ 1024 ∧ n % 16 = 0)
theorem rwords_may (A : Option Addr) (n c : Nat) (w : World) (hn : n ≤ 9223372036854775807) : Calls Tryz.prog 88 #[.slice A n c] w fun e w' => e = .returned (.bool (wordsB n)) ∧ w = w' := by
  by_cases h0 : 16 ≤ n
  · have a0 : decide ((16 : Int) ≤ n) = true := by simp; omega
    by_cases h1 : n ≤ 1024
    · have a1 : decide ((n : Int) ≤ 1024) = true := by simp; omega
      by_cases h2 : n % 16 = 0
      · have a2 : ((n : Int) % 16 == 0) = true := by simp; omega
        rw [show wordsB n = true from decide_eq_true ⟨h0, h1, h2⟩]
        clear h0 h1 h2
        go_enter Tryz.func88, Tryz.ntmps88
        go_wp2
        go_ret
        exact ⟨rfl, rfl⟩
      · have a2 : ((n : Int) % 16 == 0) = false := by simp; omega
        rw [show wordsB n = false from decide_eq_false (fun h => h2 h.2.2)]
        clear h0 h1 h2
        go_enter Tryz.func88, Tryz.ntmps88
        go_wp2
        go_ret
        exact ⟨rfl, rfl⟩
    · have a1 : decide ((n : Int) ≤ 1024) = false := by simp; omega
      rw [show wordsB n = false from decide_eq_false (fun h => h1 h.2.1)]
      clear h0 h1
      go_enter Tryz.func88, Tryz.ntmps88
      go_wp2
      go_ret
      exact ⟨rfl, rfl⟩
  · have a0 : decide ((16 : Int) ≤ n) = false := by simp; omega
    rw [show wordsB n = false from decide_eq_false (fun h => h0 h.1)]
    clear h0
    go_enter Tryz.func88, Tryz.ntmps88
    go_wp2
    go_ret
    exact ⟨rfl, rfl⟩
/-- What is looked at first: words, pages, and that there are as many words, and cards, as pages have. -/
def firstB (s : Hs) (d : Hd_) : Bool := wordsB s.w.n && (Cl.mayB d.f s.p.n && (decide (s.w.n = 16 * s.p.n) && decide (s.c.n = 2 * s.p.n)))
theorem rmay_first (s : Hs) (d : Hd_) (A : Option Addr) (m c : Nat) (w : World) (hp : Hp w w.heap.size s d) (hwn : s.w.n ≤ 4000) (hpn : s.p.n ≤ 1000) (hf : firstB s d = false) :
    Calls Tryz.prog 39 #[(.agg #[.slice s.w.a s.w.n s.w.c, .slice s.p.a s.p.n s.p.c, .slice (s.u 0).a (s.u 0).n (s.u 0).c, .slice (s.u 1).a (s.u 1).n (s.u 1).c, .slice (s.u 2).a (s.u 2).n (s.u 2).c, .slice s.c.a s.c.n s.c.c]), .slice A m c] w fun e w' => e = .returned (.bool false) ∧ Below w.heap.size w w' := by
  have HP := Lib.hid hp
  have key : ∀ (b1 b2 b3 b4 : Bool), wordsB s.w.n = b1 → Cl.mayB d.f s.p.n = b2 → ((s.w.n : Int) == 16 * (s.p.n : Int)) = b3 → ((s.c.n : Int) == 2 * (s.p.n : Int)) = b4 → (b1 && (b2 && (b3 && b4))) = false →
      Calls Tryz.prog 39 #[(.agg #[.slice s.w.a s.w.n s.w.c, .slice s.p.a s.p.n s.p.c, .slice (s.u 0).a (s.u 0).n (s.u 0).c, .slice (s.u 1).a (s.u 1).n (s.u 1).c, .slice (s.u 2).a (s.u 2).n (s.u 2).c, .slice s.c.a s.c.n s.c.c]), .slice A m c] w fun e w' => e = .returned (.bool false) ∧ Below w.heap.size w w' := by
    intro b1 b2 b3 b4 e1 e2 e3 e4 hall
    have E1 := Lib.hid e1
    have E2 := Lib.hid e2
    have n3 : ((s.w.n : Int) != 16 * (s.p.n : Int)) = !b3 := by rw [← e3]; rfl
    have n4 : ((s.c.n : Int) != 2 * (s.p.n : Int)) = !b4 := by rw [← e4]; rfl
    clear e1 e2 e3 e4 hp hf
    go_enter Tryz.func39, Tryz.ntmps39
    go_wp2_with fail
    refine (rwords_may _ _ _ _ (by omega)).mono ?_
    rw [E1.out]
    rintro r w1 ⟨rfl, rfl⟩
    go_wp2_with fail
    have hb0 := (Below.refl w.heap.size w).alloc (Nat.le_refl _) (.cells #[.slice s.w.a s.w.n s.w.c, .slice s.p.a s.p.n s.p.c, .slice (s.u 0).a (s.u 0).n (s.u 0).c, .slice (s.u 1).a (s.u 1).n (s.u 1).c, .slice (s.u 2).a (s.u 2).n (s.u 2).c, .slice s.c.a s.c.n s.c.c] 28)
    refine (Cl.rmay_any w.heap.size s.p.a s.p.n s.p.c d.f _ hpn (HP.out.pages.below hb0) (by simp)).mono ?_
    rw [E2.out]
    rintro r w1 ⟨rfl, hb1⟩
    have HB1 := (HBox.new w s 28).next hb1
    have q0 := HB1.c0
    have q1 := HB1.c1
    have q5 := HB1.c5
    have ql := HB1.lt
    have BW := Lib.hid (hb0.trans (hb1.mono (by simp)))
    clear hb1 hb0 HB1
    cases b1
    · clear hall
      go_wp2
      go_ret
      exact ⟨rfl, BW.out⟩
    cases b2
    · clear hall
      go_wp2
      go_ret
      exact ⟨rfl, BW.out⟩
    cases b3
    · clear hall
      go_wp2
      go_ret
      exact ⟨rfl, BW.out⟩
    cases b4
    · clear hall
      go_wp2
      go_ret
      exact ⟨rfl, BW.out⟩
    · cases hall
  refine key _ _ _ _ rfl rfl rfl rfl ?_
  rw [← hf, firstB]
  congr 3
  · rw [Bool.eq_iff_iff, beq_iff_eq, decide_eq_true_iff]
    omega
  · rw [Bool.eq_iff_iff, beq_iff_eq, decide_eq_true_iff]
    omega
end Go.Proofs.YtcbnefjfoeanoaaGreatDoor
