/-
  The reference's May, Get, Put, Holds.
-/
import Derived.Test.YtjppimabhefeeaaGreatDoorORtRef
import Derived.Test.YtjppimabhefeeaaGreatDoorHpOG
namespace Go.Proofs.YtjppimabhefeeaaGreatDoor.Rt
open Go.Proofs.YtjppimabhefeeaaGreatDoor
open Go.RowKit
set_option maxRecDepth 100000

theorem rmay_is (t : Ts) : mayT t = (!(decide (t.sg < 0) || decide (3 < t.sg) || decide (t.rt < 0) || decide (3 < t.rt) || decide (t.pc < 0) || decide (4 < t.pc) || decide (200 < t.o.n)) && (t.pc == 0 || decide (1 ≤ t.o.n))) := by
  unfold mayT
  rw [Bool.eq_iff_iff]
  simp only [decide_eq_true_eq, Bool.and_eq_true, Bool.or_eq_true, beq_iff_eq, Bool.not_eq_true', Bool.or_eq_false_iff, decide_eq_false_iff_not]
  omega
set_option maxHeartbeats 2000000 in
theorem rmay_core (t : Ts) (b1 b2 b3 b4 b5 b6 b7 b8 b9 : Bool) (h1 : decide (t.sg < 0) = b1) (h2 : decide (3 < t.sg) = b2) (h3 : decide (t.rt < 0) = b3) (h4 : decide (3 < t.rt) = b4) (h5 : decide (t.pc < 0) = b5) (h6 : decide (4 < t.pc) = b6) (h7 : decide (200 < t.o.n) = b7) (h8 : (t.pc == 0) = b8) (h9 : decide (1 ≤ t.o.n) = b9) (w : World) :
    Calls Tryz.prog 18 #[(.agg #[.bool t.lv, .int .i64 (t.r 0), .int .i64 (t.r 1), .int .i64 (t.r 2), .int .i64 (t.r 3), .slice (t.u 0).a (t.u 0).n (t.u 0).c, .slice (t.u 1).a (t.u 1).n (t.u 1).c, .slice (t.u 2).a (t.u 2).n (t.u 2).c, .int .i64 t.ep, .int .i64 t.sg, .int .i64 t.rt, .slice t.o.a t.o.n t.o.c, .int .i64 t.pc, .int .i64 t.x, .int .i64 t.y])] w fun e w' => e = .returned (.bool (!(b1 || b2 || b3 || b4 || b5 || b6 || b7) && (b8 || b9))) ∧ Below w.heap.size w w' := by
  have g7 : decide ((200 : Int) < (t.o.n : Int)) = b7 := by rw [← h7]; exact decide_eq_decide.2 (by omega)
  have g9 : decide ((1 : Int) ≤ (t.o.n : Int)) = b9 := by rw [← h9]; exact decide_eq_decide.2 (by omega)
  have g8 : decide (t.pc = 0) = b8 := by rw [← h8]; rfl
  cases b1 with
  | true =>
    clear h2 h3 h4 h5 h6 h7 h8 h9 g7 g8 g9
    go_enter Tryz.func18, Tryz.ntmps18
    go_wp2
    go_ret
    exact ⟨rfl, (Below.refl _ _).alloc (Nat.le_refl _) _⟩
  | false =>
    cases b2 with
    | true =>
      clear h3 h4 h5 h6 h7 h8 h9 g7 g8 g9
      go_enter Tryz.func18, Tryz.ntmps18
      go_wp2
      go_ret
      exact ⟨rfl, (Below.refl _ _).alloc (Nat.le_refl _) _⟩
    | false =>
      cases b3 with
      | true =>
        clear h4 h5 h6 h7 h8 h9 g7 g8 g9
        go_enter Tryz.func18, Tryz.ntmps18
        go_wp2
        go_ret
        exact ⟨rfl, (Below.refl _ _).alloc (Nat.le_refl _) _⟩
      | false =>
        cases b4 with
        | true =>
          clear h5 h6 h7 h8 h9 g7 g8 g9
          go_enter Tryz.func18, Tryz.ntmps18
          go_wp2
          go_ret
          exact ⟨rfl, (Below.refl _ _).alloc (Nat.le_refl _) _⟩
        | false =>
          cases b5 with
          | true =>
            clear h6 h7 h8 h9 g7 g8 g9
            go_enter Tryz.func18, Tryz.ntmps18
            go_wp2
            go_ret
            exact ⟨rfl, (Below.refl _ _).alloc (Nat.le_refl _) _⟩
          | false =>
            cases b6 with
            | true =>
              clear h7 h8 h9 g7 g8 g9
              go_enter Tryz.func18, Tryz.ntmps18
              go_wp2
              go_ret
              exact ⟨rfl, (Below.refl _ _).alloc (Nat.le_refl _) _⟩
            | false =>
              cases b7 with
              | true =>
                clear h8 h9 g8 g9
                go_enter Tryz.func18, Tryz.ntmps18
                go_wp2
                go_ret
                exact ⟨rfl, (Below.refl _ _).alloc (Nat.le_refl _) _⟩
              | false =>
                cases b8 with
                | true =>
                  clear h9 g9
                  go_enter Tryz.func18, Tryz.ntmps18
                  go_wp2
                  go_ret
                  exact ⟨rfl, (Below.refl _ _).alloc (Nat.le_refl _) _⟩
                | false =>
                  cases b9 with
                  | true =>
                    go_enter Tryz.func18, Tryz.ntmps18
                    go_wp2
                    go_ret
                    exact ⟨rfl, (Below.refl _ _).alloc (Nat.le_refl _) _⟩
                  | false =>
                    go_enter Tryz.func18, Tryz.ntmps18
                    go_wp2
                    go_ret
                    exact ⟨rfl, (Below.refl _ _).alloc (Nat.le_refl _) _⟩
theorem rmay_any (t : Ts) (w : World) : Calls Tryz.prog 18 #[(.agg #[.bool t.lv, .int .i64 (t.r 0), .int .i64 (t.r 1), .int .i64 (t.r 2), .int .i64 (t.r 3), .slice (t.u 0).a (t.u 0).n (t.u 0).c, .slice (t.u 1).a (t.u 1).n (t.u 1).c, .slice (t.u 2).a (t.u 2).n (t.u 2).c, .int .i64 t.ep, .int .i64 t.sg, .int .i64 t.rt, .slice t.o.a t.o.n t.o.c, .int .i64 t.pc, .int .i64 t.x, .int .i64 t.y])] w fun e w' => e = .returned (.bool (mayT t)) ∧ Below w.heap.size w w' := by
  rw [rmay_is]
  exact rmay_core t _ _ _ _ _ _ _ _ _ rfl rfl rfl rfl rfl rfl rfl rfl rfl w
theorem rget_no (t : Ts) (r : Int) (hr : inReg r = false) (w : World) : Calls Tryz.prog 8 #[(.agg #[.bool t.lv, .int .i64 (t.r 0), .int .i64 (t.r 1), .int .i64 (t.r 2), .int .i64 (t.r 3), .slice (t.u 0).a (t.u 0).n (t.u 0).c, .slice (t.u 1).a (t.u 1).n (t.u 1).c, .slice (t.u 2).a (t.u 2).n (t.u 2).c, .int .i64 t.ep, .int .i64 t.sg, .int .i64 t.rt, .slice t.o.a t.o.n t.o.c, .int .i64 t.pc, .int .i64 t.x, .int .i64 t.y]), .int .i64 r] w fun e w' => e = .returned (.tuple #[.int .i64 (getV t r), .int .i64 (getE r)]) ∧ Below w.heap.size w w' := by
  have hn : ¬ (0 ≤ r ∧ r ≤ 3) := of_decide_eq_false hr
  rw [show getV t r = 0 from if_neg (by rw [hr]; decide), show getE r = 1 from if_neg (by rw [hr]; decide)]
  clear hr
  by_cases h : r < 0
  · have g1 : decide (r < 0) = true := decide_eq_true h
    clear hn h
    go_enter Tryz.func8, Tryz.ntmps8
    go_wp2
    go_ret2
    exact ⟨rfl, (Below.refl _ _).alloc (Nat.le_refl _) _⟩
  · have g1 : decide (r < 0) = false := decide_eq_false h
    have g2 : decide (3 < r) = true := decide_eq_true (by omega)
    clear hn h
    go_enter Tryz.func8, Tryz.ntmps8
    go_wp2
    go_ret2
    exact ⟨rfl, (Below.refl _ _).alloc (Nat.le_refl _) _⟩
theorem rget_yes (t : Ts) (k : Nat) (hk : k < 4) (w : World) : Calls Tryz.prog 8 #[(.agg #[.bool t.lv, .int .i64 (t.r 0), .int .i64 (t.r 1), .int .i64 (t.r 2), .int .i64 (t.r 3), .slice (t.u 0).a (t.u 0).n (t.u 0).c, .slice (t.u 1).a (t.u 1).n (t.u 1).c, .slice (t.u 2).a (t.u 2).n (t.u 2).c, .int .i64 t.ep, .int .i64 t.sg, .int .i64 t.rt, .slice t.o.a t.o.n t.o.c, .int .i64 t.pc, .int .i64 t.x, .int .i64 t.y]), .int .i64 (k : Int)] w fun e w' => e = .returned (.tuple #[.int .i64 (t.r k), .int .i64 0]) ∧ Below w.heap.size w w' := by
  have g1 : decide ((k : Int) < 0) = false := decide_eq_false (by omega)
  have g2 : decide ((3 : Int) < (k : Int)) = false := decide_eq_false (by omega)
  have g3 : decide (3 < k) = false := decide_eq_false (by omega)
  have hk' : (k : Int) < 4 := by omega
  go_enter Tryz.func8, Tryz.ntmps8
  go_upto_region 1 with fail
  have q := tbox_reg (Box.new w (tv t) 34) hk
  obtain ⟨W1, hW1⟩ : ∃ W1, W1 = w.alloc (.cells #[.bool t.lv, .int .i64 (t.r 0), .int .i64 (t.r 1), .int .i64 (t.r 2), .int .i64 (t.r 3), .slice (t.u 0).a (t.u 0).n (t.u 0).c, .slice (t.u 1).a (t.u 1).n (t.u 1).c, .slice (t.u 2).a (t.u 2).n (t.u 2).c, .int .i64 t.ep, .int .i64 t.sg, .int .i64 t.rt, .slice t.o.a t.o.n t.o.c, .int .i64 t.pc, .int .i64 t.x, .int .i64 t.y] 34) := ⟨_, rfl⟩
  have B1 : Hid (Below w.heap.size w W1) := Lib.hid (by rw [hW1]; exact (Below.refl _ _).alloc (Nat.le_refl _) _)
  have q1 : W1.cell? ⟨w.heap.size, 1 + k, none⟩ = some (.int .i64 (t.r k)) := by rw [hW1]; exact q
  rw [← hW1]
  clear hW1 q
  go_wp2
  go_ret2
  exact ⟨rfl, B1.out⟩
theorem rget_any (t : Ts) (r : Int) (w : World) : Calls Tryz.prog 8 #[(.agg #[.bool t.lv, .int .i64 (t.r 0), .int .i64 (t.r 1), .int .i64 (t.r 2), .int .i64 (t.r 3), .slice (t.u 0).a (t.u 0).n (t.u 0).c, .slice (t.u 1).a (t.u 1).n (t.u 1).c, .slice (t.u 2).a (t.u 2).n (t.u 2).c, .int .i64 t.ep, .int .i64 t.sg, .int .i64 t.rt, .slice t.o.a t.o.n t.o.c, .int .i64 t.pc, .int .i64 t.x, .int .i64 t.y]), .int .i64 r] w fun e w' => e = .returned (.tuple #[.int .i64 (getV t r), .int .i64 (getE r)]) ∧ Below w.heap.size w w' := by
  cases hr : inReg r with
  | false => exact rget_no t r hr w
  | true =>
    obtain ⟨k, hk, rfl⟩ := inReg_yes hr
    have := rget_yes t k hk w
    rw [← getV_at t hk, ← show getE (k : Int) = 0 from if_pos hr] at this
    exact this
theorem res_rput {t : Ts} {W : World} {b : Nat} {x : Int} {tm : Array Value} (ht : tm[6]? = some (.pointer (some ⟨b, 0, none⟩))) (hx : tm[7]? = some (.int .i64 x)) (h : Box W b (tv t)) : (results Tryz.f10 tm).run Tryz.prog W = .ok (.tuple #[(.agg #[.bool t.lv, .int .i64 (t.r 0), .int .i64 (t.r 1), .int .i64 (t.r 2), .int .i64 (t.r 3), .slice (t.u 0).a (t.u 0).n (t.u 0).c, .slice (t.u 1).a (t.u 1).n (t.u 1).c, .slice (t.u 2).a (t.u 2).n (t.u 2).c, .int .i64 t.ep, .int .i64 t.sg, .int .i64 t.rt, .slice t.o.a t.o.n t.o.c, .int .i64 t.pc, .int .i64 t.x, .int .i64 t.y]), .int .i64 x]) W := by
  have k0 := (h).cel 0 (.bool t.lv) rfl
  have k1 := (h).cel 1 (.int .i64 (t.r 0)) rfl
  have k2 := (h).cel 2 (.int .i64 (t.r 1)) rfl
  have k3 := (h).cel 3 (.int .i64 (t.r 2)) rfl
  have k4 := (h).cel 4 (.int .i64 (t.r 3)) rfl
  have k5 := (h).cel 5 (.slice (t.u 0).a (t.u 0).n (t.u 0).c) rfl
  have k6 := (h).cel 6 (.slice (t.u 1).a (t.u 1).n (t.u 1).c) rfl
  have k7 := (h).cel 7 (.slice (t.u 2).a (t.u 2).n (t.u 2).c) rfl
  have k8 := (h).cel 8 (.int .i64 t.ep) rfl
  have k9 := (h).cel 9 (.int .i64 t.sg) rfl
  have k10 := (h).cel 10 (.int .i64 t.rt) rfl
  have k11 := (h).cel 11 (.slice t.o.a t.o.n t.o.c) rfl
  have k12 := (h).cel 12 (.int .i64 t.pc) rfl
  have k13 := (h).cel 13 (.int .i64 t.x) rfl
  have k14 := (h).cel 14 (.int .i64 t.y) rfl
  have kl := (h).lt
  simp [results, Tryz.results10, go_sem, ht, hx, k0, k1, k2, k3, k4, k5, k6, k7, k8, k9, k10, k11, k12, k13, k14]
set_option maxHeartbeats 4000000 in
theorem rput_no (t : Ts) (F : Nat → List Int) (g : Nat → O4) (r a : Int) (hr : inReg r = false) (w : World) : Calls Tryz.prog 10 #[(.agg #[.bool t.lv, .int .i64 (t.r 0), .int .i64 (t.r 1), .int .i64 (t.r 2), .int .i64 (t.r 3), .slice (t.u 0).a (t.u 0).n (t.u 0).c, .slice (t.u 1).a (t.u 1).n (t.u 1).c, .slice (t.u 2).a (t.u 2).n (t.u 2).c, .int .i64 t.ep, .int .i64 t.sg, .int .i64 t.rt, .slice t.o.a t.o.n t.o.c, .int .i64 t.pc, .int .i64 t.x, .int .i64 t.y]), .int .i64 r, .int .i64 a] w (PutOut w t F g r a) := by
  have hn : ¬ (0 ≤ r ∧ r ≤ 3) := of_decide_eq_false hr
  have HR := Lib.hid hr
  clear hr
  obtain ⟨b, hb⟩ : ∃ b, decide (r < 0) = b := ⟨_, rfl⟩
  have g2 : b = false → decide (3 < r) = true := fun e => by
    rw [e] at hb
    have := of_decide_eq_false hb
    exact decide_eq_true (by omega)
  clear hn
  go_enter Tryz.func10, Tryz.ntmps10
  go_upto_region 1 with fail
  obtain ⟨W0, hW0⟩ : ∃ W0, W0 = (w.alloc (.cells #[.bool t.lv, .int .i64 (t.r 0), .int .i64 (t.r 1), .int .i64 (t.r 2), .int .i64 (t.r 3), .slice (t.u 0).a (t.u 0).n (t.u 0).c, .slice (t.u 1).a (t.u 1).n (t.u 1).c, .slice (t.u 2).a (t.u 2).n (t.u 2).c, .int .i64 t.ep, .int .i64 t.sg, .int .i64 t.rt, .slice t.o.a t.o.n t.o.c, .int .i64 t.pc, .int .i64 t.x, .int .i64 t.y] 34)).alloc (.cells #[.bool false, .int .i64 0, .int .i64 0, .int .i64 0, .int .i64 0, .slice none 0 0, .slice none 0 0, .slice none 0 0, .int .i64 0, .int .i64 0, .int .i64 0, .slice none 0 0, .int .i64 0, .int .i64 0, .int .i64 0] 34) := ⟨_, rfl⟩
  have K0 := Lib.hid (ft_start hW0)
  rw [← hW0]
  clear hW0
  have y0 := (K0.out.res).cel 0 (.bool noT.lv) rfl
  have y1 := (K0.out.res).cel 1 (.int .i64 (noT.r 0)) rfl
  have y2 := (K0.out.res).cel 2 (.int .i64 (noT.r 1)) rfl
  have y3 := (K0.out.res).cel 3 (.int .i64 (noT.r 2)) rfl
  have y4 := (K0.out.res).cel 4 (.int .i64 (noT.r 3)) rfl
  have y5 := (K0.out.res).cel 5 (.slice (noT.u 0).a (noT.u 0).n (noT.u 0).c) rfl
  have y6 := (K0.out.res).cel 6 (.slice (noT.u 1).a (noT.u 1).n (noT.u 1).c) rfl
  have y7 := (K0.out.res).cel 7 (.slice (noT.u 2).a (noT.u 2).n (noT.u 2).c) rfl
  have y8 := (K0.out.res).cel 8 (.int .i64 noT.ep) rfl
  have y9 := (K0.out.res).cel 9 (.int .i64 noT.sg) rfl
  have y10 := (K0.out.res).cel 10 (.int .i64 noT.rt) rfl
  have y11 := (K0.out.res).cel 11 (.slice noT.o.a noT.o.n noT.o.c) rfl
  have y12 := (K0.out.res).cel 12 (.int .i64 noT.pc) rfl
  have y13 := (K0.out.res).cel 13 (.int .i64 noT.x) rfl
  have y14 := (K0.out.res).cel 14 (.int .i64 noT.y) rfl
  have yl := (K0.out.res).lt
  dsimp only [noT, Ls.noSl] at y0 y1 y2 y3 y4 y5 y6 y7 y8 y9 y10 y11 y12 y13 y14
  have yf := K0.out.res.free
  cases b
  · have g3 := g2 rfl
    clear g2
    go_wp2
    have BE := Box.puts (tv noT) 0 K0.out.res
    refine bodyPost_ret (v := .tuple #[(.agg #[.bool noT.lv, .int .i64 (noT.r 0), .int .i64 (noT.r 1), .int .i64 (noT.r 2), .int .i64 (noT.r 3), .slice (noT.u 0).a (noT.u 0).n (noT.u 0).c, .slice (noT.u 1).a (noT.u 1).n (noT.u 1).c, .slice (noT.u 2).a (noT.u 2).n (noT.u 2).c, .int .i64 noT.ep, .int .i64 noT.sg, .int .i64 noT.rt, .slice noT.o.a noT.o.n noT.o.c, .int .i64 noT.pc, .int .i64 noT.x, .int .i64 noT.y]), .int .i64 1]) (res_rput rfl rfl BE) rfl ?_
    have hw := HR.out
    refine ⟨Ls.noSl, ⟨none, 0, 0⟩, by rw [putT_no hw]; rfl, by rw [putT_no hw, getE_no hw]; rfl, by rw [putT_no hw, putF_no hw]; exact noTh _ _ _, below_puts _ (by omega) (tv noT) 0 _ K0.out.bel⟩
  · clear g2
    go_wp2
    have BE := Box.puts (tv noT) 0 K0.out.res
    refine bodyPost_ret (v := .tuple #[(.agg #[.bool noT.lv, .int .i64 (noT.r 0), .int .i64 (noT.r 1), .int .i64 (noT.r 2), .int .i64 (noT.r 3), .slice (noT.u 0).a (noT.u 0).n (noT.u 0).c, .slice (noT.u 1).a (noT.u 1).n (noT.u 1).c, .slice (noT.u 2).a (noT.u 2).n (noT.u 2).c, .int .i64 noT.ep, .int .i64 noT.sg, .int .i64 noT.rt, .slice noT.o.a noT.o.n noT.o.c, .int .i64 noT.pc, .int .i64 noT.x, .int .i64 noT.y]), .int .i64 1]) (res_rput rfl rfl BE) rfl ?_
    have hw := HR.out
    refine ⟨Ls.noSl, ⟨none, 0, 0⟩, by rw [putT_no hw]; rfl, by rw [putT_no hw, getE_no hw]; rfl, by rw [putT_no hw, putF_no hw]; exact noTh _ _ _, below_puts _ (by omega) (tv noT) 0 _ K0.out.bel⟩
set_option maxHeartbeats 4000000 in
theorem rput_yes (t : Ts) (F : Nat → List Int) (g : Nat → O4) (k : Nat) (hk : k < 4) (a : Int) (w : World) (h : Th w w.heap.size t F g) (hn : ∀ j, j < 3 → (t.u j).n ≤ 2000000) (hm : t.o.n ≤ 100000) : Calls Tryz.prog 10 #[(.agg #[.bool t.lv, .int .i64 (t.r 0), .int .i64 (t.r 1), .int .i64 (t.r 2), .int .i64 (t.r 3), .slice (t.u 0).a (t.u 0).n (t.u 0).c, .slice (t.u 1).a (t.u 1).n (t.u 1).c, .slice (t.u 2).a (t.u 2).n (t.u 2).c, .int .i64 t.ep, .int .i64 t.sg, .int .i64 t.rt, .slice t.o.a t.o.n t.o.c, .int .i64 t.pc, .int .i64 t.x, .int .i64 t.y]), .int .i64 (k : Int), .int .i64 a] w (PutOut w t F g k a) := by
  have g1 : decide ((k : Int) < 0) = false := decide_eq_false (by omega)
  have g2 : decide ((3 : Int) < (k : Int)) = false := decide_eq_false (by omega)
  have g3 : decide (3 < k) = false := decide_eq_false (by omega)
  have HT := Lib.hid h
  have HN := Lib.hid hn
  clear h hn
  go_enter Tryz.func10, Tryz.ntmps10
  go_upto_region 1 with fail
  obtain ⟨W0, hW0⟩ : ∃ W0, W0 = (w.alloc (.cells #[.bool t.lv, .int .i64 (t.r 0), .int .i64 (t.r 1), .int .i64 (t.r 2), .int .i64 (t.r 3), .slice (t.u 0).a (t.u 0).n (t.u 0).c, .slice (t.u 1).a (t.u 1).n (t.u 1).c, .slice (t.u 2).a (t.u 2).n (t.u 2).c, .int .i64 t.ep, .int .i64 t.sg, .int .i64 t.rt, .slice t.o.a t.o.n t.o.c, .int .i64 t.pc, .int .i64 t.x, .int .i64 t.y] 34)).alloc (.cells #[.bool false, .int .i64 0, .int .i64 0, .int .i64 0, .int .i64 0, .slice none 0 0, .slice none 0 0, .slice none 0 0, .int .i64 0, .int .i64 0, .int .i64 0, .slice none 0 0, .int .i64 0, .int .i64 0, .int .i64 0] 34) := ⟨_, rfl⟩
  have K0 := Lib.hid (ft_start hW0)
  rw [← hW0]
  clear hW0
  have y0 := (K0.out.box).cel 0 (.bool t.lv) rfl
  have y1 := (K0.out.box).cel 1 (.int .i64 (t.r 0)) rfl
  have y2 := (K0.out.box).cel 2 (.int .i64 (t.r 1)) rfl
  have y3 := (K0.out.box).cel 3 (.int .i64 (t.r 2)) rfl
  have y4 := (K0.out.box).cel 4 (.int .i64 (t.r 3)) rfl
  have y5 := (K0.out.box).cel 5 (.slice (t.u 0).a (t.u 0).n (t.u 0).c) rfl
  have y6 := (K0.out.box).cel 6 (.slice (t.u 1).a (t.u 1).n (t.u 1).c) rfl
  have y7 := (K0.out.box).cel 7 (.slice (t.u 2).a (t.u 2).n (t.u 2).c) rfl
  have y8 := (K0.out.box).cel 8 (.int .i64 t.ep) rfl
  have y9 := (K0.out.box).cel 9 (.int .i64 t.sg) rfl
  have y10 := (K0.out.box).cel 10 (.int .i64 t.rt) rfl
  have y11 := (K0.out.box).cel 11 (.slice t.o.a t.o.n t.o.c) rfl
  have y12 := (K0.out.box).cel 12 (.int .i64 t.pc) rfl
  have y13 := (K0.out.box).cel 13 (.int .i64 t.x) rfl
  have y14 := (K0.out.box).cel 14 (.int .i64 t.y) rfl
  have yl := (K0.out.box).lt
  go_wp2_with fail
  refine (rown12_any t F g W0 (HT.out.over K0.out.bel) HN.out hm).mono ?_
  rintro e w5 ⟨u, o, hon, rfl, hth, hx1, hx2, hb5⟩
  have K5 := Lib.hid (K0.out.next hb5)
  have T5 := Lib.hid (And.intro hon (And.intro hth (And.intro hx1 hx2)))
  clear hon hth hb5 hx1 hx2
  clear y0 y1 y2 y3 y4 y5 y6 y7 y8 y9 y10 y11 y12 y13 y14 yl
  go_upto_region 4 with fail
  obtain ⟨W6, hW6⟩ : ∃ W6, W6 = w5.alloc (.cells #[.bool t.lv, .int .i64 (t.r 0), .int .i64 (t.r 1), .int .i64 (t.r 2), .int .i64 (t.r 3), .slice (u 0).a (u 0).n (u 0).c, .slice (u 1).a (u 1).n (u 1).c, .slice (u 2).a (u 2).n (u 2).c, .int .i64 t.ep, .int .i64 t.sg, .int .i64 t.rt, .slice o.a o.n o.c, .int .i64 t.pc, .int .i64 t.x, .int .i64 t.y] 34) := ⟨_, rfl⟩
  obtain ⟨t5, ht5⟩ : ∃ t5, t5 = tw t u o := ⟨_, rfl⟩
  obtain ⟨b5, hb5⟩ : ∃ b5, b5 = w5.heap.size := ⟨_, rfl⟩
  have P6 := put_mid K5.out K0.out T5.out.2.1 T5.out.2.2.1 T5.out.2.2.2 hW6
  rw [← ht5, ← hb5] at P6
  have P6 := Lib.hid P6
  have E5 := Lib.hid (And.intro ht5 T5.out.1)
  rw [← hW6, ← hb5]
  clear hW6 ht5 hb5 T5 K5
  have q := tbox_reg P6.out.box hk
  have qf := P6.out.box.free (1 + k)
  have ql := P6.out.box.lt
  have hk' : (k : Int) < 4 := by omega
  go_upto_region 5 with fail
  obtain ⟨W7, hW7⟩ : ∃ W7, W7 = W6.setCell ⟨b5, 1 + k, none⟩ (.int .i64 a) := ⟨_, rfl⟩
  obtain ⟨t7, ht7⟩ : ∃ t7, t7 = tr t5 (Ls.upd t5.r k a) := ⟨_, rfl⟩
  have P7 := put_store P6.out hk hW7
  rw [← ht7] at P7
  have P7 := Lib.hid P7
  have E7 := Lib.hid ht7
  rw [← hW7]
  clear hW7 ht7 q qf ql
  have z0 := (P7.out.box).cel 0 (.bool t7.lv) rfl
  have z1 := (P7.out.box).cel 1 (.int .i64 (t7.r 0)) rfl
  have z2 := (P7.out.box).cel 2 (.int .i64 (t7.r 1)) rfl
  have z3 := (P7.out.box).cel 3 (.int .i64 (t7.r 2)) rfl
  have z4 := (P7.out.box).cel 4 (.int .i64 (t7.r 3)) rfl
  have z5 := (P7.out.box).cel 5 (.slice (t7.u 0).a (t7.u 0).n (t7.u 0).c) rfl
  have z6 := (P7.out.box).cel 6 (.slice (t7.u 1).a (t7.u 1).n (t7.u 1).c) rfl
  have z7 := (P7.out.box).cel 7 (.slice (t7.u 2).a (t7.u 2).n (t7.u 2).c) rfl
  have z8 := (P7.out.box).cel 8 (.int .i64 t7.ep) rfl
  have z9 := (P7.out.box).cel 9 (.int .i64 t7.sg) rfl
  have z10 := (P7.out.box).cel 10 (.int .i64 t7.rt) rfl
  have z11 := (P7.out.box).cel 11 (.slice t7.o.a t7.o.n t7.o.c) rfl
  have z12 := (P7.out.box).cel 12 (.int .i64 t7.pc) rfl
  have z13 := (P7.out.box).cel 13 (.int .i64 t7.x) rfl
  have z14 := (P7.out.box).cel 14 (.int .i64 t7.y) rfl
  have zl := (P7.out.box).lt
  have y0 := (P7.out.ft.res).cel 0 (.bool noT.lv) rfl
  have y1 := (P7.out.ft.res).cel 1 (.int .i64 (noT.r 0)) rfl
  have y2 := (P7.out.ft.res).cel 2 (.int .i64 (noT.r 1)) rfl
  have y3 := (P7.out.ft.res).cel 3 (.int .i64 (noT.r 2)) rfl
  have y4 := (P7.out.ft.res).cel 4 (.int .i64 (noT.r 3)) rfl
  have y5 := (P7.out.ft.res).cel 5 (.slice (noT.u 0).a (noT.u 0).n (noT.u 0).c) rfl
  have y6 := (P7.out.ft.res).cel 6 (.slice (noT.u 1).a (noT.u 1).n (noT.u 1).c) rfl
  have y7 := (P7.out.ft.res).cel 7 (.slice (noT.u 2).a (noT.u 2).n (noT.u 2).c) rfl
  have y8 := (P7.out.ft.res).cel 8 (.int .i64 noT.ep) rfl
  have y9 := (P7.out.ft.res).cel 9 (.int .i64 noT.sg) rfl
  have y10 := (P7.out.ft.res).cel 10 (.int .i64 noT.rt) rfl
  have y11 := (P7.out.ft.res).cel 11 (.slice noT.o.a noT.o.n noT.o.c) rfl
  have y12 := (P7.out.ft.res).cel 12 (.int .i64 noT.pc) rfl
  have y13 := (P7.out.ft.res).cel 13 (.int .i64 noT.x) rfl
  have y14 := (P7.out.ft.res).cel 14 (.int .i64 noT.y) rfl
  have yl := (P7.out.ft.res).lt
  dsimp only [noT, Ls.noSl] at y0 y1 y2 y3 y4 y5 y6 y7 y8 y9 y10 y11 y12 y13 y14
  have yf := P7.out.ft.res.free
  go_wp2
  have BE := Box.puts (tv t7) 0 P7.out.ft.res
  refine bodyPost_ret (v := .tuple #[(.agg #[.bool t7.lv, .int .i64 (t7.r 0), .int .i64 (t7.r 1), .int .i64 (t7.r 2), .int .i64 (t7.r 3), .slice (t7.u 0).a (t7.u 0).n (t7.u 0).c, .slice (t7.u 1).a (t7.u 1).n (t7.u 1).c, .slice (t7.u 2).a (t7.u 2).n (t7.u 2).c, .int .i64 t7.ep, .int .i64 t7.sg, .int .i64 t7.rt, .slice t7.o.a t7.o.n t7.o.c, .int .i64 t7.pc, .int .i64 t7.x, .int .i64 t7.y]), .int .i64 0]) (res_rput rfl rfl BE) rfl ?_
  exact put_end hk E5.out.1 E5.out.2 E7.out P7.out
theorem rput_any (t : Ts) (F : Nat → List Int) (g : Nat → O4) (r a : Int) (w : World) (h : Th w w.heap.size t F g) (hn : ∀ j, j < 3 → (t.u j).n ≤ 2000000) (hm : t.o.n ≤ 100000) : Calls Tryz.prog 10 #[(.agg #[.bool t.lv, .int .i64 (t.r 0), .int .i64 (t.r 1), .int .i64 (t.r 2), .int .i64 (t.r 3), .slice (t.u 0).a (t.u 0).n (t.u 0).c, .slice (t.u 1).a (t.u 1).n (t.u 1).c, .slice (t.u 2).a (t.u 2).n (t.u 2).c, .int .i64 t.ep, .int .i64 t.sg, .int .i64 t.rt, .slice t.o.a t.o.n t.o.c, .int .i64 t.pc, .int .i64 t.x, .int .i64 t.y]), .int .i64 r, .int .i64 a] w (PutOut w t F g r a) := by
  cases hr : inReg r with
  | false => exact rput_no t F g r a hr w
  | true =>
    obtain ⟨k, hk, rfl⟩ := inReg_yes hr
    exact rput_yes t F g k hk a w h hn hm
theorem row6 (w : World) (a b c d e f : Int) : Row (w.alloc (.cells #[.int .i64 a, .int .i64 b, .int .i64 c, .int .i64 d, .int .i64 e, .int .i64 f] 3)) (w.heap.size + 1) (some ⟨w.heap.size, 0, none⟩) 6 [a, b, c, d, e, f] := by
  refine ⟨rfl, fun _ => ⟨_, _, rfl, by omega, fun i hi => ?_⟩⟩
  match i, hi with
  | 0, _ => simp [go_sem]
  | 1, _ => simp [go_sem]
  | 2, _ => simp [go_sem]
  | 3, _ => simp [go_sem]
  | 4, _ => simp [go_sem]
  | 5, _ => simp [go_sem]
/-- What is held so far, in memory made behind W1. -/
structure Holding (w W1 wr : World) (s : Ls.Sl) (xs : List Int) : Prop where
  own : wr.ownsRow W1.heap.size 3 1 (.slice s.a s.n s.c) s.n (xs.map (Value.int .i64))
  bel : Below W1.heap.size W1 wr
theorem Holding.cat {w W1 wr w2 : World} {s t : Ls.Sl} {xs ys : List Int} {o : Obj} (h : Holding w W1 wr s xs) (hc : Ls.Catted (wr.alloc o) W1.heap.size (.slice s.a s.n s.c) t ys w2) : Holding w W1 w2 t ys :=
  ⟨hc.own, (h.bel.alloc h.bel.size o).grown hc.grown (by have := h.bel.size; simp; omega) (fun k hk => ((h.own.alloc o).lt k hk).1)⟩
set_option maxHeartbeats 4000000 in
theorem rholds_any (t : Ts) (w : World) : Calls Tryz.prog 16 #[(.agg #[.bool t.lv, .int .i64 (t.r 0), .int .i64 (t.r 1), .int .i64 (t.r 2), .int .i64 (t.r 3), .slice (t.u 0).a (t.u 0).n (t.u 0).c, .slice (t.u 1).a (t.u 1).n (t.u 1).c, .slice (t.u 2).a (t.u 2).n (t.u 2).c, .int .i64 t.ep, .int .i64 t.sg, .int .i64 t.rt, .slice t.o.a t.o.n t.o.c, .int .i64 t.pc, .int .i64 t.x, .int .i64 t.y])] w (Ls.AllOut w (holdL t)) := by
  go_enter Tryz.func16, Tryz.ntmps16
  go_upto_region 2 with fail
  obtain ⟨W1, hW1⟩ : ∃ W1, W1 = (w.alloc (.cells #[.bool t.lv, .int .i64 (t.r 0), .int .i64 (t.r 1), .int .i64 (t.r 2), .int .i64 (t.r 3), .slice (t.u 0).a (t.u 0).n (t.u 0).c, .slice (t.u 1).a (t.u 1).n (t.u 1).c, .slice (t.u 2).a (t.u 2).n (t.u 2).c, .int .i64 t.ep, .int .i64 t.sg, .int .i64 t.rt, .slice t.o.a t.o.n t.o.c, .int .i64 t.pc, .int .i64 t.x, .int .i64 t.y] 34)).alloc (.cells #[.int .i64 (t.r 0), .int .i64 (t.r 1), .int .i64 (t.r 2), .int .i64 (t.r 3), .int .i64 t.x, .int .i64 t.y] 3) := ⟨_, rfl⟩
  have A1 : Hid (Ls.Alling w W1 ⟨none, 0, 0⟩ []) := Lib.hid ⟨World.ownsRow_nil _ _ _ _, by rw [hW1]; exact ((Below.refl _ _).alloc (Nat.le_refl _) _).alloc (by simp) _⟩
  have R1 : Hid (Row W1 W1.heap.size (some ⟨w.heap.size + 1, 0, none⟩) 6 (six t)) := Lib.hid (by
    have := row6 (w.alloc (.cells #[.bool t.lv, .int .i64 (t.r 0), .int .i64 (t.r 1), .int .i64 (t.r 2), .int .i64 (t.r 3), .slice (t.u 0).a (t.u 0).n (t.u 0).c, .slice (t.u 1).a (t.u 1).n (t.u 1).c, .slice (t.u 2).a (t.u 2).n (t.u 2).c, .int .i64 t.ep, .int .i64 t.sg, .int .i64 t.rt, .slice t.o.a t.o.n t.o.c, .int .i64 t.pc, .int .i64 t.x, .int .i64 t.y] 34)) (t.r 0) (t.r 1) (t.r 2) (t.r 3) t.x t.y
    rw [World.size_alloc] at this
    rw [hW1]
    exact this.more (by simp))
  have S1 := Lib.hid (show W1.heap.size = w.heap.size + 2 by rw [hW1]; simp)
  rw [← hW1]
  clear hW1
  go_wp2
  go_loopw [5, 4] (fun i h wr => ∃ (k : Nat) (s : Ls.Sl), k ≤ 6 ∧ i = .int .i64 k ∧ h = .slice s.a s.n s.c ∧ Hid (Holding w W1 wr s (heldTo t k))) (fun i _ _ => 6 - (intOf i).toNat)
  case atStart => exact ⟨0, ⟨none, 0, 0⟩, by omega, rfl, rfl, Lib.hid ⟨World.ownsRow_nil _ _ _ _, Below.refl _ _⟩⟩
  case round =>
    obtain ⟨k, s, hk, rfl, rfl, HA⟩ := hrel
    by_cases hlt : k < 6
    · have hlt' : (k : Int) < 6 := by omega
      have hn := held_next t hlt
      have hsn : s.n ≤ 6 := by
        have h1 := HA.out.own.1
        have h2 := held_len t k
        have h3 : (heldTo t k).length = s.n := by simpa using h1
        omega
      obtain ⟨b, off, eb, hbl, hc⟩ := (R1.out.below HA.out.bel).2 (by omega)
      have hcell := hc k hlt
      have hbw : b < wr.heap.size := by have := HA.out.bel.size; omega
      simp only [Option.some.injEq, Addr.mk.injEq, and_true] at eb
      obtain ⟨rfl, rfl⟩ := eb
      rw [Nat.zero_add] at hcell
      obtain ⟨a, ha⟩ : ∃ a, a = (six t).getD k 0 := ⟨_, rfl⟩
      rw [← ha] at hcell hn
      clear ha hc
      by_cases h0 : a = 0
      · rw [if_pos h0, List.append_nil] at hn
        have A2 : Hid (Holding w W1 wr s (heldTo t (k + 1))) := Lib.hid (by rw [hn]; exact HA.out)
        clear hn
        subst h0
        go_wp2
        go_roundw
        case rel => exact ⟨k + 1, s, by omega, by go_num, rfl, A2⟩
        case measure => simp [intOf]; omega
      · rw [if_neg h0] at hn
        have HN := Lib.hid hn
        have hd : (a != 0) = true := by simpa using h0
        clear hn h0
        have hbs := HA.out.bel.size
        go_wp2_with (at_builtin; refine Ls.list_cat rfl (.tmp 34) (.tmp 39) rfl rfl rfl (HA.out.own.alloc _) (row1 wr a) (by simp; omega) (by omega) ?_)
        intro p' cp' w2 hcat
        have A2 : Hid (Holding w W1 w2 ⟨p', s.n + 1, cp'⟩ (heldTo t (k + 1))) := Lib.hid (by rw [HN.out]; exact HA.out.cat hcat)
        clear hcat
        go_wp2
        go_roundw
        case rel => exact ⟨k + 1, ⟨p', s.n + 1, cp'⟩, by omega, by go_num, rfl, A2⟩
        case measure => simp [intOf]; omega
    · obtain rfl : k = 6 := by omega
      go_wp2
      go_ret
      exact ⟨s, rfl, ⟨HA.out.own.1, HA.out.own.2.imp id (fun ⟨g, cap, cur, e, hg, r⟩ => ⟨g, cap, cur, e, Nat.le_trans A1.out.bel.size hg, r⟩)⟩, A1.out.bel.trans (HA.out.bel.mono A1.out.bel.size)⟩
end Go.Proofs.YtjppimabhefeeaaGreatDoor.Rt
