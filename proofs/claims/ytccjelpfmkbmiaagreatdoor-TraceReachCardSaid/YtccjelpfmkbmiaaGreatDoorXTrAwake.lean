/-
  The chapter's examples: the walk.
-/
import Derived.Test.YtccjelpfmkbmiaaGreatDoorHpXK
namespace Go.Proofs.YtccjelpfmkbmiaaGreatDoor.Tr
open Go.Proofs.YtccjelpfmkbmiaaGreatDoor Go.Proofs.YtccjelpfmkbmiaaGreatDoor.Rt
open Go.RowKit
open Go.Proofs.YtccjelpfmkbmiaaGreatDoor.Mu (hv kv w_load w_store w_loadg ldHb ldKb stHb stKb st_int ld_int p_load p_store ev region_plan noHs0 noK0)
set_option maxRecDepth 100000

set_option maxHeartbeats 8000000 in
theorem awake_any (w : World) (hz : Cl.Sz w) : Calls Tryz.prog 22 #[] w fun e w' => e = .returned (.bool true) ∧ Below w.heap.size w w' := by
  have HZ := Lib.hid hz
  have mi := make_ints 16 (by omega)
  have mb := make_bools 2 (by omega)
  simp only [show ((2 : Nat) : Int) = 2 from rfl, show ((16 : Nat) : Int) = 16 from rfl] at mi mb
  clear hz
  go_enter Tryz.func22, Tryz.ntmps22
  go_upto_region 1 with (fail)
  go_cut [1] from 8 to 75 (fun v wc => ∃ b g gp gc : Nat, v = .pointer (some ⟨b, 0, none⟩) ∧ Hid (AwM w wc b g gp gc ∧ w.heap.size ≤ b))
  case first =>
    go_region
    all_goals go_wp2_with fail
    all_goals go_meet
    all_goals exact ⟨_, _, _, _, rfl, Lib.hid ⟨⟨(by first | exact (four _ _ _ _ _).1 | exact (four _ _ _ _ _).2.1 | exact (four _ _ _ _ _).2.2.1 | exact (four _ _ _ _ _).2.2.2), (by first | exact (four _ _ _ _ _).1 | exact (four _ _ _ _ _).2.1 | exact (four _ _ _ _ _).2.2.1 | exact (four _ _ _ _ _).2.2.2), (by first | exact (four _ _ _ _ _).1 | exact (four _ _ _ _ _).2.1 | exact (four _ _ _ _ _).2.2.1 | exact (four _ _ _ _ _).2.2.2), (by first | exact (four _ _ _ _ _).1 | exact (four _ _ _ _ _).2.1 | exact (four _ _ _ _ _).2.2.1 | exact (four _ _ _ _ _).2.2.2), ⟨by omega, by omega, by omega⟩, by omega, four_below _ _ _ _ _ _⟩, by omega⟩⟩
  case rest =>
    obtain ⟨b, m, mp, mc, rfl, HA⟩ := hcut
    have G0 := Lib.hid (awg_start HA.out.1 HA.out.2)
    clear HA mi mb
    have q0 := G0.out.hb.c0
    have ql := G0.out.hb.lt
    have c9 := G0.out.hg 0 (by decide)
    have f9 := G0.out.fr 0
    have l9 := G0.out.lt
    have G1 := Lib.hid (G0.out.set 0 33 (by decide))
    dsimp only [sM] at q0
    go_upto_region 3 with (fail)
    clear q0 ql c9 f9 l9 G0
    generalize wc.setCell ⟨m, 0, none⟩ (.int .i64 33) = V1 at G1 ⊢
    have q0 := G1.out.hb.c0
    have ql := G1.out.hb.lt
    have c9 := G1.out.hg 2 (by decide)
    have f9 := G1.out.fr 2
    have l9 := G1.out.lt
    have G2 := Lib.hid (G1.out.set 2 24 (by decide))
    dsimp only [sM] at q0
    go_upto_region 4 with (fail)
    clear q0 ql c9 f9 l9 G1
    generalize V1.setCell ⟨m, 2, none⟩ (.int .i64 24) = V2 at G2 ⊢
    have q0 := G2.out.hb.c0
    have ql := G2.out.hb.lt
    have c9 := G2.out.hg 8 (by decide)
    have f9 := G2.out.fr 8
    have l9 := G2.out.lt
    have G3 := Lib.hid (G2.out.set 8 41 (by decide))
    dsimp only [sM] at q0
    go_upto_region 5 with (fail)
    clear q0 ql c9 f9 l9 G2
    generalize V2.setCell ⟨m, 8, none⟩ (.int .i64 41) = V3 at G3 ⊢
    have GT : Hid (AwG w V3 b m mp mc dT.ws) := Lib.hid G3.out
    clear G3
    go_upto_region 6 with (fail)
    obtain ⟨W5, hW5⟩ : ∃ W5, W5 = V3.alloc (.cells #[.int .i64 5, .int .i64 1, .bool false, .slice none 0 0, .bool false, .int .i64 0, .int .i64 0, .int .i64 0, .int .i64 0, .bool false] 30) := ⟨_, rfl⟩
    have S5 := Lib.hid (wn_aw GT.out hW5)
    obtain ⟨bc, hbc⟩ : ∃ bc, bc = V3.heap.size := ⟨_, rfl⟩
    rw [← hbc] at S5
    rw [← hW5, ← hbc]
    clear hW5 hbc GT
    have CI := Lib.hid (fun W (hW : Hold W (⟨sM m mp mc, kT, dT, []⟩ : Q2)) (hz : Cl.Sz W) => step_any (⟨sM m mp mc, kT, dT, []⟩ : Q2) W ⟨hW, hz, fine_T m mp mc, Nat.zero_le _⟩)
    go_upto_region 7 with (first
      | (refine w_load (ldHb (show Box _ b (hv (sM m mp mc)) from S5.out.box 0 (by decide))) rfl rfl rfl rfl ?_)
      | (refine w_load (ldKb (show Box _ bc (kv kT) from S5.out.box 1 (by decide))) rfl rfl rfl rfl ?_)
      | ((go_at_call 27); (with_reducible refine (CI.out _ (S5.out.at _ (List.mem_singleton.2 rfl)) (S5.out.over HZ.out)).mono ?_); rintro e9 w6 ⟨z, rfl, _, _, _, hk9, _, _, hb9⟩; have S6 := Lib.hid (S5.out.next hb9); have K6 : Hid (z.k.ph = 6) := Lib.hid (by rw [hk9]; exact first_T m mp mc); clear hk9 hb9))
    obtain ⟨W7, hW7⟩ : ∃ W7, W7 = (w6.alloc (.cells #[.slice z.s.w.a z.s.w.n z.s.w.c, .slice z.s.p.a z.s.p.n z.s.p.c, .slice (z.s.u 0).a (z.s.u 0).n (z.s.u 0).c, .slice (z.s.u 1).a (z.s.u 1).n (z.s.u 1).c, .slice (z.s.u 2).a (z.s.u 2).n (z.s.u 2).c, .slice z.s.c.a z.s.c.n z.s.c.c] 28)).alloc (.cells #[.int .i64 z.k.ph, .int .i64 z.k.ep, .bool z.k.mj, .slice z.k.wk.a z.k.wk.n z.k.wk.c, .bool z.k.ov, .int .i64 z.k.pa, .int .i64 z.k.pf, .int .i64 z.k.ps, .int .i64 z.k.pc, .bool z.k.me] 30) := ⟨_, rfl⟩
    have S7 := Lib.hid (S6.out.third (W0 := W7) (z := w6.heap.size + 1) (vs := kv z.k) (by rw [hW7]; exact ((Below.refl _ _).alloc (Nat.le_refl _) _).alloc (by simp) _) (by rw [hW7]; have := Box.new (w6.alloc (.cells #[.slice z.s.w.a z.s.w.n z.s.w.c, .slice z.s.p.a z.s.p.n z.s.p.c, .slice (z.s.u 0).a (z.s.u 0).n (z.s.u 0).c, .slice (z.s.u 1).a (z.s.u 1).n (z.s.u 1).c, .slice (z.s.u 2).a (z.s.u 2).n (z.s.u 2).c, .slice z.s.c.a z.s.c.n z.s.c.c] 28)) (kv z.k) 30; rw [World.size_alloc] at this; exact this) (by omega))
    obtain ⟨b4, hb4⟩ : ∃ b4, b4 = w6.heap.size + 1 := ⟨_, rfl⟩
    rw [← hb4] at S7
    rw [← hW7, ← hb4]
    clear hW7 hb4 S5 S6 CI
    have C2 := Lib.hid (fun W (hW : Hold W (⟨sM m mp mc, kT, dT, []⟩ : Q2)) (hz : Cl.Sz W) => Sh.shade_any (sM m mp mc) dT kT [] 16 W (by decide) hW.h hW.c hz (fine_T m mp mc))
    go_upto_region 8 with (first
      | (refine w_load (ldHb (show Box _ (b) (hv (sM m mp mc)) from S7.out.box 0 (by decide))) rfl rfl rfl rfl ?_)
      | (refine w_load (ldKb (show Box _ (bc) (kv kT) from S7.out.box 1 (by decide))) rfl rfl rfl rfl ?_)
      | ((go_at_call 60); (with_reducible refine (C2.out _ (S7.out.at _ (List.mem_singleton.2 rfl)) (S7.out.over HZ.out)).mono ?_); rintro e9 w9 ⟨s', u, rfl, hp9, hl9, hn9, ha9⟩; have S8 := Lib.hid (sh_next S7.out hp9 hn9 ha9); have A8 := Lib.hid (at_zero (v := u) hl9); clear hp9 hl9 hn9 ha9)
      | (refine w_putH S8.out 0 (by decide) s' (c' := c4 (hv s') (kv kT) (kv z.k) []) rfl (all3 ⟨rfl, rfl, rfl⟩) rfl rfl rfl rfl rfl ?_; intro W4 h4; have S9 := Lib.hid h4; clear h4 S8)
      | (refine w_putK S9.out 1 (by decide) (shQ (⟨sM m mp mc, kT, dT, []⟩ : Q2) 16 s' u).k (c' := c4 (hv s') (kv (shQ (⟨sM m mp mc, kT, dT, []⟩ : Q2) 16 s' u).k) (kv z.k) []) rfl (all3 ⟨rfl, rfl, rfl⟩) rfl rfl rfl rfl rfl ?_; intro WA h5; have SA := Lib.hid h5; clear h5 S9))
    clear S7 C2
    go_wp2
    go_loopw [5] (fun i wr => ∃ (j : Nat) (n : Q2), j ≤ 20 ∧ i = .int .i64 j ∧ Hid (Wn 3 w wr (p4 b bc b4 0) (c4 (hv n.s) (kv n.k) (kv z.k) []) [n] ∧ AtT m mp mc j n)) (fun i _ => 20 - (intOf i).toNat)
    case atStart => exact ⟨0, shQ (⟨sM m mp mc, kT, dT, []⟩ : Q2) 16 s' u, by omega, rfl, Lib.hid ⟨SA.out, A8.out⟩⟩
    case round =>
      obtain ⟨j, n, hj, rfl, HR⟩ := hrel
      have R := Lib.hid HR.out.1
      have A := Lib.hid HR.out.2
      clear HR SA A8
      by_cases hlt : j < 20
      · have d1 : decide ((j : Int) < 20) = true := decide_eq_true (by omega)
        have CI := Lib.hid (fun W (hW : Hold W n) (hz : Cl.Sz W) => step_any n W ⟨hW, hz, A.out.fine, by rw [A.out.xs]; have := st_xs j; omega⟩)
        go_wp2_with (first
          | (refine w_load (ldHb (show Box _ (b) (hv n.s) from R.out.box 0 (by decide))) rfl rfl rfl rfl ?_)
          | (refine w_load (ldKb (show Box _ (bc) (kv n.k) from R.out.box 1 (by decide))) rfl rfl rfl rfl ?_)
          | ((go_at_call 27); (with_reducible refine (CI.out _ (R.out.at n (List.mem_singleton.2 rfl)) (R.out.over HZ.out)).mono ?_); rintro e9 w9 ⟨y, rfl, hl9, hd9, hx9, hk9, hh9, hn9, hb9⟩; have B := Lib.hid (A.out.step hlt hl9 hd9 hx9 hk9); have T := Lib.hid (R.out.swap hh9 (fun i hi => hn9.off (R.out.lt hi)) hb9); clear hl9 hd9 hx9 hk9 hh9 hn9 hb9)
          | (refine w_putH T.out 0 (by decide) y.s (c' := c4 (hv y.s) (kv n.k) (kv z.k) []) rfl (all3 ⟨rfl, rfl, rfl⟩) rfl rfl rfl rfl rfl ?_; intro WB h6; have T2 := Lib.hid h6; clear h6)
          | (refine w_putK T2.out 1 (by decide) y.k (c' := c4 (hv y.s) (kv y.k) (kv z.k) []) rfl (all3 ⟨rfl, rfl, rfl⟩) rfl rfl rfl rfl rfl ?_; intro WC h7; have T3 := Lib.hid h7; clear h7))
        go_roundw
        case rel => exact ⟨j + 1, y, by omega, by go_num, Lib.hid ⟨T3.out, B.out⟩⟩
        case measure => simp [intOf]; omega
      · obtain rfl : j = 20 := by omega
        have E := Lib.hid A.out.end
        have d1 : decide (((20 : Nat) : Int) < 20) = false := by decide
        have C3 := Lib.hid (fun W (hW : Hold W n) (hz : Cl.Sz W) => phead_any n.s n.d 24 W hW.h hz A.out.fine)
        rw [E.out.1, E.out.2.1] at C3
        have C4 := Lib.hid (fun W (hW : Hold W n) (hz : Cl.Sz W) => over_any n W hW hz A.out.fine (by rw [A.out.xs]; have := st_xs 20; omega))
        rw [E.out.2.2.1] at C4
        go_upto_region 13 with (first
          | (refine w_load (ldHb (show Box _ (b) (hv n.s) from R.out.box 0 (by decide))) rfl rfl rfl rfl ?_)
          | ((go_at_call 26); (with_reducible refine (C3.out _ (R.out.at n (List.mem_singleton.2 rfl)) (R.out.over HZ.out)).mono ?_); rintro e9 w9 ⟨rfl, hb9⟩; have T := Lib.hid (R.out.next hb9); clear hb9))
        have T1 := Lib.hid (T.out.next ((Below.refl w9.heap.size w9).alloc (Nat.le_refl _) (.cells #[.bool true, .bool false, .bool true, .int .i64 5, .int .i64 0, .int .i64 1] 53)))
        have p0 := (show Box _ (b4) (kv z.k) from T1.out.box 2 (by decide)).cel 0 (.int .i64 6) (by rw [← K6.out]; rfl)
        have p1 := (show Box _ (bc) (kv n.k) from T1.out.box 1 (by decide)).cel 0 (.int .i64 6) (by rw [← E.out.2.2.2]; rfl)
        go_wp2_with (first
          | (refine w_loadg (ldHb (show Box _ (b) (hv n.s) from T1.out.box 0 (by decide))) rfl (by kernel_rfl) rfl rfl ?_)
          | (refine w_loadg (ldKb (show Box _ (bc) (kv n.k) from T1.out.box 1 (by decide))) rfl (by kernel_rfl) rfl rfl ?_))
        refine (C4.out _ (T1.out.at n (List.mem_singleton.2 rfl)) (T1.out.over HZ.out)).mono ?_
        rintro e9 w10 ⟨rfl, hb9⟩
        have T2 := Lib.hid (T1.out.next hb9)
        clear hb9
        go_wp2
        go_ret
        exact ⟨rfl, T2.out.bel⟩
end Go.Proofs.YtccjelpfmkbmiaaGreatDoor.Tr
