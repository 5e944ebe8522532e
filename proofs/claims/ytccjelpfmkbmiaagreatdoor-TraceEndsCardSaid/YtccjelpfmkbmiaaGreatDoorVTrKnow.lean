/-
  Is all that is grey known of?
-/
import Derived.Test.YtccjelpfmkbmiaaGreatDoorVTrRef
import Derived.Deep.LoopGhost
import Derived.Deep.Cut
import Derived.Deep.CutRange
import Derived.Deep.QuietTactic
import Derived.BigQuiet
namespace Go.Proofs.YtccjelpfmkbmiaaGreatDoor.Tr
open Go.Proofs.YtccjelpfmkbmiaaGreatDoor Go.Proofs.YtccjelpfmkbmiaaGreatDoor.Rt
open Go.RowKit
open Go.Proofs.YtccjelpfmkbmiaaGreatDoor.Mu (hv kv w_load w_store w_loadg ldHb ldKb stHb stKb st_int ld_int p_load p_store ev region_plan noHs0 noK0)
set_option maxRecDepth 100000

/-- .. but for the work list. -/
def kn0 (k : Sh.Ks) (y : Int) : Bool := k.ov || (decide (y = k.pa) || decide (¬ k.ps = 0 ∧ k.ps < y))
def knT (k : Sh.Ks) (xs : List Int) (y : Int) (t : Nat) : Bool := kn0 k y || (xs.take t).any fun x => decide (x = y)
theorem kn_zero (k : Sh.Ks) (xs : List Int) (y : Int) : knT k xs y 0 = kn0 k y := by simp [knT]
theorem kn_next {k : Sh.Ks} {xs : List Int} {y : Int} {t : Nat} (h : t < xs.length) : knT k xs y (t + 1) = (knT k xs y t || decide (xs.getD t 0 = y)) := by
  unfold knT
  rw [List.take_succ_eq_append_getElem h, List.any_append]
  simp [List.getD, h, Bool.or_assoc]
theorem kn_end (k : Sh.Ks) (xs : List Int) (y : Int) : knT k xs y xs.length = knowB k xs y := by
  unfold knT kn0 knowB
  rw [List.take_length, Bool.or_assoc, Bool.or_assoc]
  congr 3
  rw [Bool.eq_iff_iff, List.any_eq_true, decide_eq_true_eq]
  constructor
  · rintro ⟨x, h1, h2⟩
    rw [← of_decide_eq_true h2]
    exact h1
  · exact fun h => ⟨y, h, decide_eq_true rfl⟩
theorem all_more {p : Int → Bool} {G : List Int} {q : Nat} (h : q < G.length) (h1 : (G.take q).all p = true) (h2 : p (G.getD q 0) = true) : (G.take (q + 1)).all p = true := by
  rw [List.take_succ_eq_append_getElem h, List.all_append, h1]
  have e : G.getD q 0 = G[q] := by simp [List.getD, h]
  rw [e] at h2
  simp [h2]
theorem all_not {p : Int → Bool} {G : List Int} {q : Nat} (h : q < G.length) (h2 : p (G.getD q 0) = false) : G.all p = false := by
  have e : G.getD q 0 = G[q] := by simp [List.getD, h]
  rw [e] at h2
  rw [Bool.eq_false_iff]
  intro hh
  have := List.all_eq_true.1 hh G[q] (List.getElem_mem h)
  rw [h2] at this
  cases this
def knownI (k : Sh.Ks) (xs G : List Int) : Int := if G.all (knowB k xs) = true then 0 else 1
set_option maxHeartbeats 8000000 in
theorem known_core (n : Q2) (w : World) (G : List Int) (hG : G.length ≤ 512) (hn : Hold w n) (hx : n.xs.length ≤ 999000) (hC : ∀ W, Hold W n → Calls Tryz.prog 35 #[(.agg #[.slice n.s.w.a n.s.w.n n.s.w.c, .slice n.s.p.a n.s.p.n n.s.p.c, .slice (n.s.u 0).a (n.s.u 0).n (n.s.u 0).c, .slice (n.s.u 1).a (n.s.u 1).n (n.s.u 1).c, .slice (n.s.u 2).a (n.s.u 2).n (n.s.u 2).c, .slice n.s.c.a n.s.c.n n.s.c.c]), (.agg #[.int .i64 n.k.ph, .int .i64 n.k.ep, .bool n.k.mj, .slice n.k.wk.a n.k.wk.n n.k.wk.c, .bool n.k.ov, .int .i64 n.k.pa, .int .i64 n.k.pf, .int .i64 n.k.ps, .int .i64 n.k.pc, .bool n.k.me])] W (Ls.AllOut W G)) :
    Calls Tryz.prog 25 #[(.agg #[.slice n.s.w.a n.s.w.n n.s.w.c, .slice n.s.p.a n.s.p.n n.s.p.c, .slice (n.s.u 0).a (n.s.u 0).n (n.s.u 0).c, .slice (n.s.u 1).a (n.s.u 1).n (n.s.u 1).c, .slice (n.s.u 2).a (n.s.u 2).n (n.s.u 2).c, .slice n.s.c.a n.s.c.n n.s.c.c]), (.agg #[.int .i64 n.k.ph, .int .i64 n.k.ep, .bool n.k.mj, .slice n.k.wk.a n.k.wk.n n.k.wk.c, .bool n.k.ov, .int .i64 n.k.pa, .int .i64 n.k.pf, .int .i64 n.k.ps, .int .i64 n.k.pc, .bool n.k.me])] w fun e w' => e = .returned (.int .i64 (knownI n.k n.xs G)) ∧ Below w.heap.size w w' := by
  have HN := Lib.hid hn
  have HC := Lib.hid hC
  have HX := Lib.hid hx
  have HL : Hid (n.k.wk.n = n.xs.length) := Lib.hid hn.c.len
  obtain ⟨gn0, hgn⟩ : ∃ q, G.length = q := ⟨_, rfl⟩
  rw [hgn] at hG
  have HG := Lib.hid hgn
  clear hn hC hx hgn
  go_enter Tryz.func25, Tryz.ntmps25
  go_upto_region 1 with fail
  obtain ⟨W1, hW1⟩ : ∃ W1, W1 = ((w.alloc (.cells #[.slice n.s.w.a n.s.w.n n.s.w.c, .slice n.s.p.a n.s.p.n n.s.p.c, .slice (n.s.u 0).a (n.s.u 0).n (n.s.u 0).c, .slice (n.s.u 1).a (n.s.u 1).n (n.s.u 1).c, .slice (n.s.u 2).a (n.s.u 2).n (n.s.u 2).c, .slice n.s.c.a n.s.c.n n.s.c.c] 28)).alloc (.cells #[.int .i64 n.k.ph, .int .i64 n.k.ep, .bool n.k.mj, .slice n.k.wk.a n.k.wk.n n.k.wk.c, .bool n.k.ov, .int .i64 n.k.pa, .int .i64 n.k.pf, .int .i64 n.k.ps, .int .i64 n.k.pc, .bool n.k.me] 30)) := ⟨_, rfl⟩
  have S1 : Hid (Wn 2 w W1 (p4 w.heap.size (w.heap.size + 1) (w.heap.size + 2) (w.heap.size + 3)) (c4 (hv n.s) (kv n.k) [] []) [n]) := Lib.hid (by
    rw [hW1]
    exact (wn_of (c := (c4 (hv n.s) (kv n.k) [] [])) (((lay_none w).add (hv n.s) 28).add (kv n.k) 30) (by decide) (all2 ⟨rfl, rfl⟩)).old HN.out)
  rw [← hW1]
  clear hW1
  go_upto_region 2 with (first
    | (refine w_load (ldHb (show Box _ (w.heap.size) (hv n.s) from S1.out.box 0 (by decide))) rfl rfl rfl rfl ?_)
    | (refine w_load (ldKb (show Box _ (w.heap.size + 1) (kv n.k) from S1.out.box 1 (by decide))) rfl rfl rfl rfl ?_)
    | ((go_at_call 35); (with_reducible refine (HC.out _ (S1.out.at n (by simp))).mono ?_); rintro e9 w2 ⟨⟨va, vn, vc⟩, rfl, ho, hb2⟩; have S2 := Lib.hid (S1.out.next hb2); have OH := Lib.hid ho; clear ho hb2))
  obtain rfl : vn = gn0 := by have h1 := OH.out.1; have h2 := HG.out; simp only [List.length_map] at h1; omega
  have R2 := Lib.hid (Sh.row_of (v := ⟨va, vn, vc⟩) OH.out)
  clear S1 HC OH
  go_wp2
  go_loopg [6] vn (fun g i wr => ∃ q : Nat, q + g = vn ∧ i = .int .i64 q ∧ Hid (Below w2.heap.size w2 wr ∧ (G.take q).all (knowB n.k n.xs) = true))
  case atStart => exact ⟨0, by omega, rfl, Lib.hid ⟨Below.refl _ _, by simp⟩⟩
  case round =>
    obtain ⟨q, hq, rfl, HA⟩ := hrel
    have LA := Lib.hid (S2.out.next HA.out.1)
    obtain ⟨wo, rfl⟩ : ∃ wo : World, wo = wr := ⟨_, rfl⟩
    obtain ⟨go, rfl⟩ : ∃ go : Nat, go = gk := ⟨_, rfl⟩
    have HJ := Lib.hid hq
    have hq1 : q ≤ vn := by omega
    clear hq
    by_cases hlt : q < vn
    · have d0 : decide ((q : Int) < vn) = true := decide_eq_true (by omega)
      have HQ : Hid (q < G.length) := Lib.hid (by have := HG.out; omega)
      obtain ⟨b, off, rfl, hbl', hcell⟩ := (Row.below R2.out HA.out.1).2 (by omega)
      have hy0 := hcell q hlt
      have hbl : b < wo.heap.size := by have := HA.out.1.size; omega
      obtain ⟨y, hy⟩ : ∃ y, y = G.getD q 0 := ⟨_, rfl⟩
      rw [← hy] at hy0
      have HY := Lib.hid hy
      clear hcell hy hbl'
      have p4 := (show Box _ (w.heap.size + 1) (kv n.k) from LA.out.box 1 (by decide)).cel 4 (.bool n.k.ov) rfl
      have p5 := (show Box _ (w.heap.size + 1) (kv n.k) from LA.out.box 1 (by decide)).cel 5 (.int .i64 n.k.pa) rfl
      have p7 := (show Box _ (w.heap.size + 1) (kv n.k) from LA.out.box 1 (by decide)).cel 7 (.int .i64 n.k.ps) rfl
      have pl := (show Box _ (w.heap.size + 1) (kv n.k) from LA.out.box 1 (by decide)).lt
      obtain ⟨z, hz⟩ : ∃ z, z = kn0 n.k y := ⟨_, rfl⟩
      have HZ0 := Lib.hid hz
      go_upto_region 5 with fail
      go_cut [7] from 12 to 64 (fun v wc => v = .bool z ∧ Hid (Below wo.heap.size wo wc))
      case first =>
        obtain ⟨ov, hov⟩ : ∃ ov, n.k.ov = ov := ⟨_, rfl⟩
        rw [hov] at p4
        cases ov
        · by_cases h1 : y = n.k.pa
          · have e1 : decide (y = n.k.pa) = true := decide_eq_true h1
            have e2 : (y == n.k.pa) = true := e1
            have hzt : z = true := by rw [hz]; simp [kn0, h1]
            have HZ1 := Lib.hid hzt
            clear h1 hz hov hzt
            go_quiet (fail)
            all_goals try go_wp2_with fail
            all_goals go_meet
            all_goals exact ⟨by rw [HZ1.out], (by first | exact Lib.hid (Below.refl _ _) | exact Lib.hid (below_drawn' (Below.refl _ _) _) | exact Lib.hid ⟨rfl, rfl, rfl, Nat.le_refl _, fun _ _ => rfl⟩)⟩
          · have e1 : decide (y = n.k.pa) = false := decide_eq_false h1
            have e2 : (y == n.k.pa) = false := e1
            by_cases h2 : n.k.ps = 0
            · have e3 : decide (n.k.ps = 0) = true := decide_eq_true h2
              have e4 : (n.k.ps == 0) = true := e3
              have e5 : (n.k.ps != 0) = false := by rw [bne, e4]; rfl
              have hzt : z = false := by rw [hz]; simp [kn0, h1, h2, hov]
              have HZ1 := Lib.hid hzt
              clear h1 h2 hz hov hzt
              go_quiet (fail)
              all_goals try go_wp2_with fail
              all_goals go_meet
              all_goals exact ⟨by rw [HZ1.out], (by first | exact Lib.hid (Below.refl _ _) | exact Lib.hid (below_drawn' (Below.refl _ _) _) | exact Lib.hid ⟨rfl, rfl, rfl, Nat.le_refl _, fun _ _ => rfl⟩)⟩
            · have e3 : decide (n.k.ps = 0) = false := decide_eq_false h2
              have e4 : (n.k.ps == 0) = false := e3
              have e5 : (n.k.ps != 0) = true := by rw [bne, e4]; rfl
              by_cases h3 : n.k.ps < y
              · have e6 : decide (n.k.ps < y) = true := decide_eq_true h3
                have e7 : decide (y > n.k.ps) = true := e6
                have hzt : z = true := by rw [hz]; simp [kn0, h2, h3]
                have HZ1 := Lib.hid hzt
                clear h1 h2 h3 hz hov hzt
                go_quiet (fail)
                all_goals try go_wp2_with fail
                all_goals go_meet
                all_goals exact ⟨by rw [HZ1.out], (by first | exact Lib.hid (Below.refl _ _) | exact Lib.hid (below_drawn' (Below.refl _ _) _) | exact Lib.hid ⟨rfl, rfl, rfl, Nat.le_refl _, fun _ _ => rfl⟩)⟩
              · have e6 : decide (n.k.ps < y) = false := decide_eq_false h3
                have e7 : decide (y > n.k.ps) = false := e6
                have hzt : z = false := by rw [hz]; simp [kn0, h1, h3, hov]
                have HZ1 := Lib.hid hzt
                clear h1 h2 h3 hz hov hzt
                go_quiet (fail)
                all_goals try go_wp2_with fail
                all_goals go_meet
                all_goals exact ⟨by rw [HZ1.out], (by first | exact Lib.hid (Below.refl _ _) | exact Lib.hid (below_drawn' (Below.refl _ _) _) | exact Lib.hid ⟨rfl, rfl, rfl, Nat.le_refl _, fun _ _ => rfl⟩)⟩
        · have hzt : z = true := by rw [hz]; simp [kn0, hov]
          have HZ1 := Lib.hid hzt
          clear hz hov hzt
          go_quiet (fail)
          all_goals try go_wp2_with fail
          all_goals go_meet
          all_goals exact ⟨by rw [HZ1.out], (by first | exact Lib.hid (Below.refl _ _) | exact Lib.hid (below_drawn' (Below.refl _ _) _) | exact Lib.hid ⟨rfl, rfl, rfl, Nat.le_refl _, fun _ _ => rfl⟩)⟩
      case rest =>
        obtain ⟨rfl, HB⟩ := hcut
        have hy0H := Lib.hid hy0
        clear p4 p5 p7 pl hy0 hz
        go_wp2
        go_loopg [7, 8] n.xs.length (fun g v i wi => ∃ t : Nat, t + g = n.xs.length ∧ v = .bool (knT n.k n.xs y t) ∧ i = .int .i64 t ∧ Hid (Below wo.heap.size wo wi))
        case atStart => exact ⟨0, by omega, by rw [kn_zero, ← HZ0.out], rfl, HB⟩
        case round =>
          obtain ⟨t, ht, rfl, rfl, HB2⟩ := hrel
          have LB := Lib.hid (LA.out.next HB2.out)
          have HT := Lib.hid ht
          have hy2 := (HB2.out.cell (p := ⟨b, off + q, none⟩) hbl).trans (hy0H.out)
          have hbl2 : b < wr.heap.size := Nat.lt_of_lt_of_le hbl HB2.out.size
          obtain ⟨zt, hzt⟩ : ∃ zt, zt = knT n.k n.xs y t := ⟨_, rfl⟩
          have HZT := Lib.hid hzt
          rw [← hzt]
          clear hzt ht
          have HLL := HL.out
          by_cases htm : t < n.xs.length
          · have HTM := Lib.hid htm
            obtain ⟨bw, ow, ea, hbw, hcw⟩ := (LB.out.at n (by simp)).c.2 (by omega)
            have hx1 := hcw t (by omega)
            have p3 : wr.cell? ⟨w.heap.size + 1, 3, none⟩ = some (.slice (some ⟨bw, ow, none⟩) n.k.wk.n n.k.wk.c) := by rw [← ea]; exact (show Box _ (w.heap.size + 1) (kv n.k) from LB.out.box 1 (by decide)).cel 3 _ rfl
            have pl := (show Box _ (w.heap.size + 1) (kv n.k) from LB.out.box 1 (by decide)).lt
            obtain ⟨x, hx⟩ : ∃ x, x = n.xs.getD t 0 := ⟨_, rfl⟩
            rw [← hx] at hx1
            have HXX := Lib.hid hx
            have d1 : decide ((t : Int) < n.k.wk.n) = true := decide_eq_true (by omega)
            have d2 : (t : Int) < n.k.wk.n := by omega
            have wi : IntKind.i64.wrap ((t : Int) + 1) = (t : Int) + 1 := IntWalk.i64_in _ (by have := HX.out; omega)
            clear hcw hx ea
            cases zt
            · by_cases hxy : x = y
              · have e1 : decide (x = y) = true := decide_eq_true hxy
                have e2 : (x == y) = true := e1
                have HE : Hid (true = knT n.k n.xs y (t + 1)) := Lib.hid (by rw [kn_next HTM.out, ← HXX.out, e1, Bool.or_true])
                clear hxy
                go_upto_region 9 with fail
                go_quiet (fail)
                go_wp2
                go_roundg (gk - 1)
                case rel => exact ⟨t + 1, by have := HT.out; omega, by rw [← HE.out], by have := HX.out; have := HTM.out; go_num, Lib.hid (HB2.out.trans ((below_drawn' (Below.refl _ _) nq).mono HB2.out.size))⟩
                case measure => have := HT.out; have := HTM.out; omega
              · have e1 : decide (x = y) = false := decide_eq_false hxy
                have e2 : (x == y) = false := e1
                have HE : Hid (false = knT n.k n.xs y (t + 1)) := Lib.hid (by rw [kn_next HTM.out, ← HXX.out, e1, ← HZT.out]; rfl)
                clear hxy
                go_upto_region 9 with fail
                go_quiet (fail)
                go_wp2
                go_roundg (gk - 1)
                case rel => exact ⟨t + 1, by have := HT.out; omega, by rw [← HE.out], by have := HX.out; have := HTM.out; go_num, Lib.hid (HB2.out.trans ((below_drawn' (Below.refl _ _) nq).mono HB2.out.size))⟩
                case measure => have := HT.out; have := HTM.out; omega
            · have HE : Hid (true = knT n.k n.xs y (t + 1)) := Lib.hid (by rw [kn_next HTM.out, ← HZT.out, Bool.true_or])
              go_upto_region 9 with fail
              go_quiet (fail)
              go_wp2
              go_roundg (gk - 1)
              case rel => exact ⟨t + 1, by have := HT.out; omega, by rw [← HE.out], by have := HX.out; have := HTM.out; go_num, Lib.hid (HB2.out.trans ((below_drawn' (Below.refl _ _) nq).mono HB2.out.size))⟩
              case measure => have := HT.out; have := HTM.out; omega
          · obtain rfl : t = n.xs.length := by have := HT.out; omega
            have p3 := (show Box _ (w.heap.size + 1) (kv n.k) from LB.out.box 1 (by decide)).cel 3 (.slice n.k.wk.a n.k.wk.n n.k.wk.c) rfl
            have pl := (show Box _ (w.heap.size + 1) (kv n.k) from LB.out.box 1 (by decide)).lt
            have d1 : decide (((n.xs.length : Nat) : Int) < n.k.wk.n) = false := decide_eq_false (by omega)
            have hkb : zt = knowB n.k n.xs y := HZT.out.trans (kn_end n.k n.xs y)
            have HKB := Lib.hid hkb
            clear hkb
            cases zt
            · have HE : Hid (knownI n.k n.xs G = 1) := Lib.hid (if_neg (by rw [all_not HQ.out (by rw [← HY.out]; exact HKB.out.symm)]; decide))
              go_wp2
              go_ret
              exact ⟨(by rw [HE.out]; first | done | rfl), LB.out.bel⟩
            · have HE := Lib.hid (all_more HQ.out HA.out.2 (by rw [← HY.out]; exact HKB.out.symm))
              go_wp2
              go_roundg (go - 1)
              case rel => exact ⟨q + 1, by have := HJ.out; omega, by go_num, Lib.hid ⟨HA.out.1.trans (HB2.out.mono HA.out.1.size), HE.out⟩⟩
              case measure => have := HJ.out; omega
    · obtain rfl : q = vn := by omega
      have d0 : decide ((q : Int) < q) = false := by simp
      have HE : Hid (knownI n.k n.xs G = 0) := Lib.hid (if_pos (by have h := HA.out.2; rwa [List.take_of_length_le (by have := HG.out; omega)] at h))
      go_wp2
      go_ret
      exact ⟨(by rw [HE.out]; first | done | rfl), LA.out.bel⟩
end Go.Proofs.YtccjelpfmkbmiaaGreatDoor.Tr
