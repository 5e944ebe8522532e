/-
  Merged texts: TrHr, TrLed, TrKnow, TrE, TrE2, TrE3, HpApp, HpSlab.
-/
import Derived.Test.YtccjelpfmkbmiaaGreatDoorHpXJ
import Derived.Test.YtccjelpfmkbmiaaGreatDoorHpXL
import Derived.Test.YtccjelpfmkbmiaaGreatDoorXTrRef
import Derived.Deep.LoopGhost
import Derived.Deep.Cut
import Derived.Deep.CutRange
import Derived.Deep.QuietTactic
import Derived.BigQuiet
import Derived.Test.YtccjelpfmkbmiaaGreatDoorHpXK
import Derived.Test.YtccjelpfmkbmiaaGreatDoorHpXF
import Derived.Test.YtccjelpfmkbmiaaGreatDoorHpXA
section
namespace Go.Proofs.YtccjelpfmkbmiaaGreatDoor.Tr
open Go.Proofs.YtccjelpfmkbmiaaGreatDoor Go.Proofs.YtccjelpfmkbmiaaGreatDoor.Rt
open Go.RowKit
open Go.Proofs.YtccjelpfmkbmiaaGreatDoor.Mu (hv kv w_load w_store w_loadg ldHb ldKb stHb stKb st_int ld_int p_load p_store ev region_plan noHs0 noK0)
open Go.Proofs.YtccjelpfmkbmiaaGreatDoor.Ha (region_planK pl_full putD w_skip)
set_option maxRecDepth 100000

theorem infX : (Tryz.prog.info? 53).map (·.size) = some 6 := by kernel_rfl
def zX : List Value := [.bool false, .bool false, .bool false, .int .i64 0, .int .i64 0, .int .i64 0]
structure Hr (w0 : World) (VS : List Value) (ia is : Nat) (x : Nat) (l : Nat → Bool) (W : World) : Prop where
  bel : Below w0.heap.size w0 W
  box : l ia = true → w0.heap.size ≤ x ∧ Box W x (sel (l is) VS zX)
  k : l is = true → l ia = true
section
variable {w0 W W' : World} {VS : List Value} {ia is x q : Nat} {l : Nat → Bool}
theorem hr_start (w0 : World) (VS : List Value) (ia is x : Nat) : Hr w0 VS ia is x (fun _ => false) w0.drew := ⟨⟨rfl, rfl, rfl, Nat.le_refl _, fun _ _ => rfl⟩, fun e => (by cases e), fun e => (by cases e)⟩
theorem Hr.next (h : Hr w0 VS ia is x l W) (hb : Below W.heap.size W W') : Hr w0 VS ia is x l W' := ⟨h.bel.trans (hb.mono h.bel.size), fun e => ⟨(h.box e).1, (h.box e).2.next hb⟩, h.k⟩
theorem Hr.pure (h : Hr w0 VS ia is x l W) (h1 : ¬ q = ia) (h2 : ¬ q = is) : Hr w0 VS ia is x (Ls.upd l q true) W :=
  ⟨h.bel, by rw [Ls.upd_other _ _ (fun e => h1 e.symm), Ls.upd_other _ _ (fun e => h2 e.symm)]; exact h.box, by rw [Ls.upd_other _ _ (fun e => h1 e.symm), Ls.upd_other _ _ (fun e => h2 e.symm)]; exact h.k⟩
theorem Hr.lay (h : Hr w0 VS ia is x l W) (hl : l ia = false) (hne : ¬ is = ia := by decide) : Hr w0 VS ia is W.heap.size (Ls.upd l ia true) (W.alloc (.cells zX.toArray 53)) := by
  have hs : l is = false := nt fun e => by rw [h.k e] at hl; cases hl
  refine ⟨h.bel.alloc h.bel.size _, fun _ => ⟨h.bel.size, ?_⟩, fun _ => upd_same _ _⟩
  rw [Ls.upd_other _ _ hne, hs]
  exact Box.new W zX _
theorem Hr.box0 (h : Hr w0 VS ia is x l W) (ha : l ia = true) (hs : l is = false) : Box W x zX := by
  have := (h.box ha).2
  rw [hs] at this
  exact this
theorem Hr.run (h : Hr w0 VS ia is x l W) (ha : l ia = true) (hs : l is = false) (hv : VS.length = 6) (h1 : VS.toArray.all (·.oneCell') = true := by kernel_rfl) : (Instr.storeAt 53 (.pointer (some ⟨x, 0, none⟩)) (.agg VS.toArray)).run Tryz.prog W = .ok () (puts x 0 VS W) :=
  Mu.st (h.box0 ha hs) (by rw [hv]; exact Nat.le_refl 6) _ (by rw [hv]; exact infX) h1
theorem Hr.put (h : Hr w0 VS ia is x l W) (ha : l ia = true) (hs : l is = false) (hv : VS.length = 6) (hne : ¬ ia = is := by decide) : Hr w0 VS ia is x (Ls.upd l is true) (puts x 0 VS W) := by
  have hb := Mu.box_all (us := VS) (h.box0 ha hs) (by rw [hv]; rfl)
  refine ⟨below_puts x (h.box ha).1 VS 0 _ h.bel, fun _ => ⟨(h.box ha).1, ?_⟩, fun _ => by rw [Ls.upd_other _ _ hne]; exact ha⟩
  rw [upd_same]
  exact hb
theorem Hr.done (h : Hr w0 VS ia is x l W) (ha : l ia = true) (hs : l is = true) : Below w0.heap.size w0 W ∧ w0.heap.size ≤ x ∧ Box W x VS := by
  have hb := (h.box ha).2
  rw [hs] at hb
  exact ⟨h.bel, (h.box ha).1, hb⟩
end
end Go.Proofs.YtccjelpfmkbmiaaGreatDoor.Tr
end
section
namespace Go.Proofs.YtccjelpfmkbmiaaGreatDoor.Tr
open Go.Proofs.YtccjelpfmkbmiaaGreatDoor Go.Proofs.YtccjelpfmkbmiaaGreatDoor.Rt
open Go.RowKit
open Go.Proofs.YtccjelpfmkbmiaaGreatDoor.Mu (hv kv w_load w_store w_loadg ldHb ldKb stHb stKb st_int ld_int p_load p_store ev region_plan noHs0 noK0)
open Go.Proofs.YtccjelpfmkbmiaaGreatDoor.Ha (region_planK pl_full putD w_skip)
set_option maxRecDepth 100000

/-- Of a black object: none of its fields is a white one's. -/
def ledB (s : Hs) (d : Hd_) (mj : Bool) (ep y : Int) : Bool := !decide (colQ s d mj ep y = 3) || (List.range (nOf (wd d y)).toNat).all fun j => !decide (colQ s d mj ep (wd d (y + 1 + (j : Int))) = 1)
def ledI (s : Hs) (d : Hd_) (mj : Bool) (ep : Int) : Int := if (usedL s d).all (ledB s d mj ep) = true then 0 else 1
end Go.Proofs.YtccjelpfmkbmiaaGreatDoor.Tr
end
section
namespace Go.Proofs.YtccjelpfmkbmiaaGreatDoor.Tr
open Go.Proofs.YtccjelpfmkbmiaaGreatDoor Go.Proofs.YtccjelpfmkbmiaaGreatDoor.Rt
open Go.RowKit
open Go.Proofs.YtccjelpfmkbmiaaGreatDoor.Mu (hv kv w_load w_store w_loadg ldHb ldKb stHb stKb st_int ld_int p_load p_store ev region_plan noHs0 noK0)
set_option maxRecDepth 100000

/-- .. but for the work list. -/
def kn0 (k : Sh.Ks) (y : Int) : Bool := k.ov || (decide (y = k.pa) || decide (¬ k.ps = 0 ∧ k.ps < y))
def knT (k : Sh.Ks) (xs : List Int) (y : Int) (t : Nat) : Bool := kn0 k y || (xs.take t).any fun x => decide (x = y)
theorem kn_zero (k : Sh.Ks) (xs : List Int) (y : Int) : knT k xs y 0 = kn0 k y := by simp [knT]
theorem kn_next {k : Sh.Ks} {xs : List Int} {y : Int} {t : Nat} (h : t < xs.length) : knT k xs y (t + 1) = (knT k xs y t || decide (xs.getD t 0 = y)) := by
  unfold knT
  rw [List.take_succ_eq_append_getElem h, List.any_append]
  simp [List.getD, h, Bool.or_assoc]
theorem kn_end (k : Sh.Ks) (xs : List Int) (y : Int) : knT k xs y xs.length = knowB k xs y := by
  unfold knT kn0 knowB
  rw [List.take_length, Bool.or_assoc, Bool.or_assoc]
  congr 3
  rw [Bool.eq_iff_iff, List.any_eq_true, decide_eq_true_eq]
  constructor
  · rintro ⟨x, h1, h2⟩
    rw [← of_decide_eq_true h2]
    exact h1
  · exact fun h => ⟨y, h, decide_eq_true rfl⟩
theorem all_more {p : Int → Bool} {G : List Int} {q : Nat} (h : q < G.length) (h1 : (G.take q).all p = true) (h2 : p (G.getD q 0) = true) : (G.take (q + 1)).all p = true := by
  rw [List.take_succ_eq_append_getElem h, List.all_append, h1]
  have e : G.getD q 0 = G[q] := by simp [List.getD, h]
  rw [e] at h2
  simp [h2]
theorem all_not {p : Int → Bool} {G : List Int} {q : Nat} (h : q < G.length) (h2 : p (G.getD q 0) = false) : G.all p = false := by
  have e : G.getD q 0 = G[q] := by simp [List.getD, h]
  rw [e] at h2
  rw [Bool.eq_false_iff]
  intro hh
  have := List.all_eq_true.1 hh G[q] (List.getElem_mem h)
  rw [h2] at this
  cases this
def knownI (k : Sh.Ks) (xs G : List Int) : Int := if G.all (knowB k xs) = true then 0 else 1
set_option maxHeartbeats 8000000 in
theorem known_core (n : Q2) (w : World) (G : List Int) (hG : G.length ≤ 512) (hn : Hold w n) (hx : n.xs.length ≤ 999000) (hC : ∀ W, Hold W n → Calls Tryz.prog 35 #[(.agg #[.slice n.s.w.a n.s.w.n n.s.w.c, .slice n.s.p.a n.s.p.n n.s.p.c, .slice (n.s.u 0).a (n.s.u 0).n (n.s.u 0).c, .slice (n.s.u 1).a (n.s.u 1).n (n.s.u 1).c, .slice (n.s.u 2).a (n.s.u 2).n (n.s.u 2).c, .slice n.s.c.a n.s.c.n n.s.c.c]), (.agg #[.int .i64 n.k.ph, .int .i64 n.k.ep, .bool n.k.mj, .slice n.k.wk.a n.k.wk.n n.k.wk.c, .bool n.k.ov, .int .i64 n.k.pa, .int .i64 n.k.pf, .int .i64 n.k.ps, .int .i64 n.k.pc, .bool n.k.me])] W (Ls.AllOut W G)) :
    Calls Tryz.prog 25 #[(.agg #[.slice n.s.w.a n.s.w.n n.s.w.c, .slice n.s.p.a n.s.p.n n.s.p.c, .slice (n.s.u 0).a (n.s.u 0).n (n.s.u 0).c, .slice (n.s.u 1).a (n.s.u 1).n (n.s.u 1).c, .slice (n.s.u 2).a (n.s.u 2).n (n.s.u 2).c, .slice n.s.c.a n.s.c.n n.s.c.c]), (.agg #[.int .i64 n.k.ph, .int .i64 n.k.ep, .bool n.k.mj, .slice n.k.wk.a n.k.wk.n n.k.wk.c, .bool n.k.ov, .int .i64 n.k.pa, .int .i64 n.k.pf, .int .i64 n.k.ps, .int .i64 n.k.pc, .bool n.k.me])] w fun e w' => e = .returned (.int .i64 (knownI n.k n.xs G)) ∧ Below w.heap.size w w' := by
  have HN := Lib.hid hn
  have HC := Lib.hid hC
  have HX := Lib.hid hx
  have HL : Hid (n.k.wk.n = n.xs.length) := Lib.hid hn.c.len
  obtain ⟨gn0, hgn⟩ : ∃ q, G.length = q := ⟨_, rfl⟩
  rw [hgn] at hG
  have HG := Lib.hid hgn
  clear hn hC hx hgn
  go_enter Tryz.func25, Tryz.ntmps25
  go_upto_region 1 with fail
  obtain ⟨W1, hW1⟩ : ∃ W1, W1 = ((w.alloc (.cells #[.slice n.s.w.a n.s.w.n n.s.w.c, .slice n.s.p.a n.s.p.n n.s.p.c, .slice (n.s.u 0).a (n.s.u 0).n (n.s.u 0).c, .slice (n.s.u 1).a (n.s.u 1).n (n.s.u 1).c, .slice (n.s.u 2).a (n.s.u 2).n (n.s.u 2).c, .slice n.s.c.a n.s.c.n n.s.c.c] 28)).alloc (.cells #[.int .i64 n.k.ph, .int .i64 n.k.ep, .bool n.k.mj, .slice n.k.wk.a n.k.wk.n n.k.wk.c, .bool n.k.ov, .int .i64 n.k.pa, .int .i64 n.k.pf, .int .i64 n.k.ps, .int .i64 n.k.pc, .bool n.k.me] 30)) := ⟨_, rfl⟩
  have S1 : Hid (Wn 2 w W1 (p4 w.heap.size (w.heap.size + 1) (w.heap.size + 2) (w.heap.size + 3)) (c4 (hv n.s) (kv n.k) [] []) [n]) := Lib.hid (by
    rw [hW1]
    exact (wn_of (c := (c4 (hv n.s) (kv n.k) [] [])) (((lay_none w).add (hv n.s) 28).add (kv n.k) 30) (by decide) (all2 ⟨rfl, rfl⟩)).old HN.out)
  rw [← hW1]
  clear hW1
  go_upto_region 2 with (first
    | (refine w_load (ldHb (show Box _ (w.heap.size) (hv n.s) from S1.out.box 0 (by decide))) rfl rfl rfl rfl ?_)
    | (refine w_load (ldKb (show Box _ (w.heap.size + 1) (kv n.k) from S1.out.box 1 (by decide))) rfl rfl rfl rfl ?_)
    | ((go_at_call 35); (with_reducible refine (HC.out _ (S1.out.at n (by simp))).mono ?_); rintro e9 w2 ⟨⟨va, vn, vc⟩, rfl, ho, hb2⟩; have S2 := Lib.hid (S1.out.next hb2); have OH := Lib.hid ho; clear ho hb2))
  obtain rfl : vn = gn0 := by have h1 := OH.out.1; have h2 := HG.out; simp only [List.length_map] at h1; omega
  have R2 := Lib.hid (Sh.row_of (v := ⟨va, vn, vc⟩) OH.out)
  clear S1 HC OH
  go_wp2
  go_loopg [6] vn (fun g i wr => ∃ q : Nat, q + g = vn ∧ i = .int .i64 q ∧ Hid (Below w2.heap.size w2 wr ∧ (G.take q).all (knowB n.k n.xs) = true))
  case atStart => exact ⟨0, by omega, rfl, Lib.hid ⟨Below.refl _ _, by simp⟩⟩
  case round =>
    obtain ⟨q, hq, rfl, HA⟩ := hrel
    have LA := Lib.hid (S2.out.next HA.out.1)
    obtain ⟨wo, rfl⟩ : ∃ wo : World, wo = wr := ⟨_, rfl⟩
    obtain ⟨go, rfl⟩ : ∃ go : Nat, go = gk := ⟨_, rfl⟩
    have HJ := Lib.hid hq
    have hq1 : q ≤ vn := by omega
    clear hq
    by_cases hlt : q < vn
    · have d0 : decide ((q : Int) < vn) = true := decide_eq_true (by omega)
      have HQ : Hid (q < G.length) := Lib.hid (by have := HG.out; omega)
      obtain ⟨b, off, rfl, hbl', hcell⟩ := (Row.below R2.out HA.out.1).2 (by omega)
      have hy0 := hcell q hlt
      have hbl : b < wo.heap.size := by have := HA.out.1.size; omega
      obtain ⟨y, hy⟩ : ∃ y, y = G.getD q 0 := ⟨_, rfl⟩
      rw [← hy] at hy0
      have HY := Lib.hid hy
      clear hcell hy hbl'
      have p4 := (show Box _ (w.heap.size + 1) (kv n.k) from LA.out.box 1 (by decide)).cel 4 (.bool n.k.ov) rfl
      have p5 := (show Box _ (w.heap.size + 1) (kv n.k) from LA.out.box 1 (by decide)).cel 5 (.int .i64 n.k.pa) rfl
      have p7 := (show Box _ (w.heap.size + 1) (kv n.k) from LA.out.box 1 (by decide)).cel 7 (.int .i64 n.k.ps) rfl
      have pl := (show Box _ (w.heap.size + 1) (kv n.k) from LA.out.box 1 (by decide)).lt
      obtain ⟨z, hz⟩ : ∃ z, z = kn0 n.k y := ⟨_, rfl⟩
      have HZ0 := Lib.hid hz
      go_upto_region 5 with fail
      go_cut [7] from 12 to 64 (fun v wc => v = .bool z ∧ Hid (Below wo.heap.size wo wc))
      case first =>
        obtain ⟨ov, hov⟩ : ∃ ov, n.k.ov = ov := ⟨_, rfl⟩
        rw [hov] at p4
        cases ov
        · by_cases h1 : y = n.k.pa
          · have e1 : decide (y = n.k.pa) = true := decide_eq_true h1
            have e2 : (y == n.k.pa) = true := e1
            have hzt : z = true := by rw [hz]; simp [kn0, h1]
            have HZ1 := Lib.hid hzt
            clear h1 hz hov hzt
            go_quiet (fail)
            all_goals try go_wp2_with fail
            all_goals go_meet
            all_goals exact ⟨by rw [HZ1.out], (by first | exact Lib.hid (Below.refl _ _) | exact Lib.hid (below_drawn' (Below.refl _ _) _) | exact Lib.hid ⟨rfl, rfl, rfl, Nat.le_refl _, fun _ _ => rfl⟩)⟩
          · have e1 : decide (y = n.k.pa) = false := decide_eq_false h1
            have e2 : (y == n.k.pa) = false := e1
            by_cases h2 : n.k.ps = 0
            · have e3 : decide (n.k.ps = 0) = true := decide_eq_true h2
              have e4 : (n.k.ps == 0) = true := e3
              have e5 : (n.k.ps != 0) = false := by rw [bne, e4]; rfl
              have hzt : z = false := by rw [hz]; simp [kn0, h1, h2, hov]
              have HZ1 := Lib.hid hzt
              clear h1 h2 hz hov hzt
              go_quiet (fail)
              all_goals try go_wp2_with fail
              all_goals go_meet
              all_goals exact ⟨by rw [HZ1.out], (by first | exact Lib.hid (Below.refl _ _) | exact Lib.hid (below_drawn' (Below.refl _ _) _) | exact Lib.hid ⟨rfl, rfl, rfl, Nat.le_refl _, fun _ _ => rfl⟩)⟩
            · have e3 : decide (n.k.ps = 0) = false := decide_eq_false h2
              have e4 : (n.k.ps == 0) = false := e3
              have e5 : (n.k.ps != 0) = true := by rw [bne, e4]; rfl
              by_cases h3 : n.k.ps < y
              · have e6 : decide (n.k.ps < y) = true := decide_eq_true h3
                have e7 : decide (y > n.k.ps) = true := e6
                have hzt : z = true := by rw [hz]; simp [kn0, h2, h3]
                have HZ1 := Lib.hid hzt
                clear h1 h2 h3 hz hov hzt
                go_quiet (fail)
                all_goals try go_wp2_with fail
                all_goals go_meet
                all_goals exact ⟨by rw [HZ1.out], (by first | exact Lib.hid (Below.refl _ _) | exact Lib.hid (below_drawn' (Below.refl _ _) _) | exact Lib.hid ⟨rfl, rfl, rfl, Nat.le_refl _, fun _ _ => rfl⟩)⟩
              · have e6 : decide (n.k.ps < y) = false := decide_eq_false h3
                have e7 : decide (y > n.k.ps) = false := e6
                have hzt : z = false := by rw [hz]; simp [kn0, h1, h3, hov]
                have HZ1 := Lib.hid hzt
                clear h1 h2 h3 hz hov hzt
                go_quiet (fail)
                all_goals try go_wp2_with fail
                all_goals go_meet
                all_goals exact ⟨by rw [HZ1.out], (by first | exact Lib.hid (Below.refl _ _) | exact Lib.hid (below_drawn' (Below.refl _ _) _) | exact Lib.hid ⟨rfl, rfl, rfl, Nat.le_refl _, fun _ _ => rfl⟩)⟩
        · have hzt : z = true := by rw [hz]; simp [kn0, hov]
          have HZ1 := Lib.hid hzt
          clear hz hov hzt
          go_quiet (fail)
          all_goals try go_wp2_with fail
          all_goals go_meet
          all_goals exact ⟨by rw [HZ1.out], (by first | exact Lib.hid (Below.refl _ _) | exact Lib.hid (below_drawn' (Below.refl _ _) _) | exact Lib.hid ⟨rfl, rfl, rfl, Nat.le_refl _, fun _ _ => rfl⟩)⟩
      case rest =>
        obtain ⟨rfl, HB⟩ := hcut
        have hy0H := Lib.hid hy0
        clear p4 p5 p7 pl hy0 hz
        go_wp2
        go_loopg [7, 8] n.xs.length (fun g v i wi => ∃ t : Nat, t + g = n.xs.length ∧ v = .bool (knT n.k n.xs y t) ∧ i = .int .i64 t ∧ Hid (Below wo.heap.size wo wi))
        case atStart => exact ⟨0, by omega, by rw [kn_zero, ← HZ0.out], rfl, HB⟩
        case round =>
          obtain ⟨t, ht, rfl, rfl, HB2⟩ := hrel
          have LB := Lib.hid (LA.out.next HB2.out)
          have HT := Lib.hid ht
          have hy2 := (HB2.out.cell (p := ⟨b, off + q, none⟩) hbl).trans (hy0H.out)
          have hbl2 : b < wr.heap.size := Nat.lt_of_lt_of_le hbl HB2.out.size
          obtain ⟨zt, hzt⟩ : ∃ zt, zt = knT n.k n.xs y t := ⟨_, rfl⟩
          have HZT := Lib.hid hzt
          rw [← hzt]
          clear hzt ht
          have HLL := HL.out
          by_cases htm : t < n.xs.length
          · have HTM := Lib.hid htm
            obtain ⟨bw, ow, ea, hbw, hcw⟩ := (LB.out.at n (by simp)).c.2 (by omega)
            have hx1 := hcw t (by omega)
            have p3 : wr.cell? ⟨w.heap.size + 1, 3, none⟩ = some (.slice (some ⟨bw, ow, none⟩) n.k.wk.n n.k.wk.c) := by rw [← ea]; exact (show Box _ (w.heap.size + 1) (kv n.k) from LB.out.box 1 (by decide)).cel 3 _ rfl
            have pl := (show Box _ (w.heap.size + 1) (kv n.k) from LB.out.box 1 (by decide)).lt
            obtain ⟨x, hx⟩ : ∃ x, x = n.xs.getD t 0 := ⟨_, rfl⟩
            rw [← hx] at hx1
            have HXX := Lib.hid hx
            have d1 : decide ((t : Int) < n.k.wk.n) = true := decide_eq_true (by omega)
            have d2 : (t : Int) < n.k.wk.n := by omega
            have wi : IntKind.i64.wrap ((t : Int) + 1) = (t : Int) + 1 := IntWalk.i64_in _ (by have := HX.out; omega)
            clear hcw hx ea
            cases zt
            · by_cases hxy : x = y
              · have e1 : decide (x = y) = true := decide_eq_true hxy
                have e2 : (x == y) = true := e1
                have HE : Hid (true = knT n.k n.xs y (t + 1)) := Lib.hid (by rw [kn_next HTM.out, ← HXX.out, e1, Bool.or_true])
                clear hxy
                go_upto_region 9 with fail
                go_quiet (fail)
                go_wp2
                go_roundg (gk - 1)
                case rel => exact ⟨t + 1, by have := HT.out; omega, by rw [← HE.out], by have := HX.out; have := HTM.out; go_num, Lib.hid (HB2.out.trans ((below_drawn' (Below.refl _ _) nq).mono HB2.out.size))⟩
                case measure => have := HT.out; have := HTM.out; omega
              · have e1 : decide (x = y) = false := decide_eq_false hxy
                have e2 : (x == y) = false := e1
                have HE : Hid (false = knT n.k n.xs y (t + 1)) := Lib.hid (by rw [kn_next HTM.out, ← HXX.out, e1, ← HZT.out]; rfl)
                clear hxy
                go_upto_region 9 with fail
                go_quiet (fail)
                go_wp2
                go_roundg (gk - 1)
                case rel => exact ⟨t + 1, by have := HT.out; omega, by rw [← HE.out], by have := HX.out; have := HTM.out; go_num, Lib.hid (HB2.out.trans ((below_drawn' (Below.refl _ _) nq).mono HB2.out.size))⟩
                case measure => have := HT.out; have := HTM.out; omega
            · have HE : Hid (true = knT n.k n.xs y (t + 1)) := Lib.hid (by rw [kn_next HTM.out, ← HZT.out, Bool.true_or])
              go_upto_region 9 with fail
              go_quiet (fail)
              go_wp2
              go_roundg (gk - 1)
              case rel => exact ⟨t + 1, by have := HT.out; omega, by rw [← HE.out], by have := HX.out; have := HTM.out; go_num, Lib.hid (HB2.out.trans ((below_drawn' (Below.refl _ _) nq).mono HB2.out.size))⟩
              case measure => have := HT.out; have := HTM.out; omega
          · obtain rfl : t = n.xs.length := by have := HT.out; omega
            have p3 := (show Box _ (w.heap.size + 1) (kv n.k) from LB.out.box 1 (by decide)).cel 3 (.slice n.k.wk.a n.k.wk.n n.k.wk.c) rfl
            have pl := (show Box _ (w.heap.size + 1) (kv n.k) from LB.out.box 1 (by decide)).lt
            have d1 : decide (((n.xs.length : Nat) : Int) < n.k.wk.n) = false := decide_eq_false (by omega)
            have hkb : zt = knowB n.k n.xs y := HZT.out.trans (kn_end n.k n.xs y)
            have HKB := Lib.hid hkb
            clear hkb
            cases zt
            · have HE : Hid (knownI n.k n.xs G = 1) := Lib.hid (if_neg (by rw [all_not HQ.out (by rw [← HY.out]; exact HKB.out.symm)]; decide))
              go_wp2
              go_ret
              exact ⟨(by rw [HE.out]; first | done | rfl), LB.out.bel⟩
            · have HE := Lib.hid (all_more HQ.out HA.out.2 (by rw [← HY.out]; exact HKB.out.symm))
              go_wp2
              go_roundg (go - 1)
              case rel => exact ⟨q + 1, by have := HJ.out; omega, by go_num, Lib.hid ⟨HA.out.1.trans (HB2.out.mono HA.out.1.size), HE.out⟩⟩
              case measure => have := HJ.out; omega
    · obtain rfl : q = vn := by omega
      have d0 : decide ((q : Int) < q) = false := by simp
      have HE : Hid (knownI n.k n.xs G = 0) := Lib.hid (if_pos (by have h := HA.out.2; rwa [List.take_of_length_le (by have := HG.out; omega)] at h))
      go_wp2
      go_ret
      exact ⟨(by rw [HE.out]; first | done | rfl), LA.out.bel⟩
end Go.Proofs.YtccjelpfmkbmiaaGreatDoor.Tr
end
section
namespace Go.Proofs.YtccjelpfmkbmiaaGreatDoor.Tr
open Go.Proofs.YtccjelpfmkbmiaaGreatDoor Go.Proofs.YtccjelpfmkbmiaaGreatDoor.Sh
set_option maxRecDepth 100000

section
variable {s t : Hs} {d d' : Hd_} {k : Ks} {xs : List Int} {mj : Bool} {ep a y q : Int} {P : Int → Prop}
/-- An object's fields lie apart from where objects begin. -/
theorem fld_apart {u v j : Int} (hu : u ∈ usedL s d) (hv : v ∈ usedL s d) (h0 : 0 ≤ j) (h1 : j < nOf (wd d u)) : ¬ u + 1 + j = v := fun e => by
  have f := fld_in (used_E hu)
  have mem : ∀ z, z ∈ usedL s d → ∃ c, c ∈ Cl.allL d.f s.p.n ∧ c.1 = z := fun z hz => by
    unfold usedL at hz
    split at hz
    · obtain ⟨c, hc, e⟩ := List.mem_map.1 (List.mem_filter.1 hz).1
      exact ⟨c, hc, e⟩
    · cases hz
  obtain ⟨c, hc, ec⟩ := mem u hu
  obtain ⟨c', hc', ec'⟩ := mem v hv
  have hb := Cl.bg_cell hc
  rw [ec] at hb
  have ap := Cl.allL_apart d.f s.p.n
  obtain ⟨i, hi, rfl⟩ := List.mem_iff_getElem.1 hc
  obtain ⟨i', hi', rfl⟩ := List.mem_iff_getElem.1 hc'
  have r := (ap.2 _ hc').2
  rcases Nat.lt_trichotomy i i' with h | h | h
  · have := List.pairwise_iff_getElem.1 ap.1 i i' hi hi' h
    omega
  · subst h; omega
  · have := List.pairwise_iff_getElem.1 ap.1 i' i hi' hi h
    omega
theorem sh_wd (hlen : d.ws.length = s.w.n) (hy : 16 ≤ y) (h : ¬ (isC s d mj ep a 1 = true ∧ y = a)) : wd (shD s d mj ep a) y = wd d y := by
  unfold shD
  split
  · next hc =>
    obtain ⟨h1, h2, _⟩ := isC_iff.1 hc
    exact (hd_turned (lens_refl s) hlen h2 false h1.1 h1.2).oth y hy fun e => h ⟨hc, e⟩
  · rfl
theorem bl_wd (hlen : d.ws.length = s.w.n) (hy : 16 ≤ y) (h : ¬ (isC s d mj ep a 2 = true ∧ y = a)) : wd (blD s d mj ep a) y = wd d y := by
  unfold blD
  split
  · next hc =>
    obtain ⟨_, h2, _⟩ := isC_iff.1 hc
    have p := (obj_of h2).parts
    exact (hd_turned (lens_refl s) hlen h2 true p.2.2.2.2.1 p.2.2.2.2.2).oth y hy fun e => h ⟨hc, e⟩
  · rfl
theorem sh_nof (hlen : d.ws.length = s.w.n) (hy : 16 ≤ y) : nOf (wd (shD s d mj ep a) y) = nOf (wd d y) := by
  unfold shD
  split
  · next hc =>
    obtain ⟨h1, h2, _⟩ := isC_iff.1 hc
    exact ((hd_turned (lens_refl s) hlen h2 false h1.1 h1.2).word hy).2.2.1
  · rfl
theorem bl_nof (hlen : d.ws.length = s.w.n) (hy : 16 ≤ y) : nOf (wd (blD s d mj ep a) y) = nOf (wd d y) := by
  unfold blD
  split
  · next hc =>
    obtain ⟨_, h2, _⟩ := isC_iff.1 hc
    have p := (obj_of h2).parts
    exact ((hd_turned (lens_refl s) hlen h2 true p.2.2.2.2.1 p.2.2.2.2.2).word hy).2.2.1
  · rfl
theorem sh_used (hlen : d.ws.length = s.w.n) (mj : Bool) (ep a : Int) : usedL s (shD s d mj ep a) = usedL s d := (kin_sh (lens_refl s) hlen mj ep a).used
theorem bl_used (hlen : d.ws.length = s.w.n) (mj : Bool) (ep a : Int) : usedL s (blD s d mj ep a) = usedL s d := (kin_bl (lens_refl s) hlen mj ep a).used
theorem grey_used (h : isC s d mj ep a q = true) : a ∈ usedL s d := (obj_of (isC_iff.1 h).2.1).used
/-- No black object leads to a white one. -/
def Led (s : Hs) (d : Hd_) (mj : Bool) (ep : Int) : Prop := ∀ u, isC s d mj ep u 3 = true → ∀ j, 0 ≤ j → j < nOf (wd d u) → ¬ isC s d mj ep (wd d (u + 1 + j)) 1 = true
theorem led_iff : ledI s d mj ep = 0 ↔ Led s d mj ep := by
  have e : (usedL s d).all (ledB s d mj ep) = true ↔ Led s d mj ep := by
    rw [List.all_eq_true]
    constructor
    · intro h u hu j h0 h1 hw
      have hb := h u (grey_used hu)
      unfold ledB at hb
      rw [decide_eq_true ((col_is (by decide)).2 hu)] at hb
      simp only [Bool.not_true, Bool.false_or] at hb
      have := List.all_eq_true.1 hb j.toNat (by simp; omega)
      rw [show ((j.toNat : Nat) : Int) = j by omega, decide_eq_true ((col_is (by decide)).2 hw)] at this
      cases this
    · intro h u hu
      unfold ledB
      by_cases h3 : colQ s d mj ep u = 3
      · rw [Bool.or_eq_true]
        refine .inr (List.all_eq_true.2 fun j hj => ?_)
        have hj' : j < (nOf (wd d u)).toNat := by simpa using hj
        have := h u ((col_is (by decide)).1 h3) j (by omega) (by omega)
        rw [decide_eq_false (fun e => this ((col_is (by decide)).1 e))]
        rfl
      · rw [decide_eq_false h3]
        rfl
  unfold ledI
  split
  · next h => exact ⟨fun _ => e.1 h, fun _ => rfl⟩
  · next h => exact ⟨fun hh => absurd hh (by decide), fun hh => absurd (e.2 hh) h⟩
/-- No black object of a kind leads to a white one. -/
def LedP (P : Int → Prop) (s : Hs) (d : Hd_) (mj : Bool) (ep : Int) : Prop := ∀ u, P u → isC s d mj ep u 3 = true → ∀ j, 0 ≤ j → j < nOf (wd d u) → ¬ isC s d mj ep (wd d (u + 1 + j)) 1 = true
/-- What stands between steps. -/
structure InvP (P : Int → Prop) (s : Hs) (d : Hd_) (k : Ks) (xs : List Int) : Prop where
  known : Known s d k xs
  led : LedP P s d k.mj k.ep
  pf : 0 ≤ k.pf
  at_ : isC s d k.mj k.ep k.pa 2 = true → k.pf < nOf (wd d k.pa) ∧ ∀ j, 0 ≤ j → j < k.pf → ¬ isC s d k.mj k.ep (wd d (k.pa + 1 + j)) 1 = true
abbrev Inv (s : Hs) (d : Hd_) (k : Ks) (xs : List Int) : Prop := InvP (fun _ => True) s d k xs
theorem isC_zero : ¬ isC s d mj ep 0 q = true := fun h => by have := (obj_of (isC_iff.1 h).2.1).lo; omega
theorem wh_zero {k : Ks} {xs : List Int} (h : wh k xs = 0) : ¬ k.pa = 0 := fun e => by
  unfold wh at h
  rw [if_neg (fun hh => hh e)] at h
  split at h
  · omega
  · split at h
    · omega
    · split at h <;> omega
theorem wh_pos {k : Ks} {xs : List Int} (h : ¬ wh k xs = 0) : k.pa = 0 := Classical.byContradiction fun hh => h (by unfold wh; rw [if_pos hh])
theorem wh_one {k : Ks} {xs : List Int} (h : wh k xs = 1) : 0 < xs.length := by
  unfold wh at h
  split at h
  · omega
  · split at h
    · assumption
    · split at h
      · omega
      · split at h <;> omega
theorem wh_two {k : Ks} {xs : List Int} (h : wh k xs = 2) : ¬ k.ps = 0 ∧ xs.length = 0 := by
  unfold wh at h
  split at h
  · omega
  · split at h
    · omega
    · split at h
      · next h1 h2 h3 => exact ⟨h3, by omega⟩
      · split at h <;> omega
theorem wh_three {k : Ks} {xs : List Int} (h : wh k xs = 3) : k.ov = true ∧ k.ps = 0 ∧ xs.length = 0 := by
  unfold wh at h
  split at h
  · omega
  · split at h
    · omega
    · split at h
      · omega
      · split at h
        · next h1 h2 h3 h4 => exact ⟨h4, by omega, by omega⟩
        · omega
theorem wh_four {k : Ks} {xs : List Int} (h : wh k xs = 4) : k.ov = false ∧ k.ps = 0 ∧ k.pa = 0 ∧ xs = [] := by
  unfold wh at h
  split at h
  · omega
  · split at h
    · omega
    · split at h
      · omega
      · split at h
        · omega
        · next h1 h2 h3 h4 => exact ⟨by simpa using h4, by omega, by omega, List.eq_nil_of_length_eq_zero (by omega)⟩
/-- The step, by its kinds. -/
theorem on_0 (h : wh k xs = 0) : onR s d k xs = fieldR s d k xs := if_pos h
theorem on_1 (h : wh k xs = 1) : onR s d k xs = takeR d k xs := (if_neg (by omega)).trans (if_pos h)
theorem on_2 (h : wh k xs = 2) : onR s d k xs = seekR s d k xs := (if_neg (by omega)).trans ((if_neg (by omega)).trans (if_pos h))
theorem on_3 (h : wh k xs = 3) : onR s d k xs = ⟨d, kv1 k, xs⟩ := (if_neg (by omega)).trans ((if_neg (by omega)).trans ((if_neg (by omega)).trans (if_pos h)))
theorem on_4 (h : wh k xs = 4) : onR s d k xs = ⟨d, kend k, xs⟩ := (if_neg (by omega)).trans ((if_neg (by omega)).trans ((if_neg (by omega)).trans (if_neg (by omega))))
theorem known_step' (hlen : d.ws.length = s.w.n) (hm : mayB0 s d = true) (h5 : k.ph = 5) (hi : InvP P s d k xs) : Known s (stepR s d k xs).d (stepR s d k xs).k (stepR s d k xs).xs := by
  by_cases hg : isC s d k.mj k.ep k.pa 2 = true
  · exact known_step hlen hi.known fun _ => ⟨hi.pf, (hi.at_ hg).1⟩
  · by_cases h0 : wh k xs = 0
    · rw [step_on ⟨hm, h5⟩, on_0 h0]
      have hf : fldN s d k = 0 := if_neg hg
      have e : fieldR s d k xs = ⟨d, kp k 0 0, xs⟩ := if_pos (by rw [hf]; omega)
      rw [e]
      intro z hz
      have hz' : isC s d k.mj k.ep z 2 = true := hz
      refine know_iff.2 ?_
      show k.ov = true ∨ z = 0 ∨ (¬ k.ps = 0 ∧ k.ps < z) ∨ z ∈ xs
      rcases know_iff.1 (hi.known z hz') with h1 | h1 | h1 | h1
      · exact .inl h1
      · rw [h1] at hz'; exact absurd hz' hg
      · exact .inr (.inr (.inl h1))
      · exact .inr (.inr (.inr h1))
    · refine known_step hlen hi.known fun he => ?_
      have hp := wh_pos h0
      rw [hp] at he
      have := (obj_of he).lo
      omega
/-- Shading turns nothing white, nothing black. -/
theorem sh_no {z : Int} (hlen : d.ws.length = s.w.n) (h : isC s (shD s d mj ep a) mj ep z 1 = true) : isC s d mj ep z 1 = true ∧ ¬ (isC s d mj ep a 1 = true ∧ z = a) := by
  rw [sh_col (lens_refl s) hlen] at h
  split at h
  · cases h
  · next hn => exact ⟨h, hn⟩
theorem sh_black {z : Int} (hlen : d.ws.length = s.w.n) (h : isC s (shD s d mj ep a) mj ep z 3 = true) : isC s d mj ep z 3 = true := by
  rw [sh_col (lens_refl s) hlen] at h
  split at h
  · cases h
  · exact h
theorem sh_grey {z : Int} (hlen : d.ws.length = s.w.n) (h : isC s d mj ep z 2 = true) : isC s (shD s d mj ep a) mj ep z 2 = true := by
  rw [sh_col (lens_refl s) hlen]
  split
  · rfl
  · exact h
theorem led_sh (hlen : d.ws.length = s.w.n) (h : LedP P s d mj ep) (a : Int) : LedP P s (shD s d mj ep a) mj ep := by
  intro u hP hu j h0 h1 hw
  have hu' := sh_black hlen hu
  have u16 := (obj_of (isC_iff.1 hu').2.1).lo
  rw [sh_nof hlen u16] at h1
  have ap : ¬ (isC s d mj ep a 1 = true ∧ u + 1 + j = a) := fun hh => fld_apart (grey_used hu') (grey_used hh.1) h0 h1 hh.2
  rw [sh_wd hlen (by omega) ap] at hw
  exact h u hP hu' j h0 h1 (sh_no hlen hw).1
/-- What a field has is not white once it is shaded. -/
theorem sh_fld (hlen : d.ws.length = s.w.n) : ¬ isC s (shD s d mj ep a) mj ep a 1 = true := fun h => by
  obtain ⟨h1, h2⟩ := sh_no hlen h
  exact h2 ⟨h1, rfl⟩
theorem step_inv (hlen : d.ws.length = s.w.n) (hm : mayB0 s d = true) (h5 : k.ph = 5) (hi : InvP P s d k xs) : InvP P s (stepR s d k xs).d (stepR s d k xs).k (stepR s d k xs).xs := by
  have hk := known_step' hlen hm h5 hi
  rw [step_on ⟨hm, h5⟩] at hk ⊢
  rcases wh_cases k xs with e | e | e | e | e
  · rw [on_0 e] at hk ⊢
    unfold fieldR at hk ⊢
    split
    · next hc =>
      rw [if_pos hc] at hk
      exact ⟨hk, hi.led, Int.le_refl 0, fun h => absurd h isC_zero⟩
    · next hc =>
      rw [if_neg hc] at hk
      have hg : isC s d k.mj k.ep k.pa 2 = true := Classical.byContradiction fun hh => by
        have : fldN s d k = 0 := if_neg hh
        omega
      have hN : fldN s d k = nOf (wd d k.pa) := if_pos hg
      have p16 := (obj_of (isC_iff.1 hg).2.1).lo
      obtain ⟨_, hat⟩ := hi.at_ hg
      have hg' := sh_grey (a := fldV d k) hlen hg
      have hl' := led_sh hlen hi.led (fldV d k)
      -- the fields behind the one at hand
      have fl : ∀ j, 0 ≤ j → j < k.pf + 1 → ¬ isC s (shD s d k.mj k.ep (fldV d k)) k.mj k.ep (wd (shD s d k.mj k.ep (fldV d k)) (k.pa + 1 + j)) 1 = true := fun j h0 h1 hw => by
        have ap : ¬ (isC s d k.mj k.ep (fldV d k) 1 = true ∧ k.pa + 1 + j = fldV d k) := fun hh => fld_apart (grey_used hg) (grey_used hh.1) h0 (by omega) hh.2
        rw [sh_wd hlen (by omega) ap] at hw
        by_cases ej : j = k.pf
        · subst ej
          exact sh_fld hlen hw
        · exact hat j h0 (by omega) (sh_no hlen hw).1
      have hlen' : (shD s d k.mj k.ep (fldV d k)).ws.length = s.w.n := by rw [sh_len]; exact hlen
      split
      · next hl =>
        rw [if_pos hl] at hk
        refine ⟨hk, ?_, Int.le_refl 0, fun h => absurd h isC_zero⟩
        show LedP P s (blD s (shD s d k.mj k.ep (fldV d k)) k.mj k.ep k.pa) k.mj k.ep
        intro u hP hu j h0 h1 hw
        rw [bl_col (lens_refl s) hlen'] at hu hw
        have u16 : 16 ≤ u := by
          split at hu
          · next hh => rw [hh.2]; exact p16
          · exact (obj_of (isC_iff.1 hu).2.1).lo
        rw [bl_nof hlen' u16] at h1
        have uu : u ∈ usedL s (shD s d k.mj k.ep (fldV d k)) := by
          split at hu
          · next hh => rw [hh.2]; exact grey_used hg'
          · exact grey_used hu
        have ap : ¬ (isC s (shD s d k.mj k.ep (fldV d k)) k.mj k.ep k.pa 2 = true ∧ u + 1 + j = k.pa) := fun hh => fld_apart uu (grey_used hg') h0 h1 hh.2
        rw [bl_wd hlen' (by omega) ap] at hw
        split at hw
        · cases hw
        · split at hu
          · next hh =>
            rw [hh.2] at hw h1
            rw [sh_nof hlen p16] at h1
            exact fl j h0 (by omega) hw
          · exact hl' u hP hu j h0 h1 hw
      · next hl =>
        rw [if_neg hl] at hk
        refine ⟨hk, hl', ?_, fun _ => ⟨?_, fl⟩⟩
        · show 0 ≤ k.pf + 1
          have := hi.pf
          omega
        · show k.pf + 1 < nOf (wd (shD s d k.mj k.ep (fldV d k)) k.pa)
          rw [sh_nof hlen p16]
          omega
  · rw [on_1 e] at hk ⊢
    refine ⟨hk, hi.led, Int.le_refl 0, fun h => ?_⟩
    have f := fld_in (isC_iff.1 (show isC s d k.mj k.ep (xs.getD (xs.length - 1) 0) 2 = true from h)).2.1
    exact ⟨by show 0 < nOf (wd d (xs.getD (xs.length - 1) 0)); omega, fun j h0 h1 => absurd h1 (by show ¬ j < 0; omega)⟩
  · rw [on_2 e] at hk ⊢
    have hp := wh_pos (k := k) (xs := xs) (by omega)
    unfold seekR at hk ⊢
    split
    · next hc =>
      rw [if_pos hc] at hk
      refine ⟨hk, hi.led, Int.le_refl 0, fun h => ?_⟩
      have f := fld_in (isC_iff.1 hc).2.1
      exact ⟨by show 0 < nOf (wd d (nxt s d k.ps)); omega, fun j h0 h1 => absurd h1 (by show ¬ j < 0; omega)⟩
    · next hc =>
      rw [if_neg hc] at hk
      exact ⟨hk, hi.led, hi.pf, fun h => by rw [show (kq k (nxt s d k.ps)).pa = 0 from hp] at h; exact absurd h isC_zero⟩
  · rw [on_3 e] at hk ⊢
    have hp := wh_pos (k := k) (xs := xs) (by omega)
    exact ⟨hk, hi.led, hi.pf, fun h => by rw [show (kv1 k).pa = 0 from hp] at h; exact absurd h isC_zero⟩
  · rw [on_4 e] at hk ⊢
    exact ⟨hk, hi.led, Int.le_refl 0, fun h => absurd h isC_zero⟩
end
end Go.Proofs.YtccjelpfmkbmiaaGreatDoor.Tr
end
section
namespace Go.Proofs.YtccjelpfmkbmiaaGreatDoor.Tr
open Go.Proofs.YtccjelpfmkbmiaaGreatDoor Go.Proofs.YtccjelpfmkbmiaaGreatDoor.Sh
set_option maxRecDepth 100000

/-- Cells; those behind an address; what a full work list is worth. -/
def cellsN (s : Hs) (d : Hd_) : Int := ((Cl.allS d.f s.p.n).length : Nat)
def upN (s : Hs) (d : Hd_) (a : Int) : Int := (((Cl.allS d.f s.p.n).filter fun c => decide (a < c)).length : Nat)
def bet (s : Hs) (d : Hd_) : Int := (2 * cellsN s d + 4) / 5
def wgt (s : Hs) (d : Hd_) (B : Int) (mj : Bool) (ep y : Int) : Int := if isC s d mj ep y 1 = true then B + 2 + nOf (wd d y) + 1 else if isC s d mj ep y 2 = true then nOf (wd d y) + 1 else 0
def sumW (s : Hs) (d : Hd_) (B : Int) (mj : Bool) (ep : Int) : Int := ((usedL s d).map (wgt s d B mj ep)).sum
/-- What is left to be done. -/
def left (s : Hs) (d : Hd_) (k : Ks) (xs : List Int) : Int :=
  sumW s d (bet s d) k.mj k.ep + (if k.ov = true then 2 * cellsN s d + 2 else bet s d * (xs.length : Nat)) + 2 * (xs.length : Nat) + (if k.ps = 0 then 0 else 2 * upN s d k.ps + 1) + (if k.pa = 0 then 0 else 1 - (if isC s d k.mj k.ep k.pa 2 = true then k.pf else 0))
theorem sum_turn {f g : Int → Int} {a : Int} : ∀ {l : List Int}, l.Pairwise (· < ·) → a ∈ l → (∀ y ∈ l, ¬ y = a → g y = f y) → (l.map g).sum = (l.map f).sum + (g a - f a)
  | [], _, h, _ => by cases h
  | x :: l, hp, hm, h => by
    rw [List.map_cons, List.map_cons, List.sum_cons, List.sum_cons]
    have hp' := List.pairwise_cons.1 hp
    by_cases e : x = a
    · subst e
      have : l.map g = l.map f := List.map_congr_left fun y hy => h y (by simp [hy]) (by have := hp'.1 y hy; omega)
      rw [this]
      omega
    · have hm' : a ∈ l := by
        rcases List.mem_cons.1 hm with e' | hm
        · exact absurd e'.symm e
        · exact hm
      rw [sum_turn hp'.2 hm' fun y hy => h y (by simp [hy]), h x (by simp) e]
      omega
theorem sum_pos {f : Int → Int} : ∀ {l : List Int}, (∀ y ∈ l, 0 ≤ f y) → 0 ≤ (l.map f).sum
  | [], _ => by simp
  | x :: l, h => by
    rw [List.map_cons, List.sum_cons]
    have := sum_pos (l := l) fun y hy => h y (by simp [hy])
    have := h x (by simp)
    omega
theorem sum_one {f : Int → Int} {a : Int} : ∀ {l : List Int}, (∀ y ∈ l, 0 ≤ f y) → a ∈ l → f a ≤ (l.map f).sum
  | [], _, h => by cases h
  | x :: l, h, hm => by
    rw [List.map_cons, List.sum_cons]
    have h0 := sum_pos (l := l) fun y hy => h y (by simp [hy])
    rcases List.mem_cons.1 hm with e | hm
    · subst e; omega
    · have := sum_one (l := l) (fun y hy => h y (by simp [hy])) hm
      have := h x (by simp)
      omega
section
variable {s t : Hs} {d d' : Hd_} {k : Ks} {xs : List Int} {mj : Bool} {ep a y q B : Int} {P : Int → Prop}
theorem wgt_pos (hB : 0 ≤ B) (hy : y ∈ usedL s d) : 0 ≤ wgt s d B mj ep y := by
  have := (fld_in (used_E hy)).2.1
  unfold wgt
  split
  · omega
  · split <;> omega
theorem cells_pos (s : Hs) (d : Hd_) : 0 ≤ cellsN s d ∧ 0 ≤ bet s d ∧ 2 * cellsN s d ≤ 5 * bet s d := by
  have : 0 ≤ cellsN s d := Int.natCast_nonneg _
  unfold bet
  omega
theorem up_le (s : Hs) (d : Hd_) (a : Int) : 0 ≤ upN s d a ∧ upN s d a ≤ cellsN s d := by
  unfold upN cellsN
  have := List.length_filter_le (fun c => decide (a < c)) (Cl.allS d.f s.p.n)
  omega
theorem nxt_in (h : ¬ nxt s d a = 0) : nxt s d a ∈ Cl.allS d.f s.p.n ∧ a < nxt s d a := by
  unfold nxt Cl.foundV at h ⊢
  cases hf : (Cl.allL d.f s.p.n).find? (Cl.pUp a) with
  | none => rw [hf] at h; exact absurd rfl h
  | some c => exact ⟨List.mem_map.2 ⟨c, List.mem_of_find?_eq_some hf, rfl⟩, of_decide_eq_true (show decide (a < c.1) = true from List.find?_some (p := Cl.pUp a) hf)⟩
theorem filt_lt {p r : Int → Bool} {z : Int} : ∀ {l : List Int}, (∀ y, r y = true → p y = true) → z ∈ l → p z = true → r z = false → (l.filter r).length < (l.filter p).length
  | [], _, h, _, _ => by cases h
  | x :: l, h, hm, h1, h2 => by
    have le : (l.filter r).length ≤ (l.filter p).length := by
      clear hm h1 h2
      induction l with
      | nil => simp
      | cons w l ih =>
        rw [List.filter_cons, List.filter_cons]
        cases hr : r w
        · cases hp : p w <;> simp <;> omega
        · rw [h w hr]
          simp
          exact ih
    rw [List.filter_cons, List.filter_cons]
    rcases List.mem_cons.1 hm with e | hm
    · subst e
      rw [h1, h2]
      simp
      omega
    · have := filt_lt h hm h1 h2
      cases hr : r x
      · cases hp : p x <;> simp <;> omega
      · rw [h x hr]
        simp
        exact this
theorem up_next (h : ¬ nxt s d a = 0) : upN s d (nxt s d a) + 1 ≤ upN s d a := by
  obtain ⟨h1, h2⟩ := nxt_in h
  unfold upN
  have := filt_lt (p := fun c => decide (a < c)) (r := fun c => decide (nxt s d a < c)) (z := nxt s d a) (l := Cl.allS d.f s.p.n) (fun y hy => by have := of_decide_eq_true hy; exact decide_eq_true (by omega)) h1 (decide_eq_true h2) (decide_eq_false (by omega))
  omega
theorem same_cells (s : Hs) (d : Hd_) (mj : Bool) (ep a : Int) : (shD s d mj ep a).f = d.f ∧ (blD s d mj ep a).f = d.f := by
  constructor
  · unfold shD; split <;> rfl
  · unfold blD; split <;> rfl
theorem cells_f (h : d'.f = d.f) : cellsN s d' = cellsN s d ∧ bet s d' = bet s d ∧ ∀ a, upN s d' a = upN s d a := by
  unfold bet cellsN upN
  rw [h]
  exact ⟨rfl, rfl, fun _ => rfl⟩
theorem sh_oth (hlen : d.ws.length = s.w.n) (h : ¬ y = a) (q : Int) : isC s (shD s d mj ep a) mj ep y q = isC s d mj ep y q := by
  rw [sh_col (lens_refl s) hlen, if_neg (fun hh => h hh.2)]
theorem bl_oth (hlen : d.ws.length = s.w.n) (h : ¬ y = a) (q : Int) : isC s (blD s d mj ep a) mj ep y q = isC s d mj ep y q := by
  rw [bl_col (lens_refl s) hlen, if_neg (fun hh => h hh.2)]
theorem sh_self (hlen : d.ws.length = s.w.n) (h : isC s d mj ep a 1 = true) (q : Int) : isC s (shD s d mj ep a) mj ep a q = decide (q = 2) := by
  rw [sh_col (lens_refl s) hlen, if_pos ⟨h, rfl⟩]
theorem bl_self (hlen : d.ws.length = s.w.n) (h : isC s d mj ep a 2 = true) (q : Int) : isC s (blD s d mj ep a) mj ep a q = decide (q = 3) := by
  rw [bl_col (lens_refl s) hlen, if_pos ⟨h, rfl⟩]
/-- The sum behind Shade, behind Black. -/
theorem sum_sh (hlen : d.ws.length = s.w.n) : sumW s (shD s d mj ep a) B mj ep = sumW s d B mj ep - (if isC s d mj ep a 1 = true then B + 2 else 0) := by
  unfold sumW
  rw [sh_used hlen]
  by_cases hw : isC s d mj ep a 1 = true
  · rw [if_pos hw]
    have a16 := (obj_of (isC_iff.1 hw).2.1).lo
    have key := sum_turn (f := wgt s d B mj ep) (g := wgt s (shD s d mj ep a) B mj ep) (used_rise s d) (grey_used hw) fun y hy hne => by
      have y16 := (used_in hy).1
      unfold wgt
      rw [sh_oth hlen hne, sh_oth hlen hne, sh_nof hlen y16]
    rw [key]
    have e1 : wgt s (shD s d mj ep a) B mj ep a = nOf (wd d a) + 1 := by
      unfold wgt
      rw [sh_self hlen hw, sh_self hlen hw, sh_nof hlen a16]
      rfl
    have e2 : wgt s d B mj ep a = B + 2 + nOf (wd d a) + 1 := if_pos hw
    omega
  · rw [if_neg hw]
    have : shD s d mj ep a = d := if_neg hw
    rw [this]
    omega
theorem sum_bl (hlen : d.ws.length = s.w.n) (hg : isC s d mj ep a 2 = true) : sumW s (blD s d mj ep a) B mj ep = sumW s d B mj ep - (nOf (wd d a) + 1) := by
  unfold sumW
  rw [bl_used hlen]
  have a16 := (obj_of (isC_iff.1 hg).2.1).lo
  have key := sum_turn (f := wgt s d B mj ep) (g := wgt s (blD s d mj ep a) B mj ep) (used_rise s d) (grey_used hg) fun y hy hne => by
    have y16 := (used_in hy).1
    unfold wgt
    rw [bl_oth hlen hne, bl_oth hlen hne, bl_nof hlen y16]
  rw [key]
  have e1 : wgt s (blD s d mj ep a) B mj ep a = 0 := by
    unfold wgt
    rw [bl_self hlen hg, bl_self hlen hg]
    rfl
  have nw : ¬ isC s d mj ep a 1 = true := fun h => by have := one_col h hg; omega
  have e2 : wgt s d B mj ep a = nOf (wd d a) + 1 := (if_neg nw).trans (if_pos hg)
  omega
/-- What is left is never less than nothing. -/
theorem left_pos (hi : InvP P s d k xs) : 0 ≤ left s d k xs := by
  have hc := cells_pos s d
  have hu := up_le s d k.ps
  have hs : 0 ≤ sumW s d (bet s d) k.mj k.ep := sum_pos fun y hy => wgt_pos hc.2.1 hy
  have hx : 0 ≤ bet s d * (xs.length : Nat) := Int.mul_nonneg hc.2.1 (Int.natCast_nonneg _)
  have h1 : 0 ≤ (if k.ov = true then 2 * cellsN s d + 2 else bet s d * (xs.length : Nat)) := by split <;> omega
  have h2 : 0 ≤ (if k.ps = 0 then (0 : Int) else 2 * upN s d k.ps + 1) := by split <;> omega
  unfold left
  by_cases hg : isC s d k.mj k.ep k.pa 2 = true
  · have hw : nOf (wd d k.pa) + 1 ≤ sumW s d (bet s d) k.mj k.ep := by
      have nw : ¬ isC s d k.mj k.ep k.pa 1 = true := fun h => by have := one_col h hg; omega
      have e2 : wgt s d (bet s d) k.mj k.ep k.pa = nOf (wd d k.pa) + 1 := (if_neg nw).trans (if_pos hg)
      rw [← e2]
      exact sum_one (fun y hy => wgt_pos hc.2.1 hy) (grey_used hg)
    have hp := (hi.at_ hg).1
    have h3 : -(nOf (wd d k.pa)) ≤ (if k.pa = 0 then (0 : Int) else 1 - (if isC s d k.mj k.ep k.pa 2 = true then k.pf else 0)) := by
      rw [if_pos hg]
      split
      · have := (fld_in (isC_iff.1 hg).2.1).2.1; omega
      · omega
    omega
  · have h3 : 0 ≤ (if k.pa = 0 then (0 : Int) else 1 - (if isC s d k.mj k.ep k.pa 2 = true then k.pf else 0)) := by
      rw [if_neg hg]
      split <;> omega
    omega
/-- What the list is worth behind Shade. -/
theorem list_room {A B : Int} (hB : 0 ≤ B) (hA : A ≤ 5 * B) (c o : Bool) (xs : List Int) (v : Int) : (if shO c xs o = true then A + 2 else B * ((shX c xs v).length : Nat)) + 2 * ((shX c xs v).length : Nat) ≤ (if o = true then A + 2 else B * (xs.length : Nat)) + 2 * (xs.length : Nat) + (if c = true then B + 2 else 0) := by
  cases c
  · have e1 : shO false xs o = o := by simp [shO]
    have e2 : shX false xs v = xs := if_neg (by simp)
    rw [e1, e2, if_neg (show ¬ (false : Bool) = true by decide)]
    omega
  · rw [if_pos rfl]
    by_cases h4 : 4 ≤ xs.length
    · have e1 : shO true xs o = true := by simp [shO, h4]
      have e2 : shX true xs v = xs := if_neg (fun h => by omega)
      have : B * 4 ≤ B * (xs.length : Nat) := Int.mul_le_mul_of_nonneg_left (by omega) hB
      rw [e1, e2, if_pos rfl]
      cases o
      · rw [if_neg (by decide)]; omega
      · rw [if_pos rfl]; omega
    · have e1 : shO true xs o = o := by simp [shO, h4]
      have e2 : shX true xs v = xs ++ [v] := if_pos ⟨rfl, by omega⟩
      have e3 : (((xs ++ [v]).length : Nat) : Int) = (xs.length : Nat) + 1 := by simp
      rw [e1, e2, e3, Int.mul_add, Int.mul_one]
      cases o
      · rw [if_neg (by decide), if_neg (by decide)]; omega
      · rw [if_pos rfl, if_pos rfl]; omega
/-- Each step but the last leaves less. -/
theorem left_step (hlen : d.ws.length = s.w.n) (hm : mayB0 s d = true) (h5 : k.ph = 5) (hi : InvP P s d k xs) : ((stepR s d k xs).k.ph = 5 ∧ left s (stepR s d k xs).d (stepR s d k xs).k (stepR s d k xs).xs + 1 ≤ left s d k xs) ∨ ((stepR s d k xs).k.ph = 6 ∧ overB s (stepR s d k xs).d (stepR s d k xs).k (stepR s d k xs).xs = true) := by
  have hc := cells_pos s d
  rcases wh_cases k xs with e | e | e | e | e
  · have hp := wh_zero e
    rw [step_on ⟨hm, h5⟩, on_0 e]
    refine .inl ?_
    unfold fieldR
    split
    · next h0 =>
      refine ⟨h5, ?_⟩
      have ng : ¬ isC s d k.mj k.ep k.pa 2 = true := fun hg => by
        have : fldN s d k = nOf (wd d k.pa) := if_pos hg
        have := (hi.at_ hg).1
        have := hi.pf
        omega
      show left s d (kp k 0 0) xs + 1 ≤ left s d k xs
      unfold left
      rw [if_neg hp, if_neg ng, show (kp k 0 0).pa = 0 from rfl, if_pos rfl]
      show sumW s d (bet s d) k.mj k.ep + (if k.ov = true then 2 * cellsN s d + 2 else bet s d * (xs.length : Nat)) + 2 * (xs.length : Nat) + (if k.ps = 0 then 0 else 2 * upN s d k.ps + 1) + 0 + 1 ≤ _
      omega
    · next h0 =>
      have hg : isC s d k.mj k.ep k.pa 2 = true := Classical.byContradiction fun hh => by
        have : fldN s d k = 0 := if_neg hh
        omega
      have hN : fldN s d k = nOf (wd d k.pa) := if_pos hg
      have p16 := (obj_of (isC_iff.1 hg).2.1).lo
      have hlen' : (shD s d k.mj k.ep (fldV d k)).ws.length = s.w.n := by rw [sh_len]; exact hlen
      have hg' := sh_grey (a := fldV d k) hlen hg
      have S1 := sum_sh (s := s) (d := d) (mj := k.mj) (ep := k.ep) (a := fldV d k) (B := bet s d) hlen
      have F1 := cells_f (s := s) (same_cells s d k.mj k.ep (fldV d k)).1
      -- the list, and whether it has no more room
      have X : (if shO (white s d k (fldV d k)) xs k.ov = true then 2 * cellsN s d + 2 else bet s d * ((shX (white s d k (fldV d k)) xs (fldV d k)).length : Nat)) + 2 * ((shX (white s d k (fldV d k)) xs (fldV d k)).length : Nat) ≤ (if k.ov = true then 2 * cellsN s d + 2 else bet s d * (xs.length : Nat)) + 2 * (xs.length : Nat) + (if isC s d k.mj k.ep (fldV d k) 1 = true then bet s d + 2 else 0) := by
        exact list_room hc.2.1 hc.2.2 _ _ _ _
      split
      · next hl =>
        refine ⟨h5, ?_⟩
        have S2 := sum_bl (s := s) (d := shD s d k.mj k.ep (fldV d k)) (mj := k.mj) (ep := k.ep) (a := k.pa) (B := bet s d) hlen' hg'
        rw [sh_nof hlen p16] at S2
        have F2 := cells_f (s := s) (same_cells s (shD s d k.mj k.ep (fldV d k)) k.mj k.ep k.pa).2
        show left s (blD s (shD s d k.mj k.ep (fldV d k)) k.mj k.ep k.pa) (kp (kw k k.wk (shO (white s d k (fldV d k)) xs k.ov)) 0 0) (shX (white s d k (fldV d k)) xs (fldV d k)) + 1 ≤ left s d k xs
        unfold left
        rw [F2.1, F2.2.1, F2.2.2, F1.1, F1.2.1, F1.2.2, if_neg hp, if_pos hg]
        show sumW s (blD s (shD s d k.mj k.ep (fldV d k)) k.mj k.ep k.pa) (bet s d) k.mj k.ep + (if shO (white s d k (fldV d k)) xs k.ov = true then 2 * cellsN s d + 2 else bet s d * ((shX (white s d k (fldV d k)) xs (fldV d k)).length : Nat)) + 2 * ((shX (white s d k (fldV d k)) xs (fldV d k)).length : Nat) + (if k.ps = 0 then 0 else 2 * upN s d k.ps + 1) + (if (0 : Int) = 0 then 0 else _) + 1 ≤ _
        rw [if_pos rfl, S2, S1]
        omega
      · next hl =>
        refine ⟨h5, ?_⟩
        show left s (shD s d k.mj k.ep (fldV d k)) (kp (kw k k.wk (shO (white s d k (fldV d k)) xs k.ov)) k.pa (k.pf + 1)) (shX (white s d k (fldV d k)) xs (fldV d k)) + 1 ≤ left s d k xs
        unfold left
        rw [F1.1, F1.2.1, F1.2.2, if_neg hp, if_pos hg]
        show sumW s (shD s d k.mj k.ep (fldV d k)) (bet s d) k.mj k.ep + (if shO (white s d k (fldV d k)) xs k.ov = true then 2 * cellsN s d + 2 else bet s d * ((shX (white s d k (fldV d k)) xs (fldV d k)).length : Nat)) + 2 * ((shX (white s d k (fldV d k)) xs (fldV d k)).length : Nat) + (if k.ps = 0 then 0 else 2 * upN s d k.ps + 1) + (if k.pa = 0 then 0 else 1 - (if isC s (shD s d k.mj k.ep (fldV d k)) k.mj k.ep k.pa 2 = true then k.pf + 1 else 0)) + 1 ≤ _
        rw [if_neg hp, if_pos hg', S1]
        omega
  · have hp := wh_pos (k := k) (xs := xs) (by omega)
    have hl := wh_one e
    rw [step_on ⟨hm, h5⟩, on_1 e]
    refine .inl ⟨h5, ?_⟩
    show left s d (kp k (xs.getD (xs.length - 1) 0) 0) (xs.take (xs.length - 1)) + 1 ≤ left s d k xs
    have hlt : ((xs.take (xs.length - 1)).length : Nat) + 1 = xs.length := by rw [List.length_take]; omega
    have hmul : bet s d * ((xs.take (xs.length - 1)).length : Nat) ≤ bet s d * (xs.length : Nat) := Int.mul_le_mul_of_nonneg_left (by omega) hc.2.1
    unfold left
    rw [if_pos hp]
    show sumW s d (bet s d) k.mj k.ep + (if k.ov = true then 2 * cellsN s d + 2 else bet s d * ((xs.take (xs.length - 1)).length : Nat)) + 2 * ((xs.take (xs.length - 1)).length : Nat) + (if k.ps = 0 then 0 else 2 * upN s d k.ps + 1) + (if xs.getD (xs.length - 1) 0 = 0 then 0 else 1 - (if isC s d k.mj k.ep (xs.getD (xs.length - 1) 0) 2 = true then 0 else 0)) + 1 ≤ _
    have h1 : (if xs.getD (xs.length - 1) 0 = 0 then (0 : Int) else 1 - (if isC s d k.mj k.ep (xs.getD (xs.length - 1) 0) 2 = true then 0 else 0)) ≤ 1 := by
      split
      · omega
      · split <;> omega
    have h2 : (if k.ov = true then 2 * cellsN s d + 2 else bet s d * ((xs.take (xs.length - 1)).length : Nat)) ≤ (if k.ov = true then 2 * cellsN s d + 2 else bet s d * (xs.length : Nat)) := by
      split <;> omega
    omega
  · have hp := wh_pos (k := k) (xs := xs) (by omega)
    have hq := (wh_two e).1
    rw [step_on ⟨hm, h5⟩, on_2 e]
    refine .inl ?_
    have hu0 := up_le s d (nxt s d k.ps)
    have hup : (if nxt s d k.ps = 0 then (0 : Int) else 2 * upN s d (nxt s d k.ps) + 1) + (if nxt s d k.ps = 0 then 1 else 2) ≤ 2 * upN s d k.ps + 1 := by
      have := up_le s d k.ps
      by_cases hn : nxt s d k.ps = 0
      · rw [if_pos hn, if_pos hn]; omega
      · rw [if_neg hn, if_neg hn]; have := up_next hn; omega
    unfold seekR
    split
    · next hg =>
      refine ⟨h5, ?_⟩
      have hn : ¬ nxt s d k.ps = 0 := fun h => by rw [h] at hg; exact isC_zero hg
      rw [if_neg hn, if_neg hn] at hup
      show left s d (kp (kq k (nxt s d k.ps)) (nxt s d k.ps) 0) xs + 1 ≤ left s d k xs
      unfold left
      rw [if_pos hp, if_neg hq]
      show sumW s d (bet s d) k.mj k.ep + (if k.ov = true then 2 * cellsN s d + 2 else bet s d * (xs.length : Nat)) + 2 * (xs.length : Nat) + (if nxt s d k.ps = 0 then 0 else 2 * upN s d (nxt s d k.ps) + 1) + (if nxt s d k.ps = 0 then 0 else 1 - (if isC s d k.mj k.ep (nxt s d k.ps) 2 = true then 0 else 0)) + 1 ≤ _
      rw [if_neg hn, if_neg hn, if_pos hg]
      omega
    · refine ⟨h5, ?_⟩
      show left s d (kq k (nxt s d k.ps)) xs + 1 ≤ left s d k xs
      unfold left
      rw [if_pos hp, if_neg hq]
      show sumW s d (bet s d) k.mj k.ep + (if k.ov = true then 2 * cellsN s d + 2 else bet s d * (xs.length : Nat)) + 2 * (xs.length : Nat) + (if nxt s d k.ps = 0 then 0 else 2 * upN s d (nxt s d k.ps) + 1) + (if k.pa = 0 then 0 else 1 - (if isC s d k.mj k.ep k.pa 2 = true then k.pf else 0)) + 1 ≤ _
      rw [if_pos hp]
      have : (1 : Int) ≤ (if nxt s d k.ps = 0 then 1 else 2) := by split <;> omega
      omega
  · have hp := wh_pos (k := k) (xs := xs) (by omega)
    obtain ⟨ho, hq, hx⟩ := wh_three e
    rw [step_on ⟨hm, h5⟩, on_3 e]
    refine .inl ⟨h5, ?_⟩
    have hu0 := up_le s d 1
    show left s d (kv1 k) xs + 1 ≤ left s d k xs
    unfold left
    rw [if_pos hp, if_pos hq, if_pos ho]
    show sumW s d (bet s d) k.mj k.ep + (if (false : Bool) = true then 2 * cellsN s d + 2 else bet s d * (xs.length : Nat)) + 2 * (xs.length : Nat) + (if (1 : Int) = 0 then 0 else 2 * upN s d 1 + 1) + (if k.pa = 0 then 0 else _) + 1 ≤ _
    rw [if_pos hp, if_neg (by decide), if_neg (by decide), hx]
    simp
    omega
  · obtain ⟨h1, h2, h3, h4⟩ := wh_four e
    have hs := known_sweep hi.known (by rw [step_on ⟨hm, h5⟩, on_4 e]; rfl) h5
    rw [step_on ⟨hm, h5⟩, on_4 e] at hs ⊢
    refine .inr ⟨rfl, ?_⟩
    show overB s d (kend k) xs = true
    unfold overB
    have hw : wh (kend k) xs = 4 := by
      unfold wh
      rw [h4]
      show (if ¬ (0 : Int) = 0 then (0 : Int) else if 0 < ([] : List Int).length then 1 else if ¬ (0 : Int) = 0 then 2 else if k.ov = true then 3 else 4) = 4
      rw [h1]
      rfl
    rw [hw, show Sh.greyL s d (kend k).mj (kend k).ep = [] from hs]
    rfl
end
end Go.Proofs.YtccjelpfmkbmiaaGreatDoor.Tr
end
section
namespace Go.Proofs.YtccjelpfmkbmiaaGreatDoor.Tr
open Go.Proofs.YtccjelpfmkbmiaaGreatDoor Go.Proofs.YtccjelpfmkbmiaaGreatDoor.Sh
set_option maxRecDepth 100000

theorem sum_filter {p : Int → Bool} {f : Int → Int} {g : Int × Int → Int} : ∀ {l : List (Int × Int)}, (∀ c ∈ l, 0 ≤ g c ∧ (p c.1 = true → f c.1 ≤ g c)) → (((l.map (·.1)).filter p).map f).sum ≤ (l.map g).sum
  | [], _ => by simp
  | c :: l, h => by
    have ih := sum_filter (p := p) (f := f) (l := l) fun x hx => h x (by simp [hx])
    have hc := h c (by simp)
    rw [List.map_cons, List.filter_cons, List.map_cons, List.sum_cons]
    split
    · next hp =>
      rw [List.map_cons, List.sum_cons]
      have := hc.2 hp
      omega
    · omega
theorem sum_apart {hi : Int} : ∀ {l : List (Int × Int)} {lo : Int}, l.Pairwise (fun c d => c.1 + c.2 ≤ d.1) → (∀ c ∈ l, lo ≤ c.1 ∧ c.1 + c.2 ≤ hi) → lo ≤ hi → (l.map (·.2)).sum ≤ hi - lo
  | [], lo, _, _, h => by simp; omega
  | c :: l, lo, hp, hc, h => by
    have hp' := List.pairwise_cons.1 hp
    have h0 := hc c (by simp)
    have ih := sum_apart (hi := hi) (lo := c.1 + c.2) hp'.2 (fun x hx => ⟨hp'.1 x hx, (hc x (by simp [hx])).2⟩) h0.2
    rw [List.map_cons, List.sum_cons]
    omega
theorem sum_add {A : Int} {g : Int × Int → Int} : ∀ l : List (Int × Int), (l.map fun c => A + g c).sum = A * (l.length : Nat) + (l.map g).sum
  | [] => by simp
  | c :: l => by
    rw [List.map_cons, List.sum_cons, List.map_cons, List.sum_cons, sum_add l, show (((c :: l).length : Nat) : Int) = (l.length : Nat) + 1 by simp, Int.mul_add, Int.mul_one]
    omega
theorem sum_two : ∀ {l : List (Int × Int)}, (∀ c ∈ l, 2 ≤ c.2) → 2 * ((l.length : Nat) : Int) ≤ (l.map (·.2)).sum
  | [], _ => by simp
  | c :: l, h => by
    have ih := sum_two (l := l) fun x hx => h x (by simp [hx])
    have h0 := h c (by simp)
    rw [List.map_cons, List.sum_cons, show (((c :: l).length : Nat) : Int) = (l.length : Nat) + 1 by simp]
    omega
section
variable {s t : Hs} {d d' : Hd_} {k : Ks} {xs : List Int} {mj : Bool} {ep a y q B : Int} {P : Int → Prop}
theorem cells_le (s : Hs) (d : Hd_) : (((Cl.allL d.f s.p.n).map (·.2)).sum) ≤ 16 * (s.p.n : Int) ∧ 2 * cellsN s d ≤ ((Cl.allL d.f s.p.n).map (·.2)).sum := by
  have ap := Cl.allL_apart d.f s.p.n
  constructor
  · have := sum_apart (hi := 16 + 16 * (s.p.n : Int)) (lo := 16) ap.1 (fun c hc => ⟨(ap.2 c hc).1, (Cl.allL_end hc).2⟩) (by omega)
    omega
  · have := sum_two fun c hc => (ap.2 c hc).2
    unfold cellsN Cl.allS
    rw [List.length_map]
    exact this
theorem sum_le (hm : mayB0 s d = true) (hB : 0 ≤ B) (mj : Bool) (ep : Int) : sumW s d B mj ep ≤ (B + 2) * cellsN s d + ((Cl.allL d.f s.p.n).map (·.2)).sum := by
  unfold sumW usedL
  rw [if_pos hm]
  unfold usedF Cl.allS
  have ap := Cl.allL_apart d.f s.p.n
  refine Int.le_trans (sum_filter (g := fun c => (B + 2) + c.2) fun c hc => ⟨?_, fun hp => ?_⟩) ?_
  · have := (ap.2 c hc).2
    show 0 ≤ B + 2 + c.2
    omega
  · have hu : c.1 ∈ usedL s d := by
      unfold usedL
      rw [if_pos hm]
      exact List.mem_filter.2 ⟨List.mem_map.2 ⟨c, hc, rfl⟩, hp⟩
    have f := fld_in (used_E hu)
    rw [Cl.bg_cell hc] at f
    show wgt s d B mj ep c.1 ≤ B + 2 + c.2
    unfold wgt
    split
    · omega
    · split <;> omega
  · rw [sum_add]
    unfold cellsN Cl.allS
    rw [List.length_map]
    exact Int.le_refl _
/-- What is left at the start. -/
theorem left_start (hm : mayB0 s d = true) (hp : s.p.n ≤ 9) (hpa : k.pa = 0) (hps : k.ps = 0) (hx : xs.length ≤ 4) : left s d k xs < (16 * (s.p.n : Int)) * (16 * (s.p.n : Int)) / 4 + 40 := by
  have hc := cells_pos s d
  have h1 := sum_le (s := s) (d := d) hm hc.2.1 k.mj k.ep
  obtain ⟨h2, h3⟩ := cells_le s d
  have hb : bet s d = (2 * cellsN s d + 4) / 5 := rfl
  have h4 : (if k.ov = true then 2 * cellsN s d + 2 else bet s d * (xs.length : Nat)) ≤ 2 * cellsN s d + 6 := by
    split
    · omega
    · have : bet s d * (xs.length : Nat) ≤ bet s d * 4 := Int.mul_le_mul_of_nonneg_left (by omega) hc.2.1
      omega
  unfold left
  rw [if_pos hpa, if_pos hps]
  generalize hS : sumW s d (bet s d) k.mj k.ep = S at h1 ⊢
  generalize (if k.ov = true then 2 * cellsN s d + 2 else bet s d * (xs.length : Nat)) = T at h4 ⊢
  generalize ((Cl.allL d.f s.p.n).map (·.2)).sum = R at h1 h2 h3
  generalize bet s d = b at h1 hb hc
  generalize cellsN s d = M at h1 h3 h4 hb hc
  generalize s.p.n = p at hp h2 ⊢
  clear hS
  have hm' : ∀ K P : Int, b + 2 ≤ K → M ≤ P → (b + 2) * M ≤ K * P := fun K P g1 g2 => Int.mul_le_mul g1 g2 hc.1 (by omega)
  rcases (show p = 0 ∨ p = 1 ∨ p = 2 ∨ p = 3 ∨ p = 4 ∨ p = 5 ∨ p = 6 ∨ p = 7 ∨ p = 8 ∨ p = 9 by omega) with rfl | rfl | rfl | rfl | rfl | rfl | rfl | rfl | rfl | rfl
  · have := hm' 2 0 (by omega) (by omega); omega
  · have := hm' 6 8 (by omega) (by omega); omega
  · have := hm' 9 16 (by omega) (by omega); omega
  · have := hm' 12 24 (by omega) (by omega); omega
  · have := hm' 15 32 (by omega) (by omega); omega
  · have := hm' 18 40 (by omega) (by omega); omega
  · have := hm' 22 48 (by omega) (by omega); omega
  · have := hm' 25 56 (by omega) (by omega); omega
  · have := hm' 28 64 (by omega) (by omega); omega
  · have := hm' 31 72 (by omega) (by omega); omega
/-- What holds behind j steps. -/
structure EndJ (s : Hs) (B : Int) (j : Nat) (m : Q2) : Prop where
  len : Lens s m.s
  fine : Fine m.s m.d
  may : mayB0 s m.d = true
  ws : m.d.ws.length = s.w.n
  x : m.xs.length ≤ 4 + j
  st : (m.k.ph = 5 ∧ Inv s m.d m.k m.xs ∧ left s m.d m.k m.xs + (j : Nat) ≤ B) ∨ (m.k.ph = 6 ∧ overB s m.d m.k m.xs = true ∧ Led s m.d m.k.mj m.k.ep)
theorem inv_kw {v : Ls.Sl} (h : Inv s d k xs) : Inv s d (kw k v k.ov) xs := ⟨h.known, h.led, h.pf, h.at_⟩
theorem EndJ.next {j : Nat} {m z : Q2} (h : EndJ s B j m) (h5 : m.k.ph = 5) (hl : Lens m.s z.s) (hd : z.d = (stepR m.s m.d m.k m.xs).d) (hx : z.xs = (stepR m.s m.d m.k m.xs).xs) (hk : z.k = kw (stepR m.s m.d m.k m.xs).k z.k.wk (stepR m.s m.d m.k m.xs).k.ov) : EndJ s B (j + 1) z := by
  have e := step_sim (d := m.d) (k := m.k) (xs := m.xs) (v := m.k.wk) h.len
  rw [show kw m.k m.k.wk m.k.ov = m.k from rfl] at e
  have hms : m.d.ws.length = m.s.w.n := by rw [h.ws]; exact h.len.1.symm
  have hkin := step_kin m.s m.d m.k m.xs hms
  have hkin' := step_kin s m.d m.k m.xs h.ws
  have hfz : Fine z.s z.d := by rw [hd]; exact fine_lens hl (hkin.fine h.fine)
  have hxl : z.xs.length ≤ 4 + (j + 1) := by rw [hx]; have := step_xs m.s m.d m.k m.xs; have := h.x; omega
  rw [e] at hd hx hk
  have hd' : z.d = (stepR s m.d m.k m.xs).d := hd
  have hx' : z.xs = (stepR s m.d m.k m.xs).xs := hx
  have hk' : z.k = kw (stepR s m.d m.k m.xs).k z.k.wk (stepR s m.d m.k m.xs).k.ov := hk
  have hi : Inv s m.d m.k m.xs ∧ left s m.d m.k m.xs + (j : Nat) ≤ B := by
    rcases h.st with h | h
    · exact h.2
    · exact absurd h.1 (by omega)
  have hin := step_inv h.ws h.may h5 hi.1
  have hls := left_step h.ws h.may h5 hi.1
  refine ⟨lens_trans' h.len hl, hfz, by rw [hd', hkin'.may]; exact h.may, by rw [hd']; exact hkin'.wlen.trans h.ws, hxl, ?_⟩
  rw [hd', hx', hk']
  rcases hls with ⟨g5, gl⟩ | ⟨g6, go⟩
  · refine .inl ⟨g5, inv_kw hin, ?_⟩
    have : left s (stepR s m.d m.k m.xs).d (kw (stepR s m.d m.k m.xs).k z.k.wk (stepR s m.d m.k m.xs).k.ov) (stepR s m.d m.k m.xs).xs = left s (stepR s m.d m.k m.xs).d (stepR s m.d m.k m.xs).k (stepR s m.d m.k m.xs).xs := rfl
    rw [this]
    have := hi.2
    omega
  · exact .inr ⟨g6, go, fun u => hin.led u trivial⟩
/-- No step is left once as many were taken. -/
theorem EndJ.lt {j : Nat} {m : Q2} {N : Int} (h : EndJ s B j m) (h5 : m.k.ph = 5) (hB : B < N) : (j : Int) < N := by
  rcases h.st with ⟨_, hi, hl⟩ | ⟨h6, _⟩
  · have := left_pos hi
    omega
  · omega
/-- At the end. -/
theorem EndJ.out {j : Nat} {m : Q2} (h : EndJ s B j m) (h5 : ¬ m.k.ph = 5) : m.k.ph = 6 ∧ overB m.s m.d m.k m.xs = true ∧ ledI m.s m.d m.k.mj m.k.ep = 0 ∧ mayB0 m.s m.d = true := by
  rcases h.st with ⟨h5', _⟩ | ⟨h6, ho, hl⟩
  · exact absurd h5' h5
  · refine ⟨h6, ?_, led_iff.2 ?_, by rw [may_lens h.len]; exact h.may⟩
    · have := over_lens h.len m.d m.k m.k.wk m.xs
      rw [show kw m.k m.k.wk m.k.ov = m.k from rfl] at this
      rw [this]
      exact ho
    · intro u hu j h0 h1 hw
      rw [same_col h.len] at hu hw
      exact hl u hu j h0 h1 hw
end
end Go.Proofs.YtccjelpfmkbmiaaGreatDoor.Tr
end
section
namespace Go.Proofs.YtccjelpfmkbmiaaGreatDoor
open Go.RowKit
set_option maxRecDepth 100000

/-- Two blocks alone are turned, of those that were there. -/
def Stp (x y : Nat) (w w' : World) : Prop := w.heap.size ≤ w'.heap.size ∧ ∀ k, k < w.heap.size → ¬ k = x → ¬ k = y → w'.heap[k]? = w.heap[k]?
section
variable {x y : Nat} {w w' w'' : World}
theorem Stp.trans (h : Stp x y w w') (h' : Stp x y w' w'') : Stp x y w w'' := ⟨Nat.le_trans h.1 h'.1, fun k hk h1 h2 => (h'.2 k (Nat.lt_of_lt_of_le hk h.1) h1 h2).trans (h.2 k hk h1 h2)⟩
theorem Stp.set (j : Nat) (v : Value) : Stp x y w (w.setCell ⟨x, j, none⟩ v) := ⟨by simp [World.setCell], fun _ _ h1 _ => Below.heap_setCell _ _ _ _ h1⟩
theorem Stp.put (v0 v1 v2 v3 v4 v5 : Value) : Stp x y w (put6 w y v0 v1 v2 v3 v4 v5) := ⟨by rw [put6_size]; exact Nat.le_refl _, fun _ _ _ h2 => put6_other _ _ _ _ _ _ _ _ h2⟩
end
end Go.Proofs.YtccjelpfmkbmiaaGreatDoor
end
section
namespace Go.Proofs.YtccjelpfmkbmiaaGreatDoor
open Go.RowKit
set_option maxRecDepth 100000

theorem hbox_same {W W' : World} {b : Nat} {t : Hs} (h : HBox W b t) (hs : W'.heap[b]? = W.heap[b]?) (hl : W.heap.size ≤ W'.heap.size) : HBox W' b t :=
  ⟨(World.cell?_of_block (a := ⟨b, 0, none⟩) hs).trans h.c0, (World.cell?_of_block (a := ⟨b, 1, none⟩) hs).trans h.c1, (World.cell?_of_block (a := ⟨b, 2, none⟩) hs).trans h.c2, (World.cell?_of_block (a := ⟨b, 3, none⟩) hs).trans h.c3, (World.cell?_of_block (a := ⟨b, 4, none⟩) hs).trans h.c4, (World.cell?_of_block (a := ⟨b, 5, none⟩) hs).trans h.c5, Nat.lt_of_lt_of_le h.lt hl⟩
/-- All cells of a block hold slices. -/
def Slices (W : World) (b : Nat) : Prop := ∀ j v, W.cell? ⟨b, j, none⟩ = some v → ∃ a n c, v = .slice a n c
theorem Slices.row {W : World} {b B n : Nat} {a : Option Addr} {xs : List Int} (h : Slices W b) (hr : Row W B a n xs) : 0 < n → ∀ x, a = some x → ¬ x.block = b := fun hn x hx e => by
  obtain ⟨b', off, e', _, hc⟩ := hr.2 hn
  rw [hx] at e'
  cases e'
  subst e
  obtain ⟨_, _, _, hv⟩ := h _ _ (hc 0 hn)
  cases hv
theorem Slices.prow {W : World} {b B n : Nat} {a : Option Addr} {f : Nat → Int × Int} (h : Slices W b) (hr : Cl.PRow W B a n f) : 0 < n → ∀ x, a = some x → ¬ x.block = b := fun hn x hx e => by
  obtain ⟨b', off, e', _, hc⟩ := hr hn
  rw [hx] at e'
  cases e'
  subst e
  obtain ⟨_, _, _, hv⟩ := h _ _ (hc 0 hn).1
  cases hv
theorem Slices.brow {W : World} {b B n : Nat} {a : Option Addr} {f : Nat → Bool} (h : Slices W b) (hr : BRow W B a n f) : 0 < n → ∀ x, a = some x → ¬ x.block = b := fun hn x hx e => by
  obtain ⟨b', off, e', _, hc⟩ := hr hn
  rw [hx] at e'
  cases e'
  subst e
  obtain ⟨_, _, _, hv⟩ := h _ _ (hc 0 hn)
  cases hv
theorem Slices.same {W W' : World} {b : Nat} (h : Slices W b) (hs : W'.heap[b]? = W.heap[b]?) : Slices W' b := fun j v hv => h j v ((World.cell?_of_block (a := ⟨b, j, none⟩) hs).symm.trans hv)
theorem cell_set_none {W : World} {b j : Nat} {v : Value} (h : W.cell? ⟨b, j, none⟩ = none) : (W.setCell ⟨b, j, none⟩ v).cell? ⟨b, j, none⟩ = none := by
  unfold World.cell? at h ⊢
  unfold World.setCell
  simp only [Array.getElem?_modify, if_true]
  cases hb : W.heap[b]? with
  | none => rfl
  | some o =>
    cases o with
    | cells c e f =>
      rw [hb] at h
      simp at h
      simp [h]
    | _ => rfl
theorem Slices.set {W : World} {b k : Nat} {a : Option Addr} {n c : Nat} (h : Slices W b) : Slices (W.setCell ⟨b, k, none⟩ (.slice a n c)) b := fun j v hv => by
  by_cases e : j = k
  · subst e
    cases hc : W.cell? ⟨b, j, none⟩ with
    | none => rw [cell_set_none hc] at hv; cases hv
    | some x =>
      rw [World.cell?_setCell_same' _ _ _ (by rw [hc]; rfl)] at hv
      cases hv
      exact ⟨a, n, c, rfl⟩
  · rw [World.cell?_setCell_other _ _ _ _ (by intro hh; simp only [Addr.mk.injEq, true_and, and_true] at hh; omega)] at hv
    exact h j v hv
/-- Rows stand where another block alone is turned. -/
theorem l3_turn {W W' : World} {b : Nat} {u : Nat → Ls.Sl} {F : Nat → List Int} (hS : Slices W b) (h : Ls.L3 W W.heap.size u F) (hs : ∀ i, ¬ i = b → W'.heap[i]? = W.heap[i]?) (hl : W.heap.size = W'.heap.size) : Ls.L3 W' W'.heap.size u F := fun j hj => by
  rw [← hl]
  exact ⟨row_same (h j hj).1 fun hn x hx => hs _ (hS.row (h j hj).1 hn x hx), (h j hj).2⟩
theorem hp_turn {W W' : World} {b : Nat} {t : Hs} {d : Hd_} (hS : Slices W b) (h : Hp W W.heap.size t d) (hs : ∀ i, ¬ i = b → W'.heap[i]? = W.heap[i]?) (hl : W.heap.size = W'.heap.size) : Hp W' W'.heap.size t d := by
  refine ⟨?_, fun hn => ?_, l3_turn hS h.free hs hl, fun hn => ?_⟩
  · rw [← hl]
    exact row_same h.words fun hn x hx => hs _ (hS.row h.words hn x hx)
  · obtain ⟨b', off, e, hlt, hc⟩ := h.pages hn
    rw [← hl]
    refine ⟨b', off, e, hlt, fun i hi => ?_⟩
    have hb' := hs b' (hS.prow h.pages hn _ e)
    exact ⟨(World.cell?_of_block (a := ⟨b', off + i * 2, none⟩) hb').trans (hc i hi).1, (World.cell?_of_block (a := ⟨b', off + i * 2 + 1, none⟩) hb').trans (hc i hi).2⟩
  · obtain ⟨b', off, e, hlt, hc⟩ := h.cards hn
    rw [← hl]
    refine ⟨b', off, e, hlt, fun i hi => ?_⟩
    exact (World.cell?_of_block (a := ⟨b', off + i, none⟩) (hs b' (hS.brow h.cards hn _ e))).trans (hc i hi)
theorem set_others {W : World} {b k : Nat} {v : Value} : ∀ i, ¬ i = b → (W.setCell ⟨b, k, none⟩ v).heap[i]? = W.heap[i]? := fun _ hi => Below.heap_setCell _ _ _ _ hi
theorem set3_others {W : World} {b k0 k1 k2 : Nat} {v0 v1 v2 : Value} : ∀ i, ¬ i = b → (((W.setCell ⟨b, k0, none⟩ v0).setCell ⟨b, k1, none⟩ v1).setCell ⟨b, k2, none⟩ v2).heap[i]? = W.heap[i]? := fun i hi => ((set_others i hi).trans (set_others i hi)).trans (set_others i hi)
theorem set_size {W : World} {p : Addr} {v : Value} : (W.setCell p v).heap.size = W.heap.size := by simp [World.setCell]
theorem slices6 (w : World) (t : Hs) (ty : TypeId) : Slices (w.alloc (.cells #[.slice t.w.a t.w.n t.w.c, .slice t.p.a t.p.n t.p.c, .slice (t.u 0).a (t.u 0).n (t.u 0).c, .slice (t.u 1).a (t.u 1).n (t.u 1).c, .slice (t.u 2).a (t.u 2).n (t.u 2).c, .slice t.c.a t.c.n t.c.c] ty)) w.heap.size := fun j v hv => by
  rcases j with _ | _ | _ | _ | _ | _ | j
  · simp [go_sem] at hv; exact ⟨_, _, _, hv.symm⟩
  · simp [go_sem] at hv; exact ⟨_, _, _, hv.symm⟩
  · simp [go_sem] at hv; exact ⟨_, _, _, hv.symm⟩
  · simp [go_sem] at hv; exact ⟨_, _, _, hv.symm⟩
  · simp [go_sem] at hv; exact ⟨_, _, _, hv.symm⟩
  · simp [go_sem] at hv; exact ⟨_, _, _, hv.symm⟩
  · simp [go_sem] at hv
/-- A box of a heap, or of what is made of one. -/
structure Rm (W : World) (b : Nat) (t : Hs) : Prop where
  box : Box6 W b t
  sl : Slices W b
section
variable {w W W' : World} {b : Nat} {t t' : Hs} {d d' : Hd_}
theorem Rm.same (h : Rm W b t) (hs : W'.heap[b]? = W.heap[b]?) (hl : W.heap.size ≤ W'.heap.size) : Rm W' b t := ⟨h.box.same hs hl, h.sl.same hs⟩
theorem Rm.next (h : Rm W b t) (hb : Below W.heap.size W W') : Rm W' b t := h.same (hb.block b h.box.box.lt) hb.size
theorem Rm.new (w : World) (t : Hs) (ty : TypeId) : Rm (w.alloc (.cells #[.slice t.w.a t.w.n t.w.c, .slice t.p.a t.p.n t.p.c, .slice (t.u 0).a (t.u 0).n (t.u 0).c, .slice (t.u 1).a (t.u 1).n (t.u 1).c, .slice (t.u 2).a (t.u 2).n (t.u 2).c, .slice t.c.a t.c.n t.c.c] ty)) w.heap.size t :=
  ⟨⟨HBox.new w t ty, fun j => by simp [go_sem]⟩, slices6 w t ty⟩
theorem Rm.set (h : Rm W b t) (k : Nat) (a : Option Addr) (n c : Nat)
    (e0 : Value.slice t'.w.a t'.w.n t'.w.c = if 0 = k then .slice a n c else .slice t.w.a t.w.n t.w.c) (e1 : Value.slice t'.p.a t'.p.n t'.p.c = if 1 = k then .slice a n c else .slice t.p.a t.p.n t.p.c)
    (e2 : Value.slice (t'.u 0).a (t'.u 0).n (t'.u 0).c = if 2 = k then .slice a n c else .slice (t.u 0).a (t.u 0).n (t.u 0).c) (e3 : Value.slice (t'.u 1).a (t'.u 1).n (t'.u 1).c = if 3 = k then .slice a n c else .slice (t.u 1).a (t.u 1).n (t.u 1).c)
    (e4 : Value.slice (t'.u 2).a (t'.u 2).n (t'.u 2).c = if 4 = k then .slice a n c else .slice (t.u 2).a (t.u 2).n (t.u 2).c) (e5 : Value.slice t'.c.a t'.c.n t'.c.c = if 5 = k then .slice a n c else .slice t.c.a t.c.n t.c.c) : Rm (W.setCell ⟨b, k, none⟩ (.slice a n c)) b t' :=
  ⟨⟨⟨cell_set h.box.box.c0 e0, cell_set h.box.box.c1 e1, cell_set h.box.box.c2 e2, cell_set h.box.box.c3 e3, cell_set h.box.box.c4 e4, cell_set h.box.box.c5 e5, by simpa [World.setCell] using h.box.box.lt⟩, frozen_set h.box.free⟩, h.sl.set⟩
/-- A box, and the heap that it holds, in the midst of a call. -/
structure Ro (w W : World) (b : Nat) (t : Hs) (d : Hd_) : Prop where
  bel : Below w.heap.size w W
  hi : w.heap.size ≤ b
  rm : Rm W b t
  hp : Hp W W.heap.size t d
theorem Ro.next (h : Ro w W b t d) (hb : Below W.heap.size W W') : Ro w W' b t d := ⟨h.bel.trans (hb.mono h.bel.size), h.hi, h.rm.next hb, h.hp.next hb⟩
theorem Ro.drew (h : Ro w W b t d) : Ro w W.drew b t d := h.next (below_drawn' (Below.refl _ _) 1)
/-- The box is turned, to what lies in memory already. -/
theorem Ro.turn (h : Ro w W b t d) (hr : Rm W' b t') (hb : Below w.heap.size w W') (hs : ∀ i, ¬ i = b → W'.heap[i]? = W.heap[i]?) (hl : W.heap.size = W'.heap.size) (hp : Hp W W.heap.size t' d') : Ro w W' b t' d' :=
  ⟨hb, h.hi, hr, hp_turn h.rm.sl hp hs hl⟩
theorem Ro.words (h : Ro w W b t d) (v : Ls.Sl) (ws : List Int) (hr : Row W W.heap.size v.a v.n ws) : Ro w (W.setCell ⟨b, 0, none⟩ (.slice v.a v.n v.c)) b ⟨v, t.p, t.u, t.c⟩ ⟨ws, d.f, d.F, d.cs⟩ :=
  h.turn (h.rm.set 0 _ _ _ rfl rfl rfl rfl rfl rfl) (h.bel.setCell (p := ⟨b, 0, none⟩) h.hi _) set_others set_size.symm ⟨hr, h.hp.pages, h.hp.free, h.hp.cards⟩
theorem Ro.pages (h : Ro w W b t d) (v : Ls.Sl) (f : Nat → Int × Int) (hr : Cl.PRow W W.heap.size v.a v.n f) : Ro w (W.setCell ⟨b, 1, none⟩ (.slice v.a v.n v.c)) b ⟨t.w, v, t.u, t.c⟩ ⟨d.ws, f, d.F, d.cs⟩ :=
  h.turn (h.rm.set 1 _ _ _ rfl rfl rfl rfl rfl rfl) (h.bel.setCell (p := ⟨b, 1, none⟩) h.hi _) set_others set_size.symm ⟨h.hp.words, hr, h.hp.free, h.hp.cards⟩
theorem Ro.cards (h : Ro w W b t d) (v : Ls.Sl) (cs : Nat → Bool) (hr : BRow W W.heap.size v.a v.n cs) : Ro w (W.setCell ⟨b, 5, none⟩ (.slice v.a v.n v.c)) b ⟨t.w, t.p, t.u, v⟩ ⟨d.ws, d.f, d.F, cs⟩ :=
  h.turn (h.rm.set 5 _ _ _ rfl rfl rfl rfl rfl rfl) (h.bel.setCell (p := ⟨b, 5, none⟩) h.hi _) set_others set_size.symm ⟨h.hp.words, h.hp.pages, h.hp.free, hr⟩
def triS (a b c : Ls.Sl) : Nat → Ls.Sl := fun | 0 => a | 1 => b | _ => c
theorem Rm.free3 (h : Rm W b t) (v : Nat → Ls.Sl) : Rm (((W.setCell ⟨b, 2, none⟩ (.slice (v 0).a (v 0).n (v 0).c)).setCell ⟨b, 3, none⟩ (.slice (v 1).a (v 1).n (v 1).c)).setCell ⟨b, 4, none⟩ (.slice (v 2).a (v 2).n (v 2).c)) b ⟨t.w, t.p, v, t.c⟩ := by
  have h1 := h.set (t' := ⟨t.w, t.p, triS (v 0) (t.u 1) (t.u 2), t.c⟩) 2 (v 0).a (v 0).n (v 0).c rfl rfl rfl rfl rfl rfl
  have h2 := h1.set (t' := ⟨t.w, t.p, triS (v 0) (v 1) (t.u 2), t.c⟩) 3 (v 1).a (v 1).n (v 1).c rfl rfl rfl rfl rfl rfl
  exact h2.set (t' := ⟨t.w, t.p, v, t.c⟩) 4 (v 2).a (v 2).n (v 2).c rfl rfl rfl rfl rfl rfl
theorem Ro.free3 (h : Ro w W b t d) (v : Nat → Ls.Sl) (F : Nat → List Int) (hl : Ls.L3 W W.heap.size v F) : Ro w (((W.setCell ⟨b, 2, none⟩ (.slice (v 0).a (v 0).n (v 0).c)).setCell ⟨b, 3, none⟩ (.slice (v 1).a (v 1).n (v 1).c)).setCell ⟨b, 4, none⟩ (.slice (v 2).a (v 2).n (v 2).c)) b ⟨t.w, t.p, v, t.c⟩ ⟨d.ws, d.f, F, d.cs⟩ :=
  h.turn (h.rm.free3 v) (((h.bel.setCell (p := ⟨b, 2, none⟩) h.hi _).setCell (p := ⟨b, 3, none⟩) h.hi _).setCell (p := ⟨b, 4, none⟩) h.hi _) set3_others (by simp) ⟨h.hp.words, h.hp.pages, hl, h.hp.cards⟩
/-- A whole heap is stored into the box. -/
theorem Rm.put (h : Rm W b t) (t' : Hs) : Rm (put6 W b (.slice t'.w.a t'.w.n t'.w.c) (.slice t'.p.a t'.p.n t'.p.c) (.slice (t'.u 0).a (t'.u 0).n (t'.u 0).c) (.slice (t'.u 1).a (t'.u 1).n (t'.u 1).c) (.slice (t'.u 2).a (t'.u 2).n (t'.u 2).c) (.slice t'.c.a t'.c.n t'.c.c)) b t' := by
  have h1 := h.set (t' := ⟨t'.w, t.p, t.u, t.c⟩) 0 t'.w.a t'.w.n t'.w.c rfl rfl rfl rfl rfl rfl
  have h2 := h1.set (t' := ⟨t'.w, t'.p, t.u, t.c⟩) 1 t'.p.a t'.p.n t'.p.c rfl rfl rfl rfl rfl rfl
  have h3 := h2.free3 t'.u
  exact h3.set (t' := t') 5 t'.c.a t'.c.n t'.c.c rfl rfl rfl rfl rfl rfl
theorem Ro.put (h : Ro w W b t d) (hp : Hp W W.heap.size t' d') : Ro w (put6 W b (.slice t'.w.a t'.w.n t'.w.c) (.slice t'.p.a t'.p.n t'.p.c) (.slice (t'.u 0).a (t'.u 0).n (t'.u 0).c) (.slice (t'.u 1).a (t'.u 1).n (t'.u 1).c) (.slice (t'.u 2).a (t'.u 2).n (t'.u 2).c) (.slice t'.c.a t'.c.n t'.c.c)) b t' d' :=
  h.turn (h.rm.put t') (below_put6 h.bel h.hi _ _ _ _ _ _) (fun _ hi => put6_other _ _ _ _ _ _ _ _ hi) (put6_size _ _ _ _ _ _ _ _).symm hp
/-- The result's cell is turned: all else stands. -/
theorem Ro.res {rb : Nat} {t0 : Hs} (h : Ro w W b t d) (hr : Rm W rb t0) (hi : w.heap.size ≤ rb) (t' : Hs) : Hp (put6 W rb (.slice t'.w.a t'.w.n t'.w.c) (.slice t'.p.a t'.p.n t'.p.c) (.slice (t'.u 0).a (t'.u 0).n (t'.u 0).c) (.slice (t'.u 1).a (t'.u 1).n (t'.u 1).c) (.slice (t'.u 2).a (t'.u 2).n (t'.u 2).c) (.slice t'.c.a t'.c.n t'.c.c)) (put6 W rb (.slice t'.w.a t'.w.n t'.w.c) (.slice t'.p.a t'.p.n t'.p.c) (.slice (t'.u 0).a (t'.u 0).n (t'.u 0).c) (.slice (t'.u 1).a (t'.u 1).n (t'.u 1).c) (.slice (t'.u 2).a (t'.u 2).n (t'.u 2).c) (.slice t'.c.a t'.c.n t'.c.c)).heap.size t d ∧
    Below w.heap.size w (put6 W rb (.slice t'.w.a t'.w.n t'.w.c) (.slice t'.p.a t'.p.n t'.p.c) (.slice (t'.u 0).a (t'.u 0).n (t'.u 0).c) (.slice (t'.u 1).a (t'.u 1).n (t'.u 1).c) (.slice (t'.u 2).a (t'.u 2).n (t'.u 2).c) (.slice t'.c.a t'.c.n t'.c.c)) :=
  ⟨hp_turn hr.sl h.hp (fun _ hi => put6_other _ _ _ _ _ _ _ _ hi) (put6_size _ _ _ _ _ _ _ _).symm, below_put6 h.bel hi _ _ _ _ _ _⟩
end
end Go.Proofs.YtccjelpfmkbmiaaGreatDoor
end
