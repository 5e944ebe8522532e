/-
  The reference's Used of a heap.
-/
import Derived.Test.YtodpciodongajaaDoorHpHeadP
namespace Go.Proofs.YtodpciodongajaaDoor
open Go.RowKit
set_option maxRecDepth 100000
attribute [local go_sem ↓] Go.wp_at_zero Go.wp_at_succ

def nzF (d : Hd_) (pre : List Int) : List Int := pre.filter fun a => decide (¬ wd d a = 0)
theorem nz_used {d : Hd_} {xs : List Int} (h : ∀ a ∈ xs, Hd.isWord (wd d a) = true) : nzF d xs = usedF d xs := by
  unfold nzF usedF
  refine List.filter_congr fun a ha => ?_
  rw [decide_eq_decide]
  constructor
  · intro h0
    exact Classical.byContradiction fun h1 => h0 (Hd.isWord_even (h a ha) h1)
  · intro h1 h0
    rw [h0] at h1
    exact absurd h1 (by decide)
theorem own_less {w : World} {b b' n : Nat} {v : Value} {xs : List Value} (h : w.ownsRow b 3 1 v n xs) (hb : b' ≤ b) : w.ownsRow b' 3 1 v n xs :=
  ⟨h.1, h.2.imp id fun ⟨g, cap, cur, e, hg, r⟩ => ⟨g, cap, cur, e, Nat.le_trans hb hg, r⟩⟩
theorem nz_next {d : Hd_} {xs : List Int} {q : Nat} (hq : q < xs.length) : nzF d (xs.take (q + 1)) = if wd d (xs.getD q 0) = 0 then nzF d (xs.take q) else nzF d (xs.take q) ++ [xs.getD q 0] := by
  rw [← prefix_next hq]
  unfold nzF
  rw [List.filter_append]
  generalize xs.getD q 0 = y
  split
  · next h => simp [h]
  · next h => simp [h]
section
variable (s : Hs) (d : Hd_) (w : World)
theorem rused_no (hp : Hp w w.heap.size s d) (hf : Fine s d) (hm : mayB0 s d = false) : Calls Tryd.prog 15 #[(.agg #[.slice s.w.a s.w.n s.w.c, .slice s.p.a s.p.n s.p.c, .slice (s.u 0).a (s.u 0).n (s.u 0).c, .slice (s.u 1).a (s.u 1).n (s.u 1).c, .slice (s.u 2).a (s.u 2).n (s.u 2).c, .slice s.c.a s.c.n s.c.c])] w (Ls.AllOut w []) := by
  have HP := Lib.hid hp
  have HF := Lib.hid hf
  have HM := Lib.hid hm
  have hb0 := (Below.refl w.heap.size w).alloc (Nat.le_refl _) (.cells #[.slice s.w.a s.w.n s.w.c, .slice s.p.a s.p.n s.p.c, .slice (s.u 0).a (s.u 0).n (s.u 0).c, .slice (s.u 1).a (s.u 1).n (s.u 1).c, .slice (s.u 2).a (s.u 2).n (s.u 2).c, .slice s.c.a s.c.n s.c.c] 28)
  clear hp hf hm
  go_enter Tryd.func15, Tryd.ntmps15
  go_wp2_with fail
  refine (rmay0_any s d _ (HP.out.next hb0) HF.out.wn (by have := HF.out.pn; omega) HF.out.hv HF.out.len).mono ?_
  rw [HM.out]
  rintro e w1 ⟨rfl, hb1⟩
  have bx1 := (HBox.new w s 28).next hb1
  have N1 := Lib.hid (HNow.mk (d := d) bx1 (hb0.trans (hb1.mono hb0.size)) (HP.out.below (hb0.trans (hb1.mono hb0.size))))
  have q1 := bx1.c1
  have ql := bx1.lt
  clear hb0 hb1 bx1
  go_wp2_with fail
  refine (Cl.rall_any w.heap.size s.p.a s.p.n s.p.c d.f _ (by have := HF.out.pn; omega) N1.out.hp.pages N1.out.bel.size).mono ?_
  rintro r w2 ⟨la, lc, rfl, hrow, _, _, hb2⟩
  have B2 := Lib.hid (N1.out.next hb2).bel
  have hl := allS_len d.f s.p.n
  obtain ⟨n, hn⟩ : ∃ n, (Cl.allS d.f s.p.n).length = n := ⟨_, rfl⟩
  rw [hn] at hl ⊢
  clear hrow hb2 q1 ql hn
  go_wp2
  go_loopw [3, 6] (fun o i wr => o = .slice none 0 0 ∧ i = .int .i64 0 ∧ wr = w2) (fun _ _ _ => 0)
  case atStart => exact ⟨rfl, rfl, rfl⟩
  case round =>
    obtain ⟨rfl, rfl, rfl⟩ := hrel
    by_cases h0 : 0 < n
    · have d0 : decide ((0 : Int) < n) = true := by simp; omega
      go_wp2
      go_ret
      exact ⟨⟨none, 0, 0⟩, rfl, World.ownsRow_nil _ _ _ _, B2.out⟩
    · have d0 : decide ((0 : Int) < n) = false := by simp; omega
      go_wp2
      go_ret
      exact ⟨⟨none, 0, 0⟩, rfl, World.ownsRow_nil _ _ _ _, B2.out⟩
set_option maxHeartbeats 1000000 in
theorem rused_core (xs : List Int) (hxe : Cl.allS d.f s.p.n = xs) (hp : Hp w w.heap.size s d) (hf : Fine s d) (hm : mayB0 s d = true) : Calls Tryd.prog 15 #[(.agg #[.slice s.w.a s.w.n s.w.c, .slice s.p.a s.p.n s.p.c, .slice (s.u 0).a (s.u 0).n (s.u 0).c, .slice (s.u 1).a (s.u 1).n (s.u 1).c, .slice (s.u 2).a (s.u 2).n (s.u 2).c, .slice s.c.a s.c.n s.c.c])] w (Ls.AllOut w (nzF d xs)) := by
  have hall := Cl.rall_any w.heap.size s.p.a s.p.n s.p.c d.f
  have hl := allS_len d.f s.p.n
  have hin := fun a (h : a ∈ Cl.allS d.f s.p.n) => allS_in h
  rw [hxe] at hall hl hin
  have HALL := Lib.hid hall
  have HIN := Lib.hid hin
  clear hall hin hxe
  have hfb := (mayH_all hm).1
  unfold firstB at hfb
  simp only [Bool.and_eq_true, decide_eq_true_eq] at hfb
  obtain ⟨-, hpm, hw, -⟩ := hfb
  have hpn0 : 0 < s.p.n := by have := ((Cl.mayB_iff _ _).1 hpm).1; omega
  have hpn : s.p.n ≤ 64 := ((Cl.mayB_iff _ _).1 hpm).2.1
  rcases s with ⟨⟨aw, nw, cw⟩, sp, su, sc⟩
  obtain ⟨bw, ow, rfl, hbw, hcw⟩ := hp.words.2 (show 0 < nw by dsimp only at hw hpn0; omega)
  dsimp only at hw hpn hpn0 hcw HALL HIN ⊢
  have HP := Lib.hid hp
  have HF := Lib.hid hf
  have HM := Lib.hid hm
  have HCW := Lib.hid hcw
  have HW := Lib.hid hw
  have hb0 := (Below.refl w.heap.size w).alloc (Nat.le_refl _) (.cells #[.slice (some ⟨bw, ow, none⟩) nw cw, .slice sp.a sp.n sp.c, .slice (su 0).a (su 0).n (su 0).c, .slice (su 1).a (su 1).n (su 1).c, .slice (su 2).a (su 2).n (su 2).c, .slice sc.a sc.n sc.c] 28)
  clear hp hf hm hcw hw hpm
  go_enter Tryd.func15, Tryd.ntmps15
  go_wp2_with fail
  refine (rmay0_any ⟨⟨some ⟨bw, ow, none⟩, nw, cw⟩, sp, su, sc⟩ d _ (HP.out.next hb0) HF.out.wn (by have := HF.out.pn; omega) HF.out.hv HF.out.len).mono ?_
  rw [HM.out]
  rintro e w1 ⟨rfl, hb1⟩
  have bx1 := (HBox.new w ⟨⟨some ⟨bw, ow, none⟩, nw, cw⟩, sp, su, sc⟩ 28).next hb1
  have N1 := Lib.hid (HNow.mk (d := d) bx1 (hb0.trans (hb1.mono hb0.size)) (HP.out.below (hb0.trans (hb1.mono hb0.size))))
  have q1 := bx1.c1
  have ql := bx1.lt
  clear hb0 hb1 bx1
  go_wp2_with fail
  refine (HALL.out _ (by omega) N1.out.hp.pages N1.out.bel.size).mono ?_
  rintro r w2 ⟨la, lc, rfl, hrow, _, _, hb2⟩
  have N2 := Lib.hid (N1.out.next hb2)
  obtain ⟨n, hn⟩ : ∃ n, xs.length = n := ⟨_, rfl⟩
  have HN := Lib.hid hn
  rw [hn] at hrow hl ⊢
  have HR := Lib.hid hrow
  clear hrow hb2 q1 ql N1 hn
  go_wp2
  go_loopw [3, 6] (fun o i wr => ∃ (v : Ls.Sl) (q : Nat), q ≤ n ∧ o = .slice v.a v.n v.c ∧ i = .int .i64 q ∧ Hid (Ls.Alling w2 wr v (nzF d (xs.take q)))) (fun _ i _ => n - (intOf i).toNat)
  case atStart => exact ⟨⟨none, 0, 0⟩, 0, Nat.zero_le _, rfl, rfl, Lib.hid ⟨World.ownsRow_nil _ _ _ _, Below.refl _ _⟩⟩
  case round =>
    obtain ⟨v, q, hq, rfl, rfl, HA⟩ := hrel
    by_cases hlt : q < n
    · have NN := HN.out
      obtain ⟨b, off, rfl, hbl, hcell⟩ := (HR.out.below HA.out.bel).2 (by omega)
      have hq1 := hcell q hlt
      obtain ⟨y, hy⟩ : ∃ y, y = xs.getD q 0 := ⟨_, rfl⟩
      rw [← hy] at hq1
      have hmem : y ∈ xs := by rw [hy]; exact getD_mem (by omega)
      have hyin := HIN.out y hmem
      obtain ⟨i, hi⟩ : ∃ i : Nat, y - 16 = i := ⟨(y - 16).toNat, by omega⟩
      have hiw : i < nw := by have := HW.out; omega
      obtain ⟨x, hx⟩ : ∃ x, x = wd d y := ⟨_, rfl⟩
      have hw0 := (N2.out.next HA.out.bel).bel.cell (p := ⟨bw, ow + i, none⟩) hbw |>.trans (HCW.out i hiw)
      rw [show d.ws.getD i 0 = x by rw [hx, wd, show (y - 16).toNat = i by omega]] at hw0
      have bq := (N2.out.next HA.out.bel).box
      have q0 := bq.c0
      have ql := bq.lt
      dsimp only at q0
      have hbs : b < wr.heap.size := by have := HA.out.bel.size; omega
      have hbws : bw < wr.heap.size := by have := (N2.out.next HA.out.bel).bel.size; omega
      have HNX := Lib.hid (nz_next (d := d) (xs := xs) (q := q) (by omega))
      rw [← hy, ← hx] at HNX
      have hvn : v.n + 1 ≤ 4000000 := by
        have h1 := HA.out.len
        have h2 : (nzF d (xs.take q)).length ≤ (xs.take q).length := List.length_filter_le _ _
        rw [List.length_take] at h2
        omega
      have i0 : (0 : Int) ≤ i := by omega
      have i1 : (i : Int) < nw := by omega
      have j0 : (0 : Int) ≤ q := by omega
      have j1 : (q : Int) < n := by omega
      have jt : decide ((q : Int) < n) = true := by simp; omega
      have wi : IntKind.i64.wrap (i : Int) = i := by simp [IntKind.wrap, IntKind.signed, IntKind.bits]; omega
      clear hcell hmem hyin hx hy bq NN
      by_cases hz : x = 0
      · have hz1 : (x != 0) = false := by simp [hz]
        have HA2 : ∀ k, Hid (Ls.Alling w2 (wr.drewN k) v (nzF d (xs.take (q + 1)))) := fun k => Lib.hid (by
          rw [HNX.out, if_pos hz]
          exact ⟨HA.out.own, below_drawn' HA.out.bel k⟩)
        clear hz
        go_wp2
        go_quiet (fail)
        go_wp2
        go_roundw
        case rel => exact ⟨v, q + 1, by omega, rfl, by go_num, HA2 _⟩
        case measure => simp [intOf]; omega
      · have hz1 : (x != 0) = true := by simp [hz]
        have HNX2 := Lib.hid (HNX.out.trans (if_neg hz))
        clear hz HNX
        go_wp2
        go_quiet (fail)
        have hq4 : (wr.drewN nq).cell? ⟨b, off + q, none⟩ = some (.int .i64 y) := hq1
        have ha4 : Ls.Alling w2 (wr.drewN nq) v (nzF d (xs.take q)) := ⟨HA.out.own, below_drawn' HA.out.bel nq⟩
        have hb4 : b < (wr.drewN nq).heap.size := hbs
        have HA4 := Lib.hid ha4
        clear hw0 q0 ql hbws hbs hq1 ha4
        generalize wr.drewN nq = w4 at hq4 hb4 HA4 ⊢
        go_wp2_with (at_builtin; refine Ls.list_cat rfl _ _ rfl rfl rfl (HA4.out.alloc _).own (Ls.row_lit1 _ _) (HA4.out.alloc _).bel.size hvn ?_)
        intro p' cp' w5 hcat
        have hA5 := (HA4.out.alloc _).cat hcat
        rw [← HNX2.out] at hA5
        have H5 := Lib.hid hA5
        clear hcat hA5 hq4 hb4
        go_wp2
        go_roundw
        case rel => exact ⟨⟨p', v.n + 1, cp'⟩, q + 1, by omega, rfl, by go_num, H5⟩
        case measure => simp [intOf]; omega
    · obtain rfl : q = n := by omega
      have jt : decide ((q : Int) < q) = false := by simp
      have HH := HA.out
      rw [List.take_of_length_le (by have := HN.out; omega)] at HH
      have HE := Lib.hid (And.intro (own_less HH.own N2.out.bel.size) (N2.out.next HH.bel).bel)
      clear HH
      go_wp2
      go_ret
      exact ⟨v, rfl, HE.out.1, HE.out.2⟩
theorem rused_any (hp : Hp w w.heap.size s d) (hf : Fine s d) : Calls Tryd.prog 15 #[(.agg #[.slice s.w.a s.w.n s.w.c, .slice s.p.a s.p.n s.p.c, .slice (s.u 0).a (s.u 0).n (s.u 0).c, .slice (s.u 1).a (s.u 1).n (s.u 1).c, .slice (s.u 2).a (s.u 2).n (s.u 2).c, .slice s.c.a s.c.n s.c.c])] w (Ls.AllOut w (usedL s d)) := by
  cases hm : mayB0 s d
  · rw [show usedL s d = [] by simp [usedL, hm]]
    exact rused_no s d w hp hf hm
  · rw [show usedL s d = nzF d (Cl.allS d.f s.p.n) by
      rw [usedL, if_pos hm]
      exact (nz_used fun a ha => (word_used (List.all_eq_true.1 (mayH_all hm).2.1 a ha)).1).symm]
    exact rused_core s d w _ rfl hp hf hm
end
end Go.Proofs.YtodpciodongajaaDoor
