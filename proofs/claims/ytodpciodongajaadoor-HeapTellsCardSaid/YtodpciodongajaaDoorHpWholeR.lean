/-
  The reference's Whole of a heap.
-/
import Derived.Test.YtodpciodongajaaDoorHpWholeP
import Derived.Test.YtodpciodongajaaDoorHpUsedR
namespace Go.Proofs.YtodpciodongajaaDoor
open Go.RowKit
set_option maxRecDepth 100000
attribute [local go_sem ↓] Go.wp_at_zero Go.wp_at_succ

/-- Is a cell's first word something, or the cell known as free? -/
def okW (d : Hd_) (ks : List Int) (a : Int) : Bool := !(wd d a == 0) || decide (a ∈ ks)
theorem take_mem {ks : List Int} {q : Nat} (hq : q < ks.length) (y : Int) : decide (y ∈ ks.take (q + 1)) = (decide (y ∈ ks.take q) || (ks.getD q 0 == y)) := by
  rw [← prefix_next hq, Bool.eq_iff_iff]
  simp only [List.mem_append, List.mem_singleton, decide_eq_true_eq, Bool.or_eq_true, beq_iff_eq]
  exact or_congr Iff.rfl eq_comm
section
variable (s : Hs) (d : Hd_) (A : Option Addr) (m c : Nat) (U : Nat → Nat → Ls.Sl) (F : Nat → Nat → List Int) (w : World)
theorem rwhole_no (hp : Hp w w.heap.size s d) (hl : Ls.LRow w w.heap.size A m U F) (hm : m ≤ 1000) (hf : Fine s d) (hlen : (Ls.allOf (ahead d.F F) (1 + m)).length ≤ 2000000) (hmm : mayH s d m F = false) :
    Calls Tryd.prog 19 #[(.agg #[.slice s.w.a s.w.n s.w.c, .slice s.p.a s.p.n s.p.c, .slice (s.u 0).a (s.u 0).n (s.u 0).c, .slice (s.u 1).a (s.u 1).n (s.u 1).c, .slice (s.u 2).a (s.u 2).n (s.u 2).c, .slice s.c.a s.c.n s.c.c]), .slice A m c] w fun e w' => e = .returned (.bool false) ∧ Below w.heap.size w w' := by
  have hb0 := (Below.refl w.heap.size w).alloc (Nat.le_refl _) (.cells #[.slice s.w.a s.w.n s.w.c, .slice s.p.a s.p.n s.p.c, .slice (s.u 0).a (s.u 0).n (s.u 0).c, .slice (s.u 1).a (s.u 1).n (s.u 1).c, .slice (s.u 2).a (s.u 2).n (s.u 2).c, .slice s.c.a s.c.n s.c.c] 28)
  have hMM := rmayH_any s d A m c U F _ (hp.next hb0) (lrow_more (hl.below hb0) hb0.size) hm hf.wn (by have := hf.pn; omega) hf.hv hlen
  rw [hmm] at hMM
  have HM := Lib.hid hMM
  clear hp hl hf hlen hmm hMM
  go_enter Tryd.func19, Tryd.ntmps19
  go_wp2_with fail
  refine HM.out.mono ?_
  rintro e w1 ⟨rfl, hb1⟩
  have HB := Lib.hid (hb0.trans (hb1.mono hb0.size))
  clear hb0 hb1
  go_wp2
  go_ret
  exact ⟨rfl, HB.out⟩
set_option maxHeartbeats 2000000 in
theorem rwhole_core (R : Bool) (xs ks : List Int) (hxe : Cl.allS d.f s.p.n = xs) (hke : Ls.allOf (ahead d.F F) (1 + m) = ks) (hp : Hp w w.heap.size s d) (hl : Ls.LRow w w.heap.size A m U F) (hm : m ≤ 1000) (hf : Fine s d) (hlen : (Ls.allOf (ahead d.F F) (1 + m)).length ≤ 2000000) (hmm : mayH s d m F = true) (hR : R = xs.all (okW d ks)) :
    Calls Tryd.prog 19 #[(.agg #[.slice s.w.a s.w.n s.w.c, .slice s.p.a s.p.n s.p.c, .slice (s.u 0).a (s.u 0).n (s.u 0).c, .slice (s.u 1).a (s.u 1).n (s.u 1).c, .slice (s.u 2).a (s.u 2).n (s.u 2).c, .slice s.c.a s.c.n s.c.c]), .slice A m c] w fun e w' => e = .returned (.bool R) ∧ Below w.heap.size w w' := by
  have hall := Cl.rall_any w.heap.size s.p.a s.p.n s.p.c d.f
  have hls := allS_len d.f s.p.n
  have hin := fun a (h : a ∈ Cl.allS d.f s.p.n) => allS_in h
  rw [hxe] at hall hls hin
  have HALL := Lib.hid hall
  have HIN := Lib.hid hin
  have hb0 := (Below.refl w.heap.size w).alloc (Nat.le_refl _) (.cells #[.slice s.w.a s.w.n s.w.c, .slice s.p.a s.p.n s.p.c, .slice (s.u 0).a (s.u 0).n (s.u 0).c, .slice (s.u 1).a (s.u 1).n (s.u 1).c, .slice (s.u 2).a (s.u 2).n (s.u 2).c, .slice s.c.a s.c.n s.c.c] 28)
  have hMM := rmayH_any s d A m c U F _ (hp.next hb0) (lrow_more (hl.below hb0) hb0.size) hm hf.wn (by have := hf.pn; omega) hf.hv hlen
  rw [hmm] at hMM
  have HM := Lib.hid hMM
  have hfb := (mayH_all hmm).1
  unfold firstB at hfb
  simp only [Bool.and_eq_true, decide_eq_true_eq] at hfb
  obtain ⟨-, hpm, hw, -⟩ := hfb
  have hpn0 : 0 < s.p.n := by have := ((Cl.mayB_iff _ _).1 hpm).1; omega
  have hpn : s.p.n ≤ 64 := ((Cl.mayB_iff _ _).1 hpm).2.1
  clear hall hin hxe hMM hmm hpm
  rcases s with ⟨⟨aw, nw, cw⟩, sp, su, sc⟩
  obtain ⟨bw, ow, rfl, hbw, hcw⟩ := hp.words.2 (show 0 < nw by dsimp only at hw hpn0; omega)
  dsimp only at hw hpn hpn0 hcw HALL HIN HM hb0 ⊢
  have HP := Lib.hid hp
  have HL := Lib.hid hl
  have HCW := Lib.hid hcw
  have HW := Lib.hid hw
  have HKE := Lib.hid hke
  have HLEN := Lib.hid hlen
  have HR := Lib.hid hR
  clear hp hf hcw hw hl hke hlen hR
  go_enter Tryd.func19, Tryd.ntmps19
  go_wp2_with fail
  refine HM.out.mono ?_
  rintro e w1 ⟨rfl, hb1⟩
  have bx1 := (HBox.new w ⟨⟨some ⟨bw, ow, none⟩, nw, cw⟩, sp, su, sc⟩ 28).next hb1
  have N1 := Lib.hid (HNow.mk (d := d) bx1 (hb0.trans (hb1.mono hb0.size)) (HP.out.below (hb0.trans (hb1.mono hb0.size))))
  have q0 := bx1.c0
  have q1 := bx1.c1
  have q2 := bx1.c2
  have q3 := bx1.c3
  have q4 := bx1.c4
  have q5 := bx1.c5
  have ql := bx1.lt
  clear hb0 hb1 bx1
  go_wp2_with (at_builtin; refine list_glue rfl (.tmp 18) (.tmp 19) rfl rfl rfl N1.out.hp.free N1.out.bel.size (HL.out.below N1.out.bel) hm ?_)
  intro A2 cap w2 hl2 hb2
  have N2 := Lib.hid (N1.out.next hb2)
  have L2 := Lib.hid hl2
  clear hl2 hb2 q0 q1 q2 q3 q4 q5 ql
  go_wp2_with fail
  refine (Ls.rall_any w2.heap.size A2 (1 + m) cap _ _ w2 L2.out (Nat.le_refl _) (by omega) HLEN.out).mono ?_
  rw [HKE.out]
  rintro e w3 ⟨v, rfl, ho3, hb3⟩
  have N3 := Lib.hid (N2.out.next hb3)
  obtain ⟨a3, c3, e3, hk3, _, _⟩ := Ls.owns_row ho3
  simp only [Value.slice.injEq, true_and] at e3
  obtain ⟨rfl, rfl⟩ := e3
  have HK3 := Lib.hid hk3
  have q1 := N3.out.box.c1
  have ql := N3.out.box.lt
  dsimp only at q1
  have hkl : ks.length ≤ 2000000 := by have := HLEN.out; rw [HKE.out] at this; exact this
  clear ho3 hb3 hk3
  go_wp2_with fail
  refine (HALL.out _ (by omega) N3.out.hp.pages N3.out.bel.size).mono ?_
  rintro r w4 ⟨la, lc, rfl, hrow, _, _, hb4⟩
  have N4 := Lib.hid (N3.out.next hb4)
  have HK4 := Lib.hid ((HK3.out.below hb4).more hb4.size)
  obtain ⟨n, hn⟩ : ∃ n, xs.length = n := ⟨_, rfl⟩
  have HN := Lib.hid hn
  rw [hn] at hrow hls ⊢
  have HROW := Lib.hid hrow
  obtain ⟨nk, hnk⟩ : ∃ nk, v.n = nk := ⟨_, rfl⟩
  have hnk2 : nk = ks.length := by have := HK3.out.1; omega
  have HNK := Lib.hid hnk2
  have hnk3 : nk ≤ 2000000 := by omega
  rw [hnk] at HK4 ⊢
  obtain ⟨va, vn, vc⟩ := v
  dsimp only at hnk HK4 ⊢
  clear hrow hb4 q1 ql hn hnk hnk2 hkl HK3
  go_wp2
  go_loopw [8] (fun i wr => ∃ q : Nat, q ≤ n ∧ i = .int .i64 q ∧ Hid (∀ j, j < q → okW d ks (xs.getD j 0) = true) ∧ Hid (Below w4.heap.size w4 wr)) (fun i _ => n - (intOf i).toNat)
  case atStart => exact ⟨0, Nat.zero_le _, rfl, Lib.hid (fun j h => absurd h (by omega)), Lib.hid (Below.refl _ _)⟩
  case round =>
    obtain ⟨q, hq, rfl, HG, HB⟩ := hrel
    by_cases hlt : q < n
    · have NN := HN.out
      obtain ⟨b, off, rfl, hbl, hcell⟩ := (HROW.out.below HB.out).2 (by omega)
      have hq1 := hcell q hlt
      obtain ⟨y, hy⟩ : ∃ y, y = xs.getD q 0 := ⟨_, rfl⟩
      rw [← hy] at hq1
      have hyin := HIN.out y (by rw [hy]; exact getD_mem (by omega))
      obtain ⟨i, hi⟩ : ∃ i : Nat, y - 16 = i := ⟨(y - 16).toNat, by omega⟩
      have hiw : i < nw := by have := HW.out; omega
      obtain ⟨x, hx⟩ : ∃ x, x = wd d y := ⟨_, rfl⟩
      have hw0 := (N4.out.next HB.out).bel.cell (p := ⟨bw, ow + i, none⟩) hbw |>.trans (HCW.out i hiw)
      rw [show d.ws.getD i 0 = x by rw [hx, wd, show (y - 16).toNat = i by omega]] at hw0
      have bq := (N4.out.next HB.out).box
      have q0 := bq.c0
      have ql := bq.lt
      dsimp only at q0
      have hbs : b < wr.heap.size := by have := HB.out.size; omega
      have hbws : bw < wr.heap.size := by have := (N4.out.next HB.out).bel.size; omega
      have HY := Lib.hid hy
      have HX := Lib.hid hx
      have i0 : (0 : Int) ≤ i := by omega
      have i1 : (i : Int) < nw := by omega
      have j0 : (0 : Int) ≤ q := by omega
      have j1 : (q : Int) < n := by omega
      have wi : IntKind.i64.wrap (i : Int) = i := by simp [IntKind.wrap, IntKind.signed, IntKind.bits]; omega
      obtain ⟨bz, hbz⟩ : ∃ bz, (x != 0) = bz := ⟨_, rfl⟩
      have HBZ := Lib.hid hbz
      clear hcell hyin hx hy bq NN
      go_wp2
      go_quiet (fail)
      have HB5 : Hid (Below w4.heap.size w4 (wr.drewN nq)) := Lib.hid (below_drawn' HB.out nq)
      have hq5 : (wr.drewN nq).cell? ⟨b, off + q, none⟩ = some (.int .i64 y) := hq1
      have hb5 : b < (wr.drewN nq).heap.size := hbs
      have HQ5 := Lib.hid (And.intro hq5 hb5)
      have hbl4 := HROW.out.2 (by omega)
      clear hw0 q0 ql hbws hbs hq1 hi wi hbz i0 i1 hq5 hb5 hbl4
      generalize wr.drewN nq = w5 at HB5 HQ5 ⊢
      obtain ⟨wo, hwo⟩ : ∃ wo : World, wo = w5 := ⟨_, rfl⟩
      go_wp2
      go_loopw [9, 10] (fun o k wr => ∃ (t : Nat) (z : Bool), t ≤ nk ∧ k = .int .i64 t ∧ o = .bool z ∧ Hid (z = (bz || decide (y ∈ ks.take t))) ∧ Hid (Below w5.heap.size w5 wr)) (fun _ k _ => nk - (intOf k).toNat)
      case atStart => exact ⟨0, bz, Nat.zero_le _, rfl, rfl, Lib.hid (by simp), Lib.hid (Below.refl _ _)⟩
      case round =>
        obtain ⟨t, z, ht, rfl, rfl, HZ, HB6⟩ := hrel
        have jq0 : (0 : Int) ≤ t := by omega
        by_cases hlt2 : t < nk
        · have jt : decide ((t : Int) < nk) = true := by simp; omega
          cases z
          · obtain ⟨bk, ok, rfl, hbk, hck⟩ := (HK4.out.below (HB5.out.trans (HB6.out.mono HB5.out.size))).2 (by omega)
            have hkc := hck t hlt2
            obtain ⟨g, hg⟩ : ∃ g, g = ks.getD t 0 := ⟨_, rfl⟩
            rw [← hg] at hkc
            have hqc := (HB6.out.cell (p := ⟨b, off + q, none⟩) HQ5.out.2).trans HQ5.out.1
            have hbs6 : b < wr.heap.size := by have := HB6.out.size; have := HQ5.out.2; omega
            have hbk6 : bk < wr.heap.size := by have := HB6.out.size; have := HB5.out.size; omega
            have jq1 : (t : Int) < nk := by omega
            have HZ2 : ∀ k, Hid ((g == y) = (bz || decide (y ∈ ks.take (t + 1)))) ∧ Hid (Below w5.heap.size w5 (wr.drewN k)) := fun k => ⟨Lib.hid (by
              rw [take_mem (by have := HNK.out; omega), ← hg, ← Bool.or_assoc, ← HZ.out, Bool.false_or]), Lib.hid (below_drawn' HB6.out k)⟩
            clear hck hg
            go_wp2
            go_quiet (fail)
            go_wp2
            go_roundw
            case rel => exact ⟨t + 1, _, by omega, by go_num, rfl, (HZ2 0).1, (HZ2 _).2⟩
            case measure => simp [intOf]; omega
          · have HG2 : Hid (∀ j, j < q + 1 → okW d ks (xs.getD j 0) = true) := Lib.hid (fun j hj => by
              by_cases e : j = q
              · rw [e, ← HY.out, okW, ← HX.out]
                have h1 := HZ.out
                rw [← HBZ.out] at h1
                rcases Bool.or_eq_true _ _ ▸ h1.symm with h2 | h2
                · rw [show (!(x == 0)) = true from h2]; rfl
                · have : y ∈ ks := List.mem_of_mem_take (of_decide_eq_true h2)
                  simp [this]
              · exact HG.out j (by omega))
            have HB7 := Lib.hid (HB5.out.trans (HB6.out.mono HB5.out.size))
            go_wp2
            go_roundw
            case rel => exact ⟨q + 1, by omega, by go_num, HG2, HB7⟩
            case measure => simp [intOf]; omega
        · obtain rfl : t = nk := by omega
          have jt : decide ((t : Int) < t) = false := by simp
          have hzz : z = okW d ks y := by
            rw [HZ.out, List.take_of_length_le (by have := HNK.out; omega), ← HBZ.out, okW, ← HX.out]
            rfl
          have HB7 := Lib.hid (HB5.out.trans (HB6.out.mono HB5.out.size))
          cases z
          · have hR0 : R = false := by rw [HR.out]; exact all_snoc (q := q) (by have := HN.out; omega) (by rw [← HY.out, ← hzz])
            subst hR0
            clear hzz
            go_wp2
            go_ret
            exact ⟨rfl, (N4.out.next HB7.out).bel⟩
          · have HG2 : Hid (∀ j, j < q + 1 → okW d ks (xs.getD j 0) = true) := Lib.hid (fun j hj => by
              by_cases e : j = q
              · rw [e, ← HY.out, ← hzz]
              · exact HG.out j (by omega))
            clear hzz
            go_wp2
            go_roundw
            case rel => exact ⟨q + 1, by omega, by go_num, HG2, HB7⟩
            case measure => simp [intOf]; omega
    · obtain rfl : q = n := by omega
      have hRt : R = true := by rw [HR.out]; exact all_every (fun j hj => HG.out j (by have := HN.out; omega))
      have HE := Lib.hid (N4.out.next HB.out).bel
      subst hRt
      go_wp2
      go_ret
      exact ⟨rfl, HE.out⟩
theorem rwhole_any (hp : Hp w w.heap.size s d) (hl : Ls.LRow w w.heap.size A m U F) (hm : m ≤ 1000) (hf : Fine s d) (hlen : (Ls.allOf (ahead d.F F) (1 + m)).length ≤ 2000000) :
    Calls Tryd.prog 19 #[(.agg #[.slice s.w.a s.w.n s.w.c, .slice s.p.a s.p.n s.p.c, .slice (s.u 0).a (s.u 0).n (s.u 0).c, .slice (s.u 1).a (s.u 1).n (s.u 1).c, .slice (s.u 2).a (s.u 2).n (s.u 2).c, .slice s.c.a s.c.n s.c.c]), .slice A m c] w fun e w' => e = .returned (.bool (wholeH s d m F)) ∧ Below w.heap.size w w' := by
  cases hmm : mayH s d m F
  · rw [show wholeH s d m F = false by simp [wholeH, hmm]]
    exact rwhole_no s d A m c U F w hp hl hm hf hlen hmm
  · exact rwhole_core s d A m c U F w _ _ _ rfl rfl hp hl hm hf hlen hmm (by rw [wholeH, hmm, Bool.true_and]; rfl)
end
end Go.Proofs.YtodpciodongajaaDoor
