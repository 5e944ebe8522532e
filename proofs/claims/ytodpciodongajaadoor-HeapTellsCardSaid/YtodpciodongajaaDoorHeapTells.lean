/-
  HeapTells.
-/
import Derived.Test.YtodpciodongajaaDoorHpIns
import Derived.Test.YtodpciodongajaaDoorHpAwake
import Derived.Test.YtodpciodongajaaDoorHpFew
import Derived.Test.YtodpciodongajaaDoorHpUsedR
import Derived.Test.YtodpciodongajaaDoorHpWholeR
namespace Go.Proofs.YtodpciodongajaaDoor.HeapTells
open Go.Proofs.YtodpciodongajaaDoor
open Go.ChangeShapes Go.WideShapes Go.ChangeAt Go.RowKit
set_option maxRecDepth 100000

section
variable (s : Hs) (d : Hd_) (A : Option Addr) (m c : Nat) (U : Nat → Nat → Ls.Sl) (F : Nat → Nat → List Int) (a : Int) (w : World)
theorem walk_few (hz : Cl.Sz w) (hf : fewH s = false) (hp : Hp w w.heap.size s d) : Calls Tryd.prog 3 #[(.agg #[.slice s.w.a s.w.n s.w.c, .slice s.p.a s.p.n s.p.c, .slice (s.u 0).a (s.u 0).n (s.u 0).c, .slice (s.u 1).a (s.u 1).n (s.u 1).c, .slice (s.u 2).a (s.u 2).n (s.u 2).c, .slice s.c.a s.c.n s.c.c]), .slice A m c, .int .i64 a] w fun e w' => e = .returned (.bool true) ∧ Below w.heap.size w w' := by
  have HZ := Lib.hid hz
  have hz0 := hz.pos
  have HP := Lib.hid hp
  have HF := Lib.hid hf
  clear hz hf hp
  go_enter Tryd.func3, Tryd.ntmps3
  go_wp2_with fail
  have b0 := (Below.refl w.heap.size w).alloc (Nat.le_refl _) (.cells #[.slice s.w.a s.w.n s.w.c, .slice s.p.a s.p.n s.p.c, .slice (s.u 0).a (s.u 0).n (s.u 0).c, .slice (s.u 1).a (s.u 1).n (s.u 1).c, .slice (s.u 2).a (s.u 2).n (s.u 2).c, .slice s.c.a s.c.n s.c.c] 28)
  refine (awake_any _ (HZ.out.over b0 hz0)).mono ?_
  rintro e w1 ⟨rfl, hb1⟩
  have N1 := Lib.hid (HNow.mk (d := d) ((HBox.new w s 28).next hb1) (b0.trans (hb1.mono b0.size)) (HP.out.below (b0.trans (hb1.mono b0.size))))
  have q0 := N1.out.box.c0
  have q1 := N1.out.box.c1
  have q2 := N1.out.box.c2
  have q3 := N1.out.box.c3
  have q4 := N1.out.box.c4
  have q5 := N1.out.box.c5
  have ql := N1.out.box.lt
  clear hb1 b0
  go_wp2_with fail
  refine (rfew_any s _).mono ?_
  rw [HF.out]
  rintro e w2 ⟨rfl, hb2⟩
  have N2 := Lib.hid (N1.out.next hb2)
  clear hb2 N1 q0 q1 q2 q3 q4 q5 ql
  go_wp2
  go_ret
  exact ⟨rfl, N2.out.bel⟩
theorem walk_many (hz : Cl.Sz w) (hf : fewH s = true) (hm : 4 < m) (hp : Hp w w.heap.size s d) : Calls Tryd.prog 3 #[(.agg #[.slice s.w.a s.w.n s.w.c, .slice s.p.a s.p.n s.p.c, .slice (s.u 0).a (s.u 0).n (s.u 0).c, .slice (s.u 1).a (s.u 1).n (s.u 1).c, .slice (s.u 2).a (s.u 2).n (s.u 2).c, .slice s.c.a s.c.n s.c.c]), .slice A m c, .int .i64 a] w fun e w' => e = .returned (.bool true) ∧ Below w.heap.size w w' := by
  have HZ := Lib.hid hz
  have hz0 := hz.pos
  have HP := Lib.hid hp
  have HF := Lib.hid hf
  have d1 : decide ((4 : Int) < m) = true := by simp; omega
  clear hz hf hp
  go_enter Tryd.func3, Tryd.ntmps3
  go_wp2_with fail
  have b0 := (Below.refl w.heap.size w).alloc (Nat.le_refl _) (.cells #[.slice s.w.a s.w.n s.w.c, .slice s.p.a s.p.n s.p.c, .slice (s.u 0).a (s.u 0).n (s.u 0).c, .slice (s.u 1).a (s.u 1).n (s.u 1).c, .slice (s.u 2).a (s.u 2).n (s.u 2).c, .slice s.c.a s.c.n s.c.c] 28)
  refine (awake_any _ (HZ.out.over b0 hz0)).mono ?_
  rintro e w1 ⟨rfl, hb1⟩
  have N1 := Lib.hid (HNow.mk (d := d) ((HBox.new w s 28).next hb1) (b0.trans (hb1.mono b0.size)) (HP.out.below (b0.trans (hb1.mono b0.size))))
  have q0 := N1.out.box.c0
  have q1 := N1.out.box.c1
  have q2 := N1.out.box.c2
  have q3 := N1.out.box.c3
  have q4 := N1.out.box.c4
  have q5 := N1.out.box.c5
  have ql := N1.out.box.lt
  clear hb1 b0
  go_wp2_with fail
  refine (rfew_any s _).mono ?_
  rw [HF.out]
  rintro e w2 ⟨rfl, hb2⟩
  have N2 := Lib.hid (N1.out.next hb2)
  clear hb2 N1 q0 q1 q2 q3 q4 q5 ql
  go_wp2
  go_ret
  exact ⟨rfl, N2.out.bel⟩
set_option maxHeartbeats 1000000 in
theorem walk_all (hz : Cl.Sz w) (hf : fewH s = true) (hm : m ≤ 4) (hp : Hp w w.heap.size s d) (hv : Fit64 d.ws) (hl : Ls.LRow w w.heap.size A m U F) : Calls Tryd.prog 3 #[(.agg #[.slice s.w.a s.w.n s.w.c, .slice s.p.a s.p.n s.p.c, .slice (s.u 0).a (s.u 0).n (s.u 0).c, .slice (s.u 1).a (s.u 1).n (s.u 1).c, .slice (s.u 2).a (s.u 2).n (s.u 2).c, .slice s.c.a s.c.n s.c.c]), .slice A m c, .int .i64 a] w fun e w' => e = .returned (.bool true) ∧ Below w.heap.size w w' := by
  have HZ := Lib.hid hz
  have hz0 := hz.pos
  have HF := Lib.hid hf
  have HFI := Lib.hid (fine_few hf hp hv)
  have HP := Lib.hid hp
  have HL := Lib.hid hl
  have d1 : decide ((4 : Int) < m) = false := by simp; omega
  clear hz hf hp hv hl
  go_enter Tryd.func3, Tryd.ntmps3
  go_wp2_with fail
  have b0 := (Below.refl w.heap.size w).alloc (Nat.le_refl _) (.cells #[.slice s.w.a s.w.n s.w.c, .slice s.p.a s.p.n s.p.c, .slice (s.u 0).a (s.u 0).n (s.u 0).c, .slice (s.u 1).a (s.u 1).n (s.u 1).c, .slice (s.u 2).a (s.u 2).n (s.u 2).c, .slice s.c.a s.c.n s.c.c] 28)
  refine (awake_any _ (HZ.out.over b0 hz0)).mono ?_
  rintro e w1 ⟨rfl, hb1⟩
  have N1 := Lib.hid (HNow.mk (d := d) ((HBox.new w s 28).next hb1) (b0.trans (hb1.mono b0.size)) (HP.out.below (b0.trans (hb1.mono b0.size))))
  have q0 := N1.out.box.c0
  have q1 := N1.out.box.c1
  have q2 := N1.out.box.c2
  have q3 := N1.out.box.c3
  have q4 := N1.out.box.c4
  have q5 := N1.out.box.c5
  have ql := N1.out.box.lt
  clear hb1 b0
  go_wp2_with fail
  refine (rfew_any s _).mono ?_
  rw [HF.out]
  rintro e w2 ⟨rfl, hb2⟩
  have N2 := Lib.hid (N1.out.next hb2)
  clear hb2 N1 q0 q1 q2 q3 q4 q5 ql
  go_wp2
  go_loopw [9] (fun i wr => ∃ q : Nat, q ≤ m ∧ i = .int .i64 q ∧ Hid (HNow w wr s d) ∧ Hid (∀ i, i < q → (Ls.upTo (F i) 3).length ≤ 210)) (fun i _ => m - (intOf i).toNat)
  case atStart => exact ⟨0, Nat.zero_le _, rfl, N2, Lib.hid (fun i h => absurd h (by omega))⟩
  case round =>
    obtain ⟨q, hq, rfl, N, HG⟩ := hrel
    by_cases hlt : q < m
    · obtain ⟨b, off, rfl, hbB, hc⟩ := HL.out.below N.out.bel (by omega)
      obtain ⟨hcell, hl3⟩ := hc q hlt
      have c0 := hcell 0 (by decide)
      have c1 := hcell 1 (by decide)
      have c2 := hcell 2 (by decide)
      rw [Nat.add_zero] at c0
      have hbs : b < wr.heap.size := by have := N.out.bel.size; omega
      have HR3 := Lib.hid hl3
      clear hc hcell hl3
      go_wp2_with fail
      refine (rlight_any (U q) _).mono ?_
      rintro e w3 ⟨rfl, hb3⟩
      have N3 := Lib.hid (N.out.next hb3)
      cases hlg : lightB (U q)
      · clear c0 c1 c2 hb3
        go_wp2
        go_ret
        exact ⟨rfl, N3.out.bel⟩
      · have H210 := Lib.hid (light_len hlg HR3.out)
        clear c0 c1 c2 hb3 hlg
        go_wp2
        go_roundw
        case rel =>
          refine ⟨q + 1, by omega, by go_num, N3, Lib.hid (fun i hi => ?_)⟩
          by_cases e : i = q
          · subst e
            exact H210.out
          · exact HG.out i (by omega)
        case measure => simp [intOf]; omega
    · obtain rfl : q = m := by omega
      have HLEN : Hid ((Ls.allOf (ahead d.F F) (1 + q)).length ≤ 2000000) := Lib.hid (by
        have h1 := all_light HG.out
        have h2 := HFI.out.len
        have h3 := light_len (few_parts HF.out).2.2.2 HP.out.free
        rw [ahead_len]
        omega)
      clear HG N2
      have q0 := N.out.box.c0
      have q1 := N.out.box.c1
      have q2 := N.out.box.c2
      have q3 := N.out.box.c3
      have q4 := N.out.box.c4
      have q5 := N.out.box.c5
      have ql := N.out.box.lt
      go_wp2_with fail
      refine (phead_any s d a wr (N.out.hp.more N.out.bel.size) (HZ.out.over N.out.bel hz0) HFI.out).mono ?_
      rintro e w3 ⟨rfl, hb3⟩
      have N3 := Lib.hid (N.out.next hb3)
      clear hb3 N q0 q1 q2 q3 q4 q5 ql
      obtain ⟨x0, x1, x2, x3, x4, x5, hx⟩ := head_form s d a
      rw [hx]
      have HX := Lib.hid hx
      clear hx
      have q0 := N3.out.box.c0
      have q1 := N3.out.box.c1
      have q2 := N3.out.box.c2
      have q3 := N3.out.box.c3
      have q4 := N3.out.box.c4
      have q5 := N3.out.box.c5
      have ql := N3.out.box.lt
      go_wp2_with fail
      have b3 := (Below.refl w3.heap.size w3).alloc (Nat.le_refl _) (.cells #[.bool x0, .bool x1, .bool x2, .int .i64 x3, .int .i64 x4, .int .i64 x5] 34)
      have N3' := N3.out.next b3
      refine (rhead_any s d a _ (N3'.hp.more N3'.bel.size) HFI.out).mono ?_
      rintro e w4 ⟨rfl, hb4⟩
      rw [HX.out]
      have N4 := Lib.hid (N3'.next hb4)
      have X4 := Lib.hid ((X6.new w3 x0 x1 x2 x3 x4 x5 34).next hb4)
      clear hb4 N3 N3' b3 q0 q1 q2 q3 q4 q5 ql
      have q0 := N4.out.box.c0
      have q1 := N4.out.box.c1
      have q2 := N4.out.box.c2
      have q3 := N4.out.box.c3
      have q4 := N4.out.box.c4
      have q5 := N4.out.box.c5
      have ql := N4.out.box.lt
      go_wp2_with fail
      have b4 := (Below.refl w4.heap.size w4).alloc (Nat.le_refl _) (.cells #[.bool x0, .bool x1, .bool x2, .int .i64 x3, .int .i64 x4, .int .i64 x5] 34)
      have N4' := N4.out.next b4
      have X4' := X4.out.next b4
      refine (pused_any s d _ (N4'.hp.more N4'.bel.size) (HZ.out.over N4'.bel hz0) HFI.out).mono ?_
      rintro e w5 ⟨v5, rfl, ho5, hb5⟩
      have N5 := Lib.hid (N4'.next hb5)
      have X5 := Lib.hid (X4'.next hb5)
      have Y5 := Lib.hid ((X6.new w4 x0 x1 x2 x3 x4 x5 34).next hb5)
      obtain ⟨a5, c5, e5, hk5, _, _⟩ := Ls.owns_row ho5
      simp only [Value.slice.injEq, true_and] at e5
      obtain ⟨rfl, rfl⟩ := e5
      have K5 := Lib.hid hk5
      clear hb5 ho5 hk5 N4 X4 N4' X4' b4 q0 q1 q2 q3 q4 q5 ql
      have q0 := N5.out.box.c0
      have q1 := N5.out.box.c1
      have q2 := N5.out.box.c2
      have q3 := N5.out.box.c3
      have q4 := N5.out.box.c4
      have q5 := N5.out.box.c5
      have ql := N5.out.box.lt
      go_wp2_with fail
      refine (rused_any s d w5 (N5.out.hp.more N5.out.bel.size) HFI.out).mono ?_
      rintro e w6 ⟨v6, rfl, ho6, hb6⟩
      have N6 := Lib.hid (N5.out.next hb6)
      have X6' := Lib.hid (X5.out.next hb6)
      have Y6 := Lib.hid (Y5.out.next hb6)
      have K5' := Lib.hid ((K5.out.below hb6).more hb6.size)
      obtain ⟨a6, c6, e6, hk6, _, _⟩ := Ls.owns_row ho6
      simp only [Value.slice.injEq, true_and] at e6
      obtain ⟨rfl, rfl⟩ := e6
      have K6 := Lib.hid hk6
      clear hb6 ho6 hk6 N5 X5 Y5 K5 q0 q1 q2 q3 q4 q5 ql
      obtain ⟨va, n, vc⟩ := v5
      obtain ⟨ua, un, uc⟩ := v6
      obtain ⟨xs, hxs⟩ : ∃ xs, xs = usedL s d := ⟨_, rfl⟩
      rw [← hxs] at K5' K6
      have HUL : Hid (xs.length ≤ 100000) := Lib.hid (by rw [hxs]; exact Nat.le_trans (used_len s d) (by have h1 := allS_len d.f s.p.n; have h2 := HFI.out.pn; omega))
      clear hxs
      dsimp only at K5' K6 ⊢
      obtain rfl : un = n := by have h5 := K5'.out.1; have h6 := K6.out.1; omega
      obtain ⟨er, her⟩ : ∃ er, er = headE s d a := ⟨_, rfl⟩
      rw [← her]
      clear her HX
      have d2 : (er == er) = true := by simp
      have hun : (un : Int) ≤ 9223372036854775807 := by have h6 := K6.out.1; have h7 := HUL.out; omega
      go_wp2
      go_loopw [16] (fun i wr => ∃ t dd : Nat, t ≤ un ∧ i = .int .i64 t ∧ wr = w6.drewN dd) (fun i _ => un - (intOf i).toNat)
      case atStart => exact ⟨0, 0, Nat.zero_le _, rfl, rfl⟩
      case round =>
        obtain ⟨t, dd, ht, rfl, rfl⟩ := hrel
        by_cases hlt2 : t < un
        · obtain ⟨b1, o1, rfl, _, hc1⟩ := K5'.out.2 (by omega)
          obtain ⟨b2, o2, rfl, _, hc2⟩ := K6.out.2 (by omega)
          have h1 := hc1 t hlt2
          have h2 := hc2 t hlt2
          clear hc1 hc2
          go_wp2
          go_quiet (fail)
          go_wp2
          go_roundw
          case rel => exact ⟨t + 1, _, by omega, by go_num, rfl⟩
          case measure => simp [intOf]; omega
        · obtain rfl : t = un := by omega
          have heq := eql_self x0 x1 x2 x3 x4 x5
          have b6 := below_drawn' (Below.refl w6.heap.size w6) dd
          have N7 := Lib.hid (N6.out.next b6)
          have X7 := Lib.hid (X6'.out.next b6)
          have Y7 := Lib.hid (Y6.out.next b6)
          have HST := Lib.hid (And.intro N7.out (And.intro X7.out Y7.out))
          generalize w6.drewN dd = w7 at HST ⊢
          clear K5' K6 N6 X6' Y6 b6 N7 X7 Y7
          have HMAY := Lib.hid (fun W (h : HNow w W s d) => pmay_any s d A q c U F W (h.hp.more h.bel.size) (lrow_more (HL.out.below h.bel) h.bel.size) (by omega) (HZ.out.over h.bel hz0) HFI.out.wn (by have := HFI.out.pn; omega) HFI.out.cn HLEN.out)
          have HMAYR := Lib.hid (fun W (h : HNow w W s d) => rmayH_any s d A q c U F W (h.hp.more h.bel.size) (lrow_more (HL.out.below h.bel) h.bel.size) (by omega) HFI.out.wn (by have := HFI.out.pn; omega) HFI.out.hv HLEN.out)
          have HWH := Lib.hid (fun W (h : HNow w W s d) => pwhole_any s d A q c U F W (h.hp.more h.bel.size) (lrow_more (HL.out.below h.bel) h.bel.size) (by omega) (HZ.out.over h.bel hz0) HFI.out HLEN.out)
          have HWHR := Lib.hid (fun W (h : HNow w W s d) => rwhole_any s d A q c U F W (h.hp.more h.bel.size) (lrow_more (HL.out.below h.bel) h.bel.size) (by omega) HFI.out HLEN.out)
          generalize mayH s d q F = R1 at HMAY HMAYR
          generalize wholeH s d q F = R2 at HWH HWHR
          have d3 : (R1 == R1) = true := by simp
          have d4 : (R2 == R2) = true := by simp
          go_wp2_with fail
          go_region_held3 (fun W => (HNow w W s d ∧ X6 W w3.heap.size x0 x1 x2 x3 x4 x5 ∧ X6 W w4.heap.size x0 x1 x2 x3 x4 x5) ∧ w.heap.size < W.heap.size ∧ w3.heap.size < W.heap.size ∧ w4.heap.size < W.heap.size ∧ W.cell? ⟨w.heap.size, 0, none⟩ = some (.slice s.w.a s.w.n s.w.c) ∧ W.cell? ⟨w.heap.size, 1, none⟩ = some (.slice s.p.a s.p.n s.p.c) ∧ W.cell? ⟨w.heap.size, 2, none⟩ = some (.slice (s.u 0).a (s.u 0).n (s.u 0).c) ∧ W.cell? ⟨w.heap.size, 3, none⟩ = some (.slice (s.u 1).a (s.u 1).n (s.u 1).c) ∧ W.cell? ⟨w.heap.size, 4, none⟩ = some (.slice (s.u 2).a (s.u 2).n (s.u 2).c) ∧ W.cell? ⟨w.heap.size, 5, none⟩ = some (.slice s.c.a s.c.n s.c.c) ∧ W.cell? ⟨w3.heap.size, 0, none⟩ = some (.bool x0) ∧ W.cell? ⟨w3.heap.size, 1, none⟩ = some (.bool x1) ∧ W.cell? ⟨w3.heap.size, 2, none⟩ = some (.bool x2) ∧ W.cell? ⟨w3.heap.size, 3, none⟩ = some (.int .i64 x3) ∧ W.cell? ⟨w3.heap.size, 4, none⟩ = some (.int .i64 x4) ∧ W.cell? ⟨w3.heap.size, 5, none⟩ = some (.int .i64 x5) ∧ W.cell? ⟨w4.heap.size, 0, none⟩ = some (.bool x0) ∧ W.cell? ⟨w4.heap.size, 1, none⟩ = some (.bool x1) ∧ W.cell? ⟨w4.heap.size, 2, none⟩ = some (.bool x2) ∧ W.cell? ⟨w4.heap.size, 3, none⟩ = some (.int .i64 x3) ∧ W.cell? ⟨w4.heap.size, 4, none⟩ = some (.int .i64 x4) ∧ W.cell? ⟨w4.heap.size, 5, none⟩ = some (.int .i64 x5)) (first
            | exact tells_keep HST.out (below_drawn' (Below.refl _ _) 1)
            | exact tells_keep (‹(HNow w _ s d ∧ _) ∧ _›).1 ‹Below _ _ _›) (first
            | ((go_at_call 16; refine (HMAY.out _ (‹(HNow w _ s d ∧ _) ∧ _›).1.1).mono ?_; rintro e w8 ⟨rfl, hb8⟩))
            | ((go_at_call 17; refine (HMAYR.out _ (‹(HNow w _ s d ∧ _) ∧ _›).1.1).mono ?_; rintro e w8 ⟨rfl, hb8⟩))
            | ((go_at_call 18; refine (HWH.out _ (‹(HNow w _ s d ∧ _) ∧ _›).1.1).mono ?_; rintro e w8 ⟨rfl, hb8⟩))
            | ((go_at_call 19; refine (HWHR.out _ (‹(HNow w _ s d ∧ _) ∧ _›).1.1).mono ?_; rintro e w8 ⟨rfl, hb8⟩)))
          have HE := Lib.hid (‹(HNow w w8 s d ∧ _) ∧ _›).1.1
          clear HST
          go_wp2
          go_ret
          exact ⟨rfl, HE.out.bel⟩
end
theorem walk (s : Hs) (d : Hd_) (A : Option Addr) (m c : Nat) (U : Nat → Nat → Ls.Sl) (F : Nat → Nat → List Int) (a : Int) (w : World) (hz : Cl.Sz w) (hp : Hp w w.heap.size s d) (hv : Fit64 d.ws) (hl : Ls.LRow w w.heap.size A m U F) (_ : m ≤ maxLen) (_ : (Lit.int .i64 a).wf = true) :
    Calls Tryd.prog 3 #[(.agg #[.slice s.w.a s.w.n s.w.c, .slice s.p.a s.p.n s.p.c, .slice (s.u 0).a (s.u 0).n (s.u 0).c, .slice (s.u 1).a (s.u 1).n (s.u 1).c, .slice (s.u 2).a (s.u 2).n (s.u 2).c, .slice s.c.a s.c.n s.c.c]), .slice A m c, .int .i64 a] w fun e w' => e = .returned (.bool true) ∧ Below w.heap.size w w' := by
  cases hf : fewH s
  · exact walk_few s d A m c a w hz hf hp
  · by_cases hm : 4 < m
    · exact walk_many s d A m c a w hz hf hm hp
    · exact walk_all s d A m c U F a w hz hf (by omega) hp hv hl
-- the frame (hpframe.py)
set_option maxRecDepth 100000 in
theorem lifted (os : Os) (started : os.Started) (H : Type) (enc : TypeId × Value → H) :
    ReturnsInHanded {} Tryd.checked os 3 .any (fun w args => (Rows.heapTellsSpec.pre enc Tryd.prog Tryd.f3 [] false w args ∧ laidMetH Tryd.prog laidSizes w) ∧ sizedMet enc Tryd.prog Tryd.f3 (OpenSpec.ofChange Rows.heapTellsSpec) false w args)
      (Rows.heapTellsSpec.post enc Tryd.prog Tryd.f3 false true false false) := by
  refine returnsInHanded_of_change_and (C := Tryd.checked) (X := fun w _ => laidMetH Tryd.prog laidSizes w) (fun _ _ _ hh h => h.of_heap hh) own started (by kernel_rfl) Tryd.func3
    (ChangeSpec.witness_shaped (enc := enc) (C := Tryd.checked) (os := os) (X := fun w _ => laidMetH Tryd.prog laidSizes w) false (World.doorLaid Tryd.prog 400 os) #[.agg #[.slice none 0 0, .slice none 0 0, .slice none 0 0, .slice none 0 0, .slice none 0 0, .slice none 0 0], .slice none 0 0, .int .i64 0] 8 rfl (World.shaped_of_RefB (by kernel_rfl) (by kernel_rfl)) (by kernel_rfl) (by kernel_rfl) (by kernel_rfl) (door_met os _)) ?_
  intro W base args ds gs before hval0 hW _ _ hL _
  have hval : ∀ (j : Nat) t v, Tryd.f3.params[j]? = some t → args[j]? = some v → Value.okWide Tryd.prog W .any base t v := hval0
  have hW' := hW
  obtain ⟨p, q, hA0, hV, rfl, hfz, hnd⟩ := hW
  have hA : DataW.TrodAll enc Tryd.prog W 0 (fun _ => true) true Tryd.f3.params.toList args.toList ds p := hA0
  rw [Tryd.params3] at hA hval
  obtain ⟨v0, vs0, d0, ds0, p0, q0, hargs, rfl, rfl, h0, r0⟩ := trodAll_cons hA
  obtain ⟨v1, vs1, d1, ds1, p1, q1, rfl, rfl, rfl, h1, r1⟩ := trodAll_cons r0
  obtain ⟨v2, vs2, d2, ds2, p2, q2, rfl, rfl, rfl, h2, r2⟩ := trodAll_cons r1
  obtain ⟨rfl, rfl, rfl⟩ := trodAll_nil r2
  obtain rfl : args = #[v0, v1, v2] := by cases args; simp_all
  obtain ⟨rfl, rfl⟩ := trodVars_none hV
  have k0 := h0
  have lt0 : ∀ x ∈ p0, x.block < W.heap.size := by obtain ⟨m, hm⟩ := k0; exact DataW.trod_lt m _ _ _ hm
  obtain ⟨s0, z0, rfl, w0, f0, b0⟩ := heap_of (hval 0 28 v0 rfl rfl) h0
  have k1 := h1
  have lt1 : ∀ x ∈ p1, x.block < W.heap.size := by obtain ⟨m, hm⟩ := k1; exact DataW.trod_lt m _ _ _ hm
  obtain ⟨a1, len1, cap1, rfl⟩ := okWide_slice Tryd.underlying29 (hval 1 29 v1 rfl rfl)
  obtain ⟨u1, z1, w1, m1, b1⟩ := rows_of h1
  obtain ⟨a2, rfl, rfl, rfl, w2⟩ := open_int Tryd.underlying3 (hval 2 3 v2 rfl rfl) h2
  clear hA0 hval0
  refine (walk s0 z0 a1 len1 cap1 u1 z1 a2 W (of_laid hL) w0 f0 w1 m1 w2).mono fun e W' ⟨he, bel⟩ => ?_
  subst he
  exact ⟨_, rfl, _, _, _, [], _, [], hW', trodAll_mk1 (shut_bool Tryd.underlying4 _), (trodAll_cons_mk (Below.trod laidOut (by kernel_rfl) (of_decide_eq_true (by kernel_rfl)) k0 bel lt0) (trodAll_cons_mk (Below.trod laidOut (by kernel_rfl) (of_decide_eq_true (by kernel_rfl)) k1 bel lt1) (trodAll_cons_mk (shut_int Tryd.underlying3 w2) trodAll_mk0))), rfl, bel.frame _, fun h => by cases h⟩

theorem over : Rows.HeapTellsSaid :=
  OpenClaim.holds_of_wide 3 Tryd.f3 rfl rfl rfl rfl rfl rfl rfl ⟨rfl, rfl, rfl, rfl, rfl⟩ rfl rfl rfl rfl rfl (by kernel_rfl) Tryd.func3 (by kernel_rfl)
    (of_decide_eq_true (by kernel_rfl)) (by unfold Func.isWrapper; first | (rw [if_pos (by decide +kernel)]; kernel_rfl) | (rw [if_neg (by decide +kernel)]; exact ⟨rfl, rfl⟩))
    (fun os started H enc _ => lifted os started H enc)

/-- The statement: the card. -/
theorem proved : Rows.HeapTellsCardSaid :=
  Claim7.holds_tied_plain_at .later [] [.data] true Rows.heapTellsCard.stood.harness false
    over (fun _ h => by cases h) (by kernel_rfl) (fun _ h => by cases h) heapTells_row_tie rfl ⟨rfl, rfl⟩ (by kernel_rfl) rfl
    (fun f fn hf hfn => by
      obtain rfl : f = 3 := Option.some.inj ((show Tryd.prog.funcNamed "ragpicker/ragpickerlaw07.HeapTells" = some 3 by kernel_rfl).symm.trans hf) |>.symm
      obtain rfl : fn = Tryd.f3 := (Option.some.inj (Tryd.func3.symm.trans hfn)).symm
      exact ⟨by kernel_rfl, fun j t ht => by
        rw [Tryd.params3] at ht
        have hm : t ∈ [28, 29, 3] := by simpa using Array.mem_of_getElem? ht
        have hall : ([28, 29, 3].all fun u => !Tryd.prog.wantsStandIn u) = true := by kernel_rfl
        exact (show Tryd.prog.wantsStandIn t = false by simpa using List.all_eq_true.1 hall t hm)⟩)
    (by kernel_rfl)
#print axioms proved
end Go.Proofs.YtodpciodongajaaDoor.HeapTells
