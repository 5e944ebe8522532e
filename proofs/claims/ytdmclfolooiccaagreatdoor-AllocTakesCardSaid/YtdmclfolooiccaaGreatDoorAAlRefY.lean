/-
  The reference's Take, where the class is the large one and pages are found.
-/
import Derived.Test.YtdmclfolooiccaaGreatDoorHpAV
namespace Go.Proofs.YtdmclfolooiccaaGreatDoor.Rp
open Go.Proofs.YtdmclfolooiccaaGreatDoor
open Go.RowKit
set_option maxRecDepth 100000

section
variable (s : Hs) (u : Nat → Ls.Sl) (d : Hd_) (G : Nat → List Int) (o e : Bool) (N b m : Int) (w : World)
set_option maxHeartbeats 8000000 in
theorem rtake_lyes (hp : Hp w w.heap.size s d) (l3 : Ls.L3 w w.heap.size u G) (hf : FineT s d u G) (hm : mayH s d 1 (fun _ => G) = true) (hh : Hd.mayB true o e N b m = true) (hc : Cl.classErr N = 0) (h3 : Cl.classOf N = 3) (m1 : Nat) (hr : Cl.runOf N = (m1 : Int)) (hre : Cl.runErr N = 0) (p : Nat) (hq : Cl.findO d.f s.p.n (m1 : Int) = some p) (a : Int) (D1 : Hd_) (G1 : Nat → List Int) (oo rm : Nat) (ha : a = 16 + 16 * (p : Int)) (hD : D1 = largeD d p (m1 : Int)) (hG : G1 = G) (hbg : Cl.bg D1.f s.p.n a = (rm : Int)) (hao : a = 16 + (oo : Int) ∧ oo + rm ≤ s.w.n ∧ s.w.n ≤ 1024 ∧ 2 ≤ rm) : Calls Tryz.prog 8 #[(.agg #[.slice s.w.a s.w.n s.w.c, .slice s.p.a s.p.n s.p.c, .slice (s.u 0).a (s.u 0).n (s.u 0).c, .slice (s.u 1).a (s.u 1).n (s.u 1).c, .slice (s.u 2).a (s.u 2).n (s.u 2).c, .slice s.c.a s.c.n s.c.c]), (.agg #[.slice (u 0).a (u 0).n (u 0).c, .slice (u 1).a (u 1).n (u 1).c, .slice (u 2).a (u 2).n (u 2).c]), .agg #[.bool true, .bool o, .bool e, .int .i64 N, .int .i64 b, .int .i64 m]] w (TakeOut w ⟨0, s.w.n, s.p.n, s.c.n, ⟨(Ar.wipe D1.ws oo rm).set oo (Hd.word true o e N b m), D1.f, D1.F, D1.cs⟩, G1, a⟩) := by
  have HP := Lib.hid hp
  have HL := Lib.hid l3
  have HM := Lib.hid (rtake_mayc s u d G true o e N b m w hf)
  rw [hm] at HM
  have HH := Lib.hid hh
  have HOW : Hid (∀ W, Below w.heap.size w W → Calls Tryz.prog 6 #[(.agg #[.slice s.w.a s.w.n s.w.c, .slice s.p.a s.p.n s.p.c, .slice (s.u 0).a (s.u 0).n (s.u 0).c, .slice (s.u 1).a (s.u 1).n (s.u 1).c, .slice (s.u 2).a (s.u 2).n (s.u 2).c, .slice s.c.a s.c.n s.c.c])] W (OwnOut9 W s d)) := Lib.hid (fun W hb => rown9_any s d W (hp.next hb) hf.fine.wn (by have := hf.fine.pn; omega) (by have := hf.fine.cn; omega) (fun j hj => Nat.le_trans (hf.lu j hj) (by decide)))
  have HOL : Hid (∀ W, Below w.heap.size w W → Calls Tryz.prog 17 #[(.agg #[.slice (u 0).a (u 0).n (u 0).c, .slice (u 1).a (u 1).n (u 1).c, .slice (u 2).a (u 2).n (u 2).c])] W (Ls.COut W G)) := Lib.hid (fun W hb => Ls.rown_any w.heap.size u G W (l3.below hb) hb.size (fun j hj => Nat.le_trans (hf.lg j hj) (by decide)))
  have hfit := fit_first (mayH_all hm).1
  have hwp := hfit.wp
  have hp64 := hfit.p
  have hn1 : 1 ≤ s.p.n := by
    have h1 := (mayH_all hm).1
    unfold firstB at h1
    simp only [Bool.and_eq_true] at h1
    exact ((Cl.mayB_iff _ _).1 h1.2.1).1
  have HW0 : Hid (0 < s.w.n) := Lib.hid (by omega)
  have H64 : Hid (s.p.n ≤ 64) := Lib.hid hp64
  have HCL : Hid (∀ w, Calls Tryz.prog 26 #[.int .i64 N] w fun e w' => e = .returned (.tuple #[.int .i64 3, .int .i64 0]) ∧ w = w') := Lib.hid (fun w => by have := Cl.rof_of N w; rwa [hc, h3] at this)
  have HRN : Hid (∀ w, Calls Tryz.prog 27 #[.int .i64 N] w fun e w' => e = .returned (.tuple #[.int .i64 (m1 : Int), .int .i64 0]) ∧ w = w') := Lib.hid (fun w => by have := Cl.rrun_of N w; rwa [hr, hre] at this)
  have HFD : Hid (∀ (t : Hs) (W : World), t.p.n = s.p.n → Cl.PRow W W.heap.size t.p.a t.p.n d.f → Calls Tryz.prog 28 #[.slice t.p.a t.p.n t.p.c, .int .i64 (m1 : Int)] W fun e w' => e = .returned (.tuple #[.int .i64 (p : Int), .bool true]) ∧ Below W.heap.size W w') := Lib.hid (fun t W ht hr => by
    have := Cl.rfind_any W.heap.size t.p.a t.p.n t.p.c d.f (m1 : Int) W (by omega) hr (Nat.le_refl _)
    rwa [ht, show Cl.findV d.f s.p.n (m1 : Int) = (p : Int) by unfold Cl.findV; rw [hq], show Cl.findS d.f s.p.n (m1 : Int) = true by unfold Cl.findS; rw [hq]; rfl, ← ht] at this)
  obtain ⟨g1, g2, g3, g4, g5⟩ := find_run hq
  have HLG : Hid (∀ (t : Hs) (W : World), t.p.n = s.p.n → Cl.PRow W W.heap.size t.p.a t.p.n d.f → Calls Tryz.prog 29 #[.slice t.p.a t.p.n t.p.c, .int .i64 (p : Int), .int .i64 (m1 : Int)] W (Cl.TNew W t.p.n D1.f)) := Lib.hid (fun t W ht hr => by
    rw [hD]
    exact Cl.rlarge_new W.heap.size t.p.a t.p.n t.p.c d.f p m1 W (by omega) hr (Nat.le_refl _) (by rw [ht]; exact g1) (by omega) (by omega) (by simpa using g5))
  have HPA : Hid ((p : Int) ≤ 64 ∧ a = 16 + 16 * (p : Int)) := Lib.hid ⟨by omega, ha⟩
  have HDD : Hid (D1.ws = d.ws ∧ D1.F = d.F ∧ D1.cs = d.cs ∧ G1 = G) := Lib.hid (by rw [hD]; exact ⟨rfl, rfl, rfl, hG⟩)
  have HBG : Hid (∀ (t : Hs) (W : World), t.p.n = s.p.n → Cl.PRow W W.heap.size t.p.a t.p.n D1.f → Calls Tryz.prog 34 #[.slice t.p.a t.p.n t.p.c, .int .i64 a] W fun e w' => e = .returned (.int .i64 (rm : Nat)) ∧ Below W.heap.size W w') := Lib.hid (fun W t ht hr => by
    have := Cl.rbegins_any t.heap.size W.p.a W.p.n W.p.c D1.f a t (by omega) hr (Nat.le_refl _)
    rwa [ht, hbg, ← ht] at this)
  obtain ⟨x, hx⟩ : ∃ x, x = Hd.word true o e N b m := ⟨_, rfl⟩
  have HWD : Hid (∀ W, Calls Tryz.prog 35 #[.agg #[.bool true, .bool o, .bool e, .int .i64 N, .int .i64 b, .int .i64 m]] W fun r w' => r = .returned (.int .i64 x) ∧ Below W.heap.size W w') := Lib.hid (fun W => by rw [hx]; exact Hd.rword_yes true o e N b m W hh)
  have HAO : Hid (a = 16 + (oo : Int) ∧ oo + rm ≤ s.w.n ∧ s.w.n ≤ 1024 ∧ 2 ≤ rm) := Lib.hid hao
  rw [← hx]
  have HXX := Lib.hid hx
  clear hp l3 hf hm hh hc h3 hq hr hre hfit hwp hp64 hn1 ha hD hG hbg hao hx g1 g2 g3 g4 g5
  go_enter Tryz.func8, Tryz.ntmps8
  go_wp2_with fail
  obtain ⟨W5, hW5⟩ : ∃ W5, W5 = tk7 w s u true o e N b m := ⟨_, rfl⟩
  unfold tk7 at hW5
  have T5 := Lib.hid (tkr_start (us := true) HP.out HL.out hW5)
  have hz5 : w.heap.size + 1 + 1 + 1 + 1 + 1 + 1 + 1 = W5.heap.size := by rw [hW5]; simp
  rw [← hW5, hz5]
  clear hW5 hz5
  refine (HM.out W5 T5.out).mono ?_
  rintro e9 w6 ⟨rfl, hb6⟩
  have T6 := Lib.hid ((T5.out.next ((Below.refl _ _).alloc (Nat.le_refl _) (.cells #[.slice (u 0).a (u 0).n (u 0).c, .slice (u 1).a (u 1).n (u 1).c, .slice (u 2).a (u 2).n (u 2).c] 25))).next hb6)
  clear hb6 T5 HM
  have x0 := T6.out.ts.xb.c0
  have x1 := T6.out.ts.xb.c1
  have x2 := T6.out.ts.xb.c2
  have x3 := T6.out.ts.xb.c3
  have x4 := T6.out.ts.xb.c4
  have x5 := T6.out.ts.xb.c5
  have xl := T6.out.ts.xb.lt
  go_wp2_with fail
  refine (Hd.rmay_yes true o e N b m w6 HH.out).mono ?_
  rintro e9 w7 ⟨rfl, hb7⟩
  have T7 := Lib.hid (T6.out.next hb7)
  clear x0 x1 x2 x3 x4 x5 xl
  clear hb7 T6
  have x0 := T7.out.ts.xb.c0
  have x1 := T7.out.ts.xb.c1
  have x2 := T7.out.ts.xb.c2
  have x3 := T7.out.ts.xb.c3
  have x4 := T7.out.ts.xb.c4
  have x5 := T7.out.ts.xb.c5
  have xl := T7.out.ts.xb.lt
  go_wp2_with fail
  refine (HCL.out w7).mono ?_
  rintro e9 w8 ⟨rfl, rfl⟩
  clear x0 x1 x2 x3 x4 x5 xl
  have q0 := (T7.out.ts.hb).c0
  have q1 := (T7.out.ts.hb).c1
  have q2 := (T7.out.ts.hb).c2
  have q3 := (T7.out.ts.hb).c3
  have q4 := (T7.out.ts.hb).c4
  have q5 := (T7.out.ts.hb).c5
  have ql := (T7.out.ts.hb).lt
  go_wp2_with fail
  refine (HOW.out w7 T7.out.ts.bel).mono ?_
  intro e9 w8 hown
  obtain ⟨t, rfl, hln, hb8, hog⟩ := tw_start (G := G) T7.out.ts.bel hown HW0.out
  have HLN := Lib.hid hln
  clear hown hln
  clear q0 q1 q2 q3 q4 q5 ql
  obtain ⟨W9, hW9⟩ : ∃ W, W = w8.alloc (.cells #[.slice t.w.a t.w.n t.w.c, .slice t.p.a t.p.n t.p.c, .slice (t.u 0).a (t.u 0).n (t.u 0).c, .slice (t.u 1).a (t.u 1).n (t.u 1).c, .slice (t.u 2).a (t.u 2).n (t.u 2).c, .slice t.c.a t.c.n t.c.c] 28) := ⟨_, rfl⟩
  have b9 : Below w8.heap.size w8 W9 := by rw [hW9]; exact (Below.refl _ _).alloc (Nat.le_refl _) _
  have T9 := Lib.hid ((T7.out.next hb8).next b9)
  have hog9 := hog W9 hW9
  clear hog hb8 b9
  obtain ⟨bo, hbo⟩ : ∃ b, b = w8.heap.size := ⟨_, rfl⟩
  go_upto_region 11 with fail
  rw [← hW9, ← hbo]
  rw [← hbo] at hog9
  clear hW9 hbo
  have u0 := T9.out.ts.cb.cell 0 (by decide)
  have u1 := T9.out.ts.cb.cell 1 (by decide)
  have u2 := T9.out.ts.cb.cell 2 (by decide)
  have ul := T9.out.ts.cb.lt
  go_wp2_with fail
  refine (HOL.out W9 T9.out.ts.bel).mono ?_
  rintro e9 w10 ⟨v, rfl, ho10, hb10⟩
  clear u0 u1 u2 ul T9
  obtain ⟨W11, hW11⟩ : ∃ W, W = w10.alloc (.cells #[.slice (v 0).a (v 0).n (v 0).c, .slice (v 1).a (v 1).n (v 1).c, .slice (v 2).a (v 2).n (v 2).c] 25) := ⟨_, rfl⟩
  obtain ⟨g, hTw⟩ := hog9 v w10 ho10 hb10 W11 hW11
  obtain ⟨bc, hbc⟩ : ∃ b, b = w10.heap.size := ⟨_, rfl⟩
  rw [← hbc] at hTw
  have Z0 := Lib.hid hTw
  clear hog9 ho10 hb10 hTw
  go_upto_region 12 with fail
  rw [← hW11, ← hbc]
  clear hW11 hbc
  have T11 := Lib.hid (T7.out.below (Z0.out.z.over T7.out.ts.bel) T7.out.size)
  have x0 := T11.out.ts.xb.c0
  have x1 := T11.out.ts.xb.c1
  have x2 := T11.out.ts.xb.c2
  have x3 := T11.out.ts.xb.c3
  have x4 := T11.out.ts.xb.c4
  have x5 := T11.out.ts.xb.c5
  have xl := T11.out.ts.xb.lt
  go_wp2_with fail
  refine (HRN.out W11).mono ?_
  rintro e9 w12 ⟨rfl, rfl⟩
  clear x0 x1 x2 x3 x4 x5 xl
  clear T11
  have y1 := Z0.out.z.o.box.box.c1
  have yl := Z0.out.z.o.box.box.lt
  go_wp2_with fail
  refine (HFD.out t W11 HLN.out.2.1 Z0.out.z.hp.pages).mono ?_
  rintro e9 w13 ⟨rfl, hbf⟩
  have Z1 := Lib.hid (Z0.out.next hbf)
  clear hbf y1 yl Z0
  have y1 := Z1.out.z.o.box.box.c1
  have yl := Z1.out.z.o.box.box.lt
  go_wp2_with fail
  refine (HLG.out t w13 HLN.out.2.1 Z1.out.z.hp.pages).mono ?_
  rintro e9 w14 ⟨pb, pc, rfl, hr14, hl14, hb14⟩
  have Z2 := Lib.hid (Z1.out.next hb14)
  have Z3 := Lib.hid (Z1.out.pages (c := pc) hb14 hr14 hl14)
  clear y1 yl Z1 hr14 hl14 hb14
  have y1 := Z2.out.z.o.box.box.c1
  have yf := Z2.out.z.o.box.free 1
  have yl := Z2.out.z.o.box.box.lt
  go_upto_region 19 with fail
  obtain ⟨W15, hW15⟩ : ∃ W, W = w14.setCell ⟨bo, 1, none⟩ (.slice (some ⟨pb, 0, none⟩) t.p.n pc) := ⟨_, rfl⟩
  rw [← hW15] at Z3
  rw [← hW15]
  obtain ⟨t1, ht1⟩ : ∃ t1 : Hs, t1 = ⟨t.w, ⟨some ⟨pb, 0, none⟩, t.p.n, pc⟩, t.u, t.c⟩ := ⟨_, rfl⟩
  have LN1 : Hid (t1.w.n = s.w.n ∧ t1.p.n = s.p.n ∧ t1.c.n = s.c.n) := Lib.hid (by rw [ht1]; exact ⟨HLN.out.1, HLN.out.2.1, HLN.out.2.2.2⟩)
  rw [← ht1] at Z3
  obtain ⟨v1, hv1⟩ : ∃ v1, v1 = v := ⟨_, rfl⟩
  have Z4 : Hid (Tz w w7 W15 bo bc g t1 D1 v1 G1) := Lib.hid (by
    have h := Z3.out.z
    rw [← HDD.out.1, ← HDD.out.2.1, ← HDD.out.2.2.1, ← HDD.out.2.2.2] at h
    rw [hv1]
    exact h)
  clear y1 yf yl Z2 Z3 hW15 ht1 hv1 HDD
  obtain ⟨hp64, hpa⟩ := HPA.out
  have wm1 : IntKind.i64.wrap (16 * (p : Int)) = 16 * (p : Int) := by simp [IntKind.wrap, IntKind.signed, IntKind.bits]; omega
  have wm2 : IntKind.i64.wrap (16 + 16 * (p : Int)) = a := by rw [hpa]; simp [IntKind.wrap, IntKind.signed, IntKind.bits]; omega
  have wm3 : 16 + 16 * (p : Int) = a := by omega
  have wm4 : IntKind.i64.wrap a = a := by rw [hpa]; simp [IntKind.wrap, IntKind.signed, IntKind.bits]; omega
  clear hpa
  go_upto_region 34 with fail
  have y1 := Z4.out.o.box.box.c1
  have yl := Z4.out.o.box.box.lt
  go_wp2_with fail
  refine (HBG.out t1 W15 LN1.out.2.1 Z4.out.hp.pages).mono ?_
  rintro e9 wB ⟨rfl, hbB⟩
  have ZB := Lib.hid (Z4.out.next hbB)
  clear hbB Z4 y1 yl
  go_wp2
  go_loopw [28] (fun i wr => ∃ k : Nat, k ≤ rm ∧ i = .int .i64 k ∧ Hid (Tz w w7 wr bo bc g t1 ⟨Ar.wipe D1.ws oo k, D1.f, D1.F, D1.cs⟩ v1 G1)) (fun i _ => rm - (intOf i).toNat)
  case atStart => exact ⟨0, Nat.zero_le _, rfl, ZB⟩
  case round =>
    obtain ⟨k, hk, rfl, HK⟩ := hrel
    clear ZB
    obtain ⟨hao, hrn, hwn, hr2⟩ := HAO.out
    have hrb : rm ≤ 1024 := by omega
    have ha2 : a - 16 = (oo : Int) := by omega
    by_cases hlt : k < rm
    · have dq : decide ((k : Int) < rm) = true := by simp; omega
      have iq0 : (0 : Int) ≤ k := by omega
      have x0 := HK.out.o.box.box.c0
      have xl := HK.out.o.box.box.lt
      rw [HK.out.e, LN1.out.1] at x0
      obtain ⟨ok, hok⟩ : ∃ ok, ok = oo + k := ⟨_, rfl⟩
      have c0 := HK.out.m.cell ok (by rw [LN1.out.1]; omega)
      have cf := HK.out.m.free ok
      have cl := HK.out.m.2.2.1
      have i0 : (0 : Int) ≤ (ok : Int) := by omega
      have i1 : (ok : Int) < s.w.n := by omega
      have ho2 : (oo : Int) + (k : Int) = (ok : Int) := by omega
      have w0' : IntKind.i64.wrap (oo : Int) = (oo : Int) := by simp [IntKind.wrap, IntKind.signed, IntKind.bits]; omega
      have w2' : IntKind.i64.wrap (ok : Int) = (ok : Int) := by simp [IntKind.wrap, IntKind.signed, IntKind.bits]; omega
      have HZ := Lib.hid (HK.out.word ok 0)
      have HOK := Lib.hid hok
      clear hok hao hrn hwn
      go_wp2
      go_roundw
      case rel =>
        refine ⟨k + 1, by omega, by go_num, Lib.hid ?_⟩
        rw [← Ar.wipe_snoc, ← HOK.out]
        exact HZ.out
      case measure => simp [intOf]; omega
    · obtain rfl : k = rm := by omega
      have dq : decide ((k : Int) < k) = false := by simp
      have HD : Hid (Tz w w7 (World.drew wr) bo bc g t1 ⟨Ar.wipe D1.ws oo k, D1.f, D1.F, D1.cs⟩ v1 G1) := Lib.hid (HK.out.next (below_drawn' (Below.refl _ _) 1))
      have TR : Hid (TkR w wr s d u G true o e N b m) := Lib.hid (T7.out.below (HK.out.over T7.out.ts.bel) T7.out.size)
      have TD : Hid (TkR w (World.drew wr) s d u G true o e N b m) := Lib.hid (TR.out.next (below_drawn' (Below.refl _ _) 1))
      have x0 := HK.out.o.box.box.c0
      have xl := HK.out.o.box.box.lt
      rw [HK.out.e, LN1.out.1] at x0
      have c0 := HK.out.m.cell oo (by rw [LN1.out.1]; omega)
      have cf := HK.out.m.free oo
      have cl := HK.out.m.2.2.1
      have i0 : (0 : Int) ≤ (oo : Int) := by omega
      have i1 : (oo : Int) < s.w.n := by omega
      have w0' : IntKind.i64.wrap (oo : Int) = (oo : Int) := by simp [IntKind.wrap, IntKind.signed, IntKind.bits]; omega
      have p0 := TR.out.ts.xb.c0
      have p1 := TR.out.ts.xb.c1
      have p2 := TR.out.ts.xb.c2
      have p3 := TR.out.ts.xb.c3
      have p4 := TR.out.ts.xb.c4
      have p5 := TR.out.ts.xb.c5
      have pl := TR.out.ts.xb.lt
      clear hlt HK hao hrn hwn hr2 hk hrb
      go_upto_region 39 with fail
      go_region_with (first
        | ((go_at_call 35; refine (HWD.out (World.drew wr)).mono ?_; rintro e9 wW ⟨rfl, hbW⟩; have ZW := Lib.hid (HD.out.next hbW); have r0 := ZW.out.o.box.box.c0; have rl := ZW.out.o.box.box.lt; rw [ZW.out.e, LN1.out.1] at r0; have e0 := ZW.out.m.cell oo (by rw [LN1.out.1]; omega); have ef := ZW.out.m.free oo; have el := ZW.out.m.2.2.1; clear hbW)))
      all_goals
       have ZX := Lib.hid (ZW.out.word oo x)
       clear x0 xl c0 cf cl p0 p1 p2 p3 p4 p5 pl r0 rl e0 ef el TR TD HD ZW
       obtain ⟨WX, hWX⟩ : ∃ W, W = wW.setCell ⟨g, oo, none⟩ (.int .i64 x) := ⟨_, rfl⟩
       rw [← hWX] at ZX
       rw [← hWX]
       clear hWX
       have TE := Lib.hid (T7.out.below (ZX.out.over T7.out.ts.bel) T7.out.size)
       have g0 := TE.out.ts.r6.free 0
       have g1 := TE.out.ts.r6.free 1
       have g2 := TE.out.ts.r6.free 2
       have g3 := TE.out.ts.r6.free 3
       have g4 := TE.out.ts.r6.free 4
       have g5 := TE.out.ts.r6.free 5
       have y0 := TE.out.ts.r6.box.c0
       have y1 := TE.out.ts.r6.box.c1
       have y2 := TE.out.ts.r6.box.c2
       have y3 := TE.out.ts.r6.box.c3
       have y4 := TE.out.ts.r6.box.c4
       have y5 := TE.out.ts.r6.box.c5
       have yl := TE.out.ts.r6.box.lt
       have i0 := TE.out.ts.r3.cell 0 (by decide)
       have i1 := TE.out.ts.r3.cell 1 (by decide)
       have i2 := TE.out.ts.r3.cell 2 (by decide)
       have j0 := TE.out.ts.r3.free 0
       have j1 := TE.out.ts.r3.free 1
       have j2 := TE.out.ts.r3.free 2
       have il := TE.out.ts.r3.lt
       dsimp only [noHs, Ls.noSl] at y0 y1 y2 y3 y4 y5 i0 i1 i2
       have q0 := ZX.out.o.box.box.c0
       have q1 := ZX.out.o.box.box.c1
       have q2 := ZX.out.o.box.box.c2
       have q3 := ZX.out.o.box.box.c3
       have q4 := ZX.out.o.box.box.c4
       have q5 := ZX.out.o.box.box.c5
       have ql := ZX.out.o.box.box.lt
       have k0 := ZX.out.b3.cell 0 (by decide)
       have k1 := ZX.out.b3.cell 1 (by decide)
       have k2 := ZX.out.b3.cell 2 (by decide)
       have kl := ZX.out.b3.lt
       have hs7 := T7.out.size
       have hlo := ZX.out.lo
       have hne : ¬ w.heap.size + 3 = bo := by omega
       have hne2 : ¬ w.heap.size + 4 = bo := by omega
       have hne3 : ¬ w.heap.size + 3 = bc := by omega
       have hne4 : ¬ w.heap.size + 4 = bc := by omega
       clear hs7 hlo
      all_goals go_wp2
      all_goals go_region
      all_goals go_wp2
      all_goals exact bodyPost_ret (v := .tuple #[(.agg #[.slice t1.w.a t1.w.n t1.w.c, .slice t1.p.a t1.p.n t1.p.c, .slice (t1.u 0).a (t1.u 0).n (t1.u 0).c, .slice (t1.u 1).a (t1.u 1).n (t1.u 1).c, .slice (t1.u 2).a (t1.u 2).n (t1.u 2).c, .slice t1.c.a t1.c.n t1.c.c]), (.agg #[.slice (v1 0).a (v1 0).n (v1 0).c, .slice (v1 1).a (v1 1).n (v1 1).c, .slice (v1 2).a (v1 2).n (v1 2).c]), .int .i64 a, .int .i64 0]) (rtake_res_drew TE.out.ts (t := t1) (v := v1) ZX.out.hp ZX.out.l3 rfl rfl rfl rfl rfl) rfl (take_yes_drew TE.out.ts ⟨0, s.w.n, s.p.n, s.c.n, ⟨(Ar.wipe D1.ws oo k).set oo x, D1.f, D1.F, D1.cs⟩, G1, a⟩ (t := t1) (v := v1) ZX.out.hp ZX.out.l3 LN1.out rfl)
end
end Go.Proofs.YtdmclfolooiccaaGreatDoor.Rp
