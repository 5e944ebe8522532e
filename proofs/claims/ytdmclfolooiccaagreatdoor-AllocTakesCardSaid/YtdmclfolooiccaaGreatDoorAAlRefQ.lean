/-
  The reference's Take, where a page is split.
-/
import Derived.Test.YtdmclfolooiccaaGreatDoorAAlRefP2
namespace Go.Proofs.YtdmclfolooiccaaGreatDoor.Rp
open Go.Proofs.YtdmclfolooiccaaGreatDoor
open Go.RowKit
set_option maxRecDepth 100000

section
variable (s : Hs) (u : Nat → Ls.Sl) (d : Hd_) (G : Nat → List Int) (o e : Bool) (N b m : Int) (w : World)
set_option maxHeartbeats 8000000 in
theorem rtake_split (hp : Hp w w.heap.size s d) (l3 : Ls.L3 w w.heap.size u G) (hf : FineT s d u G) (hm : mayH s d 1 (fun _ => G) = true) (hh : Hd.mayB true o e N b m = true) (k : Nat) (hk : k < 3) (hc : Cl.classErr N = 0) (h3 : Cl.classOf N = (k : Int)) (hG0 : (G k).length = 0) (hF0 : (d.F k).length = 0) (p : Nat) (hq : Cl.findO d.f s.p.n 1 = some p) (a : Int) (D1 : Hd_) (G1 : Nat → List Int) (oo rm : Nat) (hbg : Cl.bg D1.f s.p.n a = (rm : Int)) (hao : a = 16 + (oo : Int) ∧ oo + rm ≤ s.w.n ∧ s.w.n ≤ 1024 ∧ 2 ≤ rm) (hD : D1 = fillD (splitD d s.p.n k p) k) (hG1 : G1 = popG (fillG (splitD d s.p.n k p).F G k) k) (ha : a = popA (fillG (splitD d s.p.n k p).F G k) k) : Calls Tryz.prog 8 #[(.agg #[.slice s.w.a s.w.n s.w.c, .slice s.p.a s.p.n s.p.c, .slice (s.u 0).a (s.u 0).n (s.u 0).c, .slice (s.u 1).a (s.u 1).n (s.u 1).c, .slice (s.u 2).a (s.u 2).n (s.u 2).c, .slice s.c.a s.c.n s.c.c]), (.agg #[.slice (u 0).a (u 0).n (u 0).c, .slice (u 1).a (u 1).n (u 1).c, .slice (u 2).a (u 2).n (u 2).c]), .agg #[.bool true, .bool o, .bool e, .int .i64 N, .int .i64 b, .int .i64 m]] w (TakeOut w ⟨0, s.w.n, s.p.n, s.c.n, ⟨(Ar.wipe D1.ws oo rm).set oo (Hd.word true o e N b m), D1.f, D1.F, D1.cs⟩, G1, a⟩) := by
  have HP := Lib.hid hp
  have HL := Lib.hid l3
  have HM := Lib.hid (rtake_mayc s u d G true o e N b m w hf)
  rw [hm] at HM
  have HH := Lib.hid hh
  have HOW : Hid (∀ W, Below w.heap.size w W → Calls Tryz.prog 6 #[(.agg #[.slice s.w.a s.w.n s.w.c, .slice s.p.a s.p.n s.p.c, .slice (s.u 0).a (s.u 0).n (s.u 0).c, .slice (s.u 1).a (s.u 1).n (s.u 1).c, .slice (s.u 2).a (s.u 2).n (s.u 2).c, .slice s.c.a s.c.n s.c.c])] W (OwnOut9 W s d)) := Lib.hid (fun W hb => rown9_any s d W (hp.next hb) hf.fine.wn (by have := hf.fine.pn; omega) (by have := hf.fine.cn; omega) (fun j hj => Nat.le_trans (hf.lu j hj) (by decide)))
  have HOL : Hid (∀ W, Below w.heap.size w W → Calls Tryz.prog 17 #[(.agg #[.slice (u 0).a (u 0).n (u 0).c, .slice (u 1).a (u 1).n (u 1).c, .slice (u 2).a (u 2).n (u 2).c])] W (Ls.COut W G)) := Lib.hid (fun W hb => Ls.rown_any w.heap.size u G W (l3.below hb) hb.size (fun j hj => Nat.le_trans (hf.lg j hj) (by decide)))
  have hfit := fit_first (mayH_all hm).1
  have hwp := hfit.wp
  have hp64 := hfit.p
  have hn1 : 1 ≤ s.p.n := by
    have h1 := (mayH_all hm).1
    unfold firstB at h1
    simp only [Bool.and_eq_true] at h1
    exact ((Cl.mayB_iff _ _).1 h1.2.1).1
  have HW0 : Hid (0 < s.w.n) := Lib.hid (by omega)
  have H64 : Hid (s.p.n ≤ 64) := Lib.hid hp64
  have HCL : Hid (∀ w, Calls Tryz.prog 26 #[.int .i64 N] w fun e w' => e = .returned (.tuple #[.int .i64 (k : Int), .int .i64 0]) ∧ w = w') := Lib.hid (fun w => by have := Cl.rof_of N w; rwa [hc, h3] at this)
  have HKK : Hid (k < 3) := Lib.hid hk
  have HGL : Hid (∀ j, j < 3 → (G j).length ≤ 1000000 ∧ (d.F j).length ≤ 1000000) := Lib.hid (fun j hj => ⟨by have := l3.len j hj; have := hf.lg j hj; omega, by have := hp.free.len j hj; have := hf.lu j hj; omega⟩)
  have HPO : Hid (∀ (v : Nat → Ls.Sl) (Gx : Nat → List Int) (W : World), Ls.L3 W W.heap.size v Gx → (∀ j, j < 3 → (Gx j).length ≤ 2000000) → 0 < (Gx k).length → Calls Tryz.prog 33 #[(.agg #[.slice (v 0).a (v 0).n (v 0).c, .slice (v 1).a (v 1).n (v 1).c, .slice (v 2).a (v 2).n (v 2).c]), .int .i64 (k : Int)] W (Ls.RPopOut W (popG Gx k) (popA Gx k) 0)) := Lib.hid (fun v Gx W hl hn h0 => by
    obtain ⟨m', hm'⟩ : ∃ m', (Gx k).length = m' + 1 := ⟨(Gx k).length - 1, by omega⟩
    have := Ls.rpop_ok W.heap.size v Gx k hk m' W hl (Nat.le_refl _) (fun j hj => by have := hl.len j hj; have := hn j hj; omega) (by have := hl.len k hk; omega)
    unfold popG popA
    rw [show (Gx k).length - 1 = m' by omega]
    exact this)
  have HMV : Hid (∀ (uu v : Nat → Ls.Sl) (F Gx : Nat → List Int) (W : World), Ls.L3 W W.heap.size uu F → Ls.L3 W W.heap.size v Gx → (∀ j, j < 3 → (F j).length ≤ 1000000) → (∀ j, j < 3 → (Gx j).length ≤ 1000000) → Calls Tryz.prog 32 #[(.agg #[.slice (uu 0).a (uu 0).n (uu 0).c, .slice (uu 1).a (uu 1).n (uu 1).c, .slice (uu 2).a (uu 2).n (uu 2).c]), (.agg #[.slice (v 0).a (v 0).n (v 0).c, .slice (v 1).a (v 1).n (v 1).c, .slice (v 2).a (v 2).n (v 2).c]), .int .i64 (k : Int), .int .i64 2] W (Ls.MoveNew W (Ls.upd F k ((F k).take ((F k).length - 2))) (fillG F Gx k) 0)) := Lib.hid (fun uu v F Gx W hu hv hn hn' =>
    Ls.rmove_new W.heap.size uu v F Gx k 2 hk W hu hv (Nat.le_refl _) (fun j hj => by have := hu.len j hj; have := hn j hj; omega) (fun j hj => by have := hv.len j hj; have := hn' j hj; omega) (by decide))
  have HG0 := Lib.hid hG0
  have HF0 := Lib.hid hF0
  obtain ⟨g1, g2, g3⟩ := find_one hq
  have hmay := split_may hq hk
  have hon2 := split_len d.f hmay g2 hk
  have hon512 : (Cl.onS (Cl.put d.f p (1, (k : Int))) s.p.n p).length ≤ 512 := by
    rw [← Cl.filter_allS]
    have h1 := List.length_filter_le (fun a => a / 16 - 1 == (p : Int)) (Cl.allS (Cl.put d.f p (1, (k : Int))) s.p.n)
    have h2 := Cl.allL_length (Cl.put d.f p (1, (k : Int))) s.p.n
    have h3 : (Cl.allS (Cl.put d.f p (1, (k : Int))) s.p.n).length = (Cl.allL (Cl.put d.f p (1, (k : Int))) s.p.n).length := by simp [Cl.allS]
    omega
  have HSP : Hid (spD d (Cl.put d.f p (1, (k : Int))) k (Cl.onS (Cl.put d.f p (1, (k : Int))) s.p.n p) 0 = splitD d s.p.n k p) := Lib.hid (spD_all d)
  have HON0 : Hid (∀ y ∈ Cl.onS (Cl.put d.f p (1, (k : Int))) s.p.n p, ∃ yn : Nat, y - 16 = (yn : Int) ∧ yn < s.w.n) := Lib.hid (fun y hy => by
    have h1 := (mem_on.1 hy).1
    have h2 := cell_end h1
    exact ⟨(y - 16).toNat, by omega, by omega⟩)
  have HSM : Hid (∀ (t : Hs) (W : World), t.p.n = s.p.n → Cl.PRow W W.heap.size t.p.a t.p.n d.f → Calls Tryz.prog 30 #[.slice t.p.a t.p.n t.p.c, .int .i64 (p : Int), .int .i64 (k : Int)] W (Cl.TNew W t.p.n (Cl.put d.f p (1, (k : Int))))) := Lib.hid (fun t W ht hr =>
    Cl.rsmall_new W.heap.size t.p.a t.p.n t.p.c d.f p (k : Int) W (by omega) hr (Nat.le_refl _) (by rw [ht]; exact g1) (by omega) (by omega) g3)
  have HLS2 : Hid ((∀ j, j < 3 → ((splitD d s.p.n k p).F j).length ≤ 1000000) ∧ ∀ j, j < 3 → (G j).length ≤ 1000000) := Lib.hid ⟨fun j hj => by
    unfold splitD Ls.upd
    simp only
    split
    · rw [List.length_append, List.length_reverse]; omega
    · exact (HGL.out j hj).2, fun j hj => (HGL.out j hj).1⟩
  have HGX : Hid ((∀ j, j < 3 → (fillG (splitD d s.p.n k p).F G k j).length ≤ 2000000) ∧ 0 < (fillG (splitD d s.p.n k p).F G k k).length) := Lib.hid ⟨fun j hj => by
    have h1 := HLS2.out.2 j hj
    have h2 := HLS2.out.2 k hk
    have h3 := HLS2.out.1 k hk
    unfold fillG
    by_cases e : j = k
    · rw [e, Ls.upd_same, List.length_append, List.length_reverse, List.length_drop]; omega
    · rw [Ls.upd_other _ _ e]; omega, by
    have h3 : 0 < ((splitD d s.p.n k p).F k).length := by
      unfold splitD
      simp only
      rw [Ls.upd_same, List.length_append, List.length_reverse]
      omega
    unfold fillG
    rw [Ls.upd_same, List.length_append, List.length_reverse, List.length_drop]
    omega⟩
  have HG1 := Lib.hid hG1
  have HAA := Lib.hid ha
  obtain ⟨dS, hdS⟩ : ∃ x, x = splitD d s.p.n k p := ⟨_, rfl⟩
  rw [← hdS] at HSP HLS2 HGX HG1 HAA
  have HDD : Hid (D1 = ⟨dS.ws, dS.f, Ls.upd dS.F k ((dS.F k).take ((dS.F k).length - 2)), dS.cs⟩) := Lib.hid (by rw [hD, ← hdS]; rfl)
  obtain ⟨f1, hf1⟩ : ∃ x, x = Cl.put d.f p (1, (k : Int)) := ⟨_, rfl⟩
  rw [← hf1] at HSP HON0 HSM hon2 hon512
  obtain ⟨on, hon⟩ : ∃ x, x = Cl.onS f1 s.p.n (p : Int) := ⟨_, rfl⟩
  rw [← hon] at HSP HON0 hon2 hon512
  obtain ⟨nn, hnn⟩ : ∃ x, x = on.length := ⟨_, rfl⟩
  have HOC : Hid (∀ (t : Hs) (W : World), t.p.n = s.p.n → Cl.PRow W W.heap.size t.p.a t.p.n f1 → Calls Tryz.prog 31 #[.slice t.p.a t.p.n t.p.c, .int .i64 (p : Int)] W (OnNew W on nn)) := Lib.hid (fun t W ht hr => by
    have := Cl.ron_own (a := (p : Int)) (B := W.heap.size) (A := t.p.a) (n := t.p.n) (c := t.p.c) (f := f1) (w := W) (by omega) hr (Nat.le_refl _)
    rw [ht, ← hon, ← ht] at this
    exact this.mono fun _ _ h => onNew_of h hnn (by omega))
  have HNN : Hid (nn = on.length ∧ 2 ≤ nn ∧ nn ≤ 512) := Lib.hid ⟨hnn, by omega, by omega⟩
  have HP64 : Hid ((p : Int) ≤ 64) := Lib.hid (by omega)
  have HFD : Hid (∀ (t : Hs) (W : World), t.p.n = s.p.n → Cl.PRow W W.heap.size t.p.a t.p.n d.f → Calls Tryz.prog 28 #[.slice t.p.a t.p.n t.p.c, .int .i64 1] W fun e w' => e = .returned (.tuple #[.int .i64 (p : Int), .bool true]) ∧ Below W.heap.size W w') := Lib.hid (fun t W ht hr => by
    have := Cl.rfind_any W.heap.size t.p.a t.p.n t.p.c d.f 1 W (by omega) hr (Nat.le_refl _)
    rwa [ht, show Cl.findV d.f s.p.n 1 = (p : Int) by unfold Cl.findV; rw [hq], show Cl.findS d.f s.p.n 1 = true by unfold Cl.findS; rw [hq]; rfl, ← ht] at this)
  have HBG : Hid (∀ (t : Hs) (W : World), t.p.n = s.p.n → Cl.PRow W W.heap.size t.p.a t.p.n D1.f → Calls Tryz.prog 34 #[.slice t.p.a t.p.n t.p.c, .int .i64 a] W fun e w' => e = .returned (.int .i64 (rm : Nat)) ∧ Below W.heap.size W w') := Lib.hid (fun W t ht hr => by
    have := Cl.rbegins_any t.heap.size W.p.a W.p.n W.p.c D1.f a t (by omega) hr (Nat.le_refl _)
    rwa [ht, hbg, ← ht] at this)
  obtain ⟨x, hx⟩ : ∃ x, x = Hd.word true o e N b m := ⟨_, rfl⟩
  have HWD : Hid (∀ W, Calls Tryz.prog 35 #[.agg #[.bool true, .bool o, .bool e, .int .i64 N, .int .i64 b, .int .i64 m]] W fun r w' => r = .returned (.int .i64 x) ∧ Below W.heap.size W w') := Lib.hid (fun W => by rw [hx]; exact Hd.rword_yes true o e N b m W hh)
  have HAO : Hid (a = 16 + (oo : Int) ∧ oo + rm ≤ s.w.n ∧ s.w.n ≤ 1024 ∧ 2 ≤ rm) := Lib.hid hao
  rw [← hx]
  have HXX := Lib.hid hx
  clear hp l3 hf hm hh hc h3 hfit hwp hp64 hn1 hk hG0 hF0 hq hD hG1 ha hbg hao hx g1 g2 g3 hmay hon2 hon512 hdS hf1 hon hnn
  go_enter Tryz.func8, Tryz.ntmps8
  go_wp2_with fail
  obtain ⟨W5, hW5⟩ : ∃ W5, W5 = tk7 w s u true o e N b m := ⟨_, rfl⟩
  unfold tk7 at hW5
  have T5 := Lib.hid (tkr_start (us := true) HP.out HL.out hW5)
  have hz5 : w.heap.size + 1 + 1 + 1 + 1 + 1 + 1 + 1 = W5.heap.size := by rw [hW5]; simp
  rw [← hW5, hz5]
  clear hW5 hz5
  refine (HM.out W5 T5.out).mono ?_
  rintro e9 w6 ⟨rfl, hb6⟩
  have T6 := Lib.hid ((T5.out.next ((Below.refl _ _).alloc (Nat.le_refl _) (.cells #[.slice (u 0).a (u 0).n (u 0).c, .slice (u 1).a (u 1).n (u 1).c, .slice (u 2).a (u 2).n (u 2).c] 25))).next hb6)
  clear hb6 T5 HM
  have x0 := T6.out.ts.xb.c0
  have x1 := T6.out.ts.xb.c1
  have x2 := T6.out.ts.xb.c2
  have x3 := T6.out.ts.xb.c3
  have x4 := T6.out.ts.xb.c4
  have x5 := T6.out.ts.xb.c5
  have xl := T6.out.ts.xb.lt
  go_wp2_with fail
  refine (Hd.rmay_yes true o e N b m w6 HH.out).mono ?_
  rintro e9 w7 ⟨rfl, hb7⟩
  have T7 := Lib.hid (T6.out.next hb7)
  clear x0 x1 x2 x3 x4 x5 xl
  clear hb7 T6
  have x0 := T7.out.ts.xb.c0
  have x1 := T7.out.ts.xb.c1
  have x2 := T7.out.ts.xb.c2
  have x3 := T7.out.ts.xb.c3
  have x4 := T7.out.ts.xb.c4
  have x5 := T7.out.ts.xb.c5
  have xl := T7.out.ts.xb.lt
  go_wp2_with fail
  refine (HCL.out w7).mono ?_
  rintro e9 w8 ⟨rfl, rfl⟩
  clear x0 x1 x2 x3 x4 x5 xl
  have q0 := (T7.out.ts.hb).c0
  have q1 := (T7.out.ts.hb).c1
  have q2 := (T7.out.ts.hb).c2
  have q3 := (T7.out.ts.hb).c3
  have q4 := (T7.out.ts.hb).c4
  have q5 := (T7.out.ts.hb).c5
  have ql := (T7.out.ts.hb).lt
  go_wp2_with fail
  refine (HOW.out w7 T7.out.ts.bel).mono ?_
  intro e9 w8 hown
  obtain ⟨t, rfl, hln, hb8, hog⟩ := tw_start (G := G) T7.out.ts.bel hown HW0.out
  have HLN := Lib.hid hln
  clear hown hln
  clear q0 q1 q2 q3 q4 q5 ql
  obtain ⟨W9, hW9⟩ : ∃ W, W = w8.alloc (.cells #[.slice t.w.a t.w.n t.w.c, .slice t.p.a t.p.n t.p.c, .slice (t.u 0).a (t.u 0).n (t.u 0).c, .slice (t.u 1).a (t.u 1).n (t.u 1).c, .slice (t.u 2).a (t.u 2).n (t.u 2).c, .slice t.c.a t.c.n t.c.c] 28) := ⟨_, rfl⟩
  have b9 : Below w8.heap.size w8 W9 := by rw [hW9]; exact (Below.refl _ _).alloc (Nat.le_refl _) _
  have T9 := Lib.hid ((T7.out.next hb8).next b9)
  have hog9 := hog W9 hW9
  clear hog hb8 b9
  obtain ⟨bo, hbo⟩ : ∃ b, b = w8.heap.size := ⟨_, rfl⟩
  go_upto_region 11 with fail
  rw [← hW9, ← hbo]
  rw [← hbo] at hog9
  clear hW9 hbo
  have u0 := T9.out.ts.cb.cell 0 (by decide)
  have u1 := T9.out.ts.cb.cell 1 (by decide)
  have u2 := T9.out.ts.cb.cell 2 (by decide)
  have ul := T9.out.ts.cb.lt
  go_wp2_with fail
  refine (HOL.out W9 T9.out.ts.bel).mono ?_
  rintro e9 w10 ⟨v, rfl, ho10, hb10⟩
  clear u0 u1 u2 ul T9
  obtain ⟨W11, hW11⟩ : ∃ W, W = w10.alloc (.cells #[.slice (v 0).a (v 0).n (v 0).c, .slice (v 1).a (v 1).n (v 1).c, .slice (v 2).a (v 2).n (v 2).c] 25) := ⟨_, rfl⟩
  obtain ⟨g, hTw⟩ := hog9 v w10 ho10 hb10 W11 hW11
  obtain ⟨bc, hbc⟩ : ∃ b, b = w10.heap.size := ⟨_, rfl⟩
  rw [← hbc] at hTw
  have Z0 := Lib.hid hTw
  clear hog9 ho10 hb10 hTw
  go_upto_region 12 with fail
  rw [← hW11, ← hbc]
  clear hW11 hbc
  have hk := HKK.out
  have dk3 : ((k : Int) == 3) = false := by simp; omega
  have dk4 : decide ((k : Int) = 3) = false := by simp; omega
  have iq0 : (0 : Int) ≤ (k : Int) := by omega
  have iq1 : (k : Int) < 3 := by omega
  have xc := Z0.out.z.b3.cell k hk
  have xl := Z0.out.z.b3.lt
  have hvl := Z0.out.z.l3.len k hk
  have hG' := HG0.out
  have dG : (((v k).n : Int) == 0) = true := by simp; omega
  have dG2 : decide (((v k).n : Int) = 0) = true := by simp; omega
  have yc := list_box Z0.out.z.o hk
  have yl := Z0.out.z.o.box.box.lt
  have hul := Z0.out.z.hp.free.len k hk
  have hF' := HF0.out
  have dF : (((t.u k).n : Int) == 0) = true := by simp; omega
  have dF2 : decide (((t.u k).n : Int) = 0) = true := by simp; omega
  clear hul hF'
  clear hvl hG'
  go_upto_region 21 with fail
  clear xc xl yc yl
  have y1 := Z0.out.z.o.box.box.c1
  have yl := Z0.out.z.o.box.box.lt
  go_wp2_with fail
  refine (HFD.out t W11 HLN.out.2.1 Z0.out.z.hp.pages).mono ?_
  rintro e9 w13 ⟨rfl, hbf⟩
  have Z1 := Lib.hid (Z0.out.next hbf)
  clear hbf y1 yl Z0
  have y1 := Z1.out.z.o.box.box.c1
  have yl := Z1.out.z.o.box.box.lt
  go_wp2_with fail
  refine (HSM.out t w13 HLN.out.2.1 Z1.out.z.hp.pages).mono ?_
  rintro e9 w14 ⟨pb, pc, rfl, hr14, hl14, hb14⟩
  have Z2 := Lib.hid (Z1.out.next hb14)
  have Z3 := Lib.hid (Z1.out.pages (c := pc) hb14 hr14 hl14)
  clear y1 yl Z1 hr14 hl14 hb14
  have y1 := Z2.out.z.o.box.box.c1
  have yf := Z2.out.z.o.box.free 1
  have yl := Z2.out.z.o.box.box.lt
  go_upto_region 25 with fail
  obtain ⟨W15, hW15⟩ : ∃ W, W = w14.setCell ⟨bo, 1, none⟩ (.slice (some ⟨pb, 0, none⟩) t.p.n pc) := ⟨_, rfl⟩
  rw [← hW15] at Z3
  rw [← hW15]
  obtain ⟨t0, ht0⟩ : ∃ t0 : Hs, t0 = ⟨t.w, ⟨some ⟨pb, 0, none⟩, t.p.n, pc⟩, t.u, t.c⟩ := ⟨_, rfl⟩
  have LN0 : Hid (t0.w.n = s.w.n ∧ t0.p.n = s.p.n ∧ t0.c.n = s.c.n) := Lib.hid (by rw [ht0]; exact ⟨HLN.out.1, HLN.out.2.1, HLN.out.2.2.2⟩)
  rw [← ht0] at Z3
  clear y1 yf yl Z2 hW15 ht0
  have y1 := Z3.out.z.o.box.box.c1
  have yl := Z3.out.z.o.box.box.lt
  have hnn2 := HNN.out.2
  go_wp2_with fail
  refine (HOC.out t0 W15 LN0.out.2.1 Z3.out.z.hp.pages).mono ?_
  rintro e9 w16 ⟨xb, off, co, rfl, hc16, hx16, hl16, hb16⟩
  have HS0 : Hid (Sp w w7 w16 bo bc g t0 (spD d f1 k on nn) v G xb off on nn) := Lib.hid (by
    rw [show spD d f1 k on nn = ⟨d.ws, f1, d.F, d.cs⟩ by rw [HNN.out.1]; exact spD_none d f1 k]
    exact Sp.start Z3.out hb16 hc16 hx16 hl16)
  clear y1 yl Z3 hc16 hx16 hl16 hb16
  have wn1 : IntKind.i64.wrap ((nn : Int) - 1) = (nn : Int) - 1 := by simp [IntKind.wrap, IntKind.signed, IntKind.bits]; omega
  go_upto_region 27 with fail
  clear wn1
  go_loopw [26] (fun x wr => ∃ (i : Nat) (z : Int) (t2 : Hs), i ≤ nn ∧ z = (i : Int) - 1 ∧ x = .int .i64 z ∧ Hid (t2.w.n = s.w.n ∧ t2.p.n = s.p.n ∧ t2.c.n = s.c.n) ∧ Hid (Sp w w7 wr bo bc g t2 (spD d f1 k on i) v G xb off on nn)) (fun x _ => (intOf x + 1).toNat)
  case atStart => exact ⟨nn, (nn : Int) - 1, t0, Nat.le_refl _, rfl, rfl, LN0, HS0⟩
  case round =>
    obtain ⟨i, z, t2, hi, hz, rfl, LN2, HC⟩ := hrel
    clear HS0 LN0
    by_cases h0 : i = 0
    · subst h0
      have hz1 : z = -1 := by omega
      subst hz1
      have dq : decide ((0 : Int) ≤ -1) = false := by decide
      have ZZ : Hid (Tz w w7 wr bo bc g t2 dS v G) := Lib.hid (by have := HC.out.tw.z; rw [HSP.out] at this; exact this)
      clear HC hz hi
      have xc := ZZ.out.b3.cell k hk
      have xl := ZZ.out.b3.lt
      go_upto_region 32 with fail
      clear xc xl
      have HLM := Lib.hid LN2.out
      have c0 := ZZ.out.b3.cell 0 (by decide)
      have c1 := ZZ.out.b3.cell 1 (by decide)
      have c2 := ZZ.out.b3.cell 2 (by decide)
      have cl := ZZ.out.b3.lt
      have d2 := ZZ.out.o.box.box.c2
      have d3 := ZZ.out.o.box.box.c3
      have d4 := ZZ.out.o.box.box.c4
      have dl := ZZ.out.o.box.box.lt
      go_wp2_with fail
      refine (HMV.out t2.u v dS.F G wr ZZ.out.hp.free ZZ.out.l3 HLS2.out.1 HLS2.out.2).mono ?_
      rintro e9 wM ⟨uM, vM, rfl, huM, hvM, hbM, kM1, kM2, _⟩
      have ZM := Lib.hid (ZZ.out.next hbM)
      have ZN := Lib.hid (ZM.out.moved huM hvM (fun j hj h0 x hx => by have h1 := kM1 j x hj h0 hx; have h2 := ZZ.out.m.2.2.1; omega) (fun j hj _ x hx => by have h1 := kM2 j x hj hx; have h2 := ZZ.out.m.2.2.1; omega)).2
      clear c0 c1 c2 cl d2 d3 d4 dl huM hvM hbM kM1 kM2 ZZ
      have c0 := ZM.out.b3.cell 0 (by decide)
      have c1 := ZM.out.b3.cell 1 (by decide)
      have c2 := ZM.out.b3.cell 2 (by decide)
      have cf0 := ZM.out.b3.free 0
      have cf1 := ZM.out.b3.free 1
      have cf2 := ZM.out.b3.free 2
      have cl := ZM.out.b3.lt
      have d2 := ZM.out.o.box.box.c2
      have d3 := ZM.out.o.box.box.c3
      have d4 := ZM.out.o.box.box.c4
      have df2 := ZM.out.o.box.free 2
      have df3 := ZM.out.o.box.free 3
      have df4 := ZM.out.o.box.free 4
      have dl := ZM.out.o.box.box.lt
      have hn12 := ZM.out.lo.2.2
      have hn21 : ¬ bc = bo := fun e => hn12 e.symm
      go_upto_region 33 with fail
      obtain ⟨WN, hWN⟩ : ∃ W, W = (((((wM.setCell ⟨bo, 2, none⟩ (.slice (uM 0).a (uM 0).n (uM 0).c)).setCell ⟨bo, 3, none⟩ (.slice (uM 1).a (uM 1).n (uM 1).c)).setCell ⟨bo, 4, none⟩ (.slice (uM 2).a (uM 2).n (uM 2).c)).setCell ⟨bc, 0, none⟩ (.slice (vM 0).a (vM 0).n (vM 0).c)).setCell ⟨bc, 1, none⟩ (.slice (vM 1).a (vM 1).n (vM 1).c)).setCell ⟨bc, 2, none⟩ (.slice (vM 2).a (vM 2).n (vM 2).c) := ⟨_, rfl⟩
      rw [← hWN]
      obtain ⟨t1, ht1⟩ : ∃ t1 : Hs, t1 = ⟨t2.w, t2.p, uM, t2.c⟩ := ⟨_, rfl⟩
      have LN1 : Hid (t1.w.n = s.w.n ∧ t1.p.n = s.p.n ∧ t1.c.n = s.c.n) := Lib.hid (by rw [ht1]; exact HLM.out)
      have Z2 : Hid (Tz w w7 WN bo bc g t1 D1 vM (fillG dS.F G k)) := Lib.hid (by rw [ht1, hWN, HDD.out]; exact ZN.out)
      clear c0 c1 c2 cf0 cf1 cf2 cl d2 d3 d4 df2 df3 df4 dl hn12 hn21 hWN ht1 ZM ZN
      have c0 := Z2.out.b3.cell 0 (by decide)
      have c1 := Z2.out.b3.cell 1 (by decide)
      have c2 := Z2.out.b3.cell 2 (by decide)
      have cl := Z2.out.b3.lt
      go_wp2_with fail
      refine (HPO.out vM (fillG dS.F G k) WN Z2.out.l3 HGX.out.1 HGX.out.2).mono ?_
      rintro e9 wP ⟨v1, rfl, hpP, hbP, hnP⟩
      have ZP := Lib.hid (Z2.out.next hbP)
      have ZQ := Lib.hid (ZP.out.lists v1 hpP (fun j hj _ x hx => by have h1 := hnP j x hj hx; have h2 := Z2.out.m.2.2.1; omega))
      clear c0 c1 c2 cl hpP hbP hnP Z2
      have c0 := ZP.out.b3.cell 0 (by decide)
      have c1 := ZP.out.b3.cell 1 (by decide)
      have c2 := ZP.out.b3.cell 2 (by decide)
      have cf0 := ZP.out.b3.free 0
      have cf1 := ZP.out.b3.free 1
      have cf2 := ZP.out.b3.free 2
      have cl := ZP.out.b3.lt
      go_upto_region 34 with fail
      obtain ⟨WQ, hWQ⟩ : ∃ W, W = ((wP.setCell ⟨bc, 0, none⟩ (.slice (v1 0).a (v1 0).n (v1 0).c)).setCell ⟨bc, 1, none⟩ (.slice (v1 1).a (v1 1).n (v1 1).c)).setCell ⟨bc, 2, none⟩ (.slice (v1 2).a (v1 2).n (v1 2).c) := ⟨_, rfl⟩
      rw [← HAA.out]
      rw [← hWQ]
      have ZT : Hid (Tz w w7 WQ bo bc g t1 D1 v1 G1) := Lib.hid (by rw [HG1.out, hWQ]; exact ZQ.out)
      clear c0 c1 c2 cf0 cf1 cf2 cl hWQ ZP ZQ
      have y1 := ZT.out.o.box.box.c1
      have yl := ZT.out.o.box.box.lt
      go_wp2_with fail
      refine (HBG.out t1 WQ LN1.out.2.1 ZT.out.hp.pages).mono ?_
      rintro e9 wB ⟨rfl, hbB⟩
      have ZB := Lib.hid (ZT.out.next hbB)
      clear hbB ZT y1 yl
      go_wp2
      go_loopw [28] (fun i wr => ∃ k : Nat, k ≤ rm ∧ i = .int .i64 k ∧ Hid (Tz w w7 wr bo bc g t1 ⟨Ar.wipe D1.ws oo k, D1.f, D1.F, D1.cs⟩ v1 G1)) (fun i _ => rm - (intOf i).toNat)
      case atStart => exact ⟨0, Nat.zero_le _, rfl, ZB⟩
      case round =>
        obtain ⟨k, hk, rfl, HK⟩ := hrel
        clear ZB
        obtain ⟨hao, hrn, hwn, hr2⟩ := HAO.out
        have hrb : rm ≤ 1024 := by omega
        have ha2 : a - 16 = (oo : Int) := by omega
        by_cases hlt : k < rm
        · have dq : decide ((k : Int) < rm) = true := by simp; omega
          have iq0 : (0 : Int) ≤ k := by omega
          have x0 := HK.out.o.box.box.c0
          have xl := HK.out.o.box.box.lt
          rw [HK.out.e, LN1.out.1] at x0
          obtain ⟨ok, hok⟩ : ∃ ok, ok = oo + k := ⟨_, rfl⟩
          have c0 := HK.out.m.cell ok (by rw [LN1.out.1]; omega)
          have cf := HK.out.m.free ok
          have cl := HK.out.m.2.2.1
          have i0 : (0 : Int) ≤ (ok : Int) := by omega
          have i1 : (ok : Int) < s.w.n := by omega
          have ho2 : (oo : Int) + (k : Int) = (ok : Int) := by omega
          have w0' : IntKind.i64.wrap (oo : Int) = (oo : Int) := by simp [IntKind.wrap, IntKind.signed, IntKind.bits]; omega
          have w2' : IntKind.i64.wrap (ok : Int) = (ok : Int) := by simp [IntKind.wrap, IntKind.signed, IntKind.bits]; omega
          have HZ := Lib.hid (HK.out.word ok 0)
          have HOK := Lib.hid hok
          clear hok hao hrn hwn
          go_wp2
          go_roundw
          case rel =>
            refine ⟨k + 1, by omega, by go_num, Lib.hid ?_⟩
            rw [← Ar.wipe_snoc, ← HOK.out]
            exact HZ.out
          case measure => simp [intOf]; omega
        · obtain rfl : k = rm := by omega
          have dq : decide ((k : Int) < k) = false := by simp
          have HD : Hid (Tz w w7 (World.drew wr) bo bc g t1 ⟨Ar.wipe D1.ws oo k, D1.f, D1.F, D1.cs⟩ v1 G1) := Lib.hid (HK.out.next (below_drawn' (Below.refl _ _) 1))
          have TR : Hid (TkR w wr s d u G true o e N b m) := Lib.hid (T7.out.below (HK.out.over T7.out.ts.bel) T7.out.size)
          have TD : Hid (TkR w (World.drew wr) s d u G true o e N b m) := Lib.hid (TR.out.next (below_drawn' (Below.refl _ _) 1))
          have x0 := HK.out.o.box.box.c0
          have xl := HK.out.o.box.box.lt
          rw [HK.out.e, LN1.out.1] at x0
          have c0 := HK.out.m.cell oo (by rw [LN1.out.1]; omega)
          have cf := HK.out.m.free oo
          have cl := HK.out.m.2.2.1
          have i0 : (0 : Int) ≤ (oo : Int) := by omega
          have i1 : (oo : Int) < s.w.n := by omega
          have w0' : IntKind.i64.wrap (oo : Int) = (oo : Int) := by simp [IntKind.wrap, IntKind.signed, IntKind.bits]; omega
          have p0 := TR.out.ts.xb.c0
          have p1 := TR.out.ts.xb.c1
          have p2 := TR.out.ts.xb.c2
          have p3 := TR.out.ts.xb.c3
          have p4 := TR.out.ts.xb.c4
          have p5 := TR.out.ts.xb.c5
          have pl := TR.out.ts.xb.lt
          clear hlt HK hao hrn hwn hr2 hk hrb
          go_upto_region 39 with fail
          go_region_with (first
            | ((go_at_call 35; refine (HWD.out (World.drew wr)).mono ?_; rintro e9 wW ⟨rfl, hbW⟩; have ZW := Lib.hid (HD.out.next hbW); have r0 := ZW.out.o.box.box.c0; have rl := ZW.out.o.box.box.lt; rw [ZW.out.e, LN1.out.1] at r0; have e0 := ZW.out.m.cell oo (by rw [LN1.out.1]; omega); have ef := ZW.out.m.free oo; have el := ZW.out.m.2.2.1; clear hbW)))
          all_goals
           have ZX := Lib.hid (ZW.out.word oo x)
           clear x0 xl c0 cf cl p0 p1 p2 p3 p4 p5 pl r0 rl e0 ef el TR TD HD ZW
           obtain ⟨WX, hWX⟩ : ∃ W, W = wW.setCell ⟨g, oo, none⟩ (.int .i64 x) := ⟨_, rfl⟩
           rw [← hWX] at ZX
           rw [← hWX]
           clear hWX
           have TE := Lib.hid (T7.out.below (ZX.out.over T7.out.ts.bel) T7.out.size)
           have g0 := TE.out.ts.r6.free 0
           have g1 := TE.out.ts.r6.free 1
           have g2 := TE.out.ts.r6.free 2
           have g3 := TE.out.ts.r6.free 3
           have g4 := TE.out.ts.r6.free 4
           have g5 := TE.out.ts.r6.free 5
           have y0 := TE.out.ts.r6.box.c0
           have y1 := TE.out.ts.r6.box.c1
           have y2 := TE.out.ts.r6.box.c2
           have y3 := TE.out.ts.r6.box.c3
           have y4 := TE.out.ts.r6.box.c4
           have y5 := TE.out.ts.r6.box.c5
           have yl := TE.out.ts.r6.box.lt
           have i0 := TE.out.ts.r3.cell 0 (by decide)
           have i1 := TE.out.ts.r3.cell 1 (by decide)
           have i2 := TE.out.ts.r3.cell 2 (by decide)
           have j0 := TE.out.ts.r3.free 0
           have j1 := TE.out.ts.r3.free 1
           have j2 := TE.out.ts.r3.free 2
           have il := TE.out.ts.r3.lt
           dsimp only [noHs, Ls.noSl] at y0 y1 y2 y3 y4 y5 i0 i1 i2
           have q0 := ZX.out.o.box.box.c0
           have q1 := ZX.out.o.box.box.c1
           have q2 := ZX.out.o.box.box.c2
           have q3 := ZX.out.o.box.box.c3
           have q4 := ZX.out.o.box.box.c4
           have q5 := ZX.out.o.box.box.c5
           have ql := ZX.out.o.box.box.lt
           have k0 := ZX.out.b3.cell 0 (by decide)
           have k1 := ZX.out.b3.cell 1 (by decide)
           have k2 := ZX.out.b3.cell 2 (by decide)
           have kl := ZX.out.b3.lt
           have hs7 := T7.out.size
           have hlo := ZX.out.lo
           have hne : ¬ w.heap.size + 3 = bo := by omega
           have hne2 : ¬ w.heap.size + 4 = bo := by omega
           have hne3 : ¬ w.heap.size + 3 = bc := by omega
           have hne4 : ¬ w.heap.size + 4 = bc := by omega
           clear hs7 hlo
          all_goals go_wp2
          all_goals go_region
          all_goals go_wp2
          all_goals exact bodyPost_ret (v := .tuple #[(.agg #[.slice t1.w.a t1.w.n t1.w.c, .slice t1.p.a t1.p.n t1.p.c, .slice (t1.u 0).a (t1.u 0).n (t1.u 0).c, .slice (t1.u 1).a (t1.u 1).n (t1.u 1).c, .slice (t1.u 2).a (t1.u 2).n (t1.u 2).c, .slice t1.c.a t1.c.n t1.c.c]), (.agg #[.slice (v1 0).a (v1 0).n (v1 0).c, .slice (v1 1).a (v1 1).n (v1 1).c, .slice (v1 2).a (v1 2).n (v1 2).c]), .int .i64 a, .int .i64 0]) (rtake_res_drew TE.out.ts (t := t1) (v := v1) ZX.out.hp ZX.out.l3 rfl rfl rfl rfl rfl) rfl (take_yes_drew TE.out.ts ⟨0, s.w.n, s.p.n, s.c.n, ⟨(Ar.wipe D1.ws oo k).set oo x, D1.f, D1.F, D1.cs⟩, G1, a⟩ (t := t1) (v := v1) ZX.out.hp ZX.out.l3 LN1.out rfl)
    · obtain ⟨jn, rfl⟩ : ∃ jn, i = jn + 1 := ⟨i - 1, by omega⟩
      have hz1 : z = (jn : Int) := by omega
      subst hz1
      have dq : decide ((0 : Int) ≤ (jn : Int)) = true := by simp
      have hjn : jn < nn := by omega
      have hjo : jn < on.length := by rw [← HNN.out.1]; exact hjn
      have jq0 : (0 : Int) ≤ (jn : Int) := by omega
      have jq1 : (jn : Int) < (nn : Int) := by omega
      have c0 := HC.out.on jn hjn
      have cl := HC.out.lt
      obtain ⟨y, hy⟩ : ∃ y, y = on.getD jn 0 := ⟨_, rfl⟩
      have HSD := Lib.hid (spD_step d f1 k (on := on) (j := jn) hjo)
      obtain ⟨yn, hyn, hyl⟩ := HON0.out y (by rw [hy]; simp [List.getD, List.getElem?_eq_getElem hjo])
      rw [← hy] at c0 HSD
      have b0 := HC.out.tw.z.o.box.box.c0
      have bl := HC.out.tw.z.o.box.box.lt
      rw [HC.out.tw.z.e, LN2.out.1] at b0
      have e0 := HC.out.tw.z.m.cell yn (by rw [LN2.out.1]; exact hyl)
      have ef := HC.out.tw.z.m.free yn
      have el := HC.out.tw.z.m.2.2.1
      have yq0 : (0 : Int) ≤ (yn : Int) := by omega
      have yq1 : (yn : Int) < (s.w.n : Int) := by omega
      have wy : IntKind.i64.wrap (yn : Int) = (yn : Int) := by
        have h1 := HAO.out.2.2.1
        simp [IntKind.wrap, IntKind.signed, IntKind.bits]; omega
      have HS1 : Hid (Sp w w7 (World.drew (wr.setCell ⟨g, yn, none⟩ (.int .i64 0))) bo bc g t2 ⟨(spD d f1 k on (jn + 1)).ws.set yn 0, f1, (spD d f1 k on (jn + 1)).F, d.cs⟩ v G xb off on nn) := Lib.hid ((HC.out.word yn 0).next (below_drawn' (Below.refl _ _) 1))
      have HYN : Hid ((y - 16).toNat = yn) := Lib.hid (by omega)
      have HUL : Hid ((t2.u k).n + 1 ≤ 4000000) := Lib.hid (by
        have h1 := HC.out.tw.z.hp.free.len k hk
        have h2 := HF0.out
        have h4 := HNN.out
        unfold spD at h1
        simp only [Ls.upd_same] at h1
        rw [List.length_append, List.length_reverse, List.length_drop] at h1
        omega)
      have HYY : Hid (on.getD jn 0 = y) := Lib.hid hy.symm
      clear hy hz h0 HC hyl hi
      go_upto_region 29 with fail
      go_region_with (fail)
      all_goals
       obtain ⟨W17, hW17⟩ : ∃ W, W = World.drew (wr.setCell ⟨g, yn, none⟩ (.int .i64 0)) := ⟨_, rfl⟩
       rw [← hW17] at HS1
       rw [← hW17]
       clear hW17 c0 cl b0 bl e0 ef el hyn wy yq0 yq1
       have HS2 := Lib.hid (HS1.out.next (below_drawn' (Below.refl _ _) 1))
       have HS3 := Lib.hid (HS2.out.next ((Below.refl _ (World.drew W17)).alloc (Nat.le_refl _) (.cells #[.int .i64 y] 3)))
       have hsb : w7.heap.size ≤ ((World.drew W17).alloc (.cells #[.int .i64 y] 3)).heap.size := HS3.out.tw.z.sz
       have hul := HUL.out
       have c0 := HS1.out.on jn hjn
       have cl := HS1.out.lt
       rw [HYY.out] at c0
       have yc := list_box HS1.out.tw.z.o hk
       have yl := HS1.out.tw.z.o.box.box.lt
       have wj : IntKind.i64.wrap ((jn : Int) - 1) = (jn : Int) - 1 := by simp [IntKind.wrap, IntKind.signed, IntKind.bits]; omega
      all_goals go_upto_region 30 with fail
      all_goals go_region_law (first
        | (refine Ls.step_cat (by rfl) (.tmp 151) (.tmp 156) (by rfl) (by rfl) (by rfl) (base := w7.heap.size) (HS3.out.tw.o3.own k hk) (Ls.row_lit1 (World.drew W17) y) hsb (by omega) ?_; intro p4 c4 w4 hc4; have O4 := Lib.hid (HS3.out.cat hk hc4); have z4 := list_box O4.out.1 hk; have zf := O4.out.1.box.free (2 + k); have zl := O4.out.1.box.box.lt; clear hc4))
      all_goals
       have G4 := Lib.hid O4.out.2
       clear O4 z4 zf zl c0 cl yc yl HS1 HS2 HS3 hsb hul
      all_goals go_wp2
      all_goals go_roundw
      all_goals first
        | (simp [intOf]; done)
        | exact ⟨jn, (jn : Int) - 1, ⟨t2.w, t2.p, Ls.upd t2.u k ⟨p4, (t2.u k).n + 1, c4⟩, t2.c⟩, by omega, rfl, by first | rfl | rw [wj] | go_num, Lib.hid LN2.out, Lib.hid (by rw [HSD.out, HYN.out]; exact G4.out)⟩
end
end Go.Proofs.YtdmclfolooiccaaGreatDoor.Rp
