/-
  Merged texts: AlRefN, AlRefB, AlRefL.
-/
import Derived.Test.YtdmclfolooiccaaGreatDoorHpAH
import Derived.Test.YtdmclfolooiccaaGreatDoorHpAM
import Derived.Test.YtdmclfolooiccaaGreatDoorAAlRefA
section
namespace Go.Proofs.YtdmclfolooiccaaGreatDoor.Cl
open Go.Proofs.YtdmclfolooiccaaGreatDoor
open Go.RowKit
set_option maxRecDepth 100000
variable {B n c : Nat} {A : Option Addr} {f : Nat → Int × Int} {a : Int} {w : World}
theorem allS_at {f : Nat → Int × Int} {n j : Nat} {c : Int × Int} (h : (allL f n)[j]? = some c) : (allS f n).getD j 0 = c.1 := by
  simp [allS, List.getD, h]

theorem filt_step {S : List Int} {i : Nat} {s : Int} (p : Int → Bool) (h : S[i]? = some s) : (S.take (i + 1)).filter p = (S.take i).filter p ++ (if p s then [s] else []) := by
  rw [take_next h, List.filter_append]
  cases hp : p s <;> simp [hp]
set_option maxHeartbeats 1000000 in
theorem ron_own (hn : n ≤ 1000) (hr : PRow w B A n f) (hB : B ≤ w.heap.size) :
    Calls Tryz.prog 31 #[.slice A n c, .int .i64 a] w (ListedO w (onS f n a)) := by
  have HR := Lib.hid hr
  clear hr
  obtain ⟨m, HL⟩ : ∃ m, Hid (m = (allL f n).length) := ⟨_, Lib.hid rfl⟩
  have hm : m ≤ 512 := by rw [HL.out]; exact allL_length f n
  have HLS : Hid ((allS f n).length = m) := Lib.hid (by rw [HL.out]; simp [allS])
  go_enter Tryz.func31, Tryz.ntmps31
  go_wp2_with fail
  refine (rall_any B A n _ f _ hn HR.out hB).mono ?_
  rintro e w1 ⟨a1, c1, rfl, hr1, hc1, hcm1, hb1⟩
  rw [HLS.out] at hr1 hc1
  rw [HLS.out]
  have HR1 := Lib.hid hr1
  have HB1 := Lib.hid hb1
  have hz1 := hb1.size
  clear hr1 hb1
  go_wp2
  go_loopw [6, 7] (fun o p wr => ∃ (i : Nat), i ≤ m ∧ p = .int .i64 i ∧ Hid (Lst w1.heap.size wr o (((allS f n).take i).filter (fun s => s / 16 - 1 == a))) ∧ Hid (Below w1.heap.size w1 wr)) (fun _ p _ => m - (intOf p).toNat)
  case atStart => exact ⟨0, Nat.zero_le _, rfl, Lib.hid (Lst.nil _ _), Lib.hid (Below.refl _ _)⟩
  case round =>
    obtain ⟨i, hi, rfl, HO, HBr⟩ := hrel
    have hzr := HBr.out.size
    by_cases hlt : i < m
    · obtain ⟨b, off, rfl, hb, hc⟩ := (HR1.out.below HBr.out).2 (by omega)
      have c0 := hc i hlt
      obtain ⟨⟨q, r⟩, hg⟩ : ∃ c, (allL f n)[i]? = some c := ⟨_, List.getElem?_eq_getElem (by rw [← HL.out]; exact hlt)⟩
      rw [allS_at hg] at c0
      simp only at c0
      have hgs : (allS f n)[i]? = some q := by simp [allS, hg]
      have HF := Lib.hid (filt_step (fun s => s / 16 - 1 == a) hgs)
      have hbd := allL_bounds f n _ (List.mem_of_getElem? hg)
      have h16 := ((allL_apart f n).2 _ (List.mem_of_getElem? hg)).1
      simp only at hbd h16
      have hsh : (((allS f n).take i).filter (fun s => s / 16 - 1 == a)).length ≤ 512 := Nat.le_trans (List.length_filter_le _ _) (allS_short f n i)
      have hbw : b < wr.heap.size := by omega
      clear hc hg hgs
      by_cases hq : q / 16 - 1 = a
      · have dq : (q / 16 - 1 == a) = true := by simpa using hq
        have HF2 : Hid (((allS f n).take (i + 1)).filter (fun s => s / 16 - 1 == a) = ((allS f n).take i).filter (fun s => s / 16 - 1 == a) ++ [q]) := Lib.hid (by have := HF.out; rw [this, if_pos dq])
        clear hq HF
        go_wp2_with (at_builtin; refine list_cat rfl _ _ rfl rfl rfl rfl (HO.out.over ((Below.refl _ _).alloc (Nat.le_refl _) _)) (row_lit1 _ q) (by simp; omega) (by simp only [List.length_singleton]; omega) ?_; intro v' w2 hl2 hb2; have HO2 := Lib.hid hl2; have HB2 := Lib.hid ((HBr.out.alloc hzr _).trans hb2); clear hl2 hb2)
        exact ⟨⟨i + 1, by omega, by go_num, Lib.hid (by rw [HF2.out]; exact HO2.out), HB2⟩, by simp [intOf]; omega⟩
      · have dq : (q / 16 - 1 == a) = false := by simpa using hq
        have HF2 : Hid (((allS f n).take (i + 1)).filter (fun s => s / 16 - 1 == a) = ((allS f n).take i).filter (fun s => s / 16 - 1 == a)) := Lib.hid (by have := HF.out; rw [this, if_neg (by rw [dq]; decide), List.append_nil])
        clear hq HF
        go_wp2
        go_roundw
        case rel => exact ⟨i + 1, by omega, by go_num, Lib.hid (by rw [HF2.out]; exact HO.out), HBr⟩
        case measure => simp [intOf]; omega
    · obtain rfl : i = m := by omega
      have hO := HO.out
      rw [List.take_of_length_le (by rw [HLS.out]; exact Nat.le_refl _), filter_allS] at hO
      obtain ⟨a2, c2, rfl, hr2, hc2, hcm2⟩ := hO.row
      have hown : wr.ownsRow w.heap.size 3 1 (.slice a2 (onS f n a).length c2) (onS f n a).length ((onS f n a).map (Value.int .i64)) := by
        have h1 := hO.own
        exact ⟨h1.1, h1.2.imp id fun ⟨g, cap, cur, e, hg, r⟩ => ⟨g, cap, cur, e, by omega, r⟩⟩
      have HLd : Hid (ListedO w (onS f n a) (.returned (.slice a2 (onS f n a).length c2)) wr) := Lib.hid ⟨a2, c2, rfl, hown, HB1.out.trans (HBr.out.mono hz1)⟩
      obtain ⟨k, hk⟩ : ∃ k, k = (onS f n a).length := ⟨_, rfl⟩
      rw [← hk] at HLd ⊢
      clear hr2 hc2 hcm2 hO HO hk hown
      go_wp2
      go_ret
      exact HLd.out

end Go.Proofs.YtdmclfolooiccaaGreatDoor.Cl
end
section
namespace Go.Proofs.YtdmclfolooiccaaGreatDoor.Rp
open Go.Proofs.YtdmclfolooiccaaGreatDoor
open Go.RowKit
set_option maxRecDepth 100000

theorem tw_start {w W0 w5 : World} {s : Hs} {d : Hd_} {G : Nat → List Int} {e : Ending} (bel : Below w.heap.size w W0) (hO : OwnOut9 W0 s d e w5) (hn : 0 < s.w.n) :
    ∃ t : Hs, e = .returned (.agg #[.slice t.w.a t.w.n t.w.c, .slice t.p.a t.p.n t.p.c, .slice (t.u 0).a (t.u 0).n (t.u 0).c, .slice (t.u 1).a (t.u 1).n (t.u 1).c, .slice (t.u 2).a (t.u 2).n (t.u 2).c, .slice t.c.a t.c.n t.c.c]) ∧ Lens s t ∧ Below W0.heap.size W0 w5 ∧ ∀ W5, W5 = w5.alloc (.cells #[.slice t.w.a t.w.n t.w.c, .slice t.p.a t.p.n t.p.c, .slice (t.u 0).a (t.u 0).n (t.u 0).c, .slice (t.u 1).a (t.u 1).n (t.u 1).c, .slice (t.u 2).a (t.u 2).n (t.u 2).c, .slice t.c.a t.c.n t.c.c] 28) → ∀ (v : Nat → Ls.Sl) (w7 : World), Ls.Own3 w7 W5.heap.size v G → Below W5.heap.size W5 w7 → ∀ W8, W8 = w7.alloc (.cells #[.slice (v 0).a (v 0).n (v 0).c, .slice (v 1).a (v 1).n (v 1).c, .slice (v 2).a (v 2).n (v 2).c] 25) → ∃ g, Tw w W0 W8 w5.heap.size w7.heap.size g t d v G := by
  obtain ⟨t, he, hw, hp, hl, h3, ap, aq, hb⟩ := hO
  refine ⟨t, he, hl, hb, fun W5 hW5 v w7 ho b7 W8 hW8 => ?_⟩
  have hn' : 0 < t.w.n := by rw [hl.1]; exact hn
  obtain ⟨g, c, eg, hm⟩ := mine_of hw hn'
  simp only [Value.slice.injEq, true_and] at eg
  obtain ⟨e1, e2⟩ := eg
  rw [← e2] at hm
  have b5 : Below w5.heap.size w5 W5 := by rw [hW5]; exact (Below.refl _ _).alloc (Nat.le_refl _) _
  have b8 : Below w7.heap.size w7 W8 := by rw [hW8]; exact (Below.refl _ _).alloc (Nat.le_refl _) _
  have z5 : W5.heap.size = w5.heap.size + 1 := by rw [hW5]; simp
  have s0 := bel.size
  have s5 := hb.size
  have s7 := b7.size
  have b58 : Below W5.heap.size W5 W8 := b7.trans (b8.mono s7)
  have b08 : Below W0.heap.size W0 W8 := (hb.trans (b5.mono s5)).trans (b58.mono (by omega))
  have gl := hm.2.2.1
  have hv := ho.l3
  refine ⟨g, ⟨⟨bel.trans (b08.mono s0), s0, fun i hi => b08.block i hi, ⟨s5, by omega, by omega⟩, hn', ?_, (hp.next b5).next b58, mine_next (mine_next hm b5) b58, e1, ⟨(ap _ e1).1, fun j hj _ => (ap _ e1).2.1 j hj, (ap _ e1).2.2⟩, ?_, ?_, (hv.next b8), fun j hj _ x hx e => ?_⟩, ((h3.next b5).next b58), fun j hj x hx => ⟨(ap _ e1).2.1 j hj x hx, ?_, ?_, (aq j hj x hx).1, (aq j hj x hx).2, fun i hi _ y hy e => ?_⟩⟩⟩
  · exact (show Rm W5 w5.heap.size t by rw [hW5]; exact Rm.new w5 t _).next b58
  · rw [hW8]
    exact Ls.Box3.new w7 v _
  · rw [hW8]
    exact slices3_new w7 v _
  · have := (ho.block j hj hx).1
    omega
  · have := (h3.block j hj hx).2
    omega
  · have := (h3.block j hj hx).2
    omega
  · have h1 := (h3.block j hj hx).2
    have h2 := (ho.block i hi hy).1
    omega
theorem Tz.over {w W0 W : World} {bo bc g : Nat} {t : Hs} {D : Hd_} {v : Nat → Ls.Sl} {G : Nat → List Int} (h : Tz w W0 W bo bc g t D v G) (b0 : Below w.heap.size w W0) : Below W0.heap.size W0 W := by
  obtain ⟨a1, a2, a3, a4, a5⟩ := h.bel
  obtain ⟨c1, c2, c3, c4, c5⟩ := b0
  exact ⟨a1.trans c1.symm, a2.trans c2.symm, a3.trans c3.symm, h.sz, h.old⟩
theorem tail_num {s : Hs} {f : Nat → Int × Int} {a : Int} (hf : Fit s) (h : ¬ Cl.bg f s.p.n a = 0) : ∃ oo rm : Nat, a = 16 + (oo : Int) ∧ Cl.bg f s.p.n a = rm ∧ oo + rm ≤ s.w.n ∧ s.w.n ≤ 1024 ∧ 2 ≤ rm := by
  have hce := cell_end h
  have hwp := hf.wp
  have hp := hf.p
  exact ⟨(a - 16).toNat, (Cl.bg f s.p.n a).toNat, by omega, by omega, by omega, by omega, by omega⟩
end Go.Proofs.YtdmclfolooiccaaGreatDoor.Rp
end
section
namespace Go.Proofs.YtdmclfolooiccaaGreatDoor.Rp
open Go.Proofs.YtdmclfolooiccaaGreatDoor
open Go.RowKit
set_option maxRecDepth 100000

section
variable (s : Hs) (u : Nat → Ls.Sl) (d : Hd_) (G : Nat → List Int) (o e : Bool) (N b m : Int) (w : World)
set_option maxHeartbeats 8000000 in
theorem rtake_lno (hp : Hp w w.heap.size s d) (l3 : Ls.L3 w w.heap.size u G) (hf : FineT s d u G) (hm : mayH s d 1 (fun _ => G) = true) (hh : Hd.mayB true o e N b m = true) (hc : Cl.classErr N = 0) (h3 : Cl.classOf N = 3) (m1 : Nat) (hr : Cl.runOf N = (m1 : Int)) (hre : Cl.runErr N = 0) (hq : Cl.findO d.f s.p.n (m1 : Int) = none) : Calls Tryz.prog 8 #[(.agg #[.slice s.w.a s.w.n s.w.c, .slice s.p.a s.p.n s.p.c, .slice (s.u 0).a (s.u 0).n (s.u 0).c, .slice (s.u 1).a (s.u 1).n (s.u 1).c, .slice (s.u 2).a (s.u 2).n (s.u 2).c, .slice s.c.a s.c.n s.c.c]), (.agg #[.slice (u 0).a (u 0).n (u 0).c, .slice (u 1).a (u 1).n (u 1).c, .slice (u 2).a (u 2).n (u 2).c]), .agg #[.bool true, .bool o, .bool e, .int .i64 N, .int .i64 b, .int .i64 m]] w (TakeOut w (tkNo 4)) := by
  have HP := Lib.hid hp
  have HL := Lib.hid l3
  have HM := Lib.hid (rtake_mayc s u d G true o e N b m w hf)
  rw [hm] at HM
  have HH := Lib.hid hh
  have HOW : Hid (∀ W, Below w.heap.size w W → Calls Tryz.prog 6 #[(.agg #[.slice s.w.a s.w.n s.w.c, .slice s.p.a s.p.n s.p.c, .slice (s.u 0).a (s.u 0).n (s.u 0).c, .slice (s.u 1).a (s.u 1).n (s.u 1).c, .slice (s.u 2).a (s.u 2).n (s.u 2).c, .slice s.c.a s.c.n s.c.c])] W (OwnOut9 W s d)) := Lib.hid (fun W hb => rown9_any s d W (hp.next hb) hf.fine.wn (by have := hf.fine.pn; omega) (by have := hf.fine.cn; omega) (fun j hj => Nat.le_trans (hf.lu j hj) (by decide)))
  have HOL : Hid (∀ W, Below w.heap.size w W → Calls Tryz.prog 17 #[(.agg #[.slice (u 0).a (u 0).n (u 0).c, .slice (u 1).a (u 1).n (u 1).c, .slice (u 2).a (u 2).n (u 2).c])] W (Ls.COut W G)) := Lib.hid (fun W hb => Ls.rown_any w.heap.size u G W (l3.below hb) hb.size (fun j hj => Nat.le_trans (hf.lg j hj) (by decide)))
  have hfit := fit_first (mayH_all hm).1
  have hwp := hfit.wp
  have hp64 := hfit.p
  have hn1 : 1 ≤ s.p.n := by
    have h1 := (mayH_all hm).1
    unfold firstB at h1
    simp only [Bool.and_eq_true] at h1
    exact ((Cl.mayB_iff _ _).1 h1.2.1).1
  have HW0 : Hid (0 < s.w.n) := Lib.hid (by omega)
  have H64 : Hid (s.p.n ≤ 64) := Lib.hid hp64
  have HCL : Hid (∀ w, Calls Tryz.prog 26 #[.int .i64 N] w fun e w' => e = .returned (.tuple #[.int .i64 3, .int .i64 0]) ∧ w = w') := Lib.hid (fun w => by have := Cl.rof_of N w; rwa [hc, h3] at this)
  have HRN : Hid (∀ w, Calls Tryz.prog 27 #[.int .i64 N] w fun e w' => e = .returned (.tuple #[.int .i64 (m1 : Int), .int .i64 0]) ∧ w = w') := Lib.hid (fun w => by have := Cl.rrun_of N w; rwa [hr, hre] at this)
  have HFD : Hid (∀ (t : Hs) (W : World), t.p.n = s.p.n → Cl.PRow W W.heap.size t.p.a t.p.n d.f → Calls Tryz.prog 28 #[.slice t.p.a t.p.n t.p.c, .int .i64 (m1 : Int)] W fun e w' => e = .returned (.tuple #[.int .i64 0, .bool false]) ∧ Below W.heap.size W w') := Lib.hid (fun t W ht hr => by
    have := Cl.rfind_any W.heap.size t.p.a t.p.n t.p.c d.f (m1 : Int) W (by omega) hr (Nat.le_refl _)
    rwa [ht, show Cl.findV d.f s.p.n (m1 : Int) = 0 by unfold Cl.findV; rw [hq], show Cl.findS d.f s.p.n (m1 : Int) = false by unfold Cl.findS; rw [hq]; rfl, ← ht] at this)
  clear hp l3 hf hm hh hc h3 hq hr hre hfit hwp hp64 hn1
  go_enter Tryz.func8, Tryz.ntmps8
  go_wp2_with fail
  obtain ⟨W5, hW5⟩ : ∃ W5, W5 = tk7 w s u true o e N b m := ⟨_, rfl⟩
  unfold tk7 at hW5
  have T5 := Lib.hid (tkr_start (us := true) HP.out HL.out hW5)
  have hz5 : w.heap.size + 1 + 1 + 1 + 1 + 1 + 1 + 1 = W5.heap.size := by rw [hW5]; simp
  rw [← hW5, hz5]
  clear hW5 hz5
  refine (HM.out W5 T5.out).mono ?_
  rintro e9 w6 ⟨rfl, hb6⟩
  have T6 := Lib.hid ((T5.out.next ((Below.refl _ _).alloc (Nat.le_refl _) (.cells #[.slice (u 0).a (u 0).n (u 0).c, .slice (u 1).a (u 1).n (u 1).c, .slice (u 2).a (u 2).n (u 2).c] 25))).next hb6)
  clear hb6 T5 HM
  have x0 := T6.out.ts.xb.c0
  have x1 := T6.out.ts.xb.c1
  have x2 := T6.out.ts.xb.c2
  have x3 := T6.out.ts.xb.c3
  have x4 := T6.out.ts.xb.c4
  have x5 := T6.out.ts.xb.c5
  have xl := T6.out.ts.xb.lt
  go_wp2_with fail
  refine (Hd.rmay_yes true o e N b m w6 HH.out).mono ?_
  rintro e9 w7 ⟨rfl, hb7⟩
  have T7 := Lib.hid (T6.out.next hb7)
  clear x0 x1 x2 x3 x4 x5 xl
  clear hb7 T6
  have x0 := T7.out.ts.xb.c0
  have x1 := T7.out.ts.xb.c1
  have x2 := T7.out.ts.xb.c2
  have x3 := T7.out.ts.xb.c3
  have x4 := T7.out.ts.xb.c4
  have x5 := T7.out.ts.xb.c5
  have xl := T7.out.ts.xb.lt
  go_wp2_with fail
  refine (HCL.out w7).mono ?_
  rintro e9 w8 ⟨rfl, rfl⟩
  clear x0 x1 x2 x3 x4 x5 xl
  have q0 := (T7.out.ts.hb).c0
  have q1 := (T7.out.ts.hb).c1
  have q2 := (T7.out.ts.hb).c2
  have q3 := (T7.out.ts.hb).c3
  have q4 := (T7.out.ts.hb).c4
  have q5 := (T7.out.ts.hb).c5
  have ql := (T7.out.ts.hb).lt
  go_wp2_with fail
  refine (HOW.out w7 T7.out.ts.bel).mono ?_
  intro e9 w8 hown
  obtain ⟨t, rfl, hln, hb8, hog⟩ := tw_start (G := G) T7.out.ts.bel hown HW0.out
  have HLN := Lib.hid hln
  clear hown hln
  clear q0 q1 q2 q3 q4 q5 ql
  obtain ⟨W9, hW9⟩ : ∃ W, W = w8.alloc (.cells #[.slice t.w.a t.w.n t.w.c, .slice t.p.a t.p.n t.p.c, .slice (t.u 0).a (t.u 0).n (t.u 0).c, .slice (t.u 1).a (t.u 1).n (t.u 1).c, .slice (t.u 2).a (t.u 2).n (t.u 2).c, .slice t.c.a t.c.n t.c.c] 28) := ⟨_, rfl⟩
  have b9 : Below w8.heap.size w8 W9 := by rw [hW9]; exact (Below.refl _ _).alloc (Nat.le_refl _) _
  have T9 := Lib.hid ((T7.out.next hb8).next b9)
  have hog9 := hog W9 hW9
  clear hog hb8 b9
  obtain ⟨bo, hbo⟩ : ∃ b, b = w8.heap.size := ⟨_, rfl⟩
  go_upto_region 11 with fail
  rw [← hW9, ← hbo]
  rw [← hbo] at hog9
  clear hW9 hbo
  have u0 := T9.out.ts.cb.cell 0 (by decide)
  have u1 := T9.out.ts.cb.cell 1 (by decide)
  have u2 := T9.out.ts.cb.cell 2 (by decide)
  have ul := T9.out.ts.cb.lt
  go_wp2_with fail
  refine (HOL.out W9 T9.out.ts.bel).mono ?_
  rintro e9 w10 ⟨v, rfl, ho10, hb10⟩
  clear u0 u1 u2 ul T9
  obtain ⟨W11, hW11⟩ : ∃ W, W = w10.alloc (.cells #[.slice (v 0).a (v 0).n (v 0).c, .slice (v 1).a (v 1).n (v 1).c, .slice (v 2).a (v 2).n (v 2).c] 25) := ⟨_, rfl⟩
  obtain ⟨g, hTw⟩ := hog9 v w10 ho10 hb10 W11 hW11
  obtain ⟨bc, hbc⟩ : ∃ b, b = w10.heap.size := ⟨_, rfl⟩
  rw [← hbc] at hTw
  have Z0 := Lib.hid hTw
  clear hog9 ho10 hb10 hTw
  go_upto_region 12 with fail
  rw [← hW11, ← hbc]
  clear hW11 hbc
  have T11 := Lib.hid (T7.out.below (Z0.out.z.over T7.out.ts.bel) T7.out.size)
  have x0 := T11.out.ts.xb.c0
  have x1 := T11.out.ts.xb.c1
  have x2 := T11.out.ts.xb.c2
  have x3 := T11.out.ts.xb.c3
  have x4 := T11.out.ts.xb.c4
  have x5 := T11.out.ts.xb.c5
  have xl := T11.out.ts.xb.lt
  go_wp2_with fail
  refine (HRN.out W11).mono ?_
  rintro e9 w12 ⟨rfl, rfl⟩
  clear x0 x1 x2 x3 x4 x5 xl
  clear T11
  have y1 := Z0.out.z.o.box.box.c1
  have yl := Z0.out.z.o.box.box.lt
  go_wp2_with fail
  refine (HFD.out t W11 HLN.out.2.1 Z0.out.z.hp.pages).mono ?_
  rintro e9 w13 ⟨rfl, hbf⟩
  have Z1 := Lib.hid (Z0.out.next hbf)
  clear hbf y1 yl Z0
  have TE := Lib.hid (T7.out.below (Z1.out.z.over T7.out.ts.bel) T7.out.size)
  have g0 := TE.out.ts.r6.free 0
  have g1 := TE.out.ts.r6.free 1
  have g2 := TE.out.ts.r6.free 2
  have g3 := TE.out.ts.r6.free 3
  have g4 := TE.out.ts.r6.free 4
  have g5 := TE.out.ts.r6.free 5
  have y0 := TE.out.ts.r6.box.c0
  have y1 := TE.out.ts.r6.box.c1
  have y2 := TE.out.ts.r6.box.c2
  have y3 := TE.out.ts.r6.box.c3
  have y4 := TE.out.ts.r6.box.c4
  have y5 := TE.out.ts.r6.box.c5
  have yl := TE.out.ts.r6.box.lt
  have i0 := TE.out.ts.r3.cell 0 (by decide)
  have i1 := TE.out.ts.r3.cell 1 (by decide)
  have i2 := TE.out.ts.r3.cell 2 (by decide)
  have j0 := TE.out.ts.r3.free 0
  have j1 := TE.out.ts.r3.free 1
  have j2 := TE.out.ts.r3.free 2
  have il := TE.out.ts.r3.lt
  have n0 := TE.out.n6.box.c0
  have n1 := TE.out.n6.box.c1
  have n2 := TE.out.n6.box.c2
  have n3 := TE.out.n6.box.c3
  have n4 := TE.out.n6.box.c4
  have n5 := TE.out.n6.box.c5
  have nl := TE.out.n6.box.lt
  have k0 := TE.out.n3.cell 0 (by decide)
  have k1 := TE.out.n3.cell 1 (by decide)
  have k2 := TE.out.n3.cell 2 (by decide)
  have kl := TE.out.n3.lt
  dsimp only [noHs, Ls.noSl] at n0 n1 n2 n3 n4 n5 k0 k1 k2
  go_wp2
  go_region
  all_goals go_wp2
  all_goals exact bodyPost_ret (v := .tuple #[(.agg #[.slice noHs.w.a noHs.w.n noHs.w.c, .slice noHs.p.a noHs.p.n noHs.p.c, .slice (noHs.u 0).a (noHs.u 0).n (noHs.u 0).c, .slice (noHs.u 1).a (noHs.u 1).n (noHs.u 1).c, .slice (noHs.u 2).a (noHs.u 2).n (noHs.u 2).c, .slice noHs.c.a noHs.c.n noHs.c.c]), (.agg #[.slice (Ls.noSl 0).a (Ls.noSl 0).n (Ls.noSl 0).c, .slice (Ls.noSl 1).a (Ls.noSl 1).n (Ls.noSl 1).c, .slice (Ls.noSl 2).a (Ls.noSl 2).n (Ls.noSl 2).c]), .int .i64 0, .int .i64 4]) (rtake_res_drew TE.out.ts (t := noHs) (v := Ls.noSl) (hp_none w13) (l3_none w13) rfl rfl rfl rfl rfl) rfl (take_yes_drew TE.out.ts (tkNo 4) (t := noHs) (v := Ls.noSl) (hp_none w13) (l3_none w13) ⟨rfl, rfl, rfl⟩ rfl)
end
end Go.Proofs.YtdmclfolooiccaaGreatDoor.Rp
end
