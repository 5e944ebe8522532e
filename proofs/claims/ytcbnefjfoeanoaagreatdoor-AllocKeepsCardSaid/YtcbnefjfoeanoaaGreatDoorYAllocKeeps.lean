/-
  AllocKeeps: what is taken was free; each other object's words are as they were; its own are noughts but for its head; what was whole is whole: for every heap of at most 9 pages and 130 words, every one to four caches of at most 70 cells of each class, and every head; the table of sizes is tied to the program's text by the card.
-/
import Derived.Test.YtcbnefjfoeanoaaGreatDoorYAlKeepsC
import Derived.Test.YtcbnefjfoeanoaaGreatDoorHpYF
import Derived.Test.YtcbnefjfoeanoaaGreatDoorHpYD
namespace Go.Proofs.YtcbnefjfoeanoaaGreatDoor.AllocKeeps
open Go.Proofs.YtcbnefjfoeanoaaGreatDoor Go.Proofs.YtcbnefjfoeanoaaGreatDoor.Al
open Go.ChangeShapes Go.WideShapes Go.ChangeAt Go.RowKit
set_option maxRecDepth 100000

theorem walk (s : Hs) (d : Hd_) (A : Option Addr) (n c : Nat) (U : Nat → Nat → Ls.Sl) (F : Nat → Nat → List Int) (us o e : Bool) (N b m : Int) (w : World) (hz : Cl.Sz w) (hp : Hp w w.heap.size s d) (hv : Fit64 d.ws) (_ : s.p.n ≤ s.p.c) (hl : Ls.LRow w w.heap.size A n U F) (hmx : n ≤ maxLen) (hnc : n ≤ c) (_ : c ≤ maxLen) (_ : (Lit.int .i64 N).wf = true) (_ : (Lit.int .i64 b).wf = true) (_ : (Lit.int .i64 m).wf = true) :
    Calls Tryz.prog 4 #[(.agg #[.slice s.w.a s.w.n s.w.c, .slice s.p.a s.p.n s.p.c, .slice (s.u 0).a (s.u 0).n (s.u 0).c, .slice (s.u 1).a (s.u 1).n (s.u 1).c, .slice (s.u 2).a (s.u 2).n (s.u 2).c, .slice s.c.a s.c.n s.c.c]), .slice A n c, .agg #[.bool us, .bool o, .bool e, .int .i64 N, .int .i64 b, .int .i64 m]] w fun e w' => e = .returned (.bool true) ∧ Below w.heap.size w w' := by
  have hn : n ≤ 9223372036854775807 := by unfold maxLen at hmx; omega
  cases hf : fewL s U n
  · exact walk_few s d A n c U F us o e N b m w hf hn hz hp hl
  rcases Nat.eq_zero_or_pos n with h0 | hn1
  · exact walk_none s d A n c U F us o e N b m w hf h0 hn hz hp hl
  obtain ⟨hlt, hn4, hlen⟩ := lite_fewL hf hn1 hp hl hv
  have hz0 := hz.pos
  have l30 : Ls.L3 w w.heap.size (U 0) (F 0) := by
    obtain ⟨_, _, _, _, hc⟩ := hl hn1
    exact (hc 0 hn1).2
  have hG70 : ∀ i, i < n → ∀ j, j < 3 → (F i j).length ≤ 70 := fun i hi j hj => by
    obtain ⟨_, _, _, _, hc⟩ := hl hn1
    have hfl := hf
    unfold fewL lights at hfl
    simp only [Bool.and_eq_true, decide_eq_true_eq] at hfl
    have g := List.all_eq_true.1 hfl.1.2 i (List.mem_range.2 hi)
    unfold lightB at g
    simp only [decide_eq_true_eq] at g
    have := (hc i hi).2.len j hj
    rcases (show j = 0 ∨ j = 1 ∨ j = 2 by omega) with rfl | rfl | rfl <;> omega
  have hfT : FineT s d (U 0) (F 0) := hlt.fineT (by decide) hp.free.len l30.len
  have hwh := fun (W : World) (h : Lq w W s d A n U F us o e N b m) => pwhole_any s d A n c U F W h.lh.hp h.lh.lr (by omega) (hz.over h.lh.bel hz0) hfT.fine hlen
  cases hW : wholeH s d n F
  · rw [hW] at hwh
    exact walk_whole s d A n c U F us o e N b m w hf hn1 hwh hn hz hp hl
  rw [hW] at hwh
  have hm := whole_may hW
  have hm1 := may_first hn1 hm
  have hm0 : mayB0 s d = true := may_none hm
  have hws : d.ws.length = s.w.n := hp.words.1
  have hft := fit_first (mayH_all hm0).1
  have htk := fun (W : World) (h : Lq w W s d A n U F us o e N b m) => ptake_any s (U 0) d (F 0) us o e N b m W h.lh.hp (by
    obtain ⟨_, _, _, _, hc⟩ := h.lh.lr hn1
    exact (hc 0 hn1).2) (hz.over h.lh.bel hz0) hfT
  rcases tkR_split s d (F 0) us o e N b m with ⟨her, hR, _⟩ | ⟨q, _, hx, hus, hN, hq, hR⟩
  · generalize (tkR s d (F 0) us o e N b m).er = er at her hR
    rw [hR] at htk
    exact core_err s d A n c U F us o e N b m w er 0 0 dNone Ls.noLists her (U 0) rfl hf hn1 hwh htk hn hz hp hl
  subst hus
  rw [hR] at htk
  have r3 : Same3 s s := ⟨rfl, rfl, rfl⟩
  have T := fun (t : Hs) (h : Same3 s t) => took (t := t) hws hm1 hx hN hq h.1 h.2.1 h.2.2
  have hok0 : Okay s.p.n d (F 0) 0 (fun _ => F 0) := (okay_iff.1 (by rw [ahead_one]; exact hm1)).2
  have T0 := takeO_some (r := 0) (R := fun _ => F 0) hq
  have hwp := hft.wp
  have hql : q.1.ws.length = 16 * s.p.n := by rw [T0.len, hws, hwp]
  have L := fun (t : Hs) (h : Same3 s t) => hlt.took (t := t) hx hq (T0.cell hok0) hql h.1 h.2.1 h.2.2
  have hs := took_same (x := Hd.word true o e N b m) hws hm1 hq
  generalize beginD q.1 s.p.n q.2.2 (Hd.word true o e N b m) = D at T L hs htk
  generalize q.2.1 = G' at T L htk
  generalize q.2.2 = a at T hs htk
  have K := tk8_of hm0 hm1 hx T L hs
  have Ts := T s r3
  have hc : ¬ Cl.bg D.f s.p.n a = 0 := Ts.cell
  have hce := cell_end hc
  have hmore := room_more hc hN Ts.fits
  obtain ⟨rm, hrm⟩ : ∃ rm : Nat, Cl.bg D.f s.p.n a = rm := ⟨(Cl.bg D.f s.p.n a).toNat, by omega⟩
  have hzr : ∀ z, a < z → z < a + rm → wd D z = 0 := fun z h1 h2 => Ts.zero z h1 (by show z < a + Cl.bg D.f s.p.n a; omega)
  refine core_ok s d A n c U F true o e N b m w a D G' (usedL s d).length rm (usedL s d) hnc hn4 (used_len8 s d) hwp hft.p hrm ⟨by omega, hce.1, by omega, by omega⟩ hzr (fun y hy => ⟨((used_iff8 hm0).1 hy).1, (K.keeps y hy).1, (K.keeps y hy).2⟩) (U 0) rfl hf hn1 hwh htk
    (fun W bk t A2 v c2 hl3 h la => ?_) (fun W bk t h => ?_) (fun W bk t hl3 h => ?_) (fun W bk t hl3 h => ?_) hn hz hp hl
  · have hw1 : wholeH t D (1 + (n - 1)) (ahead G' fun i => F (i + 1)) = true := by
      refine (T t hl3).whole (n - 1) (fun i => F (i + 1)) ?_
      rw [show 1 + (n - 1) = n by omega, show ahead (F 0) (fun i => F (i + 1)) = F from ahead_behind F]
      exact hW
    have := pwhole_any t D A2 (1 + (n - 1)) c2 (ahead v fun i => U (i + 1)) (ahead G' fun i => F (i + 1)) W h.kp la (by omega) (hz.over h.lq.lh.bel hz0) (K.fine t hl3) (all_short8 (fun j hj => Nat.le_trans (K.lF j hj) (by decide)) (fun i hi j hj => by
      match i, hi with
      | 0, _ => exact Nat.le_trans ((L s r3).G j hj) (by decide)
      | i + 1, hi => exact Nat.le_trans (hG70 (i + 1) (by omega) j hj) (by decide)) (by omega))
    rw [hw1] at this
    exact this
  · refine (pused_any s d W h.lq.lh.hp (hz.over h.lq.lh.bel hz0) hfT.fine).mono fun e w' ⟨v, he, ho, hb⟩ => ?_
    have hvn : v.n = (usedL s d).length := by have := ho.1; simp at this; omega
    obtain ⟨a2, c2, e2, hk2, _, _⟩ := Ls.owns_row ho
    simp only [Value.slice.injEq, true_and] at e2
    obtain ⟨rfl, rfl⟩ := e2
    rw [hvn] at hk2
    exact ⟨v.a, v.c, by rw [he, hvn], hk2, hb⟩
  · have := phead_any t D a W h.kp (hz.over h.lq.lh.bel hz0) (K.fine t hl3)
    obtain ⟨g1, g2⟩ := took_head (s := t) (K.may t hl3) (by rw [hl3.2.1]; exact hc) Ts.word hx
    rw [g1, g2] at this
    exact this
  · exact used_post8 t D W h.kp (hz.over h.lq.lh.bel hz0) (K.fine t hl3) _ (by rw [used_same hl3 (K.may s r3) (K.may t hl3), K.used])
-- the frame (hp9frame.py)
set_option maxRecDepth 100000 in
theorem lifted (os : Os) (started : os.Started) (H : Type) (enc : TypeId × Value → H) :
    ReturnsInHanded {} Tryz.checked os 4 .any (fun w args => (Rows.allocKeepsSpec.pre enc Tryz.prog Tryz.f4 [] false w args ∧ laidMetH Tryz.prog laidSizes w) ∧ sizedMet enc Tryz.prog Tryz.f4 (OpenSpec.ofChange Rows.allocKeepsSpec) false w args)
      (Rows.allocKeepsSpec.post enc Tryz.prog Tryz.f4 false true false false) := by
  refine returnsInHanded_of_change_and (C := Tryz.checked) (X := fun w _ => laidMetH Tryz.prog laidSizes w) (fun _ _ _ hh h => h.of_heap hh) own started (by kernel_rfl) Tryz.func4
    (ChangeSpec.witness_shaped (enc := enc) (C := Tryz.checked) (os := os) (X := fun w _ => laidMetH Tryz.prog laidSizes w) false (World.doorLaid Tryz.prog 400 os) #[.agg #[.slice none 0 0, .slice none 0 0, .slice none 0 0, .slice none 0 0, .slice none 0 0, .slice none 0 0], .slice none 0 0, .agg #[.bool false, .bool false, .bool false, .int .i64 0, .int .i64 0, .int .i64 0]] 8 rfl (World.shaped_of_RefB (by kernel_rfl) (by kernel_rfl)) (by kernel_rfl) (by kernel_rfl) (by kernel_rfl) (door_met os _)) ?_
  intro W base args ds gs before hval0 hW _ _ hL _
  have hval : ∀ (j : Nat) t v, Tryz.f4.params[j]? = some t → args[j]? = some v → Value.okWide Tryz.prog W .any base t v := hval0
  have hW' := hW
  obtain ⟨p, q, hA0, hV, rfl, hfz, hnd⟩ := hW
  have hA : DataW.TrodAll enc Tryz.prog W 0 (fun _ => true) true Tryz.f4.params.toList args.toList ds p := hA0
  rw [Tryz.params4] at hA hval
  obtain ⟨v0, vs0, d0, ds0, p0, q0, hargs, rfl, rfl, h0, r0⟩ := trodAll_cons hA
  obtain ⟨v1, vs1, d1, ds1, p1, q1, rfl, rfl, rfl, h1, r1⟩ := trodAll_cons r0
  obtain ⟨v2, vs2, d2, ds2, p2, q2, rfl, rfl, rfl, h2, r2⟩ := trodAll_cons r1
  obtain ⟨rfl, rfl, rfl⟩ := trodAll_nil r2
  obtain rfl : args = #[v0, v1, v2] := by cases args; simp_all
  obtain ⟨rfl, rfl⟩ := trodVars_none hV
  have k0 := h0
  have lt0 : ∀ x ∈ p0, x.block < W.heap.size := by obtain ⟨m, hm⟩ := k0; exact DataW.trod_lt m _ _ _ hm
  obtain ⟨s0, z0, rfl, w0, f0, b0⟩ := heap_of8 (hval 0 28 v0 rfl rfl) h0
  have k1 := h1
  have lt1 : ∀ x ∈ p1, x.block < W.heap.size := by obtain ⟨m, hm⟩ := k1; exact DataW.trod_lt m _ _ _ hm
  obtain ⟨a1, len1, cap1, rfl⟩ := okWide_slice Tryz.underlying33 (hval 1 33 v1 rfl rfl)
  obtain ⟨u1, z1, w1, m1, b1⟩ := rows_of h1
  have c1 := cap_of h1
  obtain ⟨u2, o2, e2, n2, b2, m2, rfl, rfl, rfl, x2, y2, z2⟩ := six_open Tryz.underlying30 cellsHead (by kernel_rfl) rfl Tryz.underlying4 Tryz.underlying3 (hval 2 30 v2 rfl rfl) h2
  clear hA0 hval0
  refine (walk s0 z0 a1 len1 cap1 u1 z1 u2 o2 e2 n2 b2 m2 W (of_laid hL) w0 f0 b0 w1 m1 c1.1 c1.2 x2 y2 z2).mono fun e W' ⟨he, bel⟩ => ?_
  subst he
  exact ⟨_, rfl, _, _, _, [], _, [], hW', trodAll_mk1 (shut_bool Tryz.underlying4 _), (trodAll_cons_mk (Below.trod laidOut (by kernel_rfl) (of_decide_eq_true (by kernel_rfl)) k0 bel lt0) (trodAll_cons_mk (Below.trod laidOut (by kernel_rfl) (of_decide_eq_true (by kernel_rfl)) k1 bel lt1) (trodAll_cons_mk (six_shut Tryz.underlying30 cellsHead (by kernel_rfl) rfl Tryz.underlying4 Tryz.underlying3 _ _ _ _ _ _ x2 y2 z2) trodAll_mk0))), rfl, bel.frame _, fun h => by cases h⟩

theorem over : Rows.AllocKeepsSaid :=
  OpenClaim.holds_of_wide 4 Tryz.f4 rfl rfl rfl rfl rfl rfl rfl ⟨rfl, rfl, rfl, rfl, rfl⟩ rfl rfl rfl rfl rfl (by kernel_rfl) Tryz.func4 (by kernel_rfl)
    (of_decide_eq_true (by kernel_rfl)) (by unfold Func.isWrapper; first | (rw [if_pos (by decide +kernel)]; kernel_rfl) | (rw [if_neg (by decide +kernel)]; exact ⟨rfl, rfl⟩))
    (fun os started H enc _ => lifted os started H enc)

/-- The statement: the card. -/
theorem proved : Rows.AllocKeepsCardSaid :=
  Claim7.holds_tied_plain_at .later [] [.data] true Rows.allocKeepsCard.stood.harness false
    over (fun _ h => by cases h) (by kernel_rfl) (fun _ h => by cases h) allocKeeps_row_tie rfl ⟨rfl, rfl⟩ (by kernel_rfl) rfl
    (fun f fn hf hfn => by
      obtain rfl : f = 4 := Option.some.inj ((show Tryz.prog.funcNamed "ragpicker/ragpickerlaw08.AllocKeeps" = some 4 by kernel_rfl).symm.trans hf) |>.symm
      obtain rfl : fn = Tryz.f4 := (Option.some.inj (Tryz.func4.symm.trans hfn)).symm
      exact ⟨by kernel_rfl, fun j t ht => by
        rw [Tryz.params4] at ht
        have hm : t ∈ [28, 33, 30] := by simpa using Array.mem_of_getElem? ht
        have hall : ([28, 33, 30].all fun u => !Tryz.prog.wantsStandIn u) = true := by kernel_rfl
        exact (show Tryz.prog.wantsStandIn t = false by simpa using List.all_eq_true.1 hall t hm)⟩)
    (by kernel_rfl)
#print axioms proved
end Go.Proofs.YtcbnefjfoeanoaaGreatDoor.AllocKeeps
